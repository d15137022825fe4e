/- The contract of the document's Raise. Conditions: the slice reads as a list of classes, at most a thousand long. -/
import Derived.Test.YtjoiinpkkaigdaaRSet
namespace Go.Proofs.Ytjoiinpkkaigdaa
open Go.RowKit
set_option maxRecDepth 100000

def M.lvOk (lv : Int) : Prop := 0 ≤ lv ∧ lv ≤ 125
instance (lv : Int) : Decidable (M.lvOk lv) := by unfold M.lvOk; infer_instance
set_option maxHeartbeats 4000000 in
theorem refRaise_no (A : Option Addr) (ca n : Nat) (t : List Int) (lv : Int) (w : World) (h : ¬ M.lvOk lv) :
    Calls Try.prog 12 #[.slice A n ca, .int .i64 lv] w (RowOr 3 (M.lvOk lv) t w) := by
  have HM := Lib.hid h
  have h4 : lv < 0 ∨ (¬ lv < 0 ∧ 125 < lv) := by unfold M.lvOk at h; omega
  clear h
  rcases h4 with c1 | ⟨c1, c2⟩
  all_goals
    go_enter Try.func12, Try.ntmps12
    go_wp2_with fail
    go_returns
    exact ⟨Below.refl _ _, fun h => absurd h HM.out, fun _ => rfl⟩
set_option maxHeartbeats 16000000 in
theorem refRaise_ok (A : Option Addr) (ca n : Nat) (l : List Int) (lv : Int) (w : World) (hr : RdS .i64 w w.heap.size A l) (hn : l.length = n) (hl : n ≤ 1000) (h : M.lvOk lv) :
    Calls Try.prog 12 #[.slice A n ca, .int .i64 lv] w (RowOr 3 (M.lvOk lv) (M.raise lv l) w) := by
  obtain ⟨i0, hi, hz0, hz1, hz2⟩ := info_parts Try.infoInt2
  have HOK := Lib.hid h
  have HR := Lib.hid hr
  have HN := Lib.hid hn
  unfold M.lvOk at h
  have lv0 : ¬ lv < 0 := by omega
  have lv1 : ¬ 125 < lv := by omega
  have lv2 : 0 ≤ lv := by omega
  have hl1 : (n : Int) ≤ 1000 := by omega
  obtain ⟨L1, hL1⟩ : ∃ L, lv + 1 = L := ⟨_, rfl⟩
  obtain ⟨L2, hL2⟩ : ∃ L, lv + 2 = L := ⟨_, rfl⟩
  have hw1 : IntKind.i64.wrap (lv + 1) = L1 := by rw [IntKind.wrap_i64]; omega
  have hw2 : IntKind.i64.wrap (lv + 2) = L2 := by rw [IntKind.wrap_i64]; omega
  have HL1 := Lib.hid hL1
  have HL2 := Lib.hid hL2
  clear hr hn h hL1 hL2
  rcases Int.emod_two_eq lv with h2 | h2
  · have HP := Lib.hid h2
    have be : (lv % 2 == 0) = true := by rw [h2]; rfl
    have bo : (lv % 2 == 1) = false := by rw [h2]; rfl
    clear h2
    go_enter Try.func12, Try.ntmps12
    go_wp2_with fail
    go_loopw [6, 7] (fun o v wr => ∃ (k : Nat) (O : List Int), v = .int .i64 k ∧ k ≤ n ∧ O = (l.take k).map (M.rs lv) ∧ wr.ownsRow w.heap.size 3 1 o k (O.map (Value.int .i64)) ∧ Below w.heap.size w wr) (fun _ v _ => n - (intOf v).toNat)
    case atStart => exact ⟨0, [], rfl, Nat.zero_le _, rfl, ⟨rfl, .inl ⟨rfl, rfl⟩⟩, Below.refl _ _⟩
    case round =>
      obtain ⟨k, O, rfl, hk, hO, ho, hb⟩ := hrel
      rename World => wr
      have HB := Lib.hid hb
      have HO := Lib.hid ho
      have HOE := Lib.hid hO
      have k0 : (0 : Int) ≤ k := by omega
      by_cases hlt : k < n
      · have k1 : (k : Int) < n := by omega
        obtain ⟨ad, c, rfl, hcc, hc, -⟩ := rd_at HR.out hb (by rw [HN.out]; exact hlt : k < l.length)
        have hbs := hb.size
        have HNX := Lib.hid (show ∀ x, M.rs lv c = x → O ++ [x] = (l.take (k + 1)).map (M.rs lv) from fun x hx => by
          obtain ⟨hl, e⟩ := List.getElem?_eq_some_iff.1 hc
          rw [hO, List.take_succ_eq_append_getElem hl, List.map_append, e, ← hx]
          rfl)
        clear hb ho hO hc
        by_cases c0 : c = 0
        · subst c0
          have HRS := Lib.hid (show M.rs lv 0 = lv by unfold M.rs; rw [if_neg (by omega), if_neg (by omega), if_neg (by have := HP.out; omega)])
          go_wp2_with (at_builtin; refine wpList_append_own _ rfl _ _ 33 rfl w.heap.size 3 i0 (.int .i64 0) 1 8 Try.underlying33 hi hz0 hz1 hz2 rfl (by decide) _ _ _ rfl (World.ownsRow.alloc HO.out _) ⟨wr.heap.size, 0, none⟩ 1 1 [.int .i64 lv] rfl rfl (one_new _ _ _) one_cell (by unfold maxLen; omega) (by omega) (by simp; omega) ?_)
          intro v4 w4 ho4 hg4 _
          have hb4 : Below w.heap.size w w4 := grow_below0 (HB.out.alloc hbs _) (World.ownsRow.alloc HO.out _) hg4 (by simp; omega)
          have HB4 := Lib.hid hb4
          have hmap : O.map (Value.int .i64) ++ [Value.int .i64 lv] = (O ++ [lv]).map (Value.int .i64) := by rw [List.map_append]; rfl
          rw [hmap] at ho4
          have HO4 := Lib.hid ho4
          have HN2 := Lib.hid (HNX.out lv HRS.out)
          clear ho4 hg4 hb4 hmap hcc
          go_wp2_with fail
          go_roundw
          case rel => exact ⟨k + 1, O ++ [lv], by go_num, by omega, HN2.out, HO4.out, HB4.out⟩
          case measure => simp [intOf]; omega
        · by_cases c1 : c = 1
          · subst c1
            have HRS := Lib.hid (show M.rs lv 1 = L1 by unfold M.rs; rw [if_pos ⟨HP.out, rfl⟩]; exact HL1.out)
            go_wp2_with (at_builtin; refine wpList_append_own _ rfl _ _ 33 rfl w.heap.size 3 i0 (.int .i64 0) 1 8 Try.underlying33 hi hz0 hz1 hz2 rfl (by decide) _ _ _ rfl (World.ownsRow.alloc HO.out _) ⟨wr.heap.size, 0, none⟩ 1 1 [.int .i64 L1] rfl rfl (one_new _ _ _) one_cell (by unfold maxLen; omega) (by omega) (by simp; omega) ?_)
            intro v4 w4 ho4 hg4 _
            have hb4 : Below w.heap.size w w4 := grow_below0 (HB.out.alloc hbs _) (World.ownsRow.alloc HO.out _) hg4 (by simp; omega)
            have HB4 := Lib.hid hb4
            have hmap : O.map (Value.int .i64) ++ [Value.int .i64 L1] = (O ++ [L1]).map (Value.int .i64) := by rw [List.map_append]; rfl
            rw [hmap] at ho4
            have HO4 := Lib.hid ho4
            have HN2 := Lib.hid (HNX.out L1 HRS.out)
            clear ho4 hg4 hb4 hmap hcc
            go_wp2_with fail
            go_roundw
            case rel => exact ⟨k + 1, O ++ [L1], by go_num, by omega, HN2.out, HO4.out, HB4.out⟩
            case measure => simp [intOf]; omega
          · by_cases c3 : c = 3
            · subst c3
              have HRS := Lib.hid (show M.rs lv 3 = L2 by unfold M.rs; rw [if_neg (by omega), if_pos ⟨HP.out, by omega⟩]; exact HL2.out)
              go_wp2_with (at_builtin; refine wpList_append_own _ rfl _ _ 33 rfl w.heap.size 3 i0 (.int .i64 0) 1 8 Try.underlying33 hi hz0 hz1 hz2 rfl (by decide) _ _ _ rfl (World.ownsRow.alloc HO.out _) ⟨wr.heap.size, 0, none⟩ 1 1 [.int .i64 L2] rfl rfl (one_new _ _ _) one_cell (by unfold maxLen; omega) (by omega) (by simp; omega) ?_)
              intro v4 w4 ho4 hg4 _
              have hb4 : Below w.heap.size w w4 := grow_below0 (HB.out.alloc hbs _) (World.ownsRow.alloc HO.out _) hg4 (by simp; omega)
              have HB4 := Lib.hid hb4
              have hmap : O.map (Value.int .i64) ++ [Value.int .i64 L2] = (O ++ [L2]).map (Value.int .i64) := by rw [List.map_append]; rfl
              rw [hmap] at ho4
              have HO4 := Lib.hid ho4
              have HN2 := Lib.hid (HNX.out L2 HRS.out)
              clear ho4 hg4 hb4 hmap hcc
              go_wp2_with fail
              go_roundw
              case rel => exact ⟨k + 1, O ++ [L2], by go_num, by omega, HN2.out, HO4.out, HB4.out⟩
              case measure => simp [intOf]; omega
            · by_cases c6 : c = 6
              · subst c6
                have HRS := Lib.hid (show M.rs lv 6 = L2 by unfold M.rs; rw [if_neg (by omega), if_pos ⟨HP.out, by omega⟩]; exact HL2.out)
                go_wp2_with (at_builtin; refine wpList_append_own _ rfl _ _ 33 rfl w.heap.size 3 i0 (.int .i64 0) 1 8 Try.underlying33 hi hz0 hz1 hz2 rfl (by decide) _ _ _ rfl (World.ownsRow.alloc HO.out _) ⟨wr.heap.size, 0, none⟩ 1 1 [.int .i64 L2] rfl rfl (one_new _ _ _) one_cell (by unfold maxLen; omega) (by omega) (by simp; omega) ?_)
                intro v4 w4 ho4 hg4 _
                have hb4 : Below w.heap.size w w4 := grow_below0 (HB.out.alloc hbs _) (World.ownsRow.alloc HO.out _) hg4 (by simp; omega)
                have HB4 := Lib.hid hb4
                have hmap : O.map (Value.int .i64) ++ [Value.int .i64 L2] = (O ++ [L2]).map (Value.int .i64) := by rw [List.map_append]; rfl
                rw [hmap] at ho4
                have HO4 := Lib.hid ho4
                have HN2 := Lib.hid (HNX.out L2 HRS.out)
                clear ho4 hg4 hb4 hmap hcc
                go_wp2_with fail
                go_roundw
                case rel => exact ⟨k + 1, O ++ [L2], by go_num, by omega, HN2.out, HO4.out, HB4.out⟩
                case measure => simp [intOf]; omega
              · have b0 : (c == 0) = false := by simp; omega
                have b1 : (c == 1) = false := by simp; omega
                have b3 : (c == 3) = false := by simp; omega
                have b6 : (c == 6) = false := by simp; omega
                have HRS := Lib.hid (show M.rs lv c = lv by unfold M.rs; rw [if_neg (by omega), if_neg (by omega), if_neg (by omega)])
                clear c0 c1 c3 c6
                go_wp2_with (at_builtin; refine wpList_append_own _ rfl _ _ 33 rfl w.heap.size 3 i0 (.int .i64 0) 1 8 Try.underlying33 hi hz0 hz1 hz2 rfl (by decide) _ _ _ rfl (World.ownsRow.alloc HO.out _) ⟨wr.heap.size, 0, none⟩ 1 1 [.int .i64 lv] rfl rfl (one_new _ _ _) one_cell (by unfold maxLen; omega) (by omega) (by simp; omega) ?_)
                intro v4 w4 ho4 hg4 _
                have hb4 : Below w.heap.size w w4 := grow_below0 (HB.out.alloc hbs _) (World.ownsRow.alloc HO.out _) hg4 (by simp; omega)
                have HB4 := Lib.hid hb4
                have hmap : O.map (Value.int .i64) ++ [Value.int .i64 lv] = (O ++ [lv]).map (Value.int .i64) := by rw [List.map_append]; rfl
                rw [hmap] at ho4
                have HO4 := Lib.hid ho4
                have HN2 := Lib.hid (HNX.out lv HRS.out)
                clear ho4 hg4 hb4 hmap hcc
                go_wp2_with fail
                go_roundw
                case rel => exact ⟨k + 1, O ++ [lv], by go_num, by omega, HN2.out, HO4.out, HB4.out⟩
                case measure => simp [intOf]; omega
      · obtain rfl : n = k := by omega
        have k1 : ¬ (n : Int) < (n : Int) := by omega
        have he : M.raise lv l = O := by rw [hO, List.take_of_length_le (by rw [HN.out]; exact Nat.le_refl _)]; rfl
        have HEQ := Lib.hid he
        clear hb ho hO he
        go_wp2_with fail
        go_returns
        refine ⟨HB.out, fun _ => ⟨_, rfl, ?_⟩, fun h => absurd HOK.out h⟩
        rw [M.raise_len, HN.out, HEQ.out]
        exact HO.out
  · have HP := Lib.hid h2
    have be : (lv % 2 == 0) = false := by rw [h2]; rfl
    have bo : (lv % 2 == 1) = true := by rw [h2]; rfl
    clear h2
    go_enter Try.func12, Try.ntmps12
    go_wp2_with fail
    go_loopw [6, 7] (fun o v wr => ∃ (k : Nat) (O : List Int), v = .int .i64 k ∧ k ≤ n ∧ O = (l.take k).map (M.rs lv) ∧ wr.ownsRow w.heap.size 3 1 o k (O.map (Value.int .i64)) ∧ Below w.heap.size w wr) (fun _ v _ => n - (intOf v).toNat)
    case atStart => exact ⟨0, [], rfl, Nat.zero_le _, rfl, ⟨rfl, .inl ⟨rfl, rfl⟩⟩, Below.refl _ _⟩
    case round =>
      obtain ⟨k, O, rfl, hk, hO, ho, hb⟩ := hrel
      rename World => wr
      have HB := Lib.hid hb
      have HO := Lib.hid ho
      have HOE := Lib.hid hO
      have k0 : (0 : Int) ≤ k := by omega
      by_cases hlt : k < n
      · have k1 : (k : Int) < n := by omega
        obtain ⟨ad, c, rfl, hcc, hc, -⟩ := rd_at HR.out hb (by rw [HN.out]; exact hlt : k < l.length)
        have hbs := hb.size
        have HNX := Lib.hid (show ∀ x, M.rs lv c = x → O ++ [x] = (l.take (k + 1)).map (M.rs lv) from fun x hx => by
          obtain ⟨hl, e⟩ := List.getElem?_eq_some_iff.1 hc
          rw [hO, List.take_succ_eq_append_getElem hl, List.map_append, e, ← hx]
          rfl)
        clear hb ho hO hc
        by_cases c0 : c = 0
        · subst c0
          have HRS := Lib.hid (show M.rs lv 0 = L1 by unfold M.rs; rw [if_neg (by omega), if_neg (by omega), if_pos ⟨HP.out, by omega⟩]; exact HL1.out)
          go_wp2_with (at_builtin; refine wpList_append_own _ rfl _ _ 33 rfl w.heap.size 3 i0 (.int .i64 0) 1 8 Try.underlying33 hi hz0 hz1 hz2 rfl (by decide) _ _ _ rfl (World.ownsRow.alloc HO.out _) ⟨wr.heap.size, 0, none⟩ 1 1 [.int .i64 L1] rfl rfl (one_new _ _ _) one_cell (by unfold maxLen; omega) (by omega) (by simp; omega) ?_)
          intro v4 w4 ho4 hg4 _
          have hb4 : Below w.heap.size w w4 := grow_below0 (HB.out.alloc hbs _) (World.ownsRow.alloc HO.out _) hg4 (by simp; omega)
          have HB4 := Lib.hid hb4
          have hmap : O.map (Value.int .i64) ++ [Value.int .i64 L1] = (O ++ [L1]).map (Value.int .i64) := by rw [List.map_append]; rfl
          rw [hmap] at ho4
          have HO4 := Lib.hid ho4
          have HN2 := Lib.hid (HNX.out L1 HRS.out)
          clear ho4 hg4 hb4 hmap hcc
          go_wp2_with fail
          go_roundw
          case rel => exact ⟨k + 1, O ++ [L1], by go_num, by omega, HN2.out, HO4.out, HB4.out⟩
          case measure => simp [intOf]; omega
        · by_cases c1 : c = 1
          · subst c1
            have HRS := Lib.hid (show M.rs lv 1 = lv by unfold M.rs; rw [if_neg (by have := HP.out; omega), if_neg (by omega), if_neg (by omega)])
            go_wp2_with (at_builtin; refine wpList_append_own _ rfl _ _ 33 rfl w.heap.size 3 i0 (.int .i64 0) 1 8 Try.underlying33 hi hz0 hz1 hz2 rfl (by decide) _ _ _ rfl (World.ownsRow.alloc HO.out _) ⟨wr.heap.size, 0, none⟩ 1 1 [.int .i64 lv] rfl rfl (one_new _ _ _) one_cell (by unfold maxLen; omega) (by omega) (by simp; omega) ?_)
            intro v4 w4 ho4 hg4 _
            have hb4 : Below w.heap.size w w4 := grow_below0 (HB.out.alloc hbs _) (World.ownsRow.alloc HO.out _) hg4 (by simp; omega)
            have HB4 := Lib.hid hb4
            have hmap : O.map (Value.int .i64) ++ [Value.int .i64 lv] = (O ++ [lv]).map (Value.int .i64) := by rw [List.map_append]; rfl
            rw [hmap] at ho4
            have HO4 := Lib.hid ho4
            have HN2 := Lib.hid (HNX.out lv HRS.out)
            clear ho4 hg4 hb4 hmap hcc
            go_wp2_with fail
            go_roundw
            case rel => exact ⟨k + 1, O ++ [lv], by go_num, by omega, HN2.out, HO4.out, HB4.out⟩
            case measure => simp [intOf]; omega
          · by_cases c3 : c = 3
            · subst c3
              have HRS := Lib.hid (show M.rs lv 3 = L1 by unfold M.rs; rw [if_neg (by omega), if_neg (by have := HP.out; omega), if_pos ⟨HP.out, by omega⟩]; exact HL1.out)
              go_wp2_with (at_builtin; refine wpList_append_own _ rfl _ _ 33 rfl w.heap.size 3 i0 (.int .i64 0) 1 8 Try.underlying33 hi hz0 hz1 hz2 rfl (by decide) _ _ _ rfl (World.ownsRow.alloc HO.out _) ⟨wr.heap.size, 0, none⟩ 1 1 [.int .i64 L1] rfl rfl (one_new _ _ _) one_cell (by unfold maxLen; omega) (by omega) (by simp; omega) ?_)
              intro v4 w4 ho4 hg4 _
              have hb4 : Below w.heap.size w w4 := grow_below0 (HB.out.alloc hbs _) (World.ownsRow.alloc HO.out _) hg4 (by simp; omega)
              have HB4 := Lib.hid hb4
              have hmap : O.map (Value.int .i64) ++ [Value.int .i64 L1] = (O ++ [L1]).map (Value.int .i64) := by rw [List.map_append]; rfl
              rw [hmap] at ho4
              have HO4 := Lib.hid ho4
              have HN2 := Lib.hid (HNX.out L1 HRS.out)
              clear ho4 hg4 hb4 hmap hcc
              go_wp2_with fail
              go_roundw
              case rel => exact ⟨k + 1, O ++ [L1], by go_num, by omega, HN2.out, HO4.out, HB4.out⟩
              case measure => simp [intOf]; omega
            · by_cases c6 : c = 6
              · subst c6
                have HRS := Lib.hid (show M.rs lv 6 = L1 by unfold M.rs; rw [if_neg (by omega), if_neg (by have := HP.out; omega), if_pos ⟨HP.out, by omega⟩]; exact HL1.out)
                go_wp2_with (at_builtin; refine wpList_append_own _ rfl _ _ 33 rfl w.heap.size 3 i0 (.int .i64 0) 1 8 Try.underlying33 hi hz0 hz1 hz2 rfl (by decide) _ _ _ rfl (World.ownsRow.alloc HO.out _) ⟨wr.heap.size, 0, none⟩ 1 1 [.int .i64 L1] rfl rfl (one_new _ _ _) one_cell (by unfold maxLen; omega) (by omega) (by simp; omega) ?_)
                intro v4 w4 ho4 hg4 _
                have hb4 : Below w.heap.size w w4 := grow_below0 (HB.out.alloc hbs _) (World.ownsRow.alloc HO.out _) hg4 (by simp; omega)
                have HB4 := Lib.hid hb4
                have hmap : O.map (Value.int .i64) ++ [Value.int .i64 L1] = (O ++ [L1]).map (Value.int .i64) := by rw [List.map_append]; rfl
                rw [hmap] at ho4
                have HO4 := Lib.hid ho4
                have HN2 := Lib.hid (HNX.out L1 HRS.out)
                clear ho4 hg4 hb4 hmap hcc
                go_wp2_with fail
                go_roundw
                case rel => exact ⟨k + 1, O ++ [L1], by go_num, by omega, HN2.out, HO4.out, HB4.out⟩
                case measure => simp [intOf]; omega
              · have b0 : (c == 0) = false := by simp; omega
                have b1 : (c == 1) = false := by simp; omega
                have b3 : (c == 3) = false := by simp; omega
                have b6 : (c == 6) = false := by simp; omega
                have HRS := Lib.hid (show M.rs lv c = lv by unfold M.rs; rw [if_neg (by omega), if_neg (by omega), if_neg (by omega)])
                clear c0 c1 c3 c6
                go_wp2_with (at_builtin; refine wpList_append_own _ rfl _ _ 33 rfl w.heap.size 3 i0 (.int .i64 0) 1 8 Try.underlying33 hi hz0 hz1 hz2 rfl (by decide) _ _ _ rfl (World.ownsRow.alloc HO.out _) ⟨wr.heap.size, 0, none⟩ 1 1 [.int .i64 lv] rfl rfl (one_new _ _ _) one_cell (by unfold maxLen; omega) (by omega) (by simp; omega) ?_)
                intro v4 w4 ho4 hg4 _
                have hb4 : Below w.heap.size w w4 := grow_below0 (HB.out.alloc hbs _) (World.ownsRow.alloc HO.out _) hg4 (by simp; omega)
                have HB4 := Lib.hid hb4
                have hmap : O.map (Value.int .i64) ++ [Value.int .i64 lv] = (O ++ [lv]).map (Value.int .i64) := by rw [List.map_append]; rfl
                rw [hmap] at ho4
                have HO4 := Lib.hid ho4
                have HN2 := Lib.hid (HNX.out lv HRS.out)
                clear ho4 hg4 hb4 hmap hcc
                go_wp2_with fail
                go_roundw
                case rel => exact ⟨k + 1, O ++ [lv], by go_num, by omega, HN2.out, HO4.out, HB4.out⟩
                case measure => simp [intOf]; omega
      · obtain rfl : n = k := by omega
        have k1 : ¬ (n : Int) < (n : Int) := by omega
        have he : M.raise lv l = O := by rw [hO, List.take_of_length_le (by rw [HN.out]; exact Nat.le_refl _)]; rfl
        have HEQ := Lib.hid he
        clear hb ho hO he
        go_wp2_with fail
        go_returns
        refine ⟨HB.out, fun _ => ⟨_, rfl, ?_⟩, fun h => absurd HOK.out h⟩
        rw [M.raise_len, HN.out, HEQ.out]
        exact HO.out
theorem refRaise_any (A : Option Addr) (ca n : Nat) (l : List Int) (lv : Int) (w : World) (hr : RdS .i64 w w.heap.size A l) (hn : l.length = n) (hl : n ≤ 1000) :
    Calls Try.prog 12 #[.slice A n ca, .int .i64 lv] w (RowOr 3 (M.lvOk lv) (M.raise lv l) w) := by
  by_cases h : M.lvOk lv
  · exact refRaise_ok A ca n l lv w hr hn hl h
  · exact refRaise_no A ca n _ lv w h
end Go.Proofs.Ytjoiinpkkaigdaa
