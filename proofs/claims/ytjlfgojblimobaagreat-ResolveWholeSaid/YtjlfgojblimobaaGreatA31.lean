/- The contract of the document's Raise. Conditions: the slice reads as a list of classes, at most a thousand long. -/
/- A block of one's own that holds whole numbers, and is turned in its places: read, copied into, and one block alone that turns. No function of the program is walked here. -/
/- The contracts of package neutral's isLevel, isSide, isNeutral, side, between, steps and fill. Conditions: a level is 0 or more where it is halved; fill's row is a block of one's own. -/
import Derived.Test.YtjlfgojblimobaaGreatA30
import Derived.Laws.CopyOwn
section
namespace Go.Proofs.YtjlfgojblimobaaGreat.S12
open Go.RowKit
set_option maxRecDepth 100000

def M.lvOk (lv : Int) : Prop := 0 ≤ lv ∧ lv ≤ 125
instance (lv : Int) : Decidable (M.lvOk lv) := by unfold M.lvOk; infer_instance
set_option maxHeartbeats 4000000 in
theorem refRaise_no (A : Option Addr) (ca n : Nat) (t : List Int) (lv : Int) (w : World) (h : ¬ M.lvOk lv) :
    Calls Tryz.prog 27 #[.slice A n ca, .int .i64 lv] w (RowOr 3 (M.lvOk lv) t w) := by
  have HM := Lib.hid h
  have h4 : lv < 0 ∨ (¬ lv < 0 ∧ 125 < lv) := by unfold M.lvOk at h; omega
  clear h
  rcases h4 with c1 | ⟨c1, c2⟩
  all_goals
    go_enter Tryz.func27, Tryz.ntmps27
    go_wp2_with fail
    go_returns
    exact ⟨Below.refl _ _, fun h => absurd h HM.out, fun _ => rfl⟩
set_option maxHeartbeats 16000000 in
theorem refRaise_ok (A : Option Addr) (ca n : Nat) (l : List Int) (lv : Int) (w : World) (hr : RdS .i64 w w.heap.size A l) (hn : l.length = n) (hl : n ≤ 1000) (h : M.lvOk lv) :
    Calls Tryz.prog 27 #[.slice A n ca, .int .i64 lv] w (RowOr 3 (M.lvOk lv) (M.raise lv l) w) := by
  obtain ⟨i0, hi, hz0, hz1, hz2⟩ := info_parts Tryz.infoInt2
  have HOK := Lib.hid h
  have HR := Lib.hid hr
  have HN := Lib.hid hn
  unfold M.lvOk at h
  have lv0 : ¬ lv < 0 := by omega
  have lv1 : ¬ 125 < lv := by omega
  have lv2 : 0 ≤ lv := by omega
  have hl1 : (n : Int) ≤ 1000 := by omega
  obtain ⟨L1, hL1⟩ : ∃ L, lv + 1 = L := ⟨_, rfl⟩
  obtain ⟨L2, hL2⟩ : ∃ L, lv + 2 = L := ⟨_, rfl⟩
  have hw1 : IntKind.i64.wrap (lv + 1) = L1 := by rw [IntKind.wrap_i64]; omega
  have hw2 : IntKind.i64.wrap (lv + 2) = L2 := by rw [IntKind.wrap_i64]; omega
  have HL1 := Lib.hid hL1
  have HL2 := Lib.hid hL2
  clear hr hn h hL1 hL2
  rcases Int.emod_two_eq lv with h2 | h2
  · have HP := Lib.hid h2
    have be : (lv % 2 == 0) = true := by rw [h2]; rfl
    have bo : (lv % 2 == 1) = false := by rw [h2]; rfl
    clear h2
    go_enter Tryz.func27, Tryz.ntmps27
    go_wp2_with fail
    go_loopw [6, 7] (fun o v wr => ∃ (k : Nat) (O : List Int), v = .int .i64 k ∧ k ≤ n ∧ O = (l.take k).map (M.rs lv) ∧ wr.ownsRow w.heap.size 3 1 o k (O.map (Value.int .i64)) ∧ Below w.heap.size w wr) (fun _ v _ => n - (intOf v).toNat)
    case atStart => exact ⟨0, [], rfl, Nat.zero_le _, rfl, ⟨rfl, .inl ⟨rfl, rfl⟩⟩, Below.refl _ _⟩
    case round =>
      obtain ⟨k, O, rfl, hk, hO, ho, hb⟩ := hrel
      rename World => wr
      have HB := Lib.hid hb
      have HO := Lib.hid ho
      have HOE := Lib.hid hO
      have k0 : (0 : Int) ≤ k := by omega
      by_cases hlt : k < n
      · have k1 : (k : Int) < n := by omega
        obtain ⟨ad, c, rfl, hcc, hc, -⟩ := rd_at HR.out hb (by rw [HN.out]; exact hlt : k < l.length)
        have hbs := hb.size
        have HNX := Lib.hid (show ∀ x, M.rs lv c = x → O ++ [x] = (l.take (k + 1)).map (M.rs lv) from fun x hx => by
          obtain ⟨hl, e⟩ := List.getElem?_eq_some_iff.1 hc
          rw [hO, List.take_succ_eq_append_getElem hl, List.map_append, e, ← hx]
          rfl)
        clear hb ho hO hc
        by_cases c0 : c = 0
        · subst c0
          have HRS := Lib.hid (show M.rs lv 0 = lv by unfold M.rs; rw [if_neg (by omega), if_neg (by omega), if_neg (by have := HP.out; omega)])
          go_wp2_with (at_builtin; refine wpList_append_own _ rfl _ _ 25 rfl w.heap.size 3 i0 (.int .i64 0) 1 8 Tryz.underlying25 hi hz0 hz1 hz2 rfl (by decide) _ _ _ rfl (World.ownsRow.alloc HO.out _) ⟨wr.heap.size, 0, none⟩ 1 1 [.int .i64 lv] rfl rfl (one_new _ _ _) one_cell (by unfold maxLen; omega) (by omega) (by simp; omega) ?_)
          intro v4 w4 ho4 hg4 _
          have hb4 : Below w.heap.size w w4 := grow_below0 (HB.out.alloc hbs _) (World.ownsRow.alloc HO.out _) hg4 (by simp; omega)
          have HB4 := Lib.hid hb4
          have hmap : O.map (Value.int .i64) ++ [Value.int .i64 lv] = (O ++ [lv]).map (Value.int .i64) := by rw [List.map_append]; rfl
          rw [hmap] at ho4
          have HO4 := Lib.hid ho4
          have HN2 := Lib.hid (HNX.out lv HRS.out)
          clear ho4 hg4 hb4 hmap hcc
          go_wp2_with fail
          go_roundw
          case rel => exact ⟨k + 1, O ++ [lv], by go_num, by omega, HN2.out, HO4.out, HB4.out⟩
          case measure => simp [intOf]; omega
        · by_cases c1 : c = 1
          · subst c1
            have HRS := Lib.hid (show M.rs lv 1 = L1 by unfold M.rs; rw [if_pos ⟨HP.out, rfl⟩]; exact HL1.out)
            go_wp2_with (at_builtin; refine wpList_append_own _ rfl _ _ 25 rfl w.heap.size 3 i0 (.int .i64 0) 1 8 Tryz.underlying25 hi hz0 hz1 hz2 rfl (by decide) _ _ _ rfl (World.ownsRow.alloc HO.out _) ⟨wr.heap.size, 0, none⟩ 1 1 [.int .i64 L1] rfl rfl (one_new _ _ _) one_cell (by unfold maxLen; omega) (by omega) (by simp; omega) ?_)
            intro v4 w4 ho4 hg4 _
            have hb4 : Below w.heap.size w w4 := grow_below0 (HB.out.alloc hbs _) (World.ownsRow.alloc HO.out _) hg4 (by simp; omega)
            have HB4 := Lib.hid hb4
            have hmap : O.map (Value.int .i64) ++ [Value.int .i64 L1] = (O ++ [L1]).map (Value.int .i64) := by rw [List.map_append]; rfl
            rw [hmap] at ho4
            have HO4 := Lib.hid ho4
            have HN2 := Lib.hid (HNX.out L1 HRS.out)
            clear ho4 hg4 hb4 hmap hcc
            go_wp2_with fail
            go_roundw
            case rel => exact ⟨k + 1, O ++ [L1], by go_num, by omega, HN2.out, HO4.out, HB4.out⟩
            case measure => simp [intOf]; omega
          · by_cases c3 : c = 3
            · subst c3
              have HRS := Lib.hid (show M.rs lv 3 = L2 by unfold M.rs; rw [if_neg (by omega), if_pos ⟨HP.out, by omega⟩]; exact HL2.out)
              go_wp2_with (at_builtin; refine wpList_append_own _ rfl _ _ 25 rfl w.heap.size 3 i0 (.int .i64 0) 1 8 Tryz.underlying25 hi hz0 hz1 hz2 rfl (by decide) _ _ _ rfl (World.ownsRow.alloc HO.out _) ⟨wr.heap.size, 0, none⟩ 1 1 [.int .i64 L2] rfl rfl (one_new _ _ _) one_cell (by unfold maxLen; omega) (by omega) (by simp; omega) ?_)
              intro v4 w4 ho4 hg4 _
              have hb4 : Below w.heap.size w w4 := grow_below0 (HB.out.alloc hbs _) (World.ownsRow.alloc HO.out _) hg4 (by simp; omega)
              have HB4 := Lib.hid hb4
              have hmap : O.map (Value.int .i64) ++ [Value.int .i64 L2] = (O ++ [L2]).map (Value.int .i64) := by rw [List.map_append]; rfl
              rw [hmap] at ho4
              have HO4 := Lib.hid ho4
              have HN2 := Lib.hid (HNX.out L2 HRS.out)
              clear ho4 hg4 hb4 hmap hcc
              go_wp2_with fail
              go_roundw
              case rel => exact ⟨k + 1, O ++ [L2], by go_num, by omega, HN2.out, HO4.out, HB4.out⟩
              case measure => simp [intOf]; omega
            · by_cases c6 : c = 6
              · subst c6
                have HRS := Lib.hid (show M.rs lv 6 = L2 by unfold M.rs; rw [if_neg (by omega), if_pos ⟨HP.out, by omega⟩]; exact HL2.out)
                go_wp2_with (at_builtin; refine wpList_append_own _ rfl _ _ 25 rfl w.heap.size 3 i0 (.int .i64 0) 1 8 Tryz.underlying25 hi hz0 hz1 hz2 rfl (by decide) _ _ _ rfl (World.ownsRow.alloc HO.out _) ⟨wr.heap.size, 0, none⟩ 1 1 [.int .i64 L2] rfl rfl (one_new _ _ _) one_cell (by unfold maxLen; omega) (by omega) (by simp; omega) ?_)
                intro v4 w4 ho4 hg4 _
                have hb4 : Below w.heap.size w w4 := grow_below0 (HB.out.alloc hbs _) (World.ownsRow.alloc HO.out _) hg4 (by simp; omega)
                have HB4 := Lib.hid hb4
                have hmap : O.map (Value.int .i64) ++ [Value.int .i64 L2] = (O ++ [L2]).map (Value.int .i64) := by rw [List.map_append]; rfl
                rw [hmap] at ho4
                have HO4 := Lib.hid ho4
                have HN2 := Lib.hid (HNX.out L2 HRS.out)
                clear ho4 hg4 hb4 hmap hcc
                go_wp2_with fail
                go_roundw
                case rel => exact ⟨k + 1, O ++ [L2], by go_num, by omega, HN2.out, HO4.out, HB4.out⟩
                case measure => simp [intOf]; omega
              · have b0 : (c == 0) = false := by simp; omega
                have b1 : (c == 1) = false := by simp; omega
                have b3 : (c == 3) = false := by simp; omega
                have b6 : (c == 6) = false := by simp; omega
                have HRS := Lib.hid (show M.rs lv c = lv by unfold M.rs; rw [if_neg (by omega), if_neg (by omega), if_neg (by omega)])
                clear c0 c1 c3 c6
                go_wp2_with (at_builtin; refine wpList_append_own _ rfl _ _ 25 rfl w.heap.size 3 i0 (.int .i64 0) 1 8 Tryz.underlying25 hi hz0 hz1 hz2 rfl (by decide) _ _ _ rfl (World.ownsRow.alloc HO.out _) ⟨wr.heap.size, 0, none⟩ 1 1 [.int .i64 lv] rfl rfl (one_new _ _ _) one_cell (by unfold maxLen; omega) (by omega) (by simp; omega) ?_)
                intro v4 w4 ho4 hg4 _
                have hb4 : Below w.heap.size w w4 := grow_below0 (HB.out.alloc hbs _) (World.ownsRow.alloc HO.out _) hg4 (by simp; omega)
                have HB4 := Lib.hid hb4
                have hmap : O.map (Value.int .i64) ++ [Value.int .i64 lv] = (O ++ [lv]).map (Value.int .i64) := by rw [List.map_append]; rfl
                rw [hmap] at ho4
                have HO4 := Lib.hid ho4
                have HN2 := Lib.hid (HNX.out lv HRS.out)
                clear ho4 hg4 hb4 hmap hcc
                go_wp2_with fail
                go_roundw
                case rel => exact ⟨k + 1, O ++ [lv], by go_num, by omega, HN2.out, HO4.out, HB4.out⟩
                case measure => simp [intOf]; omega
      · obtain rfl : n = k := by omega
        have k1 : ¬ (n : Int) < (n : Int) := by omega
        have he : M.raise lv l = O := by rw [hO, List.take_of_length_le (by rw [HN.out]; exact Nat.le_refl _)]; rfl
        have HEQ := Lib.hid he
        clear hb ho hO he
        go_wp2_with fail
        go_returns
        refine ⟨HB.out, fun _ => ⟨_, rfl, ?_⟩, fun h => absurd HOK.out h⟩
        rw [M.raise_len, HN.out, HEQ.out]
        exact HO.out
  · have HP := Lib.hid h2
    have be : (lv % 2 == 0) = false := by rw [h2]; rfl
    have bo : (lv % 2 == 1) = true := by rw [h2]; rfl
    clear h2
    go_enter Tryz.func27, Tryz.ntmps27
    go_wp2_with fail
    go_loopw [6, 7] (fun o v wr => ∃ (k : Nat) (O : List Int), v = .int .i64 k ∧ k ≤ n ∧ O = (l.take k).map (M.rs lv) ∧ wr.ownsRow w.heap.size 3 1 o k (O.map (Value.int .i64)) ∧ Below w.heap.size w wr) (fun _ v _ => n - (intOf v).toNat)
    case atStart => exact ⟨0, [], rfl, Nat.zero_le _, rfl, ⟨rfl, .inl ⟨rfl, rfl⟩⟩, Below.refl _ _⟩
    case round =>
      obtain ⟨k, O, rfl, hk, hO, ho, hb⟩ := hrel
      rename World => wr
      have HB := Lib.hid hb
      have HO := Lib.hid ho
      have HOE := Lib.hid hO
      have k0 : (0 : Int) ≤ k := by omega
      by_cases hlt : k < n
      · have k1 : (k : Int) < n := by omega
        obtain ⟨ad, c, rfl, hcc, hc, -⟩ := rd_at HR.out hb (by rw [HN.out]; exact hlt : k < l.length)
        have hbs := hb.size
        have HNX := Lib.hid (show ∀ x, M.rs lv c = x → O ++ [x] = (l.take (k + 1)).map (M.rs lv) from fun x hx => by
          obtain ⟨hl, e⟩ := List.getElem?_eq_some_iff.1 hc
          rw [hO, List.take_succ_eq_append_getElem hl, List.map_append, e, ← hx]
          rfl)
        clear hb ho hO hc
        by_cases c0 : c = 0
        · subst c0
          have HRS := Lib.hid (show M.rs lv 0 = L1 by unfold M.rs; rw [if_neg (by omega), if_neg (by omega), if_pos ⟨HP.out, by omega⟩]; exact HL1.out)
          go_wp2_with (at_builtin; refine wpList_append_own _ rfl _ _ 25 rfl w.heap.size 3 i0 (.int .i64 0) 1 8 Tryz.underlying25 hi hz0 hz1 hz2 rfl (by decide) _ _ _ rfl (World.ownsRow.alloc HO.out _) ⟨wr.heap.size, 0, none⟩ 1 1 [.int .i64 L1] rfl rfl (one_new _ _ _) one_cell (by unfold maxLen; omega) (by omega) (by simp; omega) ?_)
          intro v4 w4 ho4 hg4 _
          have hb4 : Below w.heap.size w w4 := grow_below0 (HB.out.alloc hbs _) (World.ownsRow.alloc HO.out _) hg4 (by simp; omega)
          have HB4 := Lib.hid hb4
          have hmap : O.map (Value.int .i64) ++ [Value.int .i64 L1] = (O ++ [L1]).map (Value.int .i64) := by rw [List.map_append]; rfl
          rw [hmap] at ho4
          have HO4 := Lib.hid ho4
          have HN2 := Lib.hid (HNX.out L1 HRS.out)
          clear ho4 hg4 hb4 hmap hcc
          go_wp2_with fail
          go_roundw
          case rel => exact ⟨k + 1, O ++ [L1], by go_num, by omega, HN2.out, HO4.out, HB4.out⟩
          case measure => simp [intOf]; omega
        · by_cases c1 : c = 1
          · subst c1
            have HRS := Lib.hid (show M.rs lv 1 = lv by unfold M.rs; rw [if_neg (by have := HP.out; omega), if_neg (by omega), if_neg (by omega)])
            go_wp2_with (at_builtin; refine wpList_append_own _ rfl _ _ 25 rfl w.heap.size 3 i0 (.int .i64 0) 1 8 Tryz.underlying25 hi hz0 hz1 hz2 rfl (by decide) _ _ _ rfl (World.ownsRow.alloc HO.out _) ⟨wr.heap.size, 0, none⟩ 1 1 [.int .i64 lv] rfl rfl (one_new _ _ _) one_cell (by unfold maxLen; omega) (by omega) (by simp; omega) ?_)
            intro v4 w4 ho4 hg4 _
            have hb4 : Below w.heap.size w w4 := grow_below0 (HB.out.alloc hbs _) (World.ownsRow.alloc HO.out _) hg4 (by simp; omega)
            have HB4 := Lib.hid hb4
            have hmap : O.map (Value.int .i64) ++ [Value.int .i64 lv] = (O ++ [lv]).map (Value.int .i64) := by rw [List.map_append]; rfl
            rw [hmap] at ho4
            have HO4 := Lib.hid ho4
            have HN2 := Lib.hid (HNX.out lv HRS.out)
            clear ho4 hg4 hb4 hmap hcc
            go_wp2_with fail
            go_roundw
            case rel => exact ⟨k + 1, O ++ [lv], by go_num, by omega, HN2.out, HO4.out, HB4.out⟩
            case measure => simp [intOf]; omega
          · by_cases c3 : c = 3
            · subst c3
              have HRS := Lib.hid (show M.rs lv 3 = L1 by unfold M.rs; rw [if_neg (by omega), if_neg (by have := HP.out; omega), if_pos ⟨HP.out, by omega⟩]; exact HL1.out)
              go_wp2_with (at_builtin; refine wpList_append_own _ rfl _ _ 25 rfl w.heap.size 3 i0 (.int .i64 0) 1 8 Tryz.underlying25 hi hz0 hz1 hz2 rfl (by decide) _ _ _ rfl (World.ownsRow.alloc HO.out _) ⟨wr.heap.size, 0, none⟩ 1 1 [.int .i64 L1] rfl rfl (one_new _ _ _) one_cell (by unfold maxLen; omega) (by omega) (by simp; omega) ?_)
              intro v4 w4 ho4 hg4 _
              have hb4 : Below w.heap.size w w4 := grow_below0 (HB.out.alloc hbs _) (World.ownsRow.alloc HO.out _) hg4 (by simp; omega)
              have HB4 := Lib.hid hb4
              have hmap : O.map (Value.int .i64) ++ [Value.int .i64 L1] = (O ++ [L1]).map (Value.int .i64) := by rw [List.map_append]; rfl
              rw [hmap] at ho4
              have HO4 := Lib.hid ho4
              have HN2 := Lib.hid (HNX.out L1 HRS.out)
              clear ho4 hg4 hb4 hmap hcc
              go_wp2_with fail
              go_roundw
              case rel => exact ⟨k + 1, O ++ [L1], by go_num, by omega, HN2.out, HO4.out, HB4.out⟩
              case measure => simp [intOf]; omega
            · by_cases c6 : c = 6
              · subst c6
                have HRS := Lib.hid (show M.rs lv 6 = L1 by unfold M.rs; rw [if_neg (by omega), if_neg (by have := HP.out; omega), if_pos ⟨HP.out, by omega⟩]; exact HL1.out)
                go_wp2_with (at_builtin; refine wpList_append_own _ rfl _ _ 25 rfl w.heap.size 3 i0 (.int .i64 0) 1 8 Tryz.underlying25 hi hz0 hz1 hz2 rfl (by decide) _ _ _ rfl (World.ownsRow.alloc HO.out _) ⟨wr.heap.size, 0, none⟩ 1 1 [.int .i64 L1] rfl rfl (one_new _ _ _) one_cell (by unfold maxLen; omega) (by omega) (by simp; omega) ?_)
                intro v4 w4 ho4 hg4 _
                have hb4 : Below w.heap.size w w4 := grow_below0 (HB.out.alloc hbs _) (World.ownsRow.alloc HO.out _) hg4 (by simp; omega)
                have HB4 := Lib.hid hb4
                have hmap : O.map (Value.int .i64) ++ [Value.int .i64 L1] = (O ++ [L1]).map (Value.int .i64) := by rw [List.map_append]; rfl
                rw [hmap] at ho4
                have HO4 := Lib.hid ho4
                have HN2 := Lib.hid (HNX.out L1 HRS.out)
                clear ho4 hg4 hb4 hmap hcc
                go_wp2_with fail
                go_roundw
                case rel => exact ⟨k + 1, O ++ [L1], by go_num, by omega, HN2.out, HO4.out, HB4.out⟩
                case measure => simp [intOf]; omega
              · have b0 : (c == 0) = false := by simp; omega
                have b1 : (c == 1) = false := by simp; omega
                have b3 : (c == 3) = false := by simp; omega
                have b6 : (c == 6) = false := by simp; omega
                have HRS := Lib.hid (show M.rs lv c = lv by unfold M.rs; rw [if_neg (by omega), if_neg (by omega), if_neg (by omega)])
                clear c0 c1 c3 c6
                go_wp2_with (at_builtin; refine wpList_append_own _ rfl _ _ 25 rfl w.heap.size 3 i0 (.int .i64 0) 1 8 Tryz.underlying25 hi hz0 hz1 hz2 rfl (by decide) _ _ _ rfl (World.ownsRow.alloc HO.out _) ⟨wr.heap.size, 0, none⟩ 1 1 [.int .i64 lv] rfl rfl (one_new _ _ _) one_cell (by unfold maxLen; omega) (by omega) (by simp; omega) ?_)
                intro v4 w4 ho4 hg4 _
                have hb4 : Below w.heap.size w w4 := grow_below0 (HB.out.alloc hbs _) (World.ownsRow.alloc HO.out _) hg4 (by simp; omega)
                have HB4 := Lib.hid hb4
                have hmap : O.map (Value.int .i64) ++ [Value.int .i64 lv] = (O ++ [lv]).map (Value.int .i64) := by rw [List.map_append]; rfl
                rw [hmap] at ho4
                have HO4 := Lib.hid ho4
                have HN2 := Lib.hid (HNX.out lv HRS.out)
                clear ho4 hg4 hb4 hmap hcc
                go_wp2_with fail
                go_roundw
                case rel => exact ⟨k + 1, O ++ [lv], by go_num, by omega, HN2.out, HO4.out, HB4.out⟩
                case measure => simp [intOf]; omega
      · obtain rfl : n = k := by omega
        have k1 : ¬ (n : Int) < (n : Int) := by omega
        have he : M.raise lv l = O := by rw [hO, List.take_of_length_le (by rw [HN.out]; exact Nat.le_refl _)]; rfl
        have HEQ := Lib.hid he
        clear hb ho hO he
        go_wp2_with fail
        go_returns
        refine ⟨HB.out, fun _ => ⟨_, rfl, ?_⟩, fun h => absurd HOK.out h⟩
        rw [M.raise_len, HN.out, HEQ.out]
        exact HO.out
theorem refRaise_any (A : Option Addr) (ca n : Nat) (l : List Int) (lv : Int) (w : World) (hr : RdS .i64 w w.heap.size A l) (hn : l.length = n) (hl : n ≤ 1000) :
    Calls Tryz.prog 27 #[.slice A n ca, .int .i64 lv] w (RowOr 3 (M.lvOk lv) (M.raise lv l) w) := by
  by_cases h : M.lvOk lv
  · exact refRaise_ok A ca n l lv w hr hn hl h
  · exact refRaise_no A ca n _ lv w h
end Go.Proofs.YtjlfgojblimobaaGreat.S12
end

section
namespace Go.Proofs.YtjlfgojblimobaaGreat.S12
open Go.RowKit
set_option maxRecDepth 100000

def BlockAt (w : World) (G : Nat) (ty : TypeId) (l : List Int) : Prop := w.heap[G]? = some (.cells (l.map (Value.int .i64)).toArray ty (0, 0))
theorem BlockAt.lt {w : World} {G : Nat} {ty : TypeId} {l : List Int} (h : BlockAt w G ty l) : G < w.heap.size := (Array.getElem?_eq_some_iff.1 h).1
theorem BlockAt.cell {w : World} {G j : Nat} {ty : TypeId} {l : List Int} {x : Int} (h : BlockAt w G ty l) (hj : l[j]? = some x) : w.cell? ⟨G, j, none⟩ = some (.int .i64 x) := by
  unfold World.cell?
  rw [show w.heap[G]? = _ from h]
  simp [hj]
theorem BlockAt.frozen {w : World} {G j : Nat} {ty : TypeId} {l : List Int} (h : BlockAt w G ty l) : w.frozen? ⟨G, j, none⟩ = false := by
  unfold World.frozen?
  rw [show w.heap[G]? = _ from h]
  simp
theorem BlockAt.reads {w : World} {G : Nat} {ty : TypeId} {l : List Int} (h : BlockAt w G ty l) : RdS .i64 w w.heap.size (some ⟨G, 0, none⟩) l := fun j x hx => by
  refine ⟨_, rfl, h.lt, ?_⟩
  have : (⟨G, 0, none⟩ : Addr).add j = ⟨G, j, none⟩ := by unfold Addr.add; split <;> simp_all
  rw [this]
  exact h.cell hx
theorem BlockAt.below {w w' : World} {G n : Nat} {ty : TypeId} {l : List Int} (h : BlockAt w G ty l) (hb : Below n w w') (hG : G < n) : BlockAt w' G ty l := (hb.block G hG).trans h
theorem BlockAt.set {w : World} {G k : Nat} {ty : TypeId} {l : List Int} (h : BlockAt w G ty l) (x : Int) : BlockAt (w.setCell ⟨G, k, none⟩ (.int .i64 x)) G ty (l.set k x) := by
  obtain ⟨hlt, hk⟩ := Array.getElem?_eq_some_iff.1 h
  show (w.heap.modify G _)[G]? = _
  rw [Array.getElem?_eq_getElem (by rw [Array.size_modify]; exact hlt), Array.getElem_modify_self, hk]
  show some (Obj.cells ((l.map (Value.int .i64)).toArray.setIfInBounds k (.int .i64 x)) ty (0, 0)) = _
  rw [List.setIfInBounds_toArray, List.map_set]
structure Turned (w w' : World) (G : Nat) : Prop where
  os : w'.os = w.os
  tape : w'.tape = w.tape
  output : w'.output = w.output
  size : w'.heap.size = w.heap.size
  block : ∀ b, b ≠ G → w'.heap[b]? = w.heap[b]?
theorem Turned.refl (w : World) (G : Nat) : Turned w w G := ⟨rfl, rfl, rfl, rfl, fun _ _ => rfl⟩
theorem Turned.trans {w w1 w2 : World} {G : Nat} (h : Turned w w1 G) (k : Turned w1 w2 G) : Turned w w2 G :=
  ⟨k.os.trans h.os, k.tape.trans h.tape, k.output.trans h.output, k.size.trans h.size, fun b hb => (k.block b hb).trans (h.block b hb)⟩
theorem Turned.setCell {w w' : World} {G : Nat} (h : Turned w w' G) (k : Nat) (u : Value) : Turned w (w'.setCell ⟨G, k, none⟩ u) G :=
  ⟨h.os, h.tape, h.output, by simpa [World.setCell] using h.size, fun b hb => (Below.heap_setCell _ _ _ _ hb).trans (h.block b hb)⟩
theorem Turned.below {w w' : World} {G base : Nat} (h : Turned w w' G) (hb : base ≤ G) : Below base w w' :=
  ⟨h.os, h.tape, h.output, by rw [h.size]; exact Nat.le_refl _, fun b hlt => h.block b (by omega)⟩
theorem Turned.cell {w w' : World} {G : Nat} (h : Turned w w' G) {p : Addr} (hp : p.block ≠ G) : w'.cell? p = w.cell? p := World.cell?_of_block (h.block _ hp)
theorem below_row {w W1 : World} {G n : Nat} {cs : Array Value} (h : Below n w W1) (hG : n ≤ G) : Below n w (W1.setRow G cs) := ⟨h.os, h.tape, h.output, by simpa [World.setRow] using h.size, fun k hk => by
  rw [← h.block k hk]
  unfold World.setRow
  simp only
  rw [Array.getElem?_modify, if_neg (by omega)]⟩
theorem turned_row (w : World) (G : Nat) (cs : Array Value) : Turned w (w.setRow G cs) G := ⟨rfl, rfl, rfl, by simp [World.setRow], fun b hb => by
  unfold World.setRow
  simp only
  rw [Array.getElem?_modify, if_neg (Ne.symm hb)]⟩
theorem copy_any (A : Option Addr) (ca n G : Nat) (l : List Int) (w W1 : World) (Z : Array Value) (hr : RdS .i64 W1 w.heap.size A l) (hn : l.length = n) (hG : w.heap.size ≤ G) (hg : W1.heap[G]? = some (.cells Z 39 (0, 0))) (hZ : Z.size = n) (hZ0 : n = 0 → Z = #[]) (hb : Below w.heap.size w W1) :
    ∃ v W2, (Builtin.copy_ #[22, 22] 3 #[.slice (some ⟨G, 0, none⟩) n n, .slice A n ca]).run Tryz.prog W1 = .ok v W2 ∧ BlockAt W2 G 39 l ∧ Below w.heap.size w W2 ∧ Turned W1 W2 G := by
  by_cases h0 : n = 0
  · subst h0
    obtain rfl : l = [] := List.eq_nil_of_length_eq_zero hn
    refine ⟨_, W1, run_copy_none (P := Tryz.prog) W1 22 22 3 39 (some ⟨G, 0, none⟩) A 0 0 0 ca Tryz.underlying22 (by kernel_rfl) rfl, ?_, hb, Turned.refl _ _⟩
    unfold BlockAt
    rw [hg, hZ0 rfl]
    rfl
  · obtain ⟨ad, rfl, _⟩ := hr 0 l[0] (List.getElem?_eq_getElem (by omega))
    have hcl : (l.map (Value.int IntKind.i64)).length = n := by simpa using hn
    refine ⟨_, _, run_copy_row (P := Tryz.prog) W1 22 22 3 39 G 0 n n ad n ca Z 39 (l.map (Value.int .i64)) Tryz.underlying22 (by kernel_rfl) hg (by rw [hcl]; exact (Nat.min_self n).symm) (fun j v hj => ?_) (by omega) (fun v hv => ?_), ?_, below_row hb hG, turned_row _ _ _⟩
    · rw [List.getElem?_map] at hj
      cases hx : l[j]? with
      | none => rw [hx] at hj; cases hj
      | some y =>
        rw [hx] at hj
        cases hj
        obtain ⟨ad', hA', _, hc'⟩ := hr j y hx
        injection hA' with e
        rw [e]
        exact hc'
    · simp only [List.mem_map] at hv
      obtain ⟨y, _, rfl⟩ := hv
      rfl
    · have := setRow_heap W1 G Z (Z.toList.take 0 ++ l.map (Value.int .i64) ++ Z.toList.drop (0 + (l.map (Value.int IntKind.i64)).length)).toArray 39 _ hg
      unfold BlockAt
      rw [this]
      have hz : Z.toList.length = n := by simpa using hZ
      rw [hcl, List.take_zero, List.nil_append, List.drop_of_length_le (by omega), List.append_nil]
theorem BlockAt.own {w : World} {G n base : Nat} {ty : TypeId} {l : List Int} (h : BlockAt w G ty l) (hn : l.length = n) (hm : n ≤ maxLen) (hG : base ≤ G) : w.ownsRow base ty 1 (.slice (some ⟨G, 0, none⟩) n n) n (l.map (Value.int .i64)) :=
  ⟨by simp [hn], .inr ⟨G, n, _, rfl, hG, h, Nat.le_refl _, hm, by simpa using hn, by rw [Nat.mul_one]; exact List.take_of_length_le (by simp [hn])⟩⟩
structure KpG (n G : Nat) (A B : World) : Prop where
  os : B.os = A.os
  tape : B.tape = A.tape
  output : B.output = A.output
  size : A.heap.size ≤ B.heap.size
  block : ∀ k, k < n → k ≠ G → B.heap[k]? = A.heap[k]?
theorem KpG.refl (n G : Nat) (A : World) : KpG n G A A := ⟨rfl, rfl, rfl, Nat.le_refl _, fun _ _ _ => rfl⟩
theorem KpG.trans {n G : Nat} {A B C : World} (h : KpG n G A B) (k : KpG n G B C) : KpG n G A C :=
  ⟨k.os.trans h.os, k.tape.trans h.tape, k.output.trans h.output, Nat.le_trans h.size k.size, fun b hb hg => (k.block b hb hg).trans (h.block b hb hg)⟩
theorem KpG.of_below {n m G : Nat} {A B : World} (h : Below m A B) (hm : n ≤ m) : KpG n G A B := ⟨h.os, h.tape, h.output, h.size, fun k hk _ => h.block k (by omega)⟩
theorem KpG.of_turned {n G : Nat} {A B : World} (h : Turned A B G) : KpG n G A B := ⟨h.os, h.tape, h.output, Nat.le_of_eq h.size.symm, fun k _ hg => h.block k hg⟩
theorem KpG.below {n m G : Nat} {A B : World} (h : KpG n G A B) (hm : m ≤ n) (hG : m ≤ G) : Below m A B := ⟨h.os, h.tape, h.output, h.size, fun k hk => h.block k (by omega) (by omega)⟩
theorem KpG.cell {n G : Nat} {A B : World} (h : KpG n G A B) {p : Addr} (hp : p.block < n) (hg : p.block ≠ G) : B.cell? p = A.cell? p := World.cell?_of_block (h.block _ hp hg)
end Go.Proofs.YtjlfgojblimobaaGreat.S12
end

section
namespace Go.Proofs.YtjlfgojblimobaaGreat.S12
open Go.RowKit
set_option maxRecDepth 100000

theorem cisLevel_any (lv : Int) (w : World) : Calls Tryz.prog 79 #[.int .i64 lv] w fun r w' => r = .returned (.bool (decide (0 ≤ lv ∧ lv ≤ 125))) ∧ w = w' := by
  go_enter Tryz.func79, Tryz.ntmps79
  go_wp2_with fail
  all_goals (go_ret; exact ⟨ret_bool (by rw [Bool.eq_iff_iff]; simp; omega), rfl⟩)
theorem cisSide_any (c : Int) (w : World) : Calls Tryz.prog 80 #[.int .i64 c] w fun r w' => r = .returned (.bool (decide (c = 0 ∨ c = 1))) ∧ w = w' := by
  go_enter Tryz.func80, Tryz.ntmps80
  go_wp2_with fail
  all_goals (go_ret; exact ⟨ret_bool (by rw [Bool.eq_iff_iff, decide_eq_true_iff]; simp_all), rfl⟩)
set_option maxHeartbeats 4000000 in
theorem cisNeu_any (c : Int) (w : World) : Calls Tryz.prog 122 #[.int .i64 c] w fun r w' => r = .returned (.bool (decide (M.neu c))) ∧ w = w' := by
  have H := Lib.hid (show M.neu c ↔ (c = 10 ∨ c = 11 ∨ c = 12 ∨ c = 13 ∨ c = 19 ∨ c = 20 ∨ c = 21 ∨ c = 22) from Iff.rfl)
  go_enter Tryz.func122, Tryz.ntmps122
  go_wp2_with fail
  all_goals (go_ret; exact ⟨ret_bool (by rw [Bool.eq_iff_iff, decide_eq_true_iff, H.out]; simp_all), rfl⟩)
def M.sd0 (c : Int) : Int := if c = 0 then 0 else if c = 1 ∨ c = 3 ∨ c = 6 then 1 else 0
def M.isSd (c : Int) : Bool := if c = 0 then true else if c = 1 ∨ c = 3 ∨ c = 6 then true else false
theorem M.sd_is (c : Int) : M.sd2 c = if M.isSd c = true then M.sd0 c else 10 := by
  unfold M.sd2 M.isSd M.sd0
  (repeat' split) <;> simp_all
theorem cside_any (c : Int) (w : World) : Calls Tryz.prog 123 #[.int .i64 c] w fun r w' => r = .returned (.tuple #[.int .i64 (M.sd0 c), .bool (M.isSd c)]) ∧ w = w' := by
  have H := Lib.hid (show M.sd0 c = if c = 0 then 0 else if c = 1 ∨ c = 3 ∨ c = 6 then 1 else 0 from rfl)
  have H2 := Lib.hid (show M.isSd c = if c = 0 then true else if c = 1 ∨ c = 3 ∨ c = 6 then true else false from rfl)
  go_enter Tryz.func123, Tryz.ntmps123
  go_wp2_with fail
  all_goals (go_returns; exact ⟨by rw [H.out, H2.out]; simp_all, rfl⟩)
def M.btw (lv a b : Int) : Int := if M.sd2 a = M.sd2 b ∧ M.sd2 a ≠ 10 then M.sd2 a else M.own lv
theorem cbetween_any (a b lv : Int) (w : World) (h0 : 0 ≤ lv) : Calls Tryz.prog 83 #[.int .i64 a, .int .i64 b, .int .i64 lv] w fun r w' => r = .returned (.int .i64 (M.btw lv a b)) ∧ w = w' := by
  have HA := Lib.hid (cside_any a w)
  have HB := Lib.hid (cside_any b w)
  obtain ⟨R, hR⟩ : ∃ R, M.btw lv a b = R := ⟨_, rfl⟩
  rw [hR]
  have e : (if M.isSd a = true ∧ M.isSd b = true ∧ M.sd0 a = M.sd0 b then M.sd0 a else M.own lv) = R := by
    rw [← hR]
    have := M.sd2_or a
    unfold M.btw
    rw [M.sd_is a, M.sd_is b] at *
    (repeat' split) <;> simp_all
    all_goals (unfold M.sd0 at *; (repeat' split at *) <;> simp_all)
  obtain ⟨x, hx⟩ : ∃ x, M.sd0 a = x := ⟨_, rfl⟩
  obtain ⟨y, hy⟩ : ∃ y, M.sd0 b = y := ⟨_, rfl⟩
  obtain ⟨p, hp⟩ : ∃ x, M.isSd a = x := ⟨_, rfl⟩
  obtain ⟨q, hq⟩ : ∃ y, M.isSd b = y := ⟨_, rfl⟩
  rw [hx, hp] at HA
  rw [hy, hq] at HB
  rw [hx, hy, hp, hq] at e
  have HE := Lib.hid e
  clear hR e hx hy hp hq
  rcases Int.emod_two_eq lv with h2 | h2
  · have HO := Lib.hid (show M.own lv = 0 by unfold M.own; rw [h2]; rfl)
    have hb2 : (lv % 2 == 1) = false := by rw [h2]; rfl
    clear h2
    go_enter Tryz.func83, Tryz.ntmps83
    go_wp2_with fail
    refine HA.out.mono ?_
    rintro r w1 ⟨rfl, rfl⟩
    go_wp2_with fail
    refine HB.out.mono ?_
    rintro r w1 ⟨rfl, rfl⟩
    go_wp2_with fail
    all_goals (go_ret; exact ⟨ret_int (by rw [← HE.out, HO.out]; simp_all), rfl⟩)
  · have HO := Lib.hid (show M.own lv = 1 by unfold M.own; rw [h2]; rfl)
    have hb2 : (lv % 2 == 1) = true := by rw [h2]; rfl
    clear h2
    go_enter Tryz.func83, Tryz.ntmps83
    go_wp2_with fail
    refine HA.out.mono ?_
    rintro r w1 ⟨rfl, rfl⟩
    go_wp2_with fail
    refine HB.out.mono ?_
    rintro r w1 ⟨rfl, rfl⟩
    go_wp2_with fail
    all_goals (go_ret; exact ⟨ret_int (by rw [← HE.out, HO.out]; simp_all), rfl⟩)
theorem csteps_any (c lv : Int) (w : World) (h0 : 0 ≤ lv) (h1 : lv ≤ 125) : Calls Tryz.prog 84 #[.int .i64 c, .int .i64 lv] w fun r w' => r = .returned (.int .i64 (M.rs lv c - lv)) ∧ w = w' := by
  obtain ⟨R, hR⟩ : ∃ R, M.rs lv c - lv = R := ⟨_, rfl⟩
  rw [hR]
  have e : (if c = 0 then lv % 2 else if c = 1 then 1 - lv % 2 else if c = 3 ∨ c = 6 then 2 - lv % 2 else 0) = R := by
    rw [← hR]
    unfold M.rs
    (repeat' split) <;> omega
  have HE := Lib.hid e
  clear hR e
  have m0 : 0 ≤ lv % 2 := by omega
  have m1 : lv % 2 ≤ 1 := by omega
  go_enter Tryz.func84, Tryz.ntmps84
  go_wp2_with fail
  all_goals (go_ret; exact ⟨ret_int (by rw [← HE.out]; simp_all), rfl⟩)
end Go.Proofs.YtjlfgojblimobaaGreat.S12
end
