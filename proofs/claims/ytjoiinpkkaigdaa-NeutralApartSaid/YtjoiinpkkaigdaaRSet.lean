/- The contracts of the document's Settle and Raise. Conditions: the slice reads as a list of classes, at most a thousand long. -/
import Derived.Test.YtjoiinpkkaigdaaRNeu
namespace Go.Proofs.Ytjoiinpkkaigdaa
open Go.RowKit
set_option maxRecDepth 100000

theorem Try.infoCls2 : (Try.prog.info? 23).map (fun i => (i.zero, i.size, i.bytes)) = some (some (.int .i64 0), 1, 8) := by kernel_rfl
theorem Try.infoInt2 : (Try.prog.info? 3).map (fun i => (i.zero, i.size, i.bytes)) = some (some (.int .i64 0), 1, 8) := by kernel_rfl
/-- A row of the callee's own, or the error. -/
def RowOr (ty : TypeId) (ok : Prop) (t : List Int) (w : World) (r : Ending) (w' : World) : Prop :=
  Below w.heap.size w w' ∧
  (ok → ∃ v, r = .returned (.tuple #[v, .int .i64 0]) ∧ w'.ownsRow w.heap.size ty 1 v t.length (t.map (Value.int .i64))) ∧
  (¬ ok → r = .returned (.tuple #[.slice none 0 0, .int .i64 1]))
def M.side01 (f : Int) : Prop := (f != 0) = false ∨ ((f != 0) = true ∧ (f != 1) = false)
theorem M.side_is {f : Int} (h : f = 0 ∨ f = 1) : M.side01 f := by unfold M.side01; rcases h with rfl | rfl <;> decide
set_option maxHeartbeats 8000000 in
theorem refSettle_no (A : Option Addr) (ca n : Nat) (t : List Int) (lv f g : Int) (w : World) (h : ¬ M.setOk lv f g) :
    Calls Try.prog 10 #[.slice A n ca, .agg #[.int .i64 lv, .int .i64 f, .int .i64 g]] w (RowOr 23 (M.setOk lv f g) t w) := by
  obtain ⟨W1, hW1, hb1, e0, e1, e2, -⟩ := new_three w lv f g 25
  have HM := Lib.hid h
  have HB1 := Lib.hid hb1
  have h4 : lv < 0 ∨ (¬ lv < 0 ∧ 125 < lv) ∨ (¬ lv < 0 ∧ ¬ 125 < lv ∧ (f != 0) = true ∧ (f != 1) = true) ∨ (¬ lv < 0 ∧ ¬ 125 < lv ∧ (f != 0) = false ∧ (g != 0) = true ∧ (g != 1) = true) ∨ (¬ lv < 0 ∧ ¬ 125 < lv ∧ (f != 0) = true ∧ (f != 1) = false ∧ (g != 0) = true ∧ (g != 1) = true) := by
    unfold M.setOk at h
    simp only [bne_iff_ne, bne_eq_false_iff_eq]
    omega
  clear h hb1
  rcases h4 with c1 | ⟨c1, c2⟩ | ⟨c1, c2, c3, c4⟩ | ⟨c1, c2, c3, c4, c5⟩ | ⟨c1, c2, c3, c4, c5, c6⟩
  all_goals
    go_enter Try.func10, Try.ntmps10
    go_wp2_with fail
    go_returns
    exact ⟨HB1.out, fun h => absurd h HM.out, fun _ => rfl⟩
set_option maxHeartbeats 16000000 in
theorem refSettle_ok (A : Option Addr) (ca n : Nat) (l : List Int) (lv f g : Int) (w : World) (hr : RdS .i64 w w.heap.size A l) (hn : l.length = n) (hl : n ≤ 1000) (h : M.setOk lv f g) :
    Calls Try.prog 10 #[.slice A n ca, .agg #[.int .i64 lv, .int .i64 f, .int .i64 g]] w (RowOr 23 (M.setOk lv f g) (M.settle lv f g l) w) := by
  obtain ⟨i0, hi, hz0, hz1, hz2⟩ := info_parts Try.infoCls2
  obtain ⟨W1, hW1, hb1, e0, e1, e2, hgt⟩ := new_three w lv f g 25
  have HOK := Lib.hid h
  have HR := Lib.hid ((hr.below hb1).more hb1.size)
  have HN := Lib.hid hn
  have HB1 := Lib.hid hb1
  have HE := Lib.hid (And.intro e0 (And.intro e1 e2))
  have HGT := Lib.hid hgt
  have lv0 : ¬ lv < 0 := by have := h.1; omega
  have lv1 : ¬ 125 < lv := by have := h.1; omega
  have hl1 : (n : Int) ≤ 1000 := by omega
  have hf := M.side_is h.2.1
  have hg := M.side_is h.2.2
  unfold M.side01 at hf hg
  clear hr hn hb1 hgt h
  rcases hf with b1 | ⟨b1, b2⟩ <;> rcases hg with b3 | ⟨b3, b4⟩
  all_goals
    go_enter Try.func10, Try.ntmps10
    go_wp2_with fail
    go_loopw [6, 7] (fun o v wr => ∃ (k : Nat) (O : List Int), v = .int .i64 k ∧ k ≤ n ∧ O.length = k ∧ wr.ownsRow W1.heap.size 23 1 o O.length (O.map (Value.int .i64)) ∧ M.settle lv f g l = O ++ M.sgo (M.own lv) f g (l.take k).reverse (l.drop k) ∧ Below W1.heap.size W1 wr) (fun _ v _ => n - (intOf v).toNat)
    case atStart => exact ⟨0, [], rfl, Nat.zero_le _, rfl, ⟨rfl, .inl ⟨rfl, rfl⟩⟩, rfl, Below.refl _ _⟩
    case round =>
      obtain ⟨k, O, rfl, hk, hO, ho, hw, hb⟩ := hrel
      rename World => wr
      have HB := Lib.hid hb
      have HO := Lib.hid ho
      have HOL := Lib.hid hO
      have k0 : (0 : Int) ≤ k := by omega
      by_cases hlt : k < n
      · have k1 : (k : Int) < n := by omega
        obtain ⟨ad, c, rfl, hcc, hc, -⟩ := rd_at HR.out hb (by rw [HN.out]; exact hlt : k < l.length)
        have hbs := hb.size
        have hw1 : M.settle lv f g l = (O ++ [if M.neu c then M.nat (M.own lv) f g (l.take k).reverse (l.drop (k + 1)) else c]) ++ M.sgo (M.own lv) f g (l.take (k + 1)).reverse (l.drop (k + 1)) := by
          rw [hw, M.drop_next' hc, M.sgo_cons, M.take_next' hc]
          simp
        have HNE := Lib.hid (refNeu_any c wr)
        by_cases hne : M.neu c
        · rw [if_pos hne] at hw1
          rw [decide_eq_true hne] at HNE
          have d0 := (hb.cell (p := ⟨w.heap.size, 0, none⟩) HGT.out).trans HE.out.1
          have d1 := (hb.cell (p := ⟨w.heap.size, 1, none⟩) HGT.out).trans HE.out.2.1
          have d2 := (hb.cell (p := ⟨w.heap.size, 2, none⟩) HGT.out).trans HE.out.2.2
          have hC := refAt_any (some ad) ca n k l lv f g wr ((HR.out.below hb).more hbs) HN.out hl (by omega) ⟨c, hc, hne⟩
          obtain ⟨x, hx⟩ : ∃ x, M.nat (M.own lv) f g (l.take k).reverse (l.drop (k + 1)) = x := ⟨_, rfl⟩
          rw [hx] at hC hw1
          have HC := Lib.hid hC
          have HW2 := Lib.hid hw1
          clear hb ho hO hw hc hC hx hw1 hne
          go_wp2_with fail
          refine HNE.out.mono ?_
          rintro r w1 ⟨rfl, rfl⟩
          go_wp2_with fail
          refine HC.out.mono ?_
          rintro r w2 ⟨rfl, hb2⟩
          have HB2 := Lib.hid (HB.out.trans (hb2.mono hbs))
          have HO2 := Lib.hid (own_below HO.out hb2)
          rw [HOL.out] at HO2
          have hbs2 := HB2.out.size
          clear hb2 d0 d1 d2
          go_wp2_with (at_builtin; refine wpList_append_own _ rfl _ _ 22 rfl W1.heap.size 23 i0 (.int .i64 0) 1 8 Try.underlying22 hi hz0 hz1 hz2 rfl (by decide) _ _ _ rfl (World.ownsRow.alloc HO2.out _) ⟨w2.heap.size, 0, none⟩ 1 1 [.int .i64 x] rfl rfl (one_new _ _ _) one_cell (by unfold maxLen; omega) (by omega) (by simp; omega) ?_)
          intro v4 w4 ho4 hg4 _
          have hb4 : Below W1.heap.size W1 w4 := grow_below0 (HB2.out.alloc hbs2 _) (World.ownsRow.alloc HO2.out _) hg4 (by simp; omega)
          have HB4 := Lib.hid hb4
          have hlen : (O ++ [x]).length = k + 1 := by rw [List.length_append, HOL.out]; rfl
          have hmap : O.map (Value.int .i64) ++ [Value.int .i64 x] = (O ++ [x]).map (Value.int .i64) := by rw [List.map_append]; rfl
          rw [hmap] at ho4
          have HO4 := Lib.hid ho4
          have HLEN := Lib.hid hlen
          clear ho4 hg4 hb4 hlen hmap
          go_wp2_with fail
          go_roundw
          case rel => exact ⟨k + 1, O ++ [x], by go_num, by omega, HLEN.out, by rw [HLEN.out]; exact HO4.out, HW2.out, HB4.out⟩
          case measure => simp [intOf]; omega
        · rw [if_neg hne] at hw1
          rw [decide_eq_false hne] at HNE
          have HW2 := Lib.hid hw1
          have ho' := ho
          rw [hO] at ho'
          have HO2 := Lib.hid ho'
          clear hb ho hO hw hc hw1 hne ho'
          go_wp2_with fail
          refine HNE.out.mono ?_
          rintro r w1 ⟨rfl, rfl⟩
          go_wp2_with (at_builtin; refine wpList_append_own _ rfl _ _ 22 rfl W1.heap.size 23 i0 (.int .i64 0) 1 8 Try.underlying22 hi hz0 hz1 hz2 rfl (by decide) _ _ _ rfl (World.ownsRow.alloc HO2.out _) ⟨wr.heap.size, 0, none⟩ 1 1 [.int .i64 c] rfl rfl (one_new _ _ _) one_cell (by unfold maxLen; omega) (by omega) (by simp; omega) ?_)
          intro v4 w4 ho4 hg4 _
          have hb4 : Below W1.heap.size W1 w4 := grow_below0 (HB.out.alloc hbs _) (World.ownsRow.alloc HO2.out _) hg4 (by simp; omega)
          have HB4 := Lib.hid hb4
          have hlen : (O ++ [c]).length = k + 1 := by rw [List.length_append, HOL.out]; rfl
          have hmap : O.map (Value.int .i64) ++ [Value.int .i64 c] = (O ++ [c]).map (Value.int .i64) := by rw [List.map_append]; rfl
          rw [hmap] at ho4
          have HO4 := Lib.hid ho4
          have HLEN := Lib.hid hlen
          clear ho4 hg4 hb4 hlen hmap hcc
          go_wp2_with fail
          go_roundw
          case rel => exact ⟨k + 1, O ++ [c], by go_num, by omega, HLEN.out, by rw [HLEN.out]; exact HO4.out, HW2.out, HB4.out⟩
          case measure => simp [intOf]; omega
      · obtain rfl : n = k := by omega
        have k1 : ¬ (n : Int) < (n : Int) := by omega
        have he : M.settle lv f g l = O := by
          rw [hw, List.drop_eq_nil_of_le (by rw [HN.out]; exact Nat.le_refl _)]
          exact List.append_nil _
        have HEQ := Lib.hid he
        have HBX := Lib.hid (HB1.out.trans (hb.mono HB1.out.size))
        clear hb ho hO hw he
        go_wp2_with fail
        go_returns
        refine ⟨HBX.out, fun _ => ⟨_, rfl, ?_⟩, fun h => absurd HOK.out h⟩
        rw [HEQ.out]
        exact own_base HO.out HB1.out.size
theorem refSettle_any (A : Option Addr) (ca n : Nat) (l : List Int) (lv f g : Int) (w : World) (hr : RdS .i64 w w.heap.size A l) (hn : l.length = n) (hl : n ≤ 1000) :
    Calls Try.prog 10 #[.slice A n ca, .agg #[.int .i64 lv, .int .i64 f, .int .i64 g]] w (RowOr 23 (M.setOk lv f g) (M.settle lv f g l) w) := by
  by_cases h : M.setOk lv f g
  · exact refSettle_ok A ca n l lv f g w hr hn hl h
  · exact refSettle_no A ca n _ lv f g w h
end Go.Proofs.Ytjoiinpkkaigdaa
