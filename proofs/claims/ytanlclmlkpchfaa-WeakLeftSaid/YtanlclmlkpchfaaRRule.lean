/- The contracts of the document's Rule and All. Conditions: the slice reads as a list of classes, at most a thousand long. -/
import Derived.Test.YtanlclmlkpchfaaRAt
import Derived.Handy
namespace Go.Proofs.Ytanlclmlkpchfaa
open Go.RowKit
set_option maxRecDepth 100000

theorem Try.infoCls : (Try.prog.info? 23).map (fun i => (i.zero, i.size, i.bytes)) = some (some (.int .i64 0), 1, 8) := by kernel_rfl
/-- What a rule, or all, hand back: a row of the callee's own, or the error. -/
def RuleOut (ok : Prop) (t : List Int) (w : World) (r : Ending) (w' : World) : Prop :=
  Below w.heap.size w w' ∧
  (ok → ∃ v, r = .returned (.tuple #[v, .int .i64 0]) ∧ w'.ownsRow w.heap.size 23 1 v t.length (t.map (Value.int .i64))) ∧
  (¬ ok → r = .returned (.tuple #[.slice none 0 0, .int .i64 1]))
def M.may (n f : Int) : Prop := (1 ≤ n ∧ n ≤ 7) ∧ (f = 0 ∨ f = 1)
set_option maxHeartbeats 4000000 in
theorem refRule_no (A : Option Addr) (ca n : Nat) (nn f : Int) (l : List Int) (w : World) (h : ¬ M.may nn f) :
    Calls Try.prog 9 #[.int .i64 nn, .slice A n ca, .int .i64 f] w (RuleOut (M.may nn f) (M.wrule nn f l) w) := by
  have HM := Lib.hid h
  have hf : 1 ≤ nn → nn ≤ 7 → ¬ (f = 0 ∨ f = 1) := fun h1 h7 hf => h ⟨⟨h1, h7⟩, hf⟩
  clear h
  by_cases h1 : nn < 1
  · clear hf
    go_enter Try.func9, Try.ntmps9
    go_wp2_with fail
    go_returns
    exact ⟨Below.refl _ _, fun h => absurd h HM.out, fun _ => rfl⟩
  · by_cases h7 : 7 < nn
    · clear hf
      go_enter Try.func9, Try.ntmps9
      go_wp2_with fail
      go_returns
      exact ⟨Below.refl _ _, fun h => absurd h HM.out, fun _ => rfl⟩
    · have hf := hf (by omega) (by omega)
      have b0 : (f != 0) = true := by simp; omega
      have b1 : (f != 1) = true := by simp; omega
      clear hf
      go_enter Try.func9, Try.ntmps9
      go_wp2_with fail
      go_returns
      exact ⟨Below.refl _ _, fun h => absurd h HM.out, fun _ => rfl⟩
set_option maxHeartbeats 8000000 in
theorem refRule_ok (A : Option Addr) (ca n : Nat) (nn f : Int) (l : List Int) (w : World) (hr : RdS .i64 w w.heap.size A l) (hn : l.length = n) (hl : n ≤ 1000) (h : M.may nn f) :
    Calls Try.prog 9 #[.int .i64 nn, .slice A n ca, .int .i64 f] w (RuleOut (M.may nn f) (M.wrule nn f l) w) := by
  obtain ⟨i0, hi, hz0, hz1, hz2⟩ := info_parts Try.infoCls
  have HM := Lib.hid h
  have HR := Lib.hid hr
  have HN := Lib.hid hn
  have hl1 : (n : Int) ≤ 1000 := by omega
  have hn1 : ¬ nn < 1 := by have := h.1; omega
  have hn7 : ¬ 7 < nn := by have := h.1; omega
  have hf : f = 0 ∨ f = 1 := h.2
  clear hr hn h
  rcases hf with rfl | rfl
  · obtain ⟨f, hff⟩ : ∃ f : Int, f = 0 := ⟨_, rfl⟩
    have b0 : (f != 0) = false := by rw [hff]; rfl
    have b1 : (f != 1) = true := by rw [hff]; rfl
    rw [← hff] at HM ⊢
    clear hff
    go_enter Try.func9, Try.ntmps9
    go_wp2_with fail
    go_loopw [8, 9] (fun o v wr => ∃ (k : Nat) (O : List Int), v = .int .i64 k ∧ k ≤ n ∧ O.length = k ∧ wr.ownsRow w.heap.size 23 1 o O.length (O.map (Value.int .i64)) ∧ M.wrule nn f l = O ++ M.wgo nn f (l.take k).reverse O.reverse (l.drop k) ∧ Below w.heap.size w wr) (fun _ v _ => n - (intOf v).toNat)
    case atStart => exact ⟨0, [], rfl, Nat.zero_le _, rfl, ⟨rfl, .inl ⟨rfl, rfl⟩⟩, rfl, Below.refl _ _⟩
    case round =>
      obtain ⟨k, O, rfl, hk, hO, ho, hw, hb⟩ := hrel
      have HB := Lib.hid hb
      have HO := Lib.hid ho
      have HOL := Lib.hid hO
      have HW := Lib.hid hw
      have k0 : (0 : Int) ≤ k := by omega
      obtain ⟨B, cB, rfl, hrO, -, -, -⟩ := reads_own ho
      by_cases hlt : k < n
      · have k1 : (k : Int) < n := by omega
        obtain ⟨c, hc⟩ : ∃ c, l[k]? = some c := ⟨_, List.getElem?_eq_getElem (by rw [HN.out]; exact hlt)⟩
        obtain ⟨x, hx⟩ : ∃ x, M.wat nn f (l.take k).reverse O.reverse c (l.drop (k + 1)) = x := ⟨_, rfl⟩
        have hC := refAt_any A B ca cB n k l O c nn f wr ((HR.out.below hb).more hb.size) HN.out hl hrO hO hc
        rw [hx] at hC
        have HC := Lib.hid hC
        have hw2 : M.wrule nn f l = (O ++ [x]) ++ M.wgo nn f (l.take (k + 1)).reverse (O ++ [x]).reverse (l.drop (k + 1)) := by
          rw [hw, M.drop_next' hc, M.wgo_cons, M.take_next' hc, List.reverse_append, hx]
          simp
        have HW2 := Lib.hid hw2
        have hbs := hb.size
        have hO1 := hO
        rw [hO]
        clear hb ho hO hw hrO hc hx hC hw2
        go_wp2_with fail
        refine HC.out.mono ?_
        rintro r w2 ⟨rfl, rfl⟩
        go_wp2_with (at_builtin; refine wpList_append_own _ rfl _ _ 22 rfl w.heap.size 23 i0 (.int .i64 0) 1 8 Try.underlying22 hi hz0 hz1 hz2 rfl (by decide) _ _ _ rfl (World.ownsRow.alloc (HOL.out ▸ HO.out) _) ⟨wr.heap.size, 0, none⟩ 1 1 [.int .i64 x] rfl rfl (one_new _ _ _) one_cell (by unfold maxLen; omega) (by omega) (by simp; omega) ?_)
        intro v4 w4 ho4 hg4 _
        have hb4 : Below w.heap.size w w4 := grow_below0 (HB.out.alloc hbs _) (World.ownsRow.alloc (HOL.out ▸ HO.out) _) hg4 (by simp; omega)
        have HB4 := Lib.hid hb4
        have hlen : (O ++ [x]).length = k + 1 := by rw [List.length_append, hO1]; rfl
        have hmap : O.map (Value.int .i64) ++ [Value.int .i64 x] = (O ++ [x]).map (Value.int .i64) := by rw [List.map_append]; rfl
        rw [hmap] at ho4
        have HO4 := Lib.hid ho4
        have HLEN := Lib.hid hlen
        clear ho4 hg4 hb4 hlen hmap hO1
        go_wp2_with fail
        go_roundw
        case rel => exact ⟨k + 1, O ++ [x], by go_num, by omega, HLEN.out, by rw [HLEN.out]; exact HO4.out, HW2.out, HB4.out⟩
        case measure => simp [intOf]; omega
      · obtain rfl : k = n := by omega
        have k1 : ¬ (k : Int) < (k : Int) := by omega
        have he : M.wrule nn f l = O := by
          rw [hw, List.drop_eq_nil_of_le (by rw [HN.out]; exact Nat.le_refl _)]
          exact List.append_nil _
        have HE := Lib.hid he
        clear hb ho hO hw hrO he
        go_wp2_with fail
        go_returns
        refine ⟨HB.out, fun _ => ⟨_, rfl, ?_⟩, fun h => absurd HM.out h⟩
        rw [HE.out]
        exact HO.out
  · obtain ⟨f, hff⟩ : ∃ f : Int, f = 1 := ⟨_, rfl⟩
    have b0 : (f != 0) = true := by rw [hff]; rfl
    have b1 : (f != 1) = false := by rw [hff]; rfl
    rw [← hff] at HM ⊢
    clear hff
    go_enter Try.func9, Try.ntmps9
    go_wp2_with fail
    go_loopw [8, 9] (fun o v wr => ∃ (k : Nat) (O : List Int), v = .int .i64 k ∧ k ≤ n ∧ O.length = k ∧ wr.ownsRow w.heap.size 23 1 o O.length (O.map (Value.int .i64)) ∧ M.wrule nn f l = O ++ M.wgo nn f (l.take k).reverse O.reverse (l.drop k) ∧ Below w.heap.size w wr) (fun _ v _ => n - (intOf v).toNat)
    case atStart => exact ⟨0, [], rfl, Nat.zero_le _, rfl, ⟨rfl, .inl ⟨rfl, rfl⟩⟩, rfl, Below.refl _ _⟩
    case round =>
      obtain ⟨k, O, rfl, hk, hO, ho, hw, hb⟩ := hrel
      have HB := Lib.hid hb
      have HO := Lib.hid ho
      have HOL := Lib.hid hO
      have HW := Lib.hid hw
      have k0 : (0 : Int) ≤ k := by omega
      obtain ⟨B, cB, rfl, hrO, -, -, -⟩ := reads_own ho
      by_cases hlt : k < n
      · have k1 : (k : Int) < n := by omega
        obtain ⟨c, hc⟩ : ∃ c, l[k]? = some c := ⟨_, List.getElem?_eq_getElem (by rw [HN.out]; exact hlt)⟩
        obtain ⟨x, hx⟩ : ∃ x, M.wat nn f (l.take k).reverse O.reverse c (l.drop (k + 1)) = x := ⟨_, rfl⟩
        have hC := refAt_any A B ca cB n k l O c nn f wr ((HR.out.below hb).more hb.size) HN.out hl hrO hO hc
        rw [hx] at hC
        have HC := Lib.hid hC
        have hw2 : M.wrule nn f l = (O ++ [x]) ++ M.wgo nn f (l.take (k + 1)).reverse (O ++ [x]).reverse (l.drop (k + 1)) := by
          rw [hw, M.drop_next' hc, M.wgo_cons, M.take_next' hc, List.reverse_append, hx]
          simp
        have HW2 := Lib.hid hw2
        have hbs := hb.size
        have hO1 := hO
        rw [hO]
        clear hb ho hO hw hrO hc hx hC hw2
        go_wp2_with fail
        refine HC.out.mono ?_
        rintro r w2 ⟨rfl, rfl⟩
        go_wp2_with (at_builtin; refine wpList_append_own _ rfl _ _ 22 rfl w.heap.size 23 i0 (.int .i64 0) 1 8 Try.underlying22 hi hz0 hz1 hz2 rfl (by decide) _ _ _ rfl (World.ownsRow.alloc (HOL.out ▸ HO.out) _) ⟨wr.heap.size, 0, none⟩ 1 1 [.int .i64 x] rfl rfl (one_new _ _ _) one_cell (by unfold maxLen; omega) (by omega) (by simp; omega) ?_)
        intro v4 w4 ho4 hg4 _
        have hb4 : Below w.heap.size w w4 := grow_below0 (HB.out.alloc hbs _) (World.ownsRow.alloc (HOL.out ▸ HO.out) _) hg4 (by simp; omega)
        have HB4 := Lib.hid hb4
        have hlen : (O ++ [x]).length = k + 1 := by rw [List.length_append, hO1]; rfl
        have hmap : O.map (Value.int .i64) ++ [Value.int .i64 x] = (O ++ [x]).map (Value.int .i64) := by rw [List.map_append]; rfl
        rw [hmap] at ho4
        have HO4 := Lib.hid ho4
        have HLEN := Lib.hid hlen
        clear ho4 hg4 hb4 hlen hmap hO1
        go_wp2_with fail
        go_roundw
        case rel => exact ⟨k + 1, O ++ [x], by go_num, by omega, HLEN.out, by rw [HLEN.out]; exact HO4.out, HW2.out, HB4.out⟩
        case measure => simp [intOf]; omega
      · obtain rfl : k = n := by omega
        have k1 : ¬ (k : Int) < (k : Int) := by omega
        have he : M.wrule nn f l = O := by
          rw [hw, List.drop_eq_nil_of_le (by rw [HN.out]; exact Nat.le_refl _)]
          exact List.append_nil _
        have HE := Lib.hid he
        clear hb ho hO hw hrO he
        go_wp2_with fail
        go_returns
        refine ⟨HB.out, fun _ => ⟨_, rfl, ?_⟩, fun h => absurd HM.out h⟩
        rw [HE.out]
        exact HO.out
theorem refRule_any (A : Option Addr) (ca n : Nat) (nn f : Int) (l : List Int) (w : World) (hr : RdS .i64 w w.heap.size A l) (hn : l.length = n) (hl : n ≤ 1000) :
    Calls Try.prog 9 #[.int .i64 nn, .slice A n ca, .int .i64 f] w (RuleOut (M.may nn f) (M.wrule nn f l) w) := by
  by_cases h : M.may nn f
  · exact refRule_ok A ca n nn f l w hr hn hl h
  · exact refRule_no A ca n nn f l w h
end Go.Proofs.Ytanlclmlkpchfaa
