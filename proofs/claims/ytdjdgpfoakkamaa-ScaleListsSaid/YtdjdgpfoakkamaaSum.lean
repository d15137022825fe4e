/- The code's Sum, the document's, and the document's Same at two that are alike, over the translation. Conditions: the slices read as lists of words, at most sixty of them. -/
import Derived.Test.YtdjdgpfoakkamaaReads
import Derived.Test.YtdjdgpfoakkamaaCellsWalk
import Derived.Test.YtdjdgpfoakkamaaRow
import Derived.Lib.QuietBelow
import Derived.Deep.QuietTactic
import Derived.BigQuiet
namespace Go.Proofs.Ytdjdgpfoakkamaa
open Go.RowKit

/-- All cells of a list, or none. -/
def M.sumI (l : List Int) : Option Int := l.foldl (fun a x => a.bind fun s => (M.cellsI x).map fun k => s + k) (some 0)
theorem M.sum_none (l : List Int) : l.foldl (fun a x => a.bind fun s => (M.cellsI x).map fun k => s + k) (none : Option Int) = none := by
  induction l with
  | nil => rfl
  | cons x r ih => rw [List.foldl_cons]; exact ih
theorem M.sum_snoc (l : List Int) (x : Int) : M.sumI (l ++ [x]) = (M.sumI l).bind fun s => (M.cellsI x).map fun k => s + k := by
  unfold M.sumI
  rw [List.foldl_append]
  rfl
theorem M.sum_stop {l : List Int} {k : Nat} (h : M.sumI (l.take k) = none) : M.sumI l = none := by
  unfold M.sumI at h ⊢
  rw [← List.take_append_drop k l, List.foldl_append, h, M.sum_none]
theorem M.sum_from (l : List Int) (hw : M.Wd l) : ∀ s a : Int, l.foldl (fun a x => a.bind fun s => (M.cellsI x).map fun k => s + k) (some s) = some a → s ≤ a ∧ a ≤ s + 64 * l.length := by
  induction l with
  | nil => intro s a h; cases h; simp
  | cons x r ih =>
    intro s a h
    rw [List.foldl_cons] at h
    cases hc : M.cellsI x with
    | none =>
      have e : ((some s : Option Int).bind fun s => (M.cellsI x).map fun k => s + k) = none := by rw [hc]; rfl
      rw [e, M.sum_none] at h
      cases h
    | some k =>
      have e : ((some s : Option Int).bind fun s => (M.cellsI x).map fun k => s + k) = some (s + k) := by rw [hc]; rfl
      rw [e] at h
      have h1 := ih (fun y hy => hw y (by simp [hy])) _ _ h
      have hx := hw x (by simp)
      obtain ⟨g0, g1, _⟩ := cells_least hx.1 hx.2 hc
      simp only [List.length_cons]
      omega
theorem M.sum_in {l : List Int} (hw : M.Wd l) {a : Int} (h : M.sumI l = some a) : 0 ≤ a ∧ a ≤ 64 * l.length := by
  have := M.sum_from l hw 0 a h
  omega

theorem rd_at {w w' : World} {n k : Nat} {A : Option Addr} {l : List Int} (h : RdS .u64 w n A l) (hb : Below n w w') (hk : k < l.length) : ∃ ad x, A = some ad ∧ w'.cell? (ad.add k) = some (.int .u64 x) ∧ l[k]? = some x ∧ ad.block < n := by
  obtain ⟨x, hx⟩ : ∃ x, l[k]? = some x := ⟨_, List.getElem?_eq_getElem hk⟩
  obtain ⟨ad, hA, hB, hc⟩ := (h.below hb) k x hx
  exact ⟨ad, x, hA, hc, hx, hB⟩

set_option maxHeartbeats 2000000 in
theorem sum_any (A : Option Addr) (ca : Nat) (l : List Int) (w : World) (hr : RdS .u64 w w.heap.size A l) (hw : M.Wd l) (hl : l.length ≤ 60) :
    Calls Try.prog 17 #[.slice A l.length ca] w fun r w' => r = .returned (M.cellsV (M.sumI l)) ∧ Below w.heap.size w w' := by
  have HR := Lib.hid hr
  have HW := Lib.hid hw
  have hl1 : (l.length : Int) ≤ 60 := by omega
  obtain ⟨n, hn⟩ : ∃ n, l.length = n := ⟨_, rfl⟩
  rw [hn] at hl1 hl ⊢
  have HN := Lib.hid hn
  obtain ⟨ans, hans⟩ : ∃ ans, M.cellsV (M.sumI l) = ans := ⟨_, rfl⟩
  rw [hans]
  have HANS := Lib.hid hans
  clear hr hw hn hans
  go_enter Try.func17, Try.ntmps17
  go_wp2_with fail
  go_loopw [4, 11] (fun s i wr => ∃ (k : Nat) (a : Int), s = .int .i64 a ∧ i = .int .i64 k ∧ k ≤ n ∧ M.sumI (l.take k) = some a ∧ Below w.heap.size w wr) (fun _ i _ => n - (intOf i).toNat)
  case atStart => exact ⟨0, 0, rfl, rfl, Nat.zero_le _, rfl, Below.refl _ _⟩
  case round =>
    obtain ⟨k, a, rfl, rfl, hk, hs, hb⟩ := hrel
    have hn := HN.out
    by_cases hlt : k < n
    · obtain ⟨ad, x, rfl, hcx, hx, hab⟩ := rd_at HR.out hb (by omega : k < l.length)
      have hxw := HW.out x (List.mem_of_getElem? hx)
      have C0 := cells_at x wr hxw.1 hxw.2
      have hnext : M.sumI (l.take (k + 1)) = (M.cellsI x).map fun j => a + j := by
        rw [List.take_succ_eq_append_getElem (by omega), M.sum_snoc, hs]
        obtain ⟨h1, h2⟩ := List.getElem?_eq_some_iff.1 hx
        rw [h2]
        rfl
      have hin := M.sum_in (l := l.take k) (fun y hy => HW.out y (List.mem_of_mem_take hy)) hs
      have a0 : 0 ≤ a := hin.1
      have a1 : a ≤ 3840 := by have := hin.2; rw [List.length_take] at this; omega
      have HB := Lib.hid hb
      have k0 : (0 : Int) ≤ k := by omega
      have k1 : (k : Int) < n := by omega
      cases hc : M.cellsI x with
      | none =>
        rw [hc] at C0 hnext
        simp only [M.cellsV] at C0
        have HC := Lib.hid C0
        have HF := Lib.hid (M.sum_stop hnext)
        clear hs hb hx hab C0 hnext hc hin hxw hlt hk hn
        go_wp2_with fail
        refine HC.out.mono ?_
        rintro r w2 ⟨rfl, rfl⟩
        go_wp2_with fail
        go_ret2
        exact ⟨by rw [← HANS.out, HF.out]; rfl, HB.out⟩
      | some j =>
        obtain ⟨j0, j1, _⟩ := cells_least hxw.1 hxw.2 hc
        rw [hc] at C0 hnext
        simp only [M.cellsV] at C0
        have HC := Lib.hid C0
        have HF := Lib.hid hnext
        clear hs hb hx hab C0 hnext hc hin hxw hk hn
        go_wp2_with fail
        refine HC.out.mono ?_
        rintro r w2 ⟨rfl, rfl⟩
        go_wp2_with fail
        go_roundw
        case rel => exact ⟨k + 1, a + j, by go_num, by go_num, by omega, HF.out, HB.out⟩
        case measure => simp [intOf]; omega
    · obtain rfl : k = n := by omega
      have hin := M.sum_in (l := l.take k) (fun y hy => HW.out y (List.mem_of_mem_take hy)) hs
      have HF := Lib.hid (show M.sumI l = some a by rw [← hs, List.take_of_length_le (by omega)])
      have HB := Lib.hid hb
      clear hs hb hin hn
      go_wp2_with fail
      go_ret2
      exact ⟨by rw [← HANS.out, HF.out]; rfl, HB.out⟩

set_option maxHeartbeats 2000000 in
theorem refSum_any (A : Option Addr) (ca : Nat) (l : List Int) (w : World) (hr : RdS .u64 w w.heap.size A l) (hw : M.Wd l) (hl : l.length ≤ 60) :
    Calls Try.prog 18 #[.slice A l.length ca] w fun r w' => r = .returned (M.cellsV (M.sumI l)) ∧ Below w.heap.size w w' := by
  have HR := Lib.hid hr
  have HW := Lib.hid hw
  have hl1 : (l.length : Int) ≤ 60 := by omega
  obtain ⟨n, hn⟩ : ∃ n, l.length = n := ⟨_, rfl⟩
  rw [hn] at hl1 hl ⊢
  have HN := Lib.hid hn
  obtain ⟨ans, hans⟩ : ∃ ans, M.cellsV (M.sumI l) = ans := ⟨_, rfl⟩
  rw [hans]
  have HANS := Lib.hid hans
  clear hr hw hn hans
  go_enter Try.func18, Try.ntmps18
  go_wp2_with fail
  go_loopw [4, 5] (fun s i wr => ∃ (k : Nat) (a : Int), s = .int .i64 a ∧ i = .int .i64 k ∧ k ≤ n ∧ M.sumI (l.take k) = some a ∧ Below w.heap.size w wr) (fun _ i _ => n - (intOf i).toNat)
  case atStart => exact ⟨0, 0, rfl, rfl, Nat.zero_le _, rfl, Below.refl _ _⟩
  case round =>
    obtain ⟨k, a, rfl, rfl, hk, hs, hb⟩ := hrel
    have hn := HN.out
    by_cases hlt : k < n
    · obtain ⟨ad, x, rfl, hcx, hx, hab⟩ := rd_at HR.out hb (by omega : k < l.length)
      have hxw := HW.out x (List.mem_of_getElem? hx)
      have C0 := refCells_any x wr hxw.1 hxw.2
      have hnext : M.sumI (l.take (k + 1)) = (M.cellsI x).map fun j => a + j := by
        rw [List.take_succ_eq_append_getElem (by omega), M.sum_snoc, hs]
        obtain ⟨h1, h2⟩ := List.getElem?_eq_some_iff.1 hx
        rw [h2]
        rfl
      have hin := M.sum_in (l := l.take k) (fun y hy => HW.out y (List.mem_of_mem_take hy)) hs
      have a0 : 0 ≤ a := hin.1
      have a1 : a ≤ 3840 := by have := hin.2; rw [List.length_take] at this; omega
      have HB := Lib.hid hb
      have k0 : (0 : Int) ≤ k := by omega
      have k1 : (k : Int) < n := by omega
      cases hc : M.cellsI x with
      | none =>
        rw [hc] at C0 hnext
        simp only [M.cellsV] at C0
        have HC := Lib.hid C0
        have HF := Lib.hid (M.sum_stop hnext)
        clear hs hb hx hab C0 hnext hc hin hxw hlt hk hn
        go_wp2_with fail
        refine HC.out.mono ?_
        rintro r w2 ⟨rfl, rfl⟩
        go_wp2_with fail
        go_ret2
        exact ⟨by rw [← HANS.out, HF.out]; rfl, HB.out⟩
      | some j =>
        obtain ⟨j0, j1, _⟩ := cells_least hxw.1 hxw.2 hc
        rw [hc] at C0 hnext
        simp only [M.cellsV] at C0
        have HC := Lib.hid C0
        have HF := Lib.hid hnext
        clear hs hb hx hab C0 hnext hc hin hxw hk hn
        go_wp2_with fail
        refine HC.out.mono ?_
        rintro r w2 ⟨rfl, rfl⟩
        go_wp2_with fail
        go_roundw
        case rel => exact ⟨k + 1, a + j, by go_num, by go_num, by omega, HF.out, HB.out⟩
        case measure => simp [intOf]; omega
    · obtain rfl : k = n := by omega
      have hin := M.sum_in (l := l.take k) (fun y hy => HW.out y (List.mem_of_mem_take hy)) hs
      have HF := Lib.hid (show M.sumI l = some a by rw [← hs, List.take_of_length_le (by omega)])
      have HB := Lib.hid hb
      clear hs hb hin hn
      go_wp2_with fail
      go_ret2
      exact ⟨by rw [← HANS.out, HF.out]; rfl, HB.out⟩

set_option maxHeartbeats 2000000 in
theorem same_any (A B : Option Addr) (ca cb n : Nat) (l : List Int) (w : World) (hr : RdS .u64 w w.heap.size A l) (hr2 : RdS .u64 w w.heap.size B l) (hn : l.length = n) (hl : n ≤ 60) :
    Calls Try.prog 19 #[.slice A n ca, .slice B n cb] w fun r w' => r = .returned (.bool true) ∧ Below w.heap.size w w' := by
  have HR := Lib.hid hr
  have HR2 := Lib.hid hr2
  have hl1 : (n : Int) ≤ 60 := by omega
  have HN := Lib.hid hn
  clear hr hr2 hn
  go_enter Try.func19, Try.ntmps19
  go_wp2_with fail
  go_loopw [5] (fun i wr => ∃ (k : Nat), i = .int .i64 k ∧ k ≤ n ∧ Below w.heap.size w wr) (fun i _ => n - (intOf i).toNat)
  case atStart => exact ⟨0, rfl, Nat.zero_le _, Below.refl _ _⟩
  case round =>
    obtain ⟨k, rfl, hk, hb⟩ := hrel
    have HB := Lib.hid hb
    have hn := HN.out
    by_cases hlt : k < n
    · obtain ⟨ad, x, rfl, hcx, hx, hab⟩ := rd_at HR.out hb (by omega : k < l.length)
      obtain ⟨ad2, y, rfl, hcy, hy, hab2⟩ := rd_at HR2.out hb (by omega : k < l.length)
      obtain rfl : x = y := by rw [hx] at hy; injection hy
      have k0 : (0 : Int) ≤ k := by omega
      have k1 : (k : Int) < n := by omega
      have cx := fun d os => cell_regrown hcx d os
      have cy := fun d os => cell_regrown hcy d os
      clear hb hx hy hab hab2 hn hcx hcy
      go_wp2_with fail
      refine wp_region_quiet_below (by kernel_rfl) (by kernel_rfl) ?_
      repeat (go_big_quiet_step (fail))
      refine wpQuiet_nil ?_
      intro _ hw'
      obtain ⟨⟨dq, osq⟩, hw4⟩ := hw'
      subst hw4
      have HB5 := Lib.hid (show Below w.heap.size w (Sort.grow (redrawn wr dq) osq) from HB.out.trans ((below_regrown wr dq osq).mono HB.out.size))
      obtain ⟨W2, hW2⟩ : ∃ W, Sort.grow (redrawn wr dq) osq = W := ⟨_, rfl⟩
      rw [hW2] at HB5
      dsimp only
      rw [hW2]
      clear hW2 cx cy
      go_wp2_with fail
      go_roundw
      case rel => exact ⟨k + 1, by go_num, by omega, HB5.out⟩
      case measure => simp [intOf]; omega
    · clear hb hn
      have k1 : ¬ (k : Int) < n := by omega
      go_wp2_with fail
      go_ret
      exact ⟨rfl, HB.out⟩
end Go.Proofs.Ytdjdgpfoakkamaa
