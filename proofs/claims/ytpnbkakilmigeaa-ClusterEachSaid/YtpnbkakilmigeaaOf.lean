/- The contracts of cluster's closure, of the library's Search over it, and of Of, over the translation. Conditions: the slice reads as a list that rises, at most a thousand long. -/
import Derived.Test.YtpnbkakilmigeaaMathEach
import Derived.RegionTactic
namespace Go.Proofs.Ytpnbkakilmigeaa
open Go.RowKit

theorem belowN {n : Nat} {w W : World} (h : Below n w W) (m : Nat) : Below n w (W.drewN m) := by
  induction m with
  | zero => exact h
  | succ m ih => exact ih.drew
/-- The number of starts that are not behind a place, less one. -/
theorem M.of_search {l : List Int} {i : Int} {s : Nat} (hr : l.Pairwise (· < ·)) (h0 : 0 ≤ i) (hs : s ≤ l.length) (h1 : s = 0 ∨ ∀ x, l[s - 1]? = some x → x ≤ i) (h2 : s = l.length ∨ ∀ x, l[s]? = some x → i < x) : M.ofI l i = (s : Int) - 1 := by
  by_cases hz : s = 0
  · subst hz
    unfold M.ofI
    rw [if_neg (by omega)]
    have all : ∀ m, m ≤ l.length → M.ofAt l i m = -1 := by
      intro m
      induction m with
      | zero => intro _; rfl
      | succ m ih =>
        intro hm
        obtain ⟨y, hy⟩ : ∃ y, l[m]? = some y := ⟨_, List.getElem?_eq_getElem (by omega)⟩
        obtain ⟨z, hz⟩ : ∃ z, l[0]? = some z := ⟨_, List.getElem?_eq_getElem (by omega)⟩
        have hz2 : i < z := by
          rcases h2 with h | h
          · omega
          · exact h z hz
        have : i < y := by
          rcases Nat.eq_zero_or_pos m with rfl | g
          · rw [hz] at hy; injection hy with hy; omega
          · have := M.rise_at hr g hz hy; omega
        show (if l.getD m 0 ≤ i then (m : Int) else M.ofAt l i m) = -1
        rw [List.getD_eq_getElem?_getD, hy]
        show (if y ≤ i then (m : Int) else M.ofAt l i m) = -1
        rw [if_neg (by omega)]
        exact ih (by omega)
    rw [all _ (Nat.le_refl _)]
    rfl
  · obtain ⟨x, hx⟩ : ∃ x, l[s - 1]? = some x := ⟨_, List.getElem?_eq_getElem (by omega)⟩
    have hxi : x ≤ i := by
      rcases h1 with h | h
      · omega
      · exact h x hx
    have := M.of_rise hr h0 hx hxi (fun y hy => by
      rw [show s - 1 + 1 = s by omega] at hy
      rcases h2 with h | h
      · rw [h, List.getElem?_eq_none (Nat.le_refl _)] at hy; cases hy
      · exact h y hy)
    omega

section
variable (A : Option Addr) (ca n : Nat) (l : List Int) (c : Int)
/-- What the closure has of its maker: the slice, and the number. -/
structure Caught (w : World) (B : Nat) (bx bc : Nat) : Prop where
  cx : w.cell? ⟨bx, 0, none⟩ = some (.slice A n ca)
  cc : w.cell? ⟨bc, 0, none⟩ = some (.int .i64 c)
  rd : RdS .i64 w B A l
  len : l.length = n
  lx : bx < B
  lc : bc < B
variable {A ca n l c}
theorem Caught.below {w w' : World} {B bx bc : Nat} (h : Caught A ca n l c w B bx bc) (hb : Below B w w') : Caught A ca n l c w' B bx bc :=
  ⟨(hb.cell (p := ⟨bx, 0, none⟩) h.lx).trans h.cx, (hb.cell (p := ⟨bc, 0, none⟩) h.lc).trans h.cc, h.rd.below hb, h.len, h.lx, h.lc⟩

set_option maxHeartbeats 1000000 in
theorem closure_any (w : World) (B bx bc k : Nat) (x : Int) (h : Caught A ca n l c w B bx bc) (hx : l[k]? = some x) :
    Calls Try.prog 22 #[.int .i64 k, .pointer (some ⟨bx, 0, none⟩), .pointer (some ⟨bc, 0, none⟩)] w fun r w' => r = .returned (.bool (decide (c < x))) ∧ Below w.heap.size w w' := by
  obtain ⟨cx, cc, rd, hn, _, _⟩ := h
  have hlt := (List.getElem?_eq_some_iff.1 hx).1
  obtain ⟨ad, rfl, hab, cv⟩ := rd k x hx
  have hk1 : (0 : Int) ≤ (k : Int) := by omega
  have hk2 : (k : Int) < (n : Int) := by omega
  clear rd hx hab hn hlt
  by_cases hc : c < x
  · have hd : decide (c < x) = true := by rw [decide_eq_true_iff]; exact hc
    rw [hd]
    go_enter Try.func22, Try.ntmps22
    go_wp2
    go_quiet (fail)
    go_wp2
    go_ret
    exact ⟨rfl, belowN (Below.refl _ _) _⟩
  · have hd : decide (c < x) = false := by rw [decide_eq_false_iff_not]; exact hc
    rw [hd]
    go_enter Try.func22, Try.ntmps22
    go_wp2
    go_quiet (fail)
    go_wp2
    go_ret
    exact ⟨rfl, belowN (Below.refl _ _) _⟩

/-- What Search leaves: a place whose number is behind, and the one ahead of it is not. -/
def SearchOut (l : List Int) (c : Int) (w : World) (r : Ending) (w' : World) : Prop :=
  ∃ i : Nat, r = .returned (.int .i64 i) ∧ i ≤ l.length ∧ (i = 0 ∨ ∀ x, l[i - 1]? = some x → x ≤ c) ∧ (i = l.length ∨ ∀ x, l[i]? = some x → c < x) ∧ Below w.heap.size w w'

set_option maxRecDepth 100000 in
set_option maxHeartbeats 2000000 in
theorem search_any (w : World) (bx bc : Nat) (h : Caught A ca n l c w w.heap.size bx bc) (hm : n ≤ 1000) :
    Calls Try.prog 21 #[.int .i64 n, .func (.func 22) #[] #[.pointer (some ⟨bx, 0, none⟩), .pointer (some ⟨bc, 0, none⟩)]] w (SearchOut l c w) := by
  have HC := Lib.hid h
  have HL := Lib.hid h.len
  clear h
  go_enter Try.func21, Try.ntmps21
  go_wp2
  go_loopw [5, 6] (fun u v wr => ∃ i j : Nat, i ≤ j ∧ j ≤ n ∧ u = .int .i64 i ∧ v = .int .i64 j ∧ (i = 0 ∨ ∀ x, l[i - 1]? = some x → x ≤ c) ∧ (j = n ∨ ∀ x, l[j]? = some x → c < x) ∧ Below w.heap.size w wr) (fun u v _ => ((intOf v) - (intOf u)).toNat)
  case atStart => exact ⟨0, n, Nat.zero_le _, Nat.le_refl _, rfl, rfl, .inl rfl, .inl rfl, Below.refl _ _⟩
  case round =>
    obtain ⟨i, j, hij, hj, rfl, rfl, h1, h2, hb⟩ := hrel
    have H1 := Lib.hid h1
    have H2 := Lib.hid h2
    have HB := Lib.hid hb
    have hlen := HL.out
    clear h1 h2 hb
    by_cases hlt : i < j
    · obtain ⟨m, hm1⟩ : ∃ m, (i + j) / 2 = m := ⟨_, rfl⟩
      have hmi : i ≤ m := by omega
      have hmj : m < j := by omega
      have hw : ((i : Int) + (j : Int)) / 2 = (m : Int) := by omega
      obtain ⟨e, he⟩ : ∃ e, l[m]? = some e := ⟨_, List.getElem?_eq_getElem (by omega)⟩
      have HE := Lib.hid he
      have HW := Lib.hid hw
      clear he hm1 hw hlen
      by_cases hc : c < e
      · have HN := Lib.hid (show m = n ∨ ∀ f, l[m]? = some f → c < f from .inr fun f hf => by
          rw [HE.out] at hf
          obtain rfl : e = f := by injection hf
          exact hc)
        have HD := Lib.hid (show decide (c < e) = true by rw [decide_eq_true_iff]; exact hc)
        clear hc
        go_wp2_with fail
        rw [HW.out]
        refine (closure_any wr w.heap.size bx bc m e (HC.out.below HB.out) HE.out).mono ?_
        rintro r w1 ⟨rfl, hb1⟩
        rw [HD.out]
        have HB1 := Lib.hid (HB.out.trans (hb1.mono HB.out.size))
        clear hb1
        go_wp2
        go_roundw
        case rel => exact ⟨i, m, hmi, by omega, rfl, rfl, H1.out, HN.out, HB1.out⟩
        case measure => simp [intOf]; omega
      · have HN := Lib.hid (show m + 1 = 0 ∨ ∀ f, l[m + 1 - 1]? = some f → f ≤ c from .inr fun f hf => by
          rw [Nat.add_sub_cancel, HE.out] at hf
          obtain rfl : e = f := by injection hf
          omega)
        have HD := Lib.hid (show decide (c < e) = false by rw [decide_eq_false_iff_not]; exact hc)
        clear hc
        go_wp2_with fail
        rw [HW.out]
        refine (closure_any wr w.heap.size bx bc m e (HC.out.below HB.out) HE.out).mono ?_
        rintro r w1 ⟨rfl, hb1⟩
        rw [HD.out]
        have HB1 := Lib.hid (HB.out.trans (hb1.mono HB.out.size))
        clear hb1
        go_wp2
        go_roundw
        case rel => exact ⟨m + 1, j, by omega, by omega, by go_num, rfl, HN.out, H2.out, HB1.out⟩
        case measure => simp [intOf]; omega
    · obtain rfl : i = j := by omega
      clear hlen
      go_wp2
      go_ret
      exact ⟨i, rfl, by rw [HL.out]; exact hj, H1.out, by rw [HL.out]; exact H2.out, HB.out⟩

set_option maxHeartbeats 2000000 in
theorem of_any (w : World) (i : Int) (hr : RdS .i64 w w.heap.size A l) (hn : l.length = n) (hl : n ≤ 1000) (hup : l.Pairwise (· < ·)) :
    Calls Try.prog 13 #[.slice A n ca, .int .i64 i] w fun r w' => r = .returned (.int .i64 (M.ofI l i)) ∧ Below w.heap.size w w' := by
  by_cases h0 : i < 0
  · have hneg : M.ofI l i = -1 := by unfold M.ofI; rw [if_pos h0]
    rw [hneg]
    clear hneg hr hn hup
    go_enter Try.func13, Try.ntmps13
    go_wp2
    go_ret
    exact ⟨rfl, ((Below.refl _ _).alloc (Nat.le_refl _) _).alloc (by simp) _⟩
  · obtain ⟨W, hW⟩ : ∃ W, (w.alloc (.cells #[.slice A n ca] 24)).alloc (.cells #[.int .i64 i] 3) = W := ⟨_, rfl⟩
    have hb : Below w.heap.size w W := by rw [← hW]; exact ((Below.refl _ _).alloc (Nat.le_refl _) _).alloc (by simp) _
    have hsz : W.heap.size = w.heap.size + 2 := by rw [← hW]; simp
    have hcx : W.cell? ⟨w.heap.size, 0, none⟩ = some (.slice A n ca) := by rw [← hW]; simp [go_sem]
    have hcc : W.cell? ⟨w.heap.size + 1, 0, none⟩ = some (.int .i64 i) := by rw [← hW]; simp [go_sem]
    have HC := Lib.hid (show Caught A ca n l i W W.heap.size w.heap.size (w.heap.size + 1) from ⟨hcx, hcc, (hr.below hb).more (by omega), hn, by omega, by omega⟩)
    have HB := Lib.hid hb
    have HW := Lib.hid hW
    have HN := Lib.hid hn
    have HUP := Lib.hid hup
    clear hr hb hcc hW hn hup
    have h0' : decide (i < 0) = false := decide_eq_false h0
    clear hcx hsz
    go_enter Try.func13, Try.ntmps13
    go_wp2_with fail
    rw [HW.out]
    refine (search_any W w.heap.size (w.heap.size + 1) HC.out hl).mono ?_
    rintro r w1 ⟨s, rfl, hs, h1, h2, hb1⟩
    have HRES := Lib.hid (M.of_search HUP.out (by omega) hs h1 h2)
    have hs1 : (s : Int) ≤ 1000 := by have := HN.out; omega
    have hs0 : (0 : Int) ≤ s := by omega
    have HB1 := Lib.hid (HB.out.trans (hb1.mono HB.out.size))
    clear hs h1 h2 hb1
    go_wp2_with fail
    go_ret
    exact ⟨by rw [HRES.out]; rfl, HB1.out⟩
end
end Go.Proofs.Ytpnbkakilmigeaa
