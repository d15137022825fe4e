/- A row of words in a block of its own: what it holds, and two of its words exchanged. And the library's exchange of two stretches, and its rotation, over the translation. Conditions: the stretches lie within the row and apart. -/
import Derived.Test.YtdjdgpfoakkamaaStab
import Derived.RegionTactic
namespace Go.Proofs.Ytdjdgpfoakkamaa
open Go.RowKit

/-- The block g begins with the words l, none of them frozen. -/
structure Row (w : World) (g : Nat) (l : List Int) : Prop where
  b : g < w.heap.size
  c : ∀ j x, l[j]? = some x → w.cell? ⟨g, j, none⟩ = some (.int .u64 x)
  f : ∀ j, j < l.length → w.frozen? ⟨g, j, none⟩ = false

theorem addr0 (g k : Nat) : (⟨g, 0, none⟩ : Addr).add k = ⟨g, k, none⟩ := by
  unfold Addr.add
  split
  · rename_i h; subst h; rfl
  · simp

theorem Row.set {w : World} {g : Nat} {l : List Int} (h : Row w g l) {i : Nat} (hi : i < l.length) (x : Int) : Row (w.setCell ⟨g, i, none⟩ (.int .u64 x)) g (l.set i x) := by
  obtain ⟨b, c, f⟩ := h
  refine ⟨by simpa using b, fun j y hj => ?_, fun j hj => ?_⟩
  · rw [List.getElem?_set] at hj
    by_cases e : i = j
    · subst e
      rw [if_pos rfl, if_pos hi] at hj
      cases hj
      obtain ⟨z, hz⟩ : ∃ z, l[i]? = some z := ⟨_, List.getElem?_eq_getElem hi⟩
      have := c i z hz
      simp [go_sem, this]
    · rw [if_neg e] at hj
      have := c j y hj
      simp [go_sem, this]
  · rw [List.length_set] at hj
    simp [go_sem, f j hj]
theorem Row.drew {w : World} {g : Nat} {l : List Int} (h : Row w g l) : Row w.drew g l := ⟨h.b, h.c, h.f⟩
theorem Row.drewN {w : World} {g : Nat} {l : List Int} (h : Row w g l) (n : Nat) : Row (w.drewN n) g l := by
  induction n with
  | zero => exact h
  | succ n ih => exact ih.drew
theorem set_mid (P Q : List Int) (c d : Int) : (P ++ c :: Q).set P.length d = P ++ d :: Q := by simp
/-- Two words of the row exchanged. -/
theorem Row.exch {w : World} {g : Nat} {P Q S : List Int} {c d : Int} {i j : Nat} (h : Row w g (P ++ c :: (Q ++ d :: S))) (hi : i = P.length) (hj : j = P.length + 1 + Q.length) :
    Row ((w.setCell ⟨g, i, none⟩ (.int .u64 d)).setCell ⟨g, j, none⟩ (.int .u64 c)) g (P ++ d :: (Q ++ c :: S)) := by
  have h1 := h.set (i := i) (by simp; omega) d
  rw [hi, set_mid, ← hi] at h1
  have h2 := h1.set (i := j) (by simp; omega) c
  have e : P ++ d :: (Q ++ d :: S) = (P ++ d :: Q) ++ d :: S := by simp
  have e2 : j = (P ++ d :: Q).length := by simp; omega
  rw [e, e2, set_mid, ← e2] at h2
  simpa using h2
theorem Row.exch' {w : World} {g : Nat} {P Q S : List Int} {c d : Int} {i j : Nat} (h : Row w g (P ++ c :: (Q ++ d :: S))) (hi : i = P.length) (hj : j = P.length + 1 + Q.length) :
    Row ((w.setCell ⟨g, j, none⟩ (.int .u64 c)).setCell ⟨g, i, none⟩ (.int .u64 d)) g (P ++ d :: (Q ++ c :: S)) := by
  have h1 := h.set (i := j) (by simp; omega) c
  have e : P ++ c :: (Q ++ d :: S) = (P ++ c :: Q) ++ d :: S := by simp
  have e2 : j = (P ++ c :: Q).length := by simp; omega
  rw [e, e2, set_mid, ← e2] at h1
  have h2 := h1.set (i := i) (by simp; omega) d
  have e3 : (P ++ c :: Q) ++ c :: S = P ++ c :: (Q ++ c :: S) := by simp
  rw [e3, hi, set_mid, ← hi] at h2
  exact h2
theorem Row.below {w w' : World} {g n : Nat} {l : List Int} (h : Row w g l) (hb : Below n w w') (hg : g < n) : Row w' g l :=
  ⟨Nat.lt_of_lt_of_le h.b hb.size, fun j x hj => (hb.cell (p := ⟨g, j, none⟩) hg).trans (h.c j x hj), fun j hj => (hb.frozen (p := ⟨g, j, none⟩) hg).trans (h.f j hj)⟩
theorem Row.at2 {w : World} {g : Nat} {P Q S : List Int} {c d : Int} {i j : Nat} (h : Row w g (P ++ c :: (Q ++ d :: S))) (hi : i = P.length) (hj : j = P.length + 1 + Q.length) :
    w.cell? ⟨g, i, none⟩ = some (.int .u64 c) ∧ w.cell? ⟨g, j, none⟩ = some (.int .u64 d) ∧ w.frozen? ⟨g, i, none⟩ = false ∧ w.frozen? ⟨g, j, none⟩ = false := by
  refine ⟨h.c _ _ ?_, h.c _ _ ?_, h.f _ (by simp; omega), h.f _ (by simp; omega)⟩
  · rw [hi]; simp
  · rw [hj, show P ++ c :: (Q ++ d :: S) = (P ++ c :: Q) ++ d :: S by simp, List.getElem?_append_right (by simp; omega)]
    simp
    rw [show P.length + 1 + Q.length - (P.length + (Q.length + 1)) = 0 by omega]
    rfl

theorem order_below (x y : Int) (w : World) (h0 : 0 ≤ x) (h1 : x ≤ 18446744073709551615) (g0 : 0 ≤ y) (g1 : y ≤ 18446744073709551615) :
    Calls Try.prog 15 #[.int .u64 x, .int .u64 y] w fun r w' => r = .returned (.int .i64 (M.signI (M.rk x) (M.rk y))) ∧ Below w.heap.size w w' :=
  (order_at x y w h0 h1 g0 g1).mono fun r w' ⟨hr, hw⟩ => ⟨by rw [hr, order_place h0 h1 g0 g1]; rfl, by rw [hw]; exact Below.refl _ _⟩
/-- A value of a function that is the code's Order. -/
abbrev ordV : Value := .func (.func 15) #[] #[]

set_option maxHeartbeats 2000000 in
theorem swapRange_any (g a b n len ca : Nat) (p u x v s : List Int) (V : Value) (w : World) (hr : Row w g (p ++ (u ++ (x ++ (v ++ s))))) (hp : p.length = a) (hu : u.length = n) (hv : v.length = n) (hx : b = a + n + x.length) (hl : a + n + x.length + n + s.length = len) (hc : len ≤ 1000) :
    Calls Try.prog 46 #[.slice (some ⟨g, 0, none⟩) len ca, .int .i64 a, .int .i64 b, .int .i64 n, V] w fun r w' => r = .returned (.tuple #[]) ∧ Row w' g (p ++ (v ++ (x ++ (u ++ s)))) ∧ Below g w w' := by
  have HR := Lib.hid hr
  clear hr
  go_enter Try.func46, Try.ntmps46
  go_wp2
  go_loopw [10] (fun i wr => ∃ k : Nat, k ≤ n ∧ i = .int .i64 k ∧ Row wr g (p ++ v.take k ++ (u.drop k ++ (x ++ (u.take k ++ (v.drop k ++ s))))) ∧ Below g w wr) (fun i _ => n - (intOf i).toNat)
  case atStart => exact ⟨0, Nat.zero_le _, rfl, by simpa using HR.out, Below.refl _ _⟩
  case round =>
    obtain ⟨k, hk, rfl, hr', hb1⟩ := hrel
    have HB := Lib.hid hb1
    clear hb1
    by_cases hlt : k < n
    · obtain ⟨c, hc1⟩ : ∃ z, u.drop k = z :: u.drop (k + 1) := ⟨_, List.drop_eq_getElem_cons (by omega)⟩
      obtain ⟨d, hd1⟩ : ∃ z, v.drop k = z :: v.drop (k + 1) := ⟨_, List.drop_eq_getElem_cons (by omega)⟩
      have tc : u.take (k + 1) = u.take k ++ [c] := by
        rw [List.take_succ_eq_append_getElem (by omega)]
        congr 2
        have := List.drop_eq_getElem_cons (l := u) (i := k) (by omega)
        rw [hc1] at this
        injection this with h _
        exact h.symm
      have td : v.take (k + 1) = v.take k ++ [d] := by
        rw [List.take_succ_eq_append_getElem (by omega)]
        congr 2
        have := List.drop_eq_getElem_cons (l := v) (i := k) (by omega)
        rw [hd1] at this
        injection this with h _
        exact h.symm
      rw [hc1, hd1] at hr'
      have e : (p ++ v.take k) ++ ((c :: u.drop (k + 1)) ++ (x ++ (u.take k ++ ((d :: v.drop (k + 1)) ++ s)))) = (p ++ v.take k) ++ c :: ((u.drop (k + 1) ++ (x ++ u.take k)) ++ d :: (v.drop (k + 1) ++ s)) := by simp
      rw [e] at hr'
      have hi : a + k = (p ++ v.take k).length := by simp; omega
      have hj : b + k = (p ++ v.take k).length + 1 + (u.drop (k + 1) ++ (x ++ u.take k)).length := by simp; omega
      obtain ⟨cx, cy, fx, fy⟩ := hr'.at2 hi hj
      have hnext := hr'.exch hi hj
      have e2 : (p ++ v.take k) ++ d :: ((u.drop (k + 1) ++ (x ++ u.take k)) ++ c :: (v.drop (k + 1) ++ s)) = p ++ v.take (k + 1) ++ (u.drop (k + 1) ++ (x ++ (u.take (k + 1) ++ (v.drop (k + 1) ++ s)))) := by rw [tc, td]; simp
      rw [e2] at hnext
      have HN := Lib.hid hnext
      have k1 : a + k < len := by omega
      have k2 : b + k < len := by omega
      have k3 : a + n ≤ b := by omega
      have k4 : a + k ≠ b + k := by omega
      have k5 : b + k ≠ a + k := by omega
      clear hr' hnext e e2 tc td hi hj hc1 hd1 hx hl hp hu hv
      go_wp2
      go_region
      all_goals
        go_wp2
        go_roundw
        case rel => exact ⟨k + 1, by omega, by go_num, by first | exact HN.out | exact HN.out.drew, by first | exact (HB.out.setCell (p := ⟨g, _, none⟩) (Nat.le_refl _) _).setCell (p := ⟨g, _, none⟩) (Nat.le_refl _) _ | exact ((HB.out.setCell (p := ⟨g, _, none⟩) (Nat.le_refl _) _).setCell (p := ⟨g, _, none⟩) (Nat.le_refl _) _).drew⟩
        case measure => simp [intOf]; omega
    · obtain rfl : k = n := by omega
      have hfin : p ++ v.take k ++ (u.drop k ++ (x ++ (u.take k ++ (v.drop k ++ s)))) = p ++ (v ++ (x ++ (u ++ s))) := by
        rw [List.take_of_length_le (by omega), List.take_of_length_le (by omega), List.drop_of_length_le (by omega), List.drop_of_length_le (by omega)]; simp
      rw [hfin] at hr'
      have HN := Lib.hid hr'
      clear hr' hfin
      go_wp2
      go_end0
      exact ⟨rfl, HN.out, HB.out⟩
end Go.Proofs.Ytdjdgpfoakkamaa
