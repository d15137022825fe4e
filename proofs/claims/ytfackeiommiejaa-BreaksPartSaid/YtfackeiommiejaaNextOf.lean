/- The contract of package breaks' Next over the translation: the next place at which a line may end. Conditions: the slice reads as a list of kinds, at most a thousand long, within its capacity. -/
import Derived.Test.YtfackeiommiejaaAt
namespace Go.Proofs.Ytfackeiommiejaa
open Go.RowKit Go.Shelf
attribute [local go_sem] Oper.semAt_some

namespace M
theorem nextFrom_skip {l : List Int} : ∀ {m n i : Nat}, m ≤ n → (∀ j, j < m → how l (i + j) = 0) → nextFrom l n i = nextFrom l (n - m) (i + m)
  | 0, n, i, _, _ => rfl
  | m + 1, n, i, hm, h => by
    obtain ⟨n', rfl⟩ : ∃ n', n = n' + 1 := ⟨n - 1, by omega⟩
    have h0 := h 0 (by omega)
    rw [Nat.add_zero] at h0
    show (if how l i ≠ 0 then i else nextFrom l n' (i + 1)) = _
    rw [if_neg (by rw [h0]; decide), nextFrom_skip (m := m) (by omega) (fun j hj => by have := h (j + 1) (by omega); rwa [show i + (j + 1) = i + 1 + j by omega] at this)]
    rw [show n' + 1 - (m + 1) = n' - m by omega, show i + 1 + m = i + (m + 1) by omega]
theorem nextFrom_hit {l : List Int} {n i : Nat} (h : how l i ≠ 0) : nextFrom l n i = i := by
  cases n with
  | zero => rfl
  | succ n => show (if how l i ≠ 0 then i else nextFrom l n (i + 1)) = i; rw [if_pos h]
theorem next_hit {l : List Int} {f k : Nat} {pre : List (Int × Int)} {x : Int × Int} (hk : k ≤ l.length - f) (h : pre ++ [x] = prs l f k) (hz : ∀ y ∈ pre, y.2 = 0) (hx : x.2 ≠ 0) : (nextN l f : Int) = x.1 := by
  obtain ⟨k', rfl⟩ : ∃ k', k = k' + 1 := ⟨k - 1, by
    have := congrArg List.length h
    rw [prs_len] at this
    simp at this
    omega⟩
  rw [prs_succ] at h
  obtain ⟨h1, h2⟩ := List.append_inj' h rfl
  injection h2 with h2
  subst h2
  subst h1
  have hz2 : ∀ j, j < k' → how l (f + 1 + j) = 0 := fun j hj => by
    have hm : (((f + 1 + j : Nat) : Int), how l (f + 1 + j)) ∈ prs l f k' := List.mem_map.2 ⟨j, List.mem_range.2 hj, rfl⟩
    exact hz _ hm
  unfold nextN
  rw [if_neg (by omega), nextFrom_skip (m := k') (by omega) hz2, nextFrom_hit hx]
theorem next_none {l : List Int} {f : Nat} (hz : ∀ y ∈ prs l f (l.length - f), y.2 = 0) : nextN l f = l.length := by
  unfold nextN
  rcases Nat.lt_or_ge f l.length with h | h
  · have hm : (((f + 1 + (l.length - f - 1) : Nat) : Int), how l (f + 1 + (l.length - f - 1))) ∈ prs l f (l.length - f) := List.mem_map.2 ⟨l.length - f - 1, List.mem_range.2 (by omega), rfl⟩
    have := hz _ hm
    dsimp only at this
    rw [show f + 1 + (l.length - f - 1) = l.length by omega, how_len (by omega)] at this
    cases this
  · rw [if_pos h]
end M

/-- What Next has seen. -/
def Seen (B n : Nat) (w : World) (pre : List (Int × Int)) (W : World) : Prop := (∀ y ∈ pre, y.2 = 0) ∧ Held B n w 0 W
/-- What it leaves at a place that it hands back. -/
def Found (B n : Nat) (w : World) (c : Code) (pre : List (Int × Int)) (W : World) : Prop := c = .ret ∧ ∃ ys x, pre = ys ++ [x] ∧ (∀ y ∈ ys, y.2 = 0) ∧ x.2 ≠ 0 ∧ Held B n w x.1 W

set_option maxRecDepth 100000 in
set_option maxHeartbeats 4000000 in
theorem next_up (A : Option Addr) (ca N f : Nat) (l : List Int) (w : World) (hr : RdS .i64 w w.heap.size A l) (hN : l.length = N) (hl : N ≤ 1000) (hca : N ≤ ca) :
    Calls Try.prog 16 #[.slice A N ca, .int .i64 f] w fun r w' => r = .returned (.int .i64 (M.nextN l f)) ∧ Below w.heap.size w w' := by
  refine (callsIn_wide (n := 5)).1 ?_
  refine callsIn_of_wp_marks Try.func16 rfl trivial ?_ rfl
  simp only [Try.ntmps16, List.size_toArray, List.length_cons, List.length_nil, Nat.reduceAdd, Nat.reduceSub, Array.replicate_succ, Array.replicate_zero, List.push_toArray, List.append_toArray, List.nil_append, List.cons_append]
  have HR := Lib.hid hr
  have HN := Lib.hid hN
  clear hr hN
  gi_wp2_with fail
  refine ⟨trivial, ?_⟩
  refine (callsIn_wide.2 (ends_any A ca N f _)).mono ?_
  rintro e w' ⟨rfl, rfl⟩
  gi_wp2_with fail
  have bO := Boxed.new w 3 (.int .i64 0)
  obtain ⟨w1, hw1⟩ : ∃ X, w.alloc (.cells #[.int .i64 0] 3) = X := ⟨_, rfl⟩
  rw [hw1] at bO ⊢
  have hs1 : w1.heap.size = w.heap.size + 1 := by rw [← hw1]; simp
  have hb1 : Below w.heap.size w w1 := by rw [← hw1]; exact (Below.refl _ w).alloc (Nat.le_refl _) _
  have bS := (Boxed.new w1 22 (.slice A N ca)).alloc (.cells #[.int .i64 f] 3)
  have bF : Boxed ((w1.alloc (.cells #[.slice A N ca] 22)).alloc (.cells #[.int .i64 f] 3)) _ 3 (.int .i64 ((f : Nat) : Int)) := Boxed.new (w1.alloc (.cells #[.slice A N ca] 22)) 3 (.int .i64 ((f : Nat) : Int))
  have bO3 := (bO.alloc (.cells #[.slice A N ca] 22)).alloc (.cells #[.int .i64 f] 3)
  rw [World.size_alloc, hs1] at bF
  rw [hs1] at bS
  obtain ⟨w3, hw3⟩ : ∃ X, (w1.alloc (.cells #[.slice A N ca] 22)).alloc (.cells #[.int .i64 f] 3) = X := ⟨_, rfl⟩
  have hs3 : w3.heap.size = w.heap.size + 3 := by rw [← hw3]; simp; omega
  have hb3 : Below w.heap.size w w3 := by rw [← hw3]; exact (hb1.alloc (by omega) _).alloc (by simp; omega) _
  rw [hw3] at bS bF bO3 ⊢
  clear hw3 hw1 bO
  refine range_mine (by omega) (gf := 23) (lb := #[.pointer (some ⟨w.heap.size + 1 + 1, 0, none⟩), .pointer (some ⟨w.heap.size + 1, 0, none⟩)]) rfl (enters_of Try.func23 (by kernel_rfl) rfl) mineP_not
    (ends_gives 4 (w.heap.size + 1) (w.heap.size + 1 + 1) w.heap.size A ca N f l w3 (by omega) bS bF (HR.out.below hb3) HN.out hl hca (by omega)) KeepsE.trans (keeps_put (by omega) (by omega) (by omega)) (fun _ => rfl)
    (Seen w.heap.size w3.heap.size w) (Found w.heap.size w3.heap.size w)
    (fun _ _ _ h hs => ⟨h.1, h.2.still hs (by omega) (by omega)⟩) (fun _ _ _ _ ⟨hc, ys, x, h1, h2, h3, h4⟩ hs => ⟨hc, ys, x, h1, h2, h3, h4.still hs (by omega) (by omega)⟩)
    ⟨by simp, bO3, hb3, Nat.le_refl _⟩
    (fun x => { tmps := #[.slice A N ca, .int .i64 f, undef, undef, .pointer (some ⟨w.heap.size, 0, none⟩), .int .i64 x.1, .int .i64 x.2, .slice A N ca, .int .i64 f, .int .i64 f, .func (.func 23) #[] #[.pointer (some ⟨w.heap.size + 1 + 1, 0, none⟩), .pointer (some ⟨w.heap.size + 1, 0, none⟩)], .int .i64 x.1, .int .i64 x.2, undef, undef, undef, undef, undef], defers := [] }) ?assign ?body ?done ?stop
  case assign =>
    intro l x W K hK
    gi_wp2
    exact hK
  case body =>
    rintro l pre ⟨x, v⟩ W ⟨hz, hbox, hB, hS⟩ hlt
    have hc := hbox.cell
    have hf := hbox.frozen
    have HZ := Lib.hid hz
    clear hz
    by_cases hv : v = 0
    · subst hv
      gi_wp2
      exact ⟨(KeepsOthers.refl W).from _, KeepsE.refl _ _ _ _, fun y hy => by
        rcases List.mem_append.1 hy with h | h
        · exact HZ.out y h
        · simp at h; rw [h], hbox, hB, hS⟩
    · have b1 : (v == 0) = false := by rw [beq_eq_false_iff_ne]; exact hv
      have b2 : (v != 0) = true := by rw [bne_iff_ne]; exact hv
      have HV := Lib.hid hv
      clear hv
      gi_wp2
      exact ⟨(KeepsOthers.setCell W _ _).from _, rfl, pre, (x, v), rfl, HZ.out, HV.out, hbox.set _, hB.setCell (p := ⟨w.heap.size, 0, none⟩) (Nat.le_refl _) _, by simpa [World.setCell] using hS⟩
  case done =>
    rintro D ys W hD hys ⟨hz, hbox, hB, _⟩ hK
    have HA := Lib.hid (show M.nextN l f = N by
      rw [← HN.out]
      refine M.next_none ?_
      rw [HN.out, ← hys]
      exact hz)
    have hc := hbox.cell
    have hf := hbox.frozen
    clear hys hz
    gi_wp2
    have hK2 := (Below.heap_setCell W ⟨w.heap.size, 0, none⟩ (.int .i64 N) D (by show D ≠ w.heap.size; omega)).trans hK
    refine ⟨by simp, .inl ⟨_, _, rfl, run_takeDeferred hK2, ?_⟩⟩
    rw [HA.out]
    exact held_leaves rfl rfl (hbox.set _) hK2 (by omega) (hB.setCell (p := ⟨w.heap.size, 0, none⟩) (Nat.le_refl _) _) hD (by omega)
  case stop =>
    rintro D c pre W hD ⟨k, hk, hpre⟩ ⟨rfl, ys, x, rfl, hz, hx, hbox, hB, _⟩ hK
    have HA := Lib.hid (M.next_hit (by rw [HN.out]; exact hk) hpre hz hx)
    have hc := hbox.cell
    have hf := hbox.frozen
    clear hpre hz hx
    gi_wp2
    refine ⟨by simp, .inl ⟨_, _, rfl, run_takeDeferred hK, ?_⟩⟩
    rw [HA.out]
    exact held_leaves rfl rfl hbox hK (by omega) hB hD (by omega)

set_option maxRecDepth 100000 in
set_option maxHeartbeats 4000000 in
theorem next_neg (A : Option Addr) (ca N : Nat) (i : Int) (l : List Int) (w : World) (hr : RdS .i64 w w.heap.size A l) (hN : l.length = N) (hl : N ≤ 1000) (hca : N ≤ ca) (hi : i < 0) :
    Calls Try.prog 16 #[.slice A N ca, .int .i64 i] w fun r w' => r = .returned (.int .i64 (M.nextN l 0)) ∧ Below w.heap.size w w' := by
  refine (callsIn_wide (n := 5)).1 ?_
  refine callsIn_of_wp_marks Try.func16 rfl trivial ?_ rfl
  simp only [Try.ntmps16, List.size_toArray, List.length_cons, List.length_nil, Nat.reduceAdd, Nat.reduceSub, Array.replicate_succ, Array.replicate_zero, List.push_toArray, List.append_toArray, List.nil_append, List.cons_append]
  have HR := Lib.hid hr
  have HN := Lib.hid hN
  clear hr hN
  gi_wp2_with fail
  refine ⟨trivial, ?_⟩
  refine (callsIn_wide.2 (ends_any A ca N 0 _)).mono ?_
  rintro e w' ⟨rfl, rfl⟩
  gi_wp2_with fail
  have bO := Boxed.new w 3 (.int .i64 0)
  obtain ⟨w1, hw1⟩ : ∃ X, w.alloc (.cells #[.int .i64 0] 3) = X := ⟨_, rfl⟩
  rw [hw1] at bO ⊢
  have hs1 : w1.heap.size = w.heap.size + 1 := by rw [← hw1]; simp
  have hb1 : Below w.heap.size w w1 := by rw [← hw1]; exact (Below.refl _ w).alloc (Nat.le_refl _) _
  have bS := (Boxed.new w1 22 (.slice A N ca)).alloc (.cells #[.int .i64 0] 3)
  have bF : Boxed ((w1.alloc (.cells #[.slice A N ca] 22)).alloc (.cells #[.int .i64 0] 3)) _ 3 (.int .i64 ((0 : Nat) : Int)) := Boxed.new (w1.alloc (.cells #[.slice A N ca] 22)) 3 (.int .i64 ((0 : Nat) : Int))
  have bO3 := (bO.alloc (.cells #[.slice A N ca] 22)).alloc (.cells #[.int .i64 0] 3)
  rw [World.size_alloc, hs1] at bF
  rw [hs1] at bS
  obtain ⟨w3, hw3⟩ : ∃ X, (w1.alloc (.cells #[.slice A N ca] 22)).alloc (.cells #[.int .i64 0] 3) = X := ⟨_, rfl⟩
  have hs3 : w3.heap.size = w.heap.size + 3 := by rw [← hw3]; simp; omega
  have hb3 : Below w.heap.size w w3 := by rw [← hw3]; exact (hb1.alloc (by omega) _).alloc (by simp; omega) _
  rw [hw3] at bS bF bO3 ⊢
  clear hw3 hw1 bO
  refine range_mine (by omega) (gf := 23) (lb := #[.pointer (some ⟨w.heap.size + 1 + 1, 0, none⟩), .pointer (some ⟨w.heap.size + 1, 0, none⟩)]) rfl (enters_of Try.func23 (by kernel_rfl) rfl) mineP_not
    (ends_gives 4 (w.heap.size + 1) (w.heap.size + 1 + 1) w.heap.size A ca N 0 l w3 (by omega) bS bF (HR.out.below hb3) HN.out hl hca (by omega)) KeepsE.trans (keeps_put (by omega) (by omega) (by omega)) (fun _ => rfl)
    (Seen w.heap.size w3.heap.size w) (Found w.heap.size w3.heap.size w)
    (fun _ _ _ h hs => ⟨h.1, h.2.still hs (by omega) (by omega)⟩) (fun _ _ _ _ ⟨hc, ys, x, h1, h2, h3, h4⟩ hs => ⟨hc, ys, x, h1, h2, h3, h4.still hs (by omega) (by omega)⟩)
    ⟨by simp, bO3, hb3, Nat.le_refl _⟩
    (fun x => { tmps := #[.slice A N ca, .int .i64 i, undef, undef, .pointer (some ⟨w.heap.size, 0, none⟩), .int .i64 x.1, .int .i64 x.2, .slice A N ca, .int .i64 i, .int .i64 0, .func (.func 23) #[] #[.pointer (some ⟨w.heap.size + 1 + 1, 0, none⟩), .pointer (some ⟨w.heap.size + 1, 0, none⟩)], .int .i64 x.1, .int .i64 x.2, undef, undef, undef, undef, undef], defers := [] }) ?assign ?body ?done ?stop
  case assign =>
    intro l x W K hK
    gi_wp2
    exact hK
  case body =>
    rintro l pre ⟨x, v⟩ W ⟨hz, hbox, hB, hS⟩ hlt
    have hc := hbox.cell
    have hf := hbox.frozen
    have HZ := Lib.hid hz
    clear hz
    by_cases hv : v = 0
    · subst hv
      gi_wp2
      exact ⟨(KeepsOthers.refl W).from _, KeepsE.refl _ _ _ _, fun y hy => by
        rcases List.mem_append.1 hy with h | h
        · exact HZ.out y h
        · simp at h; rw [h], hbox, hB, hS⟩
    · have b1 : (v == 0) = false := by rw [beq_eq_false_iff_ne]; exact hv
      have b2 : (v != 0) = true := by rw [bne_iff_ne]; exact hv
      have HV := Lib.hid hv
      clear hv
      gi_wp2
      exact ⟨(KeepsOthers.setCell W _ _).from _, rfl, pre, (x, v), rfl, HZ.out, HV.out, hbox.set _, hB.setCell (p := ⟨w.heap.size, 0, none⟩) (Nat.le_refl _) _, by simpa [World.setCell] using hS⟩
  case done =>
    rintro D ys W hD hys ⟨hz, hbox, hB, _⟩ hK
    have HA := Lib.hid (show M.nextN l 0 = N by
      rw [← HN.out]
      refine M.next_none ?_
      rw [HN.out, ← hys]
      exact hz)
    have hc := hbox.cell
    have hf := hbox.frozen
    clear hys hz
    gi_wp2
    have hK2 := (Below.heap_setCell W ⟨w.heap.size, 0, none⟩ (.int .i64 N) D (by show D ≠ w.heap.size; omega)).trans hK
    refine ⟨by simp, .inl ⟨_, _, rfl, run_takeDeferred hK2, ?_⟩⟩
    rw [HA.out]
    exact held_leaves rfl rfl (hbox.set _) hK2 (by omega) (hB.setCell (p := ⟨w.heap.size, 0, none⟩) (Nat.le_refl _) _) hD (by omega)
  case stop =>
    rintro D c pre W hD ⟨k, hk, hpre⟩ ⟨rfl, ys, x, rfl, hz, hx, hbox, hB, _⟩ hK
    have HA := Lib.hid (M.next_hit (by rw [HN.out]; exact hk) hpre hz hx)
    have hc := hbox.cell
    have hf := hbox.frozen
    clear hpre hz hx
    gi_wp2
    refine ⟨by simp, .inl ⟨_, _, rfl, run_takeDeferred hK, ?_⟩⟩
    rw [HA.out]
    exact held_leaves rfl rfl hbox hK (by omega) hB hD (by omega)

theorem nextOf_any (A : Option Addr) (ca N : Nat) (i : Int) (l : List Int) (w : World) (hr : RdS .i64 w w.heap.size A l) (hN : l.length = N) (hl : N ≤ 1000) (hca : N ≤ ca) :
    Calls Try.prog 16 #[.slice A N ca, .int .i64 i] w fun r w' => r = .returned (.int .i64 (M.nextI l i)) ∧ Below w.heap.size w w' := by
  unfold M.nextI
  rcases Int.lt_or_le i 0 with h | h
  · rw [show i.toNat = 0 by omega]; exact next_neg A ca N i l w hr hN hl hca h
  · obtain ⟨f, rfl⟩ := Int.eq_ofNat_of_zero_le h
    exact next_up A ca N f l w hr hN hl hca
end Go.Proofs.Ytfackeiommiejaa
