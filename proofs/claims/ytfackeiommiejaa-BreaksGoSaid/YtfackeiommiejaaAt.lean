/- The contract of package breaks' At over the translation: whether a line may end ahead of a place. Conditions: the slice reads as a list of kinds, at most a thousand long, within its capacity. -/
import Derived.Test.YtfackeiommiejaaAll
namespace Go.Proofs.Ytfackeiommiejaa
open Go.RowKit Go.Shelf
attribute [local go_sem] Oper.semAt_some

/-- The result's box, and all else as it was. -/
structure Held (B n : Nat) (w : World) (v : Int) (W : World) : Prop where
  box : Boxed W B 3 (.int .i64 v)
  below : Below w.heap.size w W
  size : n ≤ W.heap.size
theorem Held.still {B n : Nat} {w W W' : World} {v : Int} (h : Held B n w v W) (hs : Still (ours mineP) n W W') (hB : B < n) (hn : w.heap.size ≤ n) : Held B n w v W' :=
  ⟨(hs.below.block B hB).trans h.box, h.below.trans (hs.below.mono hn), Nat.le_trans h.size hs.below.size⟩

theorem held_leaves {n D B b : Nat} {fn : Func} {p : Tmp} {tmps : Array Value} {w W : World} {v : Int} (hres : fn.results = #[.cell p 3]) (hp : tmps[p]? = some (.pointer (some ⟨B, 0, none⟩))) (hbox : Boxed W B 3 (.int .i64 v)) (hK : W.heap[D]? = some (.deferred (some []))) (hne : D ≠ B) (hB : Below w.heap.size w W) (hD : b ≤ D) (hw : w.heap.size ≤ b) :
    LeavesInM Fence.wide n Try.prog fn tmps (fun r w' => r = .returned (.int .i64 v) ∧ Below w.heap.size w w') [] .returning (W.putObj D (.deferred none)) := by
  have hbox2 : Boxed (W.putObj D (.deferred none)) B 3 (.int .i64 v) := (World.putObj_heap_other (fun e => hne e.symm)).trans hbox
  have hc := hbox2.cell
  have hb2 : Below w.heap.size w (W.putObj D (.deferred none)) := hB.trans (belowK_b (w := w) (Nat.le_refl _) W D _ _ (by omega) hK rfl rfl)
  have hp2 : tmps[p]?.getD undef = .pointer (some ⟨B, 0, none⟩) := by rw [hp]; rfl
  refine ⟨.int .i64 v, ?_, rfl, hb2⟩
  simp [results, hres, hp2, go_sem, hc]

set_option maxRecDepth 100000 in
set_option maxHeartbeats 4000000 in
theorem at_in (A : Option Addr) (ca N f : Nat) (l : List Int) (w : World) (hr : RdS .i64 w w.heap.size A l) (hN : l.length = N) (hl : N ≤ 1000) (hca : N ≤ ca) (hm : (f : Int) + 1 ≤ 9223372036854775807) :
    Calls Try.prog 14 #[.slice A N ca, .int .i64 (f + 1)] w fun r w' => r = .returned (.int .i64 (M.how l (f + 1))) ∧ Below w.heap.size w w' := by
  refine (callsIn_wide (n := 5)).1 ?_
  refine callsIn_of_wp_marks Try.func14 rfl trivial ?_ rfl
  simp only [Try.ntmps14, List.size_toArray, List.length_cons, List.length_nil, Nat.reduceAdd, Nat.reduceSub, Array.replicate_succ, Array.replicate_zero, List.push_toArray, List.append_toArray, List.nil_append, List.cons_append]
  have HR := Lib.hid hr
  have HN := Lib.hid hN
  have f0 : (0 : Int) ≤ f := by omega
  have f1 : (0 : Int) < (f : Int) + 1 := by omega
  clear hr hN
  gi_wp2_with fail
  refine ⟨trivial, ?_⟩
  refine (callsIn_wide.2 (ends_any A ca N f _)).mono ?_
  rintro e w' ⟨rfl, rfl⟩
  gi_wp2_with fail
  have bO := Boxed.new w 3 (.int .i64 0)
  obtain ⟨w1, hw1⟩ : ∃ X, w.alloc (.cells #[.int .i64 0] 3) = X := ⟨_, rfl⟩
  rw [hw1] at bO ⊢
  have hs1 : w1.heap.size = w.heap.size + 1 := by rw [← hw1]; simp
  have hb1 : Below w.heap.size w w1 := by rw [← hw1]; exact (Below.refl _ w).alloc (Nat.le_refl _) _
  have bS := (Boxed.new w1 22 (.slice A N ca)).alloc (.cells #[.int .i64 f] 3)
  have bF := Boxed.new (w1.alloc (.cells #[.slice A N ca] 22)) 3 (.int .i64 f)
  have bO3 := (bO.alloc (.cells #[.slice A N ca] 22)).alloc (.cells #[.int .i64 f] 3)
  rw [World.size_alloc, hs1] at bF
  rw [hs1] at bS
  obtain ⟨w3, hw3⟩ : ∃ X, (w1.alloc (.cells #[.slice A N ca] 22)).alloc (.cells #[.int .i64 f] 3) = X := ⟨_, rfl⟩
  have hs3 : w3.heap.size = w.heap.size + 3 := by rw [← hw3]; simp; omega
  have hb3 : Below w.heap.size w w3 := by rw [← hw3]; exact (hb1.alloc (by omega) _).alloc (by simp; omega) _
  rw [hw3] at bS bF bO3 ⊢
  clear hw3 hw1 bO
  refine range_mine (by omega) (gf := 23) (lb := #[.pointer (some ⟨w.heap.size + 1 + 1, 0, none⟩), .pointer (some ⟨w.heap.size + 1, 0, none⟩)]) rfl (enters_of Try.func23 (by kernel_rfl) rfl) mineP_not
    (ends_gives 4 (w.heap.size + 1) (w.heap.size + 1 + 1) w.heap.size A ca N f l w3 (by omega) bS bF (HR.out.below hb3) HN.out hl hca (by omega)) KeepsE.trans (keeps_put (by omega) (by omega) (by omega)) (fun _ => rfl)
    (fun pre W => pre = [] ∧ Held w.heap.size w3.heap.size w 0 W) (fun c pre W => c = .ret ∧ ∃ x, pre = [x] ∧ Held w.heap.size w3.heap.size w x.2 W)
    (fun _ _ _ h hs => ⟨h.1, h.2.still hs (by omega) (by omega)⟩) (fun _ _ _ _ ⟨hc, x, h1, h2⟩ hs => ⟨hc, x, h1, h2.still hs (by omega) (by omega)⟩)
    ⟨rfl, bO3, hb3, Nat.le_refl _⟩
    (fun x => { tmps := #[.slice A N ca, .int .i64 (f + 1), undef, undef, .pointer (some ⟨w.heap.size, 0, none⟩), undef, .int .i64 x.2, .int .i64 (f + 1), .bool true, .slice A N ca, .int .i64 (f + 1), .int .i64 f, .func (.func 23) #[] #[.pointer (some ⟨w.heap.size + 1 + 1, 0, none⟩), .pointer (some ⟨w.heap.size + 1, 0, none⟩)], .int .i64 x.1, .int .i64 x.2, undef], defers := [] }) ?assign ?body ?done ?stop
  case assign =>
    intro l x W K hK
    gi_wp2
    exact hK
  case body =>
    rintro l pre x W ⟨rfl, hbox, hB, hS⟩ hlt
    have hc := hbox.cell
    have hf := hbox.frozen
    gi_wp2
    refine ⟨(KeepsOthers.setCell W _ _).from _, rfl, x, rfl, hbox.set _, hB.setCell (p := ⟨w.heap.size, 0, none⟩) (Nat.le_refl _) _, by simpa [World.setCell] using hS⟩
  case done =>
    rintro D ys W hD hys ⟨rfl, hbox, hB, _⟩ hK
    have hz : N - f = 0 := by
      have := congrArg List.length hys
      rw [M.prs_len] at this
      exact this.symm
    have HA := Lib.hid (show M.how l (f + 1) = 0 by unfold M.how; rw [if_pos (.inr (by have := HN.out; omega))])
    have hc := hbox.cell
    have hf := hbox.frozen
    clear hys hz
    gi_wp2
    have hK2 := (Below.heap_setCell W ⟨w.heap.size, 0, none⟩ (.int .i64 0) D (by show D ≠ w.heap.size; omega)).trans hK
    refine ⟨by simp, .inl ⟨_, _, rfl, run_takeDeferred hK2, ?_⟩⟩
    rw [HA.out]
    exact held_leaves rfl rfl (hbox.set _) hK2 (by omega) (hB.setCell (p := ⟨w.heap.size, 0, none⟩) (Nat.le_refl _) _) hD (by omega)
  case stop =>
    rintro D c pre W hD ⟨k, hk, hpre⟩ ⟨rfl, x, rfl, hbox, hB, _⟩ hK
    have hk1 : k = 1 := by
      have := congrArg List.length hpre
      rw [M.prs_len] at this
      exact this.symm
    subst hk1
    have hx : x.2 = M.how l (f + 1) := by
      have : [x] = [(((f + 1 + 0 : Nat) : Int), M.how l (f + 1 + 0))] := hpre
      injection this with this
      rw [this]
    rw [hx] at hbox
    have hc := hbox.cell
    have hf := hbox.frozen
    clear hpre
    gi_wp2
    refine ⟨by simp, .inl ⟨_, _, rfl, run_takeDeferred hK, ?_⟩⟩
    exact held_leaves rfl rfl hbox hK (by omega) hB hD (by omega)

set_option maxHeartbeats 1000000 in
theorem at_out (A : Option Addr) (ca N : Nat) (i : Int) (w : World) (hi : i ≤ 0) :
    Calls Try.prog 14 #[.slice A N ca, .int .i64 i] w fun r w' => r = .returned (.int .i64 0) ∧ Below w.heap.size w w' := by
  have h0 : ¬ 0 < i := by omega
  refine (callsIn_wide (n := 5)).1 ?_
  refine callsIn_of_wp_marks Try.func14 rfl trivial ?_ rfl
  simp only [Try.ntmps14, List.size_toArray, List.length_cons, List.length_nil, Nat.reduceAdd, Nat.reduceSub, Array.replicate_succ, Array.replicate_zero, List.push_toArray, List.append_toArray, List.nil_append, List.cons_append]
  gi_wp2
  refine ⟨.int .i64 0, ?_, rfl, (Below.refl _ _).alloc (Nat.le_refl _) _⟩
  simp [results, Try.results14, go_sem]

theorem at_any (A : Option Addr) (ca N : Nat) (i : Int) (l : List Int) (w : World) (hr : RdS .i64 w w.heap.size A l) (hN : l.length = N) (hl : N ≤ 1000) (hca : N ≤ ca) (hm : i ≤ 9223372036854775807) :
    Calls Try.prog 14 #[.slice A N ca, .int .i64 i] w fun r w' => r = .returned (.int .i64 (M.atI l i)) ∧ Below w.heap.size w w' := by
  unfold M.atI
  by_cases h : i ≤ 0
  · rw [if_pos h]; exact at_out A ca N i w h
  · rw [if_neg h]
    obtain ⟨f, rfl⟩ : ∃ f : Nat, i = (f : Int) + 1 := ⟨(i - 1).toNat, by omega⟩
    rw [show ((f : Int) + 1).toNat = f + 1 by omega]
    exact at_in A ca N f l w hr hN hl hca hm
end Go.Proofs.Ytfackeiommiejaa
