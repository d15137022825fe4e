/- The contract of package weak's rules: the array of them; and that each, called, does what its number says. -/
import Derived.Test.YtanlclmlkpchfaaCMarks
import Derived.Test.YtanlclmlkpchfaaCBehind
import Derived.Test.YtanlclmlkpchfaaCBecome
import Derived.Test.YtanlclmlkpchfaaCSep
import Derived.Test.YtanlclmlkpchfaaCSigns
import Derived.Laws.EntriesVeiled
namespace Go.Proofs.Ytanlclmlkpchfaa
open Go.RowKit
set_option maxRecDepth 100000

def two (fid b c : Nat) : Value := .func (.func fid) #[] #[.pointer (some ⟨b, 0, none⟩), .pointer (some ⟨c, 0, none⟩)]
/-- The rules, whose variables lie from block b on. -/
def ruleVals (b : Nat) : List Value := [.func (.func 17) #[] #[], two 27 (b + 1) (b + 2), two 28 (b + 5) (b + 4), .func (.func 20) #[] #[], .func (.func 21) #[] #[], two 28 (b + 8) (b + 7), two 27 (b + 9) (b + 10)]
/-- What they caught lies there. -/
structure RulesAt (w : World) (b : Nat) : Prop where
  c1 : w.cell? ⟨b + 1, 0, none⟩ = some (.int .i64 2)
  c2 : w.cell? ⟨b + 2, 0, none⟩ = some (.int .i64 6)
  c3 : RdS .i64 w (b + 11) (some ⟨b + 3, 0, none⟩) [2]
  c4 : w.cell? ⟨b + 4, 0, none⟩ = some (.int .i64 1)
  c5 : w.cell? ⟨b + 5, 0, none⟩ = some (.slice (some ⟨b + 3, 0, none⟩) 1 1)
  c6 : RdS .i64 w (b + 11) (some ⟨b + 6, 0, none⟩) [4, 5, 7]
  c7 : w.cell? ⟨b + 7, 0, none⟩ = some (.int .i64 13)
  c8 : w.cell? ⟨b + 8, 0, none⟩ = some (.slice (some ⟨b + 6, 0, none⟩) 3 3)
  c9 : w.cell? ⟨b + 9, 0, none⟩ = some (.int .i64 0)
  c10 : w.cell? ⟨b + 10, 0, none⟩ = some (.int .i64 0)
theorem RulesAt.below {w w' : World} {b n : Nat} (h : RulesAt w b) (hb : Below n w w') (hn : b + 11 ≤ n) : RulesAt w' b where
  c1 := (hb.cell (p := ⟨b + 1, 0, none⟩) (by show b + 1 < n; omega)).trans h.c1
  c2 := (hb.cell (p := ⟨b + 2, 0, none⟩) (by show b + 2 < n; omega)).trans h.c2
  c3 := h.c3.below (hb.mono hn)
  c4 := (hb.cell (p := ⟨b + 4, 0, none⟩) (by show b + 4 < n; omega)).trans h.c4
  c5 := (hb.cell (p := ⟨b + 5, 0, none⟩) (by show b + 5 < n; omega)).trans h.c5
  c6 := h.c6.below (hb.mono hn)
  c7 := (hb.cell (p := ⟨b + 7, 0, none⟩) (by show b + 7 < n; omega)).trans h.c7
  c8 := (hb.cell (p := ⟨b + 8, 0, none⟩) (by show b + 8 < n; omega)).trans h.c8
  c9 := (hb.cell (p := ⟨b + 9, 0, none⟩) (by show b + 9 < n; omega)).trans h.c9
  c10 := (hb.cell (p := ⟨b + 10, 0, none⟩) (by show b + 10 < n; omega)).trans h.c10
/-- A block by itself is read, and blocks behind it change nothing of it. -/
theorem cell_new (w : World) (o : Array Value) (ty : TypeId) (j : Nat) : (w.alloc (.cells o ty)).cell? ⟨w.heap.size, j, none⟩ = o[j]? := by
  unfold World.cell?
  have hnew : (w.alloc (.cells o ty)).heap[w.heap.size]? = some (.cells o ty (0, 0)) := World.alloc_heap_new w _
  rw [hnew]
  rfl
theorem cell_at {W : World} {o : Array Value} {ty : TypeId} {b : Nat} (hb : W.heap.size = b) (j : Nat) : (W.alloc (.cells o ty)).cell? ⟨b, j, none⟩ = o[j]? := by
  subst hb
  exact cell_new W o ty j
theorem cell_old (w : World) (o : Obj) (p : Addr) (h : p.block < w.heap.size) : (w.alloc o).cell? p = w.cell? p :=
  ((Below.refl w.heap.size w).alloc (Nat.le_refl _) o).cell h
theorem rules_at (w : World) (O : Array Value) (t : TypeId) : RulesAt (((((((((((w.alloc (.cells O t)).alloc (.cells #[.int .i64 2] 23)).alloc (.cells #[.int .i64 6] 23)).alloc (.cells #[.int .i64 2] 23)).alloc (.cells #[.int .i64 1] 23)).alloc (.cells #[.slice (some ⟨w.heap.size + 3, 0, none⟩) 1 1] 22)).alloc (.cells #[.int .i64 4, .int .i64 5, .int .i64 7] 23)).alloc (.cells #[.int .i64 13] 23)).alloc (.cells #[.slice (some ⟨w.heap.size + 6, 0, none⟩) 3 3] 22)).alloc (.cells #[.int .i64 0] 23)).alloc (.cells #[.int .i64 0] 23)) w.heap.size := by
  refine ⟨(((cell_old _ _ _ (by simp)).trans (((cell_old _ _ _ (by simp)).trans (((cell_old _ _ _ (by simp)).trans (((cell_old _ _ _ (by simp)).trans (((cell_old _ _ _ (by simp)).trans (((cell_old _ _ _ (by simp)).trans (((cell_old _ _ _ (by simp)).trans (((cell_old _ _ _ (by simp)).trans (((cell_old _ _ _ (by simp)).trans (cell_at (by simp) 0))))))))))))))))))).trans rfl, (((cell_old _ _ _ (by simp)).trans (((cell_old _ _ _ (by simp)).trans (((cell_old _ _ _ (by simp)).trans (((cell_old _ _ _ (by simp)).trans (((cell_old _ _ _ (by simp)).trans (((cell_old _ _ _ (by simp)).trans (((cell_old _ _ _ (by simp)).trans (((cell_old _ _ _ (by simp)).trans (cell_at (by simp) 0))))))))))))))))).trans rfl, ?_, (((cell_old _ _ _ (by simp)).trans (((cell_old _ _ _ (by simp)).trans (((cell_old _ _ _ (by simp)).trans (((cell_old _ _ _ (by simp)).trans (((cell_old _ _ _ (by simp)).trans (((cell_old _ _ _ (by simp)).trans (cell_at (by simp) 0))))))))))))).trans rfl, (((cell_old _ _ _ (by simp)).trans (((cell_old _ _ _ (by simp)).trans (((cell_old _ _ _ (by simp)).trans (((cell_old _ _ _ (by simp)).trans (((cell_old _ _ _ (by simp)).trans (cell_at (by simp) 0))))))))))).trans rfl, ?_, (((cell_old _ _ _ (by simp)).trans (((cell_old _ _ _ (by simp)).trans (((cell_old _ _ _ (by simp)).trans (cell_at (by simp) 0))))))).trans rfl, (((cell_old _ _ _ (by simp)).trans (((cell_old _ _ _ (by simp)).trans (cell_at (by simp) 0))))).trans rfl, (((cell_old _ _ _ (by simp)).trans (cell_at (by simp) 0))).trans rfl, (cell_at (by simp) 0).trans rfl⟩
  · intro j x hx
    refine ⟨_, rfl, by show w.heap.size + 3 < _; omega, ?_⟩
    rw [show (⟨w.heap.size + 3, 0, none⟩ : Addr).add j = ⟨w.heap.size + 3, j, none⟩ by unfold Addr.add; split <;> simp_all]
    refine (((cell_old _ _ _ (by simp)).trans (((cell_old _ _ _ (by simp)).trans (((cell_old _ _ _ (by simp)).trans (((cell_old _ _ _ (by simp)).trans (((cell_old _ _ _ (by simp)).trans (((cell_old _ _ _ (by simp)).trans (((cell_old _ _ _ (by simp)).trans (cell_at (by simp) j))))))))))))))).trans ?_
    match j, hx with
    | 0, hx => simp at hx; subst hx; rfl
  · intro j x hx
    refine ⟨_, rfl, by show w.heap.size + 6 < _; omega, ?_⟩
    rw [show (⟨w.heap.size + 6, 0, none⟩ : Addr).add j = ⟨w.heap.size + 6, j, none⟩ by unfold Addr.add; split <;> simp_all]
    refine (((cell_old _ _ _ (by simp)).trans (((cell_old _ _ _ (by simp)).trans (((cell_old _ _ _ (by simp)).trans (((cell_old _ _ _ (by simp)).trans (cell_at (by simp) j))))))))).trans ?_
    match j, hx with
    | 0, hx => simp at hx; subst hx; rfl
    | 1, hx => simp at hx; subst hx; rfl
    | 2, hx => simp at hx; subst hx; rfl
set_option maxHeartbeats 4000000 in
theorem rules_any (w : World) : Calls Try.prog 14 #[] w fun r w' => r = .returned (.agg (ruleVals w.heap.size).toArray) ∧ RulesAt w' w.heap.size ∧ Below w.heap.size w w' ∧ w.heap.size + 11 ≤ w'.heap.size := by
  go_enter Try.func14, Try.ntmps14
  go_wp2
  go_returns
  refine ⟨rfl, rules_at w _ _, ?_, by simp⟩
  exact (((((((((((Below.refl _ _).alloc (Nat.le_refl _) _).alloc (by simp) _).alloc (by simp <;> omega) _).alloc (by simp <;> omega) _).alloc (by simp <;> omega) _).alloc (by simp <;> omega) _).alloc (by simp <;> omega) _).alloc (by simp <;> omega) _).alloc (by simp <;> omega) _).alloc (by simp <;> omega) _).alloc (by simp <;> omega) _
/-- Each rule, called. -/
theorem rule_call (b : Nat) (k G n : Nat) (f : Int) (l : List Int) (v : Value) (hv : (ruleVals b)[k]? = some v) (hn : l.length = n) (hl : n ≤ 1000) (hG : b + 11 ≤ G) :
    ∃ (fid : FuncId) (caps : Array Value), v = .func (.func fid) #[] caps ∧ (∀ (args : Array Value) (w : World), (callFunc fid args).run Try.prog w = .ok (.enter fid args) w) ∧
      (∀ w, RulesAt w b → BlockAt w G 23 l → Calls Try.prog fid (#[.slice (some ⟨G, 0, none⟩) n n, .int .i64 f] ++ caps) w (Rul G (M.wrule ((k : Int) + 1) f l) w)) := by
  have hk : k < 7 := (List.getElem?_eq_some_iff.1 hv).1
  match k, hk, hv with
  | 0, _, hv =>
    injection hv with hv
    exact ⟨_, _, hv.symm, fun _ _ => by kernel_rfl, fun w _ h => marks_any G n f l w h hn hl⟩
  | 1, _, hv =>
    injection hv with hv
    exact ⟨_, _, hv.symm, fun _ _ => by kernel_rfl, fun w hr h => behind_any 2 2 6 G n (b + 1) (b + 2) f l w h hn hl (fun p q r c => M.wat2 f p q c r) hr.c1 hr.c2 (by omega) (by omega)⟩
  | 2, _, hv =>
    injection hv with hv
    exact ⟨_, _, hv.symm, fun _ _ => by kernel_rfl, fun w hr h => become_any 3 1 [2] 1 1 (some ⟨b + 3, 0, none⟩) G n (b + 5) (b + 4) f l w h hn hl (fun p q r c => M.wat3 f p q c r) hr.c5 hr.c4 (by omega) (by omega) (hr.c3.more hG) rfl (by omega)⟩
  | 3, _, hv =>
    injection hv with hv
    exact ⟨_, _, hv.symm, fun _ _ => by kernel_rfl, fun w _ h => separators_any G n f l w h hn hl⟩
  | 4, _, hv =>
    injection hv with hv
    exact ⟨_, _, hv.symm, fun _ _ => by kernel_rfl, fun w _ h => signs_any G n f l w h hn hl⟩
  | 5, _, hv =>
    injection hv with hv
    exact ⟨_, _, hv.symm, fun _ _ => by kernel_rfl, fun w hr h => become_any 6 13 [4, 5, 7] 3 3 (some ⟨b + 6, 0, none⟩) G n (b + 8) (b + 7) f l w h hn hl (fun p q r c => M.wat6 f p q c r) hr.c8 hr.c7 (by omega) (by omega) (hr.c6.more hG) rfl (by omega)⟩
  | 6, _, hv =>
    injection hv with hv
    exact ⟨_, _, hv.symm, fun _ _ => by kernel_rfl, fun w hr h => behind_any 7 0 0 G n (b + 9) (b + 10) f l w h hn hl (fun p q r c => M.wat7 f p q c r) hr.c9 hr.c10 (by omega) (by omega)⟩
end Go.Proofs.Ytanlclmlkpchfaa
