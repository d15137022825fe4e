/- The contracts of utf's Next and of its deferred call over the translation. Conditions: the slice reads as a list of bytes; the variable lengths holds the four rows of the program's text. -/
import Derived.Test.YtamlknnkahhfmaaDoorFirst
import Derived.Defers
import Derived.Recover
namespace Go.Proofs.YtamlknnkahhfmaaDoor
open Go.RowKit

theorem nextCatch_panicking (p q s : Addr) (x y z : Int) (u : TypeId) (pv : Value) (older : List PanicEntry) (w : World) (hp : w.cell? p = some (.int .i64 x)) (hq : w.cell? q = some (.int .i64 y)) (hs : w.cell? s = some (.int .i64 z))
    (fp : w.frozen? p = false) (fq : w.frozen? q = false) (fs : w.frozen? s = false) (hpq : ¬ p = q) (hps : ¬ p = s) (hqs : ¬ q = s) :
    CallsD Tryd.prog 22 #[.pointer (some p), .pointer (some q), .pointer (some s)] (.panicking ({ v := .iface u pv, recovered := false } :: older)) w fun e u' w' =>
      e = .returned (.tuple #[]) ∧ u' = .panicking ({ v := .iface u pv, recovered := true } :: older) ∧ w' = ((w.setCell p (.int .i64 0)).setCell q (.int .i64 0)).setCell s (.int .i64 11) := by
  refine callsD_of_wpS Tryd.func22 rfl fun c₀ cs hu => ?_
  apply wpS_seq
  apply wpS_region
  simp [wpOpsS, go_sem, recoverD, hu, Tryd.ntmps22, Exit.thenS]
  refine wpS_cond (t := true) (by simp [Act.eval, Array.replicate]) ?_
  simp only [if_true]
  apply wpS_region
  have q1 : (w.setCell p (.int .i64 0)).cell? q = some (.int .i64 y) := (World.cell?_setCell_other _ _ _ _ hpq).trans hq
  have s1 : (w.setCell p (.int .i64 0)).cell? s = some (.int .i64 z) := (World.cell?_setCell_other _ _ _ _ hps).trans hs
  have s2 : ((w.setCell p (.int .i64 0)).setCell q (.int .i64 0)).cell? s = some (.int .i64 z) := (World.cell?_setCell_other _ _ _ _ hqs).trans s1
  simp [wpOpsS, go_sem, hp, fp, fq, fs, q1, s2, bodyPostS, results, Tryd.results22]

theorem nextCatch_idle (p q s : Addr) (w : World) :
    CallsD Tryd.prog 22 #[.pointer (some p), .pointer (some q), .pointer (some s)] .returning w fun e u' w' => e = .returned (.tuple #[]) ∧ u' = .returning ∧ w' = w := by
  refine callsD_of_wpS Tryd.func22 rfl fun c₀ cs hu => ?_
  apply wpS_seq
  apply wpS_region
  simp [wpOpsS, go_sem, recoverD, hu, Tryd.ntmps22, Exit.thenS]
  refine wpS_cond (t := false) (by simp [Act.eval, Array.replicate]) ?_
  simp only [Bool.false_eq_true, if_false]
  refine wpS_of_wp (wp_skip ?_)
  cases c₀
  simp_all [bodyPostS, results, Tryd.results22]

/-- The world behind Next's three named results. -/
def nextWorld (w : World) : World := ((w.alloc (.cells #[.int .i64 0] 3)).alloc (.cells #[.int .i64 0] 3)).alloc (.cells #[.int .i64 0] 25)
theorem nextWorld_size (w : World) : (nextWorld w).heap.size = w.heap.size + 3 := by simp [nextWorld]
theorem nextWorld_below (w : World) : Below w.heap.size w (nextWorld w) := (((Below.refl _ _).alloc (Nat.le_refl _) _).alloc (by simp) _).alloc (by simp; omega) _
theorem nextWorld_cells (w : World) : (nextWorld w).cell? ⟨w.heap.size, 0, none⟩ = some (.int .i64 0) ∧ (nextWorld w).cell? ⟨w.heap.size + 1, 0, none⟩ = some (.int .i64 0) ∧ (nextWorld w).cell? ⟨w.heap.size + 1 + 1, 0, none⟩ = some (.int .i64 0) ∧
    (nextWorld w).frozen? ⟨w.heap.size, 0, none⟩ = false ∧ (nextWorld w).frozen? ⟨w.heap.size + 1, 0, none⟩ = false ∧ (nextWorld w).frozen? ⟨w.heap.size + 1 + 1, 0, none⟩ = false := by
  unfold nextWorld
  refine ⟨?_, ?_, ?_, ?_, ?_, ?_⟩ <;> simp [go_sem]
theorem nextWorld_after {w w1 : World} (hb : Below (nextWorld w).heap.size (nextWorld w) w1) : w1.cell? ⟨w.heap.size, 0, none⟩ = some (.int .i64 0) ∧ w1.cell? ⟨w.heap.size + 1, 0, none⟩ = some (.int .i64 0) ∧ w1.cell? ⟨w.heap.size + 1 + 1, 0, none⟩ = some (.int .i64 0) ∧
    w1.frozen? ⟨w.heap.size, 0, none⟩ = false ∧ w1.frozen? ⟨w.heap.size + 1, 0, none⟩ = false ∧ w1.frozen? ⟨w.heap.size + 1 + 1, 0, none⟩ = false := by
  obtain ⟨a, b, c, d, e, f⟩ := nextWorld_cells w
  have hs := nextWorld_size w
  refine ⟨(hb.cell ?_).trans a, (hb.cell ?_).trans b, (hb.cell ?_).trans c, (hb.frozen ?_).trans d, (hb.frozen ?_).trans e, (hb.frozen ?_).trans f⟩ <;> (rw [hs]; simp <;> omega)

set_option maxHeartbeats 400000 in
theorem next_none (A : Option Addr) (cap : Nat) (l : List Int) (w : World) (hl : LensOk w) (hby : ∀ x ∈ l, 0 ≤ x ∧ x ≤ 255) (hrd : RdS .u8 w w.heap.size A l) (hcap : l.length ≤ cap) (hm : cap ≤ maxLen) (hf : M.firstM l = none) :
    Calls Tryd.prog 13 #[.slice A l.length cap] w fun e w' => e = .returned (.tuple #[.int .i64 0, .int .i64 0, .int .i64 11]) ∧ Below w.heap.size w w' := by
  have hmf : ∀ (fn : Fn) (first cap : Array Value) (w : World), (Instr.makeFunc fn first cap).run Tryd.prog w = .ok (.func fn first cap) w := fun _ _ _ _ => rfl
  have HC := Lib.hid (first_none A cap l (nextWorld w) (hl.below (nextWorld_below w) hl.lt) hby ((hrd.below (nextWorld_below w)).more (by rw [nextWorld_size]; omega)) hcap hm hf)
  clear hl hrd hby hf hcap hm
  go_enter_defers Tryd.func13, Tryd.ntmps13
  go_wp2_with fail
  refine HC.out.mono ?_
  rintro e w1 ⟨rfl, hb⟩
  obtain ⟨c1, c2, c3, f1, f2, f3⟩ := nextWorld_after hb
  go_wp2
  refine leaves_cons (f := 22) (args := #[.pointer (some ⟨w.heap.size, 0, none⟩), .pointer (some ⟨w.heap.size + 1, 0, none⟩), .pointer (some ⟨w.heap.size + 1 + 1, 0, none⟩)]) (by simp) (by simp [go_sem]) ?_
  refine (nextCatch_panicking ⟨w.heap.size, 0, none⟩ ⟨w.heap.size + 1, 0, none⟩ ⟨w.heap.size + 1 + 1, 0, none⟩ 0 0 0 25 (.int .i64 11) [] w1 c1 c2 c3 f1 f2 f3 (by simp) (by simp) (by simp)).mono ?_
  rintro e u' w'' ⟨rfl, rfl, rfl⟩
  have hbb : Below w.heap.size w w1 := (nextWorld_below w).trans (hb.mono (by rw [nextWorld_size]; omega))
  simp [Leaves, settle, results, Tryd.results13, go_sem, c1, c2, c3]
  exact ((hbb.setCell (by simp) _).setCell (by simp) _).setCell (by simp; omega) _

theorem set_five (w : World) (p q s : Addr) (x y z a b c : Value) (hp : w.cell? p = some a) (hq : w.cell? q = some b) (hs : w.cell? s = some c) (hpq : p ≠ q) (hps : p ≠ s) (hqs : q ≠ s) :
    (((((w.setCell p x).setCell q y).setCell p x).setCell q y).setCell s z).drew.cell? p = some x ∧ (((((w.setCell p x).setCell q y).setCell p x).setCell q y).setCell s z).drew.cell? q = some y ∧
    (((((w.setCell p x).setCell q y).setCell p x).setCell q y).setCell s z).drew.cell? s = some z := by
  have p1 := World.cell?_setCell_same (v := x) w p hp
  have p2 := (World.cell?_setCell_other (w.setCell p x) q p y hpq.symm).trans p1
  have p3 := World.cell?_setCell_same (v := x) _ p p2
  have p4 := (World.cell?_setCell_other _ q p y hpq.symm).trans p3
  have q1 := (World.cell?_setCell_other w p q x hpq).trans hq
  have q2 := World.cell?_setCell_same (v := y) _ q q1
  have q3 := (World.cell?_setCell_other _ p q x hpq).trans q2
  have q4 := World.cell?_setCell_same (v := y) _ q q3
  have s1 := (World.cell?_setCell_other w p s x hps).trans hs
  have s2 := (World.cell?_setCell_other _ q s y hqs).trans s1
  have s3 := (World.cell?_setCell_other _ p s x hps).trans s2
  have s4 := (World.cell?_setCell_other _ q s y hqs).trans s3
  have p5 := (World.cell?_setCell_other _ s p z hps.symm).trans p4
  have q5 := (World.cell?_setCell_other _ s q z hqs.symm).trans q4
  have s5 := World.cell?_setCell_same (v := z) _ s s4
  simp only [World.cell?_drew]
  exact ⟨p5, q5, s5⟩

set_option maxHeartbeats 1000000 in
theorem next_some (A : Option Addr) (cap : Nat) (l : List Int) (c : Int) (n : Nat) (w : World) (hl : LensOk w) (hby : ∀ x ∈ l, 0 ≤ x ∧ x ≤ 255) (hrd : RdS .u8 w w.heap.size A l) (hcap : l.length ≤ cap) (hm : cap ≤ maxLen) (hf : M.firstM l = some (c, n)) :
    Calls Tryd.prog 13 #[.slice A l.length cap] w fun e w' => e = .returned (.tuple #[.int .i64 c, .int .i64 n, .int .i64 0]) ∧ Below w.heap.size w w' := by
  have hmf : ∀ (fn : Fn) (first cap : Array Value) (w : World), (Instr.makeFunc fn first cap).run Tryd.prog w = .ok (.func fn first cap) w := fun _ _ _ _ => rfl
  have HC := Lib.hid (first_some A cap l c n (nextWorld w) (hl.below (nextWorld_below w) hl.lt) hby ((hrd.below (nextWorld_below w)).more (by rw [nextWorld_size]; omega)) hcap hm hf)
  clear hl hrd hby hf hcap hm
  go_enter_defers Tryd.func13, Tryd.ntmps13
  go_wp2_with fail
  refine HC.out.mono ?_
  rintro e w1 ⟨rfl, hb⟩
  obtain ⟨c1, c2, c3, f1, f2, f3⟩ := nextWorld_after hb
  go_wp2
  go_region
  all_goals go_wp2
  refine leaves_cons (f := 22) (args := #[.pointer (some ⟨w.heap.size, 0, none⟩), .pointer (some ⟨w.heap.size + 1, 0, none⟩), .pointer (some ⟨w.heap.size + 1 + 1, 0, none⟩)]) (by simp) (by simp [go_sem]) ?_
  refine (nextCatch_idle ⟨w.heap.size, 0, none⟩ ⟨w.heap.size + 1, 0, none⟩ ⟨w.heap.size + 1 + 1, 0, none⟩ _).mono ?_
  rintro e u' w'' ⟨rfl, rfl, hw⟩
  have hbb : Below w.heap.size w w1 := (nextWorld_below w).trans (hb.mono (by rw [nextWorld_size]; omega))
  obtain ⟨d1, d2, d3⟩ := set_five w1 ⟨w.heap.size, 0, none⟩ ⟨w.heap.size + 1, 0, none⟩ ⟨w.heap.size + 1 + 1, 0, none⟩ (.int .i64 c) (.int .i64 n) (.int .i64 0) _ _ _ c1 c2 c3 (by simp) (by simp) (by simp)
  rw [← hw] at d1 d2 d3
  have hbw : Below w.heap.size w w'' := by
    rw [hw]
    exact (((((hbb.setCell (Nat.le_refl _) _).setCell (Nat.le_succ _) _).setCell (Nat.le_refl _) _).setCell (Nat.le_succ _) _).setCell (Nat.le_trans (Nat.le_succ _) (Nat.le_succ _)) _).drew
  clear hw
  simp [Leaves, settle, results, Tryd.results13, go_sem, d1, d2, d3, hbw]

end Go.Proofs.YtamlknnkahhfmaaDoor
