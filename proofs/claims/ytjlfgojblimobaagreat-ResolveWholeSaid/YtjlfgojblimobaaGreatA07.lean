/- The contract of package explicit's steps: the map of what classes do; and what a look-up in it tells. -/
import Derived.Test.YtjlfgojblimobaaGreatA06
import Derived.Maps.OwnSet
section
namespace Go.Proofs.YtjlfgojblimobaaGreat
open Go.RowKit
set_option maxRecDepth 100000

def stepsList : List MapEntry := [⟨.int .i64 16, .func (.func 61) #[] #[], 0⟩,
  ⟨.int .i64 14, .func (.func 61) #[] #[], 1⟩,
  ⟨.int .i64 17, .func (.func 61) #[] #[], 2⟩,
  ⟨.int .i64 15, .func (.func 61) #[] #[], 3⟩,
  ⟨.int .i64 20, .func (.func 62) #[] #[], 4⟩,
  ⟨.int .i64 19, .func (.func 62) #[] #[], 5⟩,
  ⟨.int .i64 21, .func (.func 62) #[] #[], 6⟩,
  ⟨.int .i64 22, .func (.func 63) #[] #[], 7⟩,
  ⟨.int .i64 18, .func (.func 64) #[] #[], 8⟩,
  ⟨.int .i64 10, .func (.func 65) #[] #[], 9⟩,
  ⟨.int .i64 9, .func (.func 66) #[] #[], 10⟩]
theorem Tryz.stepMap : Tryz.prog.underlying 72 = some (.map 39 81) := by kernel_rfl
theorem Tryz.stepKey : Tryz.prog.underlying 39 = some (.int .i64) := by kernel_rfl
def SomeSteps (w : World) (b n : Nat) : Prop := w.heap[b]? = some (.map (stepsList.take n).toArray n)
theorem run_entry {w : World} {b n : Nat} {k : Int} {v : Value} {B : Nat} (hb : SomeSteps w b n) (hn : stepsList[n]? = some ⟨.int .i64 k, v, n⟩) (hf : Instr.findNow (.int .i64) (.int .i64 k) (stepsList.take n) 0 = some none) (hB : B ≤ b) :
    ∃ w', (Instr.mapUpdate 72 (.map (some b)) (.int .i64 k) v).run Tryz.prog w = .ok () w' ∧ SomeSteps w' b (n + 1) ∧ Below B w w' := by
  have hb' : w.heap[b]? = some (.map (stepsList.take n).toArray n) := hb
  have hlt : b < w.heap.size := (Array.getElem?_eq_some_iff.1 hb').1
  have hf' : Instr.findNow (.int .i64) (.int .i64 k) (stepsList.take n).toArray.toList 0 = some none := hf
  refine ⟨{ w with heap := w.heap.setIfInBounds b (.map ((stepsList.take n).toArray.push ⟨.int .i64 k, v, n⟩) (n + 1)) }, ?_, ?_, ?_⟩
  · simp [Instr.mapUpdate, run_underlying Tryz.stepMap, MapKept.run_getObj_map hb', MapKept.run_checkKey Tryz.stepKey (k := Value.int .i64 k) (by simp [MapKept.IsKey]), MapKept.run_findKey Tryz.stepKey hf, MapKept.run_setObj_map _ hb', Result.andThen]
  · unfold SomeSteps
    rw [(MapKept.heap_set hb').1]
    have e : (stepsList.take (n + 1)) = stepsList.take n ++ [⟨.int .i64 k, v, n⟩] := by rw [List.take_add_one, hn]; rfl
    rw [e]
    simp
  · refine ⟨rfl, rfl, rfl, by simp, fun i hi => (MapKept.heap_set hb').2 i (by omega)⟩
set_option maxHeartbeats 4000000 in
theorem steps_any (w : World) : Calls Tryz.prog 35 #[] w fun r w' => r = .returned (.map (some w.heap.size)) ∧ SomeSteps w' w.heap.size 11 ∧ Below w.heap.size w w' := by
  have hmm := @run_makeMap Tryz.prog
  have h0 : SomeSteps (w.alloc (.map #[] 0)) w.heap.size 0 := World.alloc_heap_new w _
  obtain ⟨w1, u1, h1, b1⟩ := run_entry (B := w.heap.size) h0 (k := 16) (v := .func (.func 61) #[] #[]) rfl rfl (Nat.le_refl _)
  obtain ⟨w2, u2, h2, b2⟩ := run_entry (B := w.heap.size) h1 (k := 14) (v := .func (.func 61) #[] #[]) rfl rfl (Nat.le_refl _)
  obtain ⟨w3, u3, h3, b3⟩ := run_entry (B := w.heap.size) h2 (k := 17) (v := .func (.func 61) #[] #[]) rfl rfl (Nat.le_refl _)
  obtain ⟨w4, u4, h4, b4⟩ := run_entry (B := w.heap.size) h3 (k := 15) (v := .func (.func 61) #[] #[]) rfl rfl (Nat.le_refl _)
  obtain ⟨w5, u5, h5, b5⟩ := run_entry (B := w.heap.size) h4 (k := 20) (v := .func (.func 62) #[] #[]) rfl rfl (Nat.le_refl _)
  obtain ⟨w6, u6, h6, b6⟩ := run_entry (B := w.heap.size) h5 (k := 19) (v := .func (.func 62) #[] #[]) rfl rfl (Nat.le_refl _)
  obtain ⟨w7, u7, h7, b7⟩ := run_entry (B := w.heap.size) h6 (k := 21) (v := .func (.func 62) #[] #[]) rfl rfl (Nat.le_refl _)
  obtain ⟨w8, u8, h8, b8⟩ := run_entry (B := w.heap.size) h7 (k := 22) (v := .func (.func 63) #[] #[]) rfl rfl (Nat.le_refl _)
  obtain ⟨w9, u9, h9, b9⟩ := run_entry (B := w.heap.size) h8 (k := 18) (v := .func (.func 64) #[] #[]) rfl rfl (Nat.le_refl _)
  obtain ⟨w10, u10, h10, b10⟩ := run_entry (B := w.heap.size) h9 (k := 10) (v := .func (.func 65) #[] #[]) rfl rfl (Nat.le_refl _)
  obtain ⟨w11, u11, h11, b11⟩ := run_entry (B := w.heap.size) h10 (k := 9) (v := .func (.func 66) #[] #[]) rfl rfl (Nat.le_refl _)
  have HS := Lib.hid h11
  have HB := Lib.hid (((((((((((((Below.refl w.heap.size w).alloc (Nat.le_refl _) _).trans b1).trans b2).trans b3).trans b4).trans b5).trans b6).trans b7).trans b8).trans b9).trans b10).trans b11)
  clear h1 b1 h2 b2 h3 b3 h4 b4 h5 b5 h6 b6 h7 b7 h8 b8 h9 b9 h10 b10 h11 b11 h0
  go_enter Tryz.func35, Tryz.ntmps35
  go_wp2_with fail
  go_ret
  exact ⟨rfl, HS.out, HB.out⟩
def M.stepF (c : Int) : Nat := if c = 16 ∨ c = 14 ∨ c = 17 ∨ c = 15 then 61 else if c = 20 ∨ c = 19 ∨ c = 21 then 62 else if c = 22 then 63 else if c = 18 then 64 else if c = 10 then 65 else 66
def M.isStep (c : Int) : Prop := c = 16 ∨ c = 14 ∨ c = 17 ∨ c = 15 ∨ c = 20 ∨ c = 19 ∨ c = 21 ∨ c = 22 ∨ c = 18 ∨ c = 10 ∨ c = 9
theorem look_step {w : World} {b : Nat} (h : SomeSteps w b 11) {c : Int} (hc : M.isStep c) : (Instr.lookup 72 (.map (some b)) (.int .i64 c) true).run Tryz.prog w = .ok (.tuple #[.func (.func (M.stepF c)) #[] #[], .bool true]) w := by
  have h' : w.heap[b]? = some (.map stepsList.toArray 11) := h
  have key : ∀ i, Instr.findNow (.int .i64) (.int .i64 c) stepsList 0 = some (some (i, .func (.func (M.stepF c)) #[] #[])) → (Instr.lookup 72 (.map (some b)) (.int .i64 c) true).run Tryz.prog w = .ok (.tuple #[.func (.func (M.stepF c)) #[] #[], .bool true]) w := fun i hf => by
    simp [Instr.lookup, run_underlying Tryz.stepMap, MapKept.run_getObj_map h', MapKept.run_checkKey Tryz.stepKey (k := Value.int .i64 c) (by simp [MapKept.IsKey]), MapKept.run_findKey Tryz.stepKey hf, Result.andThen]
  rcases hc with rfl | rfl | rfl | rfl | rfl | rfl | rfl | rfl | rfl | rfl | rfl
  · exact key 0 rfl
  · exact key 1 rfl
  · exact key 2 rfl
  · exact key 3 rfl
  · exact key 4 rfl
  · exact key 5 rfl
  · exact key 6 rfl
  · exact key 7 rfl
  · exact key 8 rfl
  · exact key 9 rfl
  · exact key 10 rfl
theorem zero_step (w : World) : (zeroValue 81).run Tryz.prog w = .ok .nilFunc w := by kernel_rfl
theorem look_none {w : World} {b : Nat} (h : SomeSteps w b 11) {c : Int} (hc : ¬ M.isStep c) : (Instr.lookup 72 (.map (some b)) (.int .i64 c) true).run Tryz.prog w = .ok (.tuple #[.nilFunc, .bool false]) w := by
  have h' : w.heap[b]? = some (.map stepsList.toArray 11) := h
  have hz := zero_step w
  have hf : Instr.findNow (.int .i64) (.int .i64 c) stepsList 0 = some none := by
    unfold M.isStep at hc
    simp only [not_or] at hc
    obtain ⟨h0, h1, h2, h3, h4, h5, h6, h7, h8, h9, h10⟩ := hc
    simp [stepsList, Instr.findNow, Instr.sameNow, beq_eq_false_iff_ne.2 h0, beq_eq_false_iff_ne.2 h1, beq_eq_false_iff_ne.2 h2, beq_eq_false_iff_ne.2 h3, beq_eq_false_iff_ne.2 h4, beq_eq_false_iff_ne.2 h5, beq_eq_false_iff_ne.2 h6, beq_eq_false_iff_ne.2 h7, beq_eq_false_iff_ne.2 h8, beq_eq_false_iff_ne.2 h9, beq_eq_false_iff_ne.2 h10]
  simp [Instr.lookup, run_underlying Tryz.stepMap, MapKept.run_getObj_map h', MapKept.run_checkKey Tryz.stepKey (k := Value.int .i64 c) (by simp [MapKept.IsKey]), MapKept.run_findKey Tryz.stepKey hf, hz, Result.andThen]
end Go.Proofs.YtjlfgojblimobaaGreat
end
