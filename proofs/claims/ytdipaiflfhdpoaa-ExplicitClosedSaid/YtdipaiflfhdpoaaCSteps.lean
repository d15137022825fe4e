/- The contract of package explicit's steps: the map of what classes do; and what a look-up in it tells. -/
import Derived.Test.YtdipaiflfhdpoaaCAnew
import Derived.Maps.OwnSet
namespace Go.Proofs.Ytdipaiflfhdpoaa
open Go.RowKit

def stepsList : List MapEntry := [⟨.int .i64 16, .func (.func 36) #[] #[], 0⟩,
  ⟨.int .i64 14, .func (.func 36) #[] #[], 1⟩,
  ⟨.int .i64 17, .func (.func 36) #[] #[], 2⟩,
  ⟨.int .i64 15, .func (.func 36) #[] #[], 3⟩,
  ⟨.int .i64 20, .func (.func 37) #[] #[], 4⟩,
  ⟨.int .i64 19, .func (.func 37) #[] #[], 5⟩,
  ⟨.int .i64 21, .func (.func 37) #[] #[], 6⟩,
  ⟨.int .i64 22, .func (.func 38) #[] #[], 7⟩,
  ⟨.int .i64 18, .func (.func 39) #[] #[], 8⟩,
  ⟨.int .i64 10, .func (.func 40) #[] #[], 9⟩,
  ⟨.int .i64 9, .func (.func 41) #[] #[], 10⟩]
theorem Try.stepMap : Try.prog.underlying 52 = some (.map 34 57) := by kernel_rfl
theorem Try.stepKey : Try.prog.underlying 34 = some (.int .i64) := by kernel_rfl
/-- A map of some of what classes do. -/
def SomeSteps (w : World) (b n : Nat) : Prop := w.heap[b]? = some (.map (stepsList.take n).toArray n)
/-- One more entry. -/
theorem run_entry {w : World} {b n : Nat} {k : Int} {v : Value} {B : Nat} (hb : SomeSteps w b n) (hn : stepsList[n]? = some ⟨.int .i64 k, v, n⟩) (hf : Instr.findNow (.int .i64) (.int .i64 k) (stepsList.take n) 0 = some none) (hB : B ≤ b) :
    ∃ w', (Instr.mapUpdate 52 (.map (some b)) (.int .i64 k) v).run Try.prog w = .ok () w' ∧ SomeSteps w' b (n + 1) ∧ Below B w w' := by
  have hb' : w.heap[b]? = some (.map (stepsList.take n).toArray n) := hb
  have hlt : b < w.heap.size := (Array.getElem?_eq_some_iff.1 hb').1
  have hf' : Instr.findNow (.int .i64) (.int .i64 k) (stepsList.take n).toArray.toList 0 = some none := hf
  refine ⟨{ w with heap := w.heap.setIfInBounds b (.map ((stepsList.take n).toArray.push ⟨.int .i64 k, v, n⟩) (n + 1)) }, ?_, ?_, ?_⟩
  · simp [Instr.mapUpdate, run_underlying Try.stepMap, MapKept.run_getObj_map hb', MapKept.run_checkKey Try.stepKey (k := Value.int .i64 k) (by simp [MapKept.IsKey]), MapKept.run_findKey Try.stepKey hf, MapKept.run_setObj_map _ hb', Result.andThen]
  · unfold SomeSteps
    rw [(MapKept.heap_set hb').1]
    have e : (stepsList.take (n + 1)) = stepsList.take n ++ [⟨.int .i64 k, v, n⟩] := by rw [List.take_add_one, hn]; rfl
    rw [e]
    simp
  · refine ⟨rfl, rfl, rfl, by simp, fun i hi => (MapKept.heap_set hb').2 i (by omega)⟩
set_option maxHeartbeats 4000000 in
theorem steps_any (w : World) : Calls Try.prog 26 #[] w fun r w' => r = .returned (.map (some w.heap.size)) ∧ SomeSteps w' w.heap.size 11 ∧ Below w.heap.size w w' := by
  have hmm := @run_makeMap Try.prog
  have h0 : SomeSteps (w.alloc (.map #[] 0)) w.heap.size 0 := World.alloc_heap_new w _
  obtain ⟨w1, u1, h1, b1⟩ := run_entry (B := w.heap.size) h0 (k := 16) (v := .func (.func 36) #[] #[]) rfl rfl (Nat.le_refl _)
  obtain ⟨w2, u2, h2, b2⟩ := run_entry (B := w.heap.size) h1 (k := 14) (v := .func (.func 36) #[] #[]) rfl rfl (Nat.le_refl _)
  obtain ⟨w3, u3, h3, b3⟩ := run_entry (B := w.heap.size) h2 (k := 17) (v := .func (.func 36) #[] #[]) rfl rfl (Nat.le_refl _)
  obtain ⟨w4, u4, h4, b4⟩ := run_entry (B := w.heap.size) h3 (k := 15) (v := .func (.func 36) #[] #[]) rfl rfl (Nat.le_refl _)
  obtain ⟨w5, u5, h5, b5⟩ := run_entry (B := w.heap.size) h4 (k := 20) (v := .func (.func 37) #[] #[]) rfl rfl (Nat.le_refl _)
  obtain ⟨w6, u6, h6, b6⟩ := run_entry (B := w.heap.size) h5 (k := 19) (v := .func (.func 37) #[] #[]) rfl rfl (Nat.le_refl _)
  obtain ⟨w7, u7, h7, b7⟩ := run_entry (B := w.heap.size) h6 (k := 21) (v := .func (.func 37) #[] #[]) rfl rfl (Nat.le_refl _)
  obtain ⟨w8, u8, h8, b8⟩ := run_entry (B := w.heap.size) h7 (k := 22) (v := .func (.func 38) #[] #[]) rfl rfl (Nat.le_refl _)
  obtain ⟨w9, u9, h9, b9⟩ := run_entry (B := w.heap.size) h8 (k := 18) (v := .func (.func 39) #[] #[]) rfl rfl (Nat.le_refl _)
  obtain ⟨w10, u10, h10, b10⟩ := run_entry (B := w.heap.size) h9 (k := 10) (v := .func (.func 40) #[] #[]) rfl rfl (Nat.le_refl _)
  obtain ⟨w11, u11, h11, b11⟩ := run_entry (B := w.heap.size) h10 (k := 9) (v := .func (.func 41) #[] #[]) rfl rfl (Nat.le_refl _)
  have HS := Lib.hid h11
  have HB := Lib.hid (((((((((((((Below.refl w.heap.size w).alloc (Nat.le_refl _) _).trans b1).trans b2).trans b3).trans b4).trans b5).trans b6).trans b7).trans b8).trans b9).trans b10).trans b11)
  clear h1 b1 h2 b2 h3 b3 h4 b4 h5 b5 h6 b6 h7 b7 h8 b8 h9 b9 h10 b10 h11 b11 h0
  go_enter Try.func26, Try.ntmps26
  go_wp2_with fail
  go_ret
  exact ⟨rfl, HS.out, HB.out⟩
/-- What a class does: the number of the function. -/
def M.stepF (c : Int) : Nat := if c = 16 ∨ c = 14 ∨ c = 17 ∨ c = 15 then 36 else if c = 20 ∨ c = 19 ∨ c = 21 then 37 else if c = 22 then 38 else if c = 18 then 39 else if c = 10 then 40 else 41
def M.isStep (c : Int) : Prop := c = 16 ∨ c = 14 ∨ c = 17 ∨ c = 15 ∨ c = 20 ∨ c = 19 ∨ c = 21 ∨ c = 22 ∨ c = 18 ∨ c = 10 ∨ c = 9
theorem look_step {w : World} {b : Nat} (h : SomeSteps w b 11) {c : Int} (hc : M.isStep c) : (Instr.lookup 52 (.map (some b)) (.int .i64 c) true).run Try.prog w = .ok (.tuple #[.func (.func (M.stepF c)) #[] #[], .bool true]) w := by
  have h' : w.heap[b]? = some (.map stepsList.toArray 11) := h
  have key : ∀ i, Instr.findNow (.int .i64) (.int .i64 c) stepsList 0 = some (some (i, .func (.func (M.stepF c)) #[] #[])) → (Instr.lookup 52 (.map (some b)) (.int .i64 c) true).run Try.prog w = .ok (.tuple #[.func (.func (M.stepF c)) #[] #[], .bool true]) w := fun i hf => by
    simp [Instr.lookup, run_underlying Try.stepMap, MapKept.run_getObj_map h', MapKept.run_checkKey Try.stepKey (k := Value.int .i64 c) (by simp [MapKept.IsKey]), MapKept.run_findKey Try.stepKey hf, Result.andThen]
  rcases hc with rfl | rfl | rfl | rfl | rfl | rfl | rfl | rfl | rfl | rfl | rfl
  · exact key 0 rfl
  · exact key 1 rfl
  · exact key 2 rfl
  · exact key 3 rfl
  · exact key 4 rfl
  · exact key 5 rfl
  · exact key 6 rfl
  · exact key 7 rfl
  · exact key 8 rfl
  · exact key 9 rfl
  · exact key 10 rfl
theorem zero_step (w : World) : (zeroValue 57).run Try.prog w = .ok .nilFunc w := by kernel_rfl
theorem look_none {w : World} {b : Nat} (h : SomeSteps w b 11) {c : Int} (hc : ¬ M.isStep c) : (Instr.lookup 52 (.map (some b)) (.int .i64 c) true).run Try.prog w = .ok (.tuple #[.nilFunc, .bool false]) w := by
  have h' : w.heap[b]? = some (.map stepsList.toArray 11) := h
  have hz := zero_step w
  have hf : Instr.findNow (.int .i64) (.int .i64 c) stepsList 0 = some none := by
    unfold M.isStep at hc
    simp only [not_or] at hc
    obtain ⟨h0, h1, h2, h3, h4, h5, h6, h7, h8, h9, h10⟩ := hc
    simp [stepsList, Instr.findNow, Instr.sameNow, beq_eq_false_iff_ne.2 h0, beq_eq_false_iff_ne.2 h1, beq_eq_false_iff_ne.2 h2, beq_eq_false_iff_ne.2 h3, beq_eq_false_iff_ne.2 h4, beq_eq_false_iff_ne.2 h5, beq_eq_false_iff_ne.2 h6, beq_eq_false_iff_ne.2 h7, beq_eq_false_iff_ne.2 h8, beq_eq_false_iff_ne.2 h9, beq_eq_false_iff_ne.2 h10]
  simp [Instr.lookup, run_underlying Try.stepMap, MapKept.run_getObj_map h', MapKept.run_checkKey Try.stepKey (k := Value.int .i64 c) (by simp [MapKept.IsKey]), MapKept.run_findKey Try.stepKey hf, hz, Result.andThen]
end Go.Proofs.Ytdipaiflfhdpoaa
