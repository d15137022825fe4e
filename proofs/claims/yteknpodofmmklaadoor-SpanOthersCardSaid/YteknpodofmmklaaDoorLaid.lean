/- What the listed variable lengths gives the walks: its block holds the four rows of the program's text; and a start that meets the condition. -/
import Derived.Test.YteknpodofmmklaaDoorTie
import Derived.Test.YteknpodofmmklaaDoorCards
import Derived.Test.YteknpodofmmklaaDoorCount
import Derived.ProofKit
import Derived.LaidMore
import Derived.OpenShut
import Derived.Stop.Joined
import Derived.ChangeOld
import Derived.SevenTiedAt
namespace Go.Proofs.YteknpodofmmklaaDoor
open Go.ChangeShapes Go.WideShapes Go.ChangeAt Go.WideMaps Go.WideElems Go.RowKit

theorem Tryd.own : ownKnob Tryd.prog.godebug = none := by kernel_rfl
theorem Tryd.laidOut : laidOutB Tryd.prog = true := by kernel_rfl
theorem gLens : Tryd.prog.globalNamed "frisket/utf.lengths" = some 1 := by kernel_rfl
theorem tLens : (Tryd.prog.globals[1]?).map (·.type) = some 74 := by kernel_rfl
def laidL : List (String × DataW Unit) := [("frisket/utf.lengths", Rows.laid_frisket_utf_lengths)]

set_option maxRecDepth 100000 in
theorem door_met (os : Os) (args : Array Value) : laidMetH Tryd.prog laidL ((World.doorLaid Tryd.prog 400 os).forCall (fun _ _ => 0) ⟨#[], args, []⟩).memory :=
  laidMetH_of_parts3 (fuel := 8) (laidMet_of_run' 8 (by kernel_rfl) (by kernel_rfl)) (by kernel_rfl) (by kernel_rfl)

/-- A struct of three numbers that reads as three literals. -/
theorem open_three {H : Type} {enc : TypeId × Value → H} {W : World} {base : Nat} {sp : Nat → Bool} {held : Bool} {m : Nat} {cs : List Value} {a b c : Int} {p : List MemPlace}
    (h : DataW.trod enc Tryd.prog W base sp held m 73 cs = some (.agg [.lit (.int .i64 a), .lit (.int .i64 b), .lit (.int .i64 c)], p)) : cs = [.int .i64 a, .int .i64 b, .int .i64 c] := by
  obtain ⟨xs, n, _, hx, hlen, hxl, hf⟩ := DataW.trod_struct Tryd.underlying73 h
  have c3 : Tryd.prog.cellsOf 3 = 1 := by kernel_rfl
  have cT : Tryd.prog.cellsOf 73 = 3 := by kernel_rfl
  rw [cT] at hlen
  simp only [Prod.mk.injEq, DataW.agg.injEq] at hx
  match cs, hlen, xs, hxl, hx, hf with
  | [c0, c1, c2], _, [x0, x1, x2], _, hx, hf =>
    have f0 : DataW.trod enc Tryd.prog W base sp held n 3 (List.take (Tryd.prog.cellsOf 3) [c0, c1, c2]) = some x0 := hf 0 _ rfl
    have f1 : DataW.trod enc Tryd.prog W base sp held n 3 (List.take (Tryd.prog.cellsOf 3) [c1, c2]) = some x1 := hf 1 _ rfl
    have f2 : DataW.trod enc Tryd.prog W base sp held n 3 (List.take (Tryd.prog.cellsOf 3) [c2]) = some x2 := hf 2 _ rfl
    rw [c3] at f0 f1 f2
    obtain ⟨k0, e0, g0, _⟩ := DataW.trod_int Tryd.underlying3 f0
    obtain ⟨k1, e1, g1, _⟩ := DataW.trod_int Tryd.underlying3 f1
    obtain ⟨k2, e2, g2, _⟩ := DataW.trod_int Tryd.underlying3 f2
    subst g0 g1 g2
    simp at e0 e1 e2 hx
    obtain ⟨⟨rfl, rfl, rfl⟩, _⟩ := hx
    rw [e0, e1, e2]

theorem lens_of_laid {W : World} (h : laidMetH Tryd.prog laidL W) : LensOk W := by
  rw [MakeChecks.laidMetH_plain _ _ _ (by kernel_rfl)] at h
  obtain ⟨ps, ⟨g0, t0, cs0, f0, p0, q0, hg0, ht0, hv0, hd0, _, _⟩, _, _⟩ := h
  obtain rfl := Option.some.inj (gLens.symm.trans hg0)
  obtain rfl := Option.some.inj (tLens.symm.trans ht0)
  obtain ⟨xs, m1, rfl, hx1, hlen, hn3, hel⟩ := DataW.trod_array Tryd.underlying74 hd0
  have cT : Tryd.prog.cellsOf 73 = 3 := by kernel_rfl
  have cA : Tryd.prog.cellsOf 74 = 12 := by kernel_rfl
  rw [cA] at hlen
  rw [cT] at hel
  simp only [Rows.laid_frisket_utf_lengths, Prod.mk.injEq, DataW.agg.injEq] at hx1
  match xs, hn3, hx1, hel with
  | [(y0, p0'), (y1, p1'), (y2, p2'), (y3, p3')], _, hx1, hel =>
    simp only [List.map_cons, List.map_nil, List.cons.injEq, and_true] at hx1
    obtain ⟨⟨rfl, rfl, rfl, rfl⟩, _⟩ := hx1
    have a0 := open_three (hel 0 (by decide))
    have a1 := open_three (hel 1 (by decide))
    have a2 := open_three (hel 2 (by decide))
    have a3 := open_three (hel 3 (by decide))
    have hcs : cs0.toList = lensCells.toList := by
      have e := List.take_append_drop 3 cs0.toList
      have e' := List.take_append_drop 3 (cs0.toList.drop 3)
      have e'' := List.take_append_drop 3 (cs0.toList.drop 6)
      have e3 : cs0.toList.drop 9 = (cs0.toList.drop 9).take 3 := by rw [List.take_of_length_le]; rw [List.length_drop, hlen]; decide
      rw [List.drop_drop] at e' e''
      simp only [Nat.zero_mul, List.drop_zero, Nat.one_mul, Nat.reduceMul, Nat.reduceAdd] at a0 a1 a2 a3 e' e''
      rw [← e, ← e', ← e'', e3, a0, a1, a2, a3]
      rfl
    have hcs' : cs0 = lensCells := by rw [← Array.toArray_toList (xs := cs0), hcs]
    subst hcs'
    simp only [World.var?, hg0, Option.bind_some] at hv0
    unfold LensOk
    split at hv0
    · rename_i cs t fr hh
      obtain rfl : cs = lensCells := by injection hv0
      exact ⟨t, fr, hh⟩
    · cases hv0
end Go.Proofs.YteknpodofmmklaaDoor
