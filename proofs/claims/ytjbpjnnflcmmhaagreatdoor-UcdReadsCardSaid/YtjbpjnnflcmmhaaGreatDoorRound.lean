/- One round of a range over a function whose body goes on or panics: its contract out of its body's walk. No program is read here. -/
import Derived.RangeFuncIn
namespace Go.Proofs.YtjbpjnnflcmmhaaGreatDoor
variable {F : Fence} {n : Nat} {P : Program}

/-- What is asked at a round's end: it goes on, or it panics with nothing deferred. -/
def roundPostP (P : Program) (l : Nat) (R : Ending → World → Prop) : Exit → Act → World → Prop
  | .normal, _, w => ∃ v w', (Instr.endRound l none).run P w = .ok v w' ∧ R (.returned v) w'
  | .panic chain, a, w => a.defers = [] ∧ R (.panicked chain) w
  | _, _, _ => False

theorem roundIn_panics {l : Nat} {f : FuncId} {fn : Func} (hfn : P.funcs[f]? = some fn) {tmps : Array Value} {assign body : Code} {w : World} {R : Ending → World → Prop} (hF : F.fn f)
    (h : assign.wpIn (F.inRound l) n P (Exit.then (fun a₁ w₁ => ∃ w₂, (Instr.beginRound l).run P w₁ = .ok () w₂ ∧ body.wpIn (F.inRound l) n P (roundPostP P l R) a₁ w₂) (fun _ _ _ => False))
      { tmps := tmps, defers := [] } w) :
    RoundIn F n P l f tmps assign body w R := by
  refine ⟨hF, fun up ups room => ?_⟩
  obtain ⟨fr, hfr⟩ : ∃ fr : Frame, fr = { (default : Frame) with fn := f, kind := .normal, roundOf := some l } := ⟨_, rfl⟩
  have start : Frame.round l f tmps assign body .normal = fr.atR { tmps := tmps, defers := [] } [.code assign, .beginRound, .code body] := by
    rw [hfr]; simp [Frame.round, Frame.atR]
  have e1 : fr.roundOf = some l := by rw [hfr]
  have e2 : fr.kind = .normal := by rw [hfr]
  have e3 : fr.fn = f := by rw [hfr]
  have room' : (F.inRound l).room ((up :: ups).length + 1 + n) := room
  have hF' : (F.inRound l).fn fr.fn := by rw [e3]; exact hF
  rw [start]
  obtain ⟨x, a₁, w₁, post, way⟩ := h fr [.beginRound, .code body] (up :: ups) e1 hF' room'
  match x, post, way with
  | .normal, ⟨w₂, begins, walk⟩, way =>
    have next := StepsIn.one (fenced_calm (P := P) (fr := fr.atR a₁ [.beginRound, .code body]) hF' room' rfl) (stepR_beginRound (P := P) (b := fr) (k := [.code body]) (cs := up :: ups) e1 begins)
    obtain ⟨y, a₂, w₃, post₂, way₂⟩ := walk fr [] (up :: ups) e1 hF' room'
    match y, post₂, way₂ with
    | .normal, ⟨v, w₄, ends, hR⟩, way₂ =>
      exact ⟨.returned v, w₄, hR, (StepsIn.trans way next).trans (StepsIn.trans way₂ (.one (fenced_calm (fr := fr.atR a₂ []) hF' room' rfl) (stepR_round_end e1 e2 ends)))⟩
    | .panic chain, ⟨hd, hR⟩, ⟨todo, way₂⟩ =>
      have out : ({ fr.atR a₂ todo with mode := .panicking chain } : Frame).leaving P w₃ (.panicked chain) := ⟨rfl, hd, fn, by rw [← hfn]; exact congrArg (fun k => P.funcs[k]?) e3⟩
      exact ⟨.panicked chain, w₃, hR, (StepsIn.trans way next).trans (StepsIn.trans way₂ (.one (fenced_leaving (n := n) (F := F.inRound l) hF' room' out) (step_leave_panicked out)))⟩
end Go.Proofs.YtjbpjnnflcmmhaaGreatDoor
