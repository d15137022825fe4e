/- The contract of the document's Same. Conditions: the slices read as lists of at most sixty spans. -/
import Derived.Test.YteknpodofmmklaaDoorSpn
import Derived.Deep.QuietTactic
import Derived.BigQuiet
namespace Go.Proofs.YteknpodofmmklaaDoor
open Go.RowKit

def M.sameL : List M.S → List M.S → Bool
  | [], [] => true
  | e :: r, f :: s => e.same f && M.sameL r s
  | _, _ => false
theorem M.sameL_iff (l m : List M.S) : M.sameL l m = true ↔ l = m := by
  induction l generalizing m with
  | nil => cases m <;> simp [M.sameL]
  | cons e r ih => cases m with
    | nil => simp [M.sameL]
    | cons f s => simp [M.sameL, M.same_iff, ih]
theorem M.sameL_self (l : List M.S) : M.sameL l l = true := (M.sameL_iff l l).2 rfl
theorem M.sameL_len {l m : List M.S} (h : l.length ≠ m.length) : M.sameL l m = false := by
  cases hs : M.sameL l m with
  | false => rfl
  | true => exact absurd (congrArg List.length ((M.sameL_iff l m).1 hs)) h
theorem M.sameL_at {l m : List M.S} {j : Nat} {e f : M.S} (h1 : l[j]? = some e) (h2 : m[j]? = some f) (hne : e.same f = false) : M.sameL l m = false := by
  cases hs : M.sameL l m with
  | false => rfl
  | true =>
    rw [(M.sameL_iff l m).1 hs, h2] at h1
    obtain rfl : f = e := by injection h1
    exact absurd rfl (M.same_no.1 hne)
set_option maxHeartbeats 4000000 in
theorem same_any (A B : Option Addr) (ca cb : Nat) (l m : List M.S) (w : World) (hl : RdP w w.heap.size A l) (hm : RdP w w.heap.size B m) (h1 : l.length ≤ 60) :
    Calls Tryd.prog 13 #[.slice A l.length ca, .slice B m.length cb] w fun e w' => e = .returned (.bool (M.sameL l m)) ∧ Below w.heap.size w w' := by
  have HL := Lib.hid hl
  have HM := Lib.hid hm
  clear hl hm
  by_cases hlen : l.length = m.length
  · have hlen1 : (l.length != m.length) = false := by rw [bne_eq_false_iff_eq]; exact hlen
    have hlen2 : ((l.length : Int) != (m.length : Int)) = false := by rw [bne_eq_false_iff_eq]; omega
    have HLEN := Lib.hid hlen
    have hml : m.length ≤ l.length := by omega
    have hlm : l.length ≤ m.length := by omega
    clear hlen
    go_enter Tryd.func13, Tryd.ntmps13
    go_wp2
    go_loopw [5] (fun i wr => ∃ k : Nat, k ≤ l.length ∧ i = .int .i64 k ∧ (∀ j, j < k → l[j]? = m[j]?) ∧ Below w.heap.size w wr) (fun i _ => l.length - (intOf i).toNat)
    case atStart => exact ⟨0, by omega, rfl, (fun j h => by omega), Below.refl _ _⟩
    case round =>
      obtain ⟨k, hk, rfl, heq, hb⟩ := hrel
      have HEQ := Lib.hid heq
      have HB := Lib.hid hb
      clear heq hb
      by_cases hlt : k < l.length
      · obtain ⟨e, he⟩ : ∃ e, l[k]? = some e := ⟨_, List.getElem?_eq_getElem hlt⟩
        obtain ⟨f, hf⟩ : ∃ f, m[k]? = some f := ⟨_, List.getElem?_eq_getElem (by omega)⟩
        obtain ⟨ad, rfl, hab, c0, c1, c2, c3, c4, c5⟩ := HL.out.below HB.out k e he
        obtain ⟨bd, rfl, hbb, d0, d1, d2, d3, d4, d5⟩ := HM.out.below HB.out k f hf
        have hk1 : (0 : Int) ≤ (k : Int) := by omega
        have hk2 : (k : Int) < (l.length : Int) := by omega
        have hk3 : (k : Int) < (m.length : Int) := by omega
        have HE := Lib.hid he
        have HF := Lib.hid hf
        clear he hf
        have hg := guard_span
        have hq := fun w => neq_span w e.f e.t e.p e.c e.r e.x f.f f.t f.p f.c f.r f.x
        have HQ := Lib.hid (show M.eq6 e.f e.t e.p e.c e.r e.x f.f f.t f.p f.c f.r f.x = e.same f from rfl)
        cases heq : e.same f with
        | true =>
          rw [HQ.out, heq] at hq
          have HN := Lib.hid (show ∀ j, j < k + 1 → l[j]? = m[j]? from fun j hj => by
            rcases Nat.lt_or_ge j k with h | h
            · exact HEQ.out j h
            · obtain rfl : j = k := by omega
              rw [HE.out, HF.out, M.same_iff.1 heq])
          clear heq
          go_wp2
          go_quiet (fail)
          go_wp2
          go_roundw
          case rel => exact ⟨k + 1, by omega, by go_num, HN.out, by first | exact HB.out.drew | exact drewN_below HB.out _⟩
          case measure => simp [intOf]; omega
        | false =>
          rw [HQ.out, heq] at hq
          have HN := Lib.hid (M.sameL_at HE.out HF.out heq)
          clear heq
          go_wp2
          go_quiet (fail)
          go_wp2
          go_ret
          exact ⟨ret_bool HN.out.symm, by first | exact HB.out.drew | exact drewN_below HB.out _⟩
      · have HN := Lib.hid (show M.sameL l m = true by
          rw [M.sameL_iff]
          apply List.ext_getElem?
          intro j
          rcases Nat.lt_or_ge j k with h | h
          · exact HEQ.out j h
          · rw [List.getElem?_eq_none (by omega), List.getElem?_eq_none (by omega)])
        go_wp2
        go_ret
        exact ⟨ret_bool HN.out.symm, HB.out⟩
  · have hlen1 : (l.length != m.length) = true := by rw [bne_iff_ne]; exact hlen
    have hlen2 : ((l.length : Int) != (m.length : Int)) = true := by rw [bne_iff_ne]; omega
    have HS := Lib.hid (M.sameL_len hlen)
    clear hlen
    go_enter Tryd.func13, Tryd.ntmps13
    go_wp2
    go_ret
    exact ⟨ret_bool HS.out.symm, Below.refl _ _⟩
end Go.Proofs.YteknpodofmmklaaDoor
