/- The contract of utf's Wrong over the translation. Conditions: the slice reads as a list of bytes; the variable lengths holds the four rows of the program's text. -/
import Derived.Test.YtamlknnkahhfmaaDoorNext
import Derived.Test.YtamlknnkahhfmaaDoorMathB
namespace Go.Proofs.YtamlknnkahhfmaaDoor
open Go.RowKit

/-- What Wrong answers. -/
def wrongOut (bs : List Int) : Value := match M.wrong bs with
  | none => .tuple #[.int .i64 0, .bool false]
  | some k => .tuple #[.int .i64 k, .bool true]

set_option maxHeartbeats 1000000 in
theorem wrong_any (A : Option Addr) (cap : Nat) (bs : List Int) (w : World) (hl : LensOk w) (hby : ∀ x ∈ bs, 0 ≤ x ∧ x ≤ 255) (hrd : RdS .u8 w w.heap.size A bs) (hcap : bs.length ≤ cap) (hm : cap ≤ maxLen) :
    Calls Tryd.prog 17 #[.slice A bs.length cap] w fun e w' => e = .returned (wrongOut bs) ∧ Below w.heap.size w w' := by
  have hm' := hm
  unfold maxLen at hm'
  have H := Lib.hid hl
  have HR := Lib.hid hrd
  have HB := Lib.hid hby
  clear hl hrd hby
  go_enter Tryd.func17, Tryd.ntmps17
  go_wp2
  go_loopw [4] (fun i wr => ∃ k : Nat, k ≤ bs.length ∧ i = .int .i64 k ∧ M.WrTo bs k ∧ Below w.heap.size w wr) (fun i _ => bs.length - (intOf i).toNat)
  case atStart => exact ⟨0, Nat.zero_le _, rfl, M.wrTo_zero bs, Below.refl _ _⟩
  case round =>
    obtain ⟨k, hk, rfl, hwt, hbr⟩ := hrel
    have HW := Lib.hid hwt
    clear hwt
    by_cases hlt : k < bs.length
    · have hck : ¬ cap = k := by omega
      have hsz := hbr.size
      have hrr := ((HR.out.below hbr).more hsz).drop k
      have hlr := H.out.below hbr H.out.lt
      have hbd : ∀ x ∈ bs.drop k, 0 ≤ x ∧ x ≤ 255 := fun x hx => HB.out x (List.mem_of_mem_drop hx)
      cases hf : M.firstM (bs.drop k) with
      | none =>
        have hc0 := next_none _ (cap - k) _ wr hlr hbd hrr (by rw [List.length_drop]; omega) (by omega) hf
        rw [List.length_drop] at hc0
        have HC := Lib.hid hc0
        have HE := Lib.hid (M.wrTo_bad HW.out hlt hf)
        clear hc0 hf hrr hlr hbd
        go_wp2_with fail
        refine HC.out.mono ?_
        rintro e w1 ⟨rfl, hb1⟩
        go_wp2
        go_ret2
        exact ⟨by unfold wrongOut; rw [HE.out]; rfl, hbr.trans (hb1.mono hsz)⟩
      | some p =>
        obtain ⟨c, n⟩ := p
        obtain ⟨hn1, hn2, _⟩ := M.first_len hf
        rw [List.length_drop] at hn2
        have hc0 := next_some _ (cap - k) _ c n wr hlr hbd hrr (by rw [List.length_drop]; omega) (by omega) hf
        rw [List.length_drop] at hc0
        have HC := Lib.hid hc0
        have HE := Lib.hid (M.wrTo_step HW.out hf)
        clear hc0 hf hrr hlr hbd
        go_wp2_with fail
        refine HC.out.mono ?_
        rintro e w1 ⟨rfl, hb1⟩
        go_wp2
        go_roundw
        case rel => exact ⟨k + n, by omega, by go_num, HE.out, hbr.trans (hb1.mono hsz)⟩
        case measure => simp [intOf]; omega
    · have HE := Lib.hid (M.wrTo_end HW.out (by omega))
      go_wp2
      go_ret2
      exact ⟨by unfold wrongOut; rw [HE.out]; rfl, hbr⟩
end Go.Proofs.YtamlknnkahhfmaaDoor
