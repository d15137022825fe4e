/- The contract of utf's Encode over the translation. Conditions: the slice reads as a list of at most 20000 numbers; the variable lengths holds the four rows of the program's text. -/
import Derived.Test.YtamlknnkahhfmaaDoorAppend
namespace Go.Proofs.YtamlknnkahhfmaaDoor
open Go.RowKit

set_option maxHeartbeats 1000000 in
theorem encode_any (A : Option Addr) (cap : Nat) (l : List Int) (w : World) (hl : LensOk w) (hrd : RdS .i64 w w.heap.size A l) (hlen : l.length ≤ 20000) :
    Calls Tryd.prog 9 #[.slice A l.length cap] w fun e w' =>
      ((M.enc l = none ∧ e = .returned (.tuple #[.slice none 0 0, .int .i64 11])) ∨ ∃ bs v, M.enc l = some bs ∧ e = .returned (.tuple #[v, .int .i64 0]) ∧ OwnB w' w.heap.size v bs) ∧ Below w.heap.size w w' := by
  have H := Lib.hid hl
  have HR := Lib.hid hrd
  clear hl hrd
  go_enter Tryd.func9, Tryd.ntmps9
  go_wp2
  go_loopw [4, 9] (fun v i wr => ∃ k : Nat, k ≤ l.length ∧ i = .int .i64 k ∧ M.allScal (l.take k) = true ∧ OwnB wr w.heap.size v (M.encAll (l.take k)) ∧ Below w.heap.size w wr) (fun _ i _ => l.length - (intOf i).toNat)
  case atStart => exact ⟨0, Nat.zero_le _, rfl, rfl, World.ownsRow_nil _ _ _ _, Below.refl _ _⟩
  case round =>
    obtain ⟨k, hk, rfl, hsc, hown, hbr⟩ := hrel
    have HO := Lib.hid hown
    have HSC := Lib.hid hsc
    clear hown hsc
    by_cases hlt : k < l.length
    · obtain ⟨x, hx⟩ : ∃ x, l[k]? = some x := ⟨_, List.getElem?_eq_getElem hlt⟩
      obtain ⟨ad, hA, _, hcell⟩ := (HR.out.below hbr) k x hx
      have HX := Lib.hid hx
      clear hx
      have hsz := hbr.size
      have HL := Lib.hid (H.out.below hbr H.out.lt)
      have hle := M.encAll_len (l.take k)
      have hle2 : (l.take k).length ≤ k := List.length_take_le _ _
      have hg0 := H.out.lt
      subst hA
      by_cases hs : M.scal x = true
      · have HE := Lib.hid (M.enc_step l k x HX.out hs)
        go_wp2_with fail
        refine (scalar_any x _).mono ?_
        rintro e w' ⟨rfl, rfl⟩
        rw [hs]
        go_wp2_with fail
        refine (appendScalar_any w.heap.size _ _ x _ HL.out HO.out hs (by omega) hsz hg0).mono ?_
        rintro e w2 ⟨v2, rfl, hown2, hb2⟩
        have HO2 := Lib.hid hown2
        clear hown2
        go_wp2
        go_roundw
        case rel => exact ⟨k + 1, by omega, by go_num, by rw [HE.out.1]; exact HSC.out, by rw [HE.out.2]; exact HO2.out, hbr.trans hb2⟩
        case measure => simp [intOf]; omega
      · have hsf : M.scal x = false := by simpa using hs
        have HE := Lib.hid (M.enc_bad l k x HX.out hsf)
        go_wp2_with fail
        refine (scalar_any x _).mono ?_
        rintro e w' ⟨rfl, rfl⟩
        rw [hsf]
        go_wp2
        go_ret2
        exact ⟨.inl ⟨HE.out, rfl⟩, hbr⟩
    · have HE := Lib.hid (M.enc_end l k (by omega) HSC.out)
      go_wp2
      go_ret2
      exact ⟨.inr ⟨_, _, HE.out, rfl, HO.out⟩, hbr⟩
end Go.Proofs.YtamlknnkahhfmaaDoor
