/- The contract of the document's Encode over the translation. Conditions: the slice reads as a list of at most 20000 numbers. -/
import Derived.Test.YtamlknnkahhfmaaDoorRefLeaf
import Derived.Test.YtamlknnkahhfmaaDoorAppend
import Derived.Test.YtamlknnkahhfmaaDoorAppendRd
namespace Go.Proofs.YtamlknnkahhfmaaDoor
open Go.RowKit

theorem own_more {w : World} {base : Nat} {v : Value} {a b ab : List Int} (hab : ab = a ++ b) (h : w.ownsRow base 5 1 v (a.length + b.length) (a.map (Value.int .u8) ++ b.map (Value.int .u8))) : OwnB w base v ab := by
  subst hab
  unfold OwnB
  simpa using h

set_option maxHeartbeats 1000000 in
theorem refEncode_any (A : Option Addr) (cap : Nat) (l : List Int) (w : World) (hrd : RdS .i64 w w.heap.size A l) (hlen : l.length ≤ 20000) :
    Calls Tryd.prog 10 #[.slice A l.length cap] w fun e w' =>
      ((M.enc l = none ∧ e = .returned (.tuple #[.slice none 0 0, .int .i64 11])) ∨ ∃ bs v, M.enc l = some bs ∧ e = .returned (.tuple #[v, .int .i64 0]) ∧ OwnB w' w.heap.size v bs) ∧ Below w.heap.size w w' := by
  obtain ⟨i0, hi, hz0, hz1, hz2⟩ := info_parts Tryd.infoByte
  have HR := Lib.hid hrd
  clear hrd
  go_enter Tryd.func10, Tryd.ntmps10
  go_wp2
  go_loopw [4, 5] (fun v i wr => ∃ k : Nat, k ≤ l.length ∧ i = .int .i64 k ∧ M.allScal (l.take k) = true ∧ OwnB wr w.heap.size v (M.encAll (l.take k)) ∧ Below w.heap.size w wr) (fun _ i _ => l.length - (intOf i).toNat)
  case atStart => exact ⟨0, Nat.zero_le _, rfl, rfl, World.ownsRow_nil _ _ _ _, Below.refl _ _⟩
  case round =>
    obtain ⟨k, hk, rfl, hsc, hown, hbr⟩ := hrel
    have HO := Lib.hid hown
    have HSC := Lib.hid hsc
    clear hown hsc
    by_cases hlt : k < l.length
    · obtain ⟨x, hx⟩ : ∃ x, l[k]? = some x := ⟨_, List.getElem?_eq_getElem hlt⟩
      obtain ⟨ad, hA, _, hcell⟩ := (HR.out.below hbr) k x hx
      have HX := Lib.hid hx
      clear hx
      have hsz := hbr.size
      have hle := M.encAll_len (l.take k)
      have hle2 : (l.take k).length ≤ k := List.length_take_le _ _
      subst hA
      by_cases hs : M.scal x = true
      · have HE := Lib.hid (M.enc_step l k x HX.out hs)
        have hl1 := M.bytes1_len x
        go_wp2_with fail
        refine (refScalar_any x _).mono ?_
        rintro e w' ⟨rfl, rfl⟩
        rw [hs]
        go_wp2_with fail
        refine (refBytes_any x _ hs).mono ?_
        rintro e w2 ⟨A2, c2, rfl, hr2, hn2, hb2⟩
        have HO2 := Lib.hid (HO.out.below hb2)
        have HR2 := Lib.hid hr2
        have HN2 := Lib.hid hn2
        have hs2 := hb2.size
        obtain ⟨bx, hbx⟩ : ∃ bx, bx = M.bytes1 x := ⟨_, rfl⟩
        rw [← hbx] at hl1 HR2 ⊢
        have HBX := Lib.hid hbx
        clear hr2 hn2 hbx
        go_wp2_with (at_builtin; refine wpList_append_rd _ rfl _ _ 24 rfl w.heap.size 5 i0 (.int .u8 0) 1 Tryd.underlying24 hi hz0 hz1 hz2 rfl _ _ _ rfl HO2.out .u8 w2.heap.size A2 c2 bx rfl HR2.out HN2.out (by unfold maxLen; omega) (by omega) (by omega) ?_)
        intro v3 w3 ho3 hg3
        have hb3 : Below w.heap.size w w3 := grow_below (hbr.trans (hb2.mono hsz)) HO2.out hg3 (by omega)
        have HO3 := Lib.hid (own_more (show M.encAll (l.take (k + 1)) = M.encAll (l.take k) ++ bx by rw [HE.out.2, HBX.out]) ho3)
        clear ho3 hg3
        go_wp2
        go_roundw
        case rel => exact ⟨k + 1, by omega, by go_num, by rw [HE.out.1]; exact HSC.out, HO3.out, hb3⟩
        case measure => simp [intOf]; omega
      · have hsf : M.scal x = false := by simpa using hs
        have HE := Lib.hid (M.enc_bad l k x HX.out hsf)
        go_wp2_with fail
        refine (refScalar_any x _).mono ?_
        rintro e w' ⟨rfl, rfl⟩
        rw [hsf]
        go_wp2
        go_ret2
        exact ⟨.inl ⟨HE.out, rfl⟩, hbr⟩
    · have HE := Lib.hid (M.enc_end l k (by omega) HSC.out)
      go_wp2
      go_ret2
      exact ⟨.inr ⟨_, _, HE.out, rfl, HO.out⟩, hbr⟩
end Go.Proofs.YtamlknnkahhfmaaDoor
