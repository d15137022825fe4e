/- The contract of the document's Decode over the translation. Conditions: the slice reads as a list of at most 100000 bytes. -/
import Derived.Test.YteknpodofmmklaaDoorRefNext
import Derived.Test.YteknpodofmmklaaDoorDecode
namespace Go.Proofs.YteknpodofmmklaaDoor
open Go.RowKit

set_option maxHeartbeats 1000000 in
theorem refDecode_any (A : Option Addr) (cap : Nat) (bs : List Int) (w : World) (hby : M.Bytes bs) (hrd : RdS .u8 w w.heap.size A bs) (hcap : bs.length ≤ cap) (hm : cap ≤ maxLen) (hlen : bs.length ≤ 100000) :
    Calls Tryd.prog 37 #[.slice A bs.length cap] w fun e w' =>
      ((M.dec bs = none ∧ e = .returned (.tuple #[.slice none 0 0, .int .i64 11])) ∨ ∃ l v, M.dec bs = some l ∧ e = .returned (.tuple #[v, .int .i64 0]) ∧ OwnI w' w.heap.size v l) ∧ Below w.heap.size w w' := by
  obtain ⟨i0, hi, hz0, hz1, hz2⟩ := info_parts Tryd.infoInt
  have hm' := hm
  unfold maxLen at hm'
  have HR := Lib.hid hrd
  have HB := Lib.hid hby
  clear hrd hby
  go_enter Tryd.func37, Tryd.ntmps37
  go_wp2
  go_loopw [4, 5] (fun v i wr => ∃ (k : Nat) (l : List Int), k ≤ bs.length ∧ i = .int .i64 k ∧ M.DecTo bs k l ∧ l.length ≤ k ∧ OwnI wr w.heap.size v l ∧ Below w.heap.size w wr) (fun _ i _ => bs.length - (intOf i).toNat)
  case atStart => exact ⟨0, [], Nat.zero_le _, rfl, M.decTo_zero bs, Nat.le_refl _, World.ownsRow_nil _ _ _ _, Below.refl _ _⟩
  case round =>
    obtain ⟨k, l, hk, rfl, hdt, hll, hown, hbr⟩ := hrel
    have HD := Lib.hid hdt
    have HO := Lib.hid hown
    clear hdt hown
    by_cases hlt : k < bs.length
    · have hck : ¬ cap = k := by omega
      have hsz := hbr.size
      have hrr := ((HR.out.below hbr).more hsz).drop k
      have hbd := HB.out.drop k
      cases hf : M.firstM (bs.drop k) with
      | none =>
        have hc0 := refNext_any _ (cap - k) _ wr hbd hrr (by rw [List.length_drop]; omega) (by omega)
        rw [List.length_drop, show nextOut (bs.drop k) = .tuple #[.int .i64 0, .int .i64 0, .int .i64 11] by rw [nextOut, hf]] at hc0
        have HC := Lib.hid hc0
        have HE := Lib.hid (M.decTo_bad HD.out hlt hf)
        clear hc0 hf hrr hbd
        go_wp2_with fail
        refine HC.out.mono ?_
        rintro e w1 ⟨rfl, hb1⟩
        go_wp2
        go_ret2
        exact ⟨.inl ⟨HE.out, rfl⟩, hbr.trans (hb1.mono hsz)⟩
      | some p =>
        obtain ⟨c, n⟩ := p
        obtain ⟨hn1, hn2, _⟩ := M.first_len hf
        rw [List.length_drop] at hn2
        have hc0 := refNext_any _ (cap - k) _ wr hbd hrr (by rw [List.length_drop]; omega) (by omega)
        rw [List.length_drop, show nextOut (bs.drop k) = .tuple #[.int .i64 c, .int .i64 n, .int .i64 0] by rw [nextOut, hf]] at hc0
        have HC := Lib.hid hc0
        have HE := Lib.hid (M.decTo_step HD.out hf)
        clear hc0 hf hrr hbd
        go_wp2_with fail
        refine HC.out.mono ?_
        rintro e w1 ⟨rfl, hb1⟩
        have hw1 : Below w.heap.size w w1 := hbr.trans (hb1.mono hsz)
        have hs1 := hw1.size
        have HO1 := Lib.hid (HO.out.below hb1)
        go_wp2_with (at_builtin; refine wpList_append_own _ rfl _ _ 51 rfl w.heap.size 3 i0 (.int .i64 0) 1 8 Tryd.underlying51 hi hz0 hz1 hz2 rfl (by decide) _ _ _ rfl (World.ownsRow.alloc HO1.out _) ⟨w1.heap.size, 0, none⟩ 1 1 [.int .i64 c] rfl rfl (one_new _ _ _) one_cell (by unfold maxLen; omega) (by omega) (by simp; omega) ?_)
        intro v3 w3 hown3 hgrow3 _
        have hb3 : Below w.heap.size w w3 := (hw1.alloc hs1 _).grown hgrow3 (by simp; omega) (fun q hq => (World.ownsRow.lt HO1.out q hq).1)
        have HO3 := Lib.hid (show OwnI w3 w.heap.size v3 (l ++ [c]) by unfold OwnI; simpa using hown3)
        clear hown3 hgrow3
        go_wp2
        go_roundw
        case rel => exact ⟨k + n, l ++ [c], by omega, by go_num, HE.out, by simp; omega, HO3.out, hb3⟩
        case measure => simp [intOf]; omega
    · have HE := Lib.hid (M.decTo_end HD.out (by omega))
      go_wp2
      go_ret2
      exact ⟨.inr ⟨l, _, HE.out, rfl, HO.out⟩, hbr⟩
end Go.Proofs.YteknpodofmmklaaDoor
