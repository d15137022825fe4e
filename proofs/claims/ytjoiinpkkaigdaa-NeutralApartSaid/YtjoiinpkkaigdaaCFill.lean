/- The contract of package neutral's fill: places of a block of one's own, all made one class. -/
import Derived.Test.YtjoiinpkkaigdaaCBlk
import Derived.Test.YtjoiinpkkaigdaaCLeaf
namespace Go.Proofs.Ytjoiinpkkaigdaa
open Go.RowKit
set_option maxRecDepth 100000

/-- k places from f on, made c. -/
def M.fil (c : Int) : Nat → Nat → List Int → List Int
  | 0, _, O => O
  | k + 1, f, O => M.fil c k (f + 1) (O.set f c)
theorem M.fil_len (c : Int) (k f : Nat) (O : List Int) : (M.fil c k f O).length = O.length := by
  induction k generalizing f O with
  | zero => rfl
  | succ k ih => rw [M.fil, ih, List.length_set]
theorem M.fil_at (c : Int) (k f : Nat) (O : List Int) (h : f + k ≤ O.length) (i : Nat) : (M.fil c k f O)[i]? = if f ≤ i ∧ i < f + k then some c else O[i]? := by
  induction k generalizing f O with
  | zero => rw [if_neg (by omega)]; rfl
  | succ k ih =>
    rw [M.fil, ih _ _ (by rw [List.length_set]; omega), List.getElem?_set]
    by_cases h1 : f + 1 ≤ i ∧ i < f + 1 + k
    · rw [if_pos h1, if_pos (by omega)]
    · rw [if_neg h1]
      by_cases h2 : f = i
      · rw [if_pos h2, if_pos (by omega), if_pos (by omega)]
      · rw [if_neg h2, if_neg (by omega)]
set_option maxHeartbeats 4000000 in
theorem cfill_any (G f d ca : Nat) (O : List Int) (c : Int) (w : World) (ho : BlockAt w G 23 O) (hfd : f + d ≤ O.length) (hl : d ≤ 17592186044416) :
    Calls Try.prog 19 #[.slice (some ⟨G, f, none⟩) d ca, .int .i64 c] w fun r w' => r = .returned (.tuple #[]) ∧ BlockAt w' G 23 (M.fil c d f O) ∧ Turned w w' G := by
  obtain ⟨R, hR⟩ : ∃ R, M.fil c d f O = R := ⟨_, rfl⟩
  rw [hR]
  have HR := Lib.hid hR
  have HO := Lib.hid ho
  have HF := Lib.hid hfd
  have hl1 : (d : Int) ≤ 17592186044416 := by omega
  have hd0 : (0 : Int) ≤ d := by omega
  clear hR ho hfd
  go_enter Try.func19, Try.ntmps19
  go_wp2_with fail
  go_loopw [7] (fun v wr => ∃ (k : Nat) (X : List Int), v = .int .i64 k ∧ k ≤ d ∧ X.length = O.length ∧ BlockAt wr G 23 X ∧ M.fil c (d - k) (f + k) X = R ∧ Turned w wr G) (fun v _ => d - (intOf v).toNat)
  case atStart => exact ⟨0, O, rfl, Nat.zero_le _, rfl, HO.out, HR.out, Turned.refl _ _⟩
  case round =>
    obtain ⟨k, X, rfl, hk, hX, hb, hto, ht⟩ := hrel
    have k0 : (0 : Int) ≤ k := by omega
    have HT := Lib.hid ht
    have HX := Lib.hid hX
    by_cases hlt : k < d
    · have k1 : (k : Int) < d := by omega
      obtain ⟨y, hy⟩ : ∃ y, X[f + k]? = some y := ⟨_, List.getElem?_eq_getElem (by rw [hX]; have := HF.out; omega)⟩
      have c0 := hb.cell hy
      have f0 := hb.frozen (j := f + k)
      obtain ⟨m, hm⟩ : ∃ m, d - k = m + 1 := ⟨d - k - 1, by omega⟩
      rw [hm, M.fil, show m = d - (k + 1) by omega, Nat.add_assoc] at hto
      have HTO := Lib.hid hto
      have HB := Lib.hid (hb.set (k := f + k) c)
      clear hb hto ht hX hy hm
      go_wp2_with fail
      go_roundw
      case rel => exact ⟨k + 1, X.set (f + k) c, by go_num, by omega, by rw [List.length_set, HX.out], HB.out, HTO.out, HT.out.setCell _ _⟩
      case measure => simp [intOf]; omega
    · obtain rfl : k = d := by omega
      have k1 : ¬ (k : Int) < k := by omega
      rw [Nat.sub_self] at hto
      have HTO := Lib.hid (show X = R from hto)
      have HB := Lib.hid hb
      clear hb hto ht hX
      go_wp2_with fail
      go_end0
      exact ⟨rfl, by rw [← HTO.out]; exact HB.out, HT.out⟩
end Go.Proofs.Ytjoiinpkkaigdaa
