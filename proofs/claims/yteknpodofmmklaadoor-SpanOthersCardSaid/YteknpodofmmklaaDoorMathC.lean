/- The order of scalars' bytes, there and back, and one behind the other: plain lemmas on the document's UTF-8. -/
import Derived.Test.YteknpodofmmklaaDoorMathB
namespace Go.Proofs.YteknpodofmmklaaDoor.M

theorem len_mono {c d : Int} (_hc : scal c = true) (_hd : scal d = true) (h : c < d) : (bytes1 c).length ≤ (bytes1 d).length := by
  unfold bytes1
  (repeat' split) <;> simp <;> omega
theorem bytes1_range {c : Int} (hc : scal c = true) : ∀ x ∈ bytes1 c, 0 ≤ x ∧ x ≤ 255 := by
  obtain ⟨h0, h1⟩ := scal_range hc
  unfold bytes1
  intro x hx
  (repeat' split at hx) <;> simp at hx <;> omega
/-- Ahead, number by number. -/
def lessI : List Int → List Int → Bool
  | [], [] => false
  | [], _ :: _ => true
  | _ :: _, [] => false
  | x :: r, y :: s => if x < y then true else if y < x then false else lessI r s
theorem lessI_bytes {c d : Int} (hc : scal c = true) (hd : scal d = true) (h : c < d) : lessI (bytes1 c) (bytes1 d) = true := by
  obtain ⟨h0, h1⟩ := scal_range hc
  obtain ⟨k0, k1⟩ := scal_range hd
  rcases (show c ≤ 127 ∨ (128 ≤ c ∧ c ≤ 2047) ∨ (2048 ≤ c ∧ c ≤ 65535) ∨ 65536 ≤ c by omega) with hh | ⟨hh, hh'⟩ | ⟨hh, hh'⟩ | hh <;>
  rcases (show d ≤ 127 ∨ (128 ≤ d ∧ d ≤ 2047) ∨ (2048 ≤ d ∧ d ≤ 65535) ∨ 65536 ≤ d by omega) with kk | ⟨kk, kk'⟩ | ⟨kk, kk'⟩ | kk <;>
  first
  | omega
  | (rw [bytes_eq1 h0 hh, bytes_eq1 k0 kk]; simp [lessI]; omega)
  | (rw [bytes_eq1 h0 hh, bytes_eq2 kk kk']; simp [lessI]; omega)
  | (rw [bytes_eq1 h0 hh, bytes_eq3 kk kk']; simp [lessI]; omega)
  | (rw [bytes_eq1 h0 hh, bytes_eq4 kk k1]; simp [lessI]; omega)
  | (rw [bytes_eq2 hh hh', bytes_eq2 kk kk']; simp [lessI]; omega)
  | (rw [bytes_eq2 hh hh', bytes_eq3 kk kk']; simp [lessI]; omega)
  | (rw [bytes_eq2 hh hh', bytes_eq4 kk k1]; simp [lessI]; omega)
  | (rw [bytes_eq3 hh hh', bytes_eq3 kk kk']; simp [lessI]; omega)
  | (rw [bytes_eq3 hh hh', bytes_eq4 kk k1]; simp [lessI]; omega)
  | (rw [bytes_eq4 hh h1, bytes_eq4 kk k1]; simp [lessI]; omega)
theorem no_front {c d : Int} (hc : scal c = true) (hd : scal d = true) (h : c < d) : bytes1 c ≠ (bytes1 d).take (bytes1 c).length := by
  obtain ⟨h0, h1⟩ := scal_range hc
  obtain ⟨k0, k1⟩ := scal_range hd
  rcases (show c ≤ 127 ∨ (128 ≤ c ∧ c ≤ 2047) ∨ (2048 ≤ c ∧ c ≤ 65535) ∨ 65536 ≤ c by omega) with hh | ⟨hh, hh'⟩ | ⟨hh, hh'⟩ | hh <;>
  rcases (show d ≤ 127 ∨ (128 ≤ d ∧ d ≤ 2047) ∨ (2048 ≤ d ∧ d ≤ 65535) ∨ 65536 ≤ d by omega) with kk | ⟨kk, kk'⟩ | ⟨kk, kk'⟩ | kk <;>
  first
  | omega
  | (rw [bytes_eq1 h0 hh, bytes_eq1 k0 kk]; simp; omega)
  | (rw [bytes_eq1 h0 hh, bytes_eq2 kk kk']; simp; omega)
  | (rw [bytes_eq1 h0 hh, bytes_eq3 kk kk']; simp; omega)
  | (rw [bytes_eq1 h0 hh, bytes_eq4 kk k1]; simp; omega)
  | (rw [bytes_eq2 hh hh', bytes_eq2 kk kk']; simp; omega)
  | (rw [bytes_eq2 hh hh', bytes_eq3 kk kk']; simp; omega)
  | (rw [bytes_eq2 hh hh', bytes_eq4 kk k1]; simp; omega)
  | (rw [bytes_eq3 hh hh', bytes_eq3 kk kk']; simp; omega)
  | (rw [bytes_eq3 hh hh', bytes_eq4 kk k1]; simp; omega)
  | (rw [bytes_eq4 hh h1, bytes_eq4 kk k1]; simp; omega)
end Go.Proofs.YteknpodofmmklaaDoor.M
