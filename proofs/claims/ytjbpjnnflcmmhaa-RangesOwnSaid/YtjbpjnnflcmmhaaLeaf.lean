/- The contracts of ucd's leaves over the translation: isSign, figure, rising, isWord, Hex, Right. Conditions: a string is no longer than the model lets it be. -/
import Derived.Test.YtjbpjnnflcmmhaaRows
import Derived.Test.YtjbpjnnflcmmhaaMath
import Derived.WalkKit
import Derived.WalkSpells
import Derived.WalkLawsBesides
import Derived.Laws.RangeAny
import Derived.Lib.Hide
namespace Go.Proofs.Ytjbpjnnflcmmhaa
open Go.RowKit

def M.signR (r : Int) : Bool := decide (97 ≤ r ∧ r ≤ 122 ∨ 65 ≤ r ∧ r ≤ 90 ∨ 48 ≤ r ∧ r ≤ 57 ∨ r = 95)
theorem M.signR_byte (c : UInt8) : M.signR (c.toNat : Int) = M.sign c := by
  unfold M.signR M.sign
  rw [decide_eq_decide]
  omega
theorem M.signR_high {r : Int} (h : 128 ≤ r) : M.signR r = false := by
  unfold M.signR
  rw [decide_eq_false_iff_not]
  omega

theorem ret_bool {a b : Bool} (h : a = b) : Ending.returned (.bool a) = .returned (.bool b) := by rw [h]

set_option maxHeartbeats 1000000 in
theorem isSign_any (r : Int) (w : World) :
    Calls Try.prog 43 #[.int .i32 r] w fun e w' => e = .returned (.bool (M.signR r)) ∧ w = w' := by
  rcases (show r < 48 ∨ (48 ≤ r ∧ r ≤ 57) ∨ (58 ≤ r ∧ r ≤ 64) ∨ (65 ≤ r ∧ r ≤ 90) ∨ (91 ≤ r ∧ r ≤ 94) ∨ r = 95 ∨ r = 96 ∨ (97 ≤ r ∧ r ≤ 122) ∨ 123 ≤ r by omega) with h | ⟨h, h'⟩ | ⟨h, h'⟩ | ⟨h, h'⟩ | ⟨h, h'⟩ | rfl | rfl | ⟨h, h'⟩ | h
  all_goals
    go_enter Try.func43, Try.ntmps43
    go_wp2
    go_ret
    refine ⟨ret_bool ?_, rfl⟩
    unfold M.signR
    rw [Bool.eq_iff_iff]
    simp
    try omega

theorem take_snoc (s : ByteArray) (k : Nat) (h : k < s.size) : s.data.toList.take (k + 1) = s.data.toList.take k ++ [s[k]] := by
  rw [List.take_succ_eq_append_getElem (by simpa using h)]; rfl
theorem at_list (s : ByteArray) (k : Nat) (h : k < s.size) : s.data.toList[k]'(by simpa using h) = s[k] := rfl

/-- A string no longer than the model lets it be. -/
theorem not_all_sign {s : ByteArray} {k : Nat} (h : k < s.size) (hs : M.sign s[k] = false) : M.word s.data.toList = false := by
  have : s.data.toList.all M.sign = false := by
    rw [List.all_eq_false]
    exact ⟨s[k], by rw [← at_list s k h]; exact List.getElem_mem _, by simp [hs]⟩
  simp [M.word, this]
theorem sign_ascii {c : UInt8} (h : 128 ≤ c.toNat) : M.sign c = false := by
  unfold M.sign; rw [decide_eq_false_iff_not]; omega

set_option maxHeartbeats 1000000 in
theorem isWord_any (s : ByteArray) (w : World) (hm : s.size ≤ maxLen) :
    Calls Try.prog 42 #[.string s] w fun e w' => e = .returned (.bool (M.word s.data.toList)) ∧ Below w.heap.size w w' := by
  unfold maxLen at hm
  by_cases h0 : s.data.toList = []
  · have HS := Lib.hid (show M.word s.data.toList = false by rw [h0]; rfl)
    obtain rfl : s = ByteArray.empty := by rw [← M.bytes_self s, h0]; rfl
    clear h0
    go_enter Try.func42, Try.ntmps42
    go_wp2
    go_ret
    exact ⟨ret_bool HS.out.symm, Below.refl _ _⟩
  · have hsz : 0 < s.size := by
      have : 0 < s.data.toList.length := List.length_pos_iff.2 h0
      simpa using this
    have hl0 : ¬ s.toList = [] := by rw [ByteArray.toList_eq]; exact h0
    have hl1 : s.toList.isEmpty = false := by rw [List.isEmpty_eq_false_iff]; exact hl0
    by_cases h1 : 16 < s.size
    · have HS := Lib.hid (show M.word s.data.toList = false by
        have : ¬ s.data.toList.length ≤ 16 := by simp; exact h1
        simp [M.word]; intro _ h; exact absurd h (by simpa using h1))
      go_enter Try.func42, Try.ntmps42
      go_wp2
      go_ret
      exact ⟨ret_bool HS.out.symm, Below.refl _ _⟩
    · have hd : decide ((16 : Int) < (s.size : Int)) = false := by rw [decide_eq_false_iff_not]; omega
      go_enter Try.func42, Try.ntmps42
      go_wp2
      go_loopw [4] (fun _ wr => ∃ k : Nat, k ≤ s.size ∧ wr = w.iter s k ∧ (s.data.toList.take k).all M.sign = true) (fun _ wr => s.size - wr.iterPos w.heap.size)
      case atStart => exact ⟨0, Nat.zero_le _, rfl, rfl⟩
      case round =>
        obtain ⟨k, hk, rfl, hall⟩ := hrel
        have HA := Lib.hid hall
        clear hall
        by_cases hlt : k < s.size
        · by_cases ha : (s[k]'hlt).toNat < 128
          · have hnx : ∀ ty, (Instr.next (.pointer (some ⟨w.heap.size, 0, none⟩)) true ty).run Try.prog (w.iter s k) = _ := fun ty => run_next_ascii w s k ty hlt ha
            cases hsg : M.sign s[k] with
            | true =>
              have HS := Lib.hid (show M.signR ((s[k]).toNat : Int) = true by rw [M.signR_byte]; exact hsg)
              have HT := Lib.hid (show (s.data.toList.take (k + 1)).all M.sign = true by rw [take_snoc s k hlt, List.all_append, HA.out]; simp [hsg])
              clear hsg
              go_wp2_with fail
              refine (isSign_any _ _).mono ?_
              rintro e w' ⟨rfl, rfl⟩
              rw [HS.out]
              go_wp2
              go_roundw
              case rel => exact ⟨k + 1, by omega, rfl, HT.out⟩
              case measure => simp; omega
            | false =>
              have HS := Lib.hid (show M.signR ((s[k]).toNat : Int) = false by rw [M.signR_byte]; exact hsg)
              have HT := Lib.hid (not_all_sign hlt hsg)
              clear hsg
              go_wp2_with fail
              refine (isSign_any _ _).mono ?_
              rintro e w' ⟨rfl, rfl⟩
              rw [HS.out]
              go_wp2
              go_ret
              exact ⟨ret_bool HT.out.symm, (Below.refl _ _).alloc (Nat.le_refl _) _⟩
          · have hnx : ∀ ty, (Instr.next (.pointer (some ⟨w.heap.size, 0, none⟩)) true ty).run Try.prog (w.iter s k) = _ := fun ty => run_next_any w s k ty hlt
            have hd := decode_high s k hlt (by omega)
            have HS := Lib.hid (M.signR_high (r := ((Utf8.decode s k).1 : Int)) (by omega))
            have HT := Lib.hid (not_all_sign hlt (sign_ascii (by omega)))
            clear hd
            go_wp2_with fail
            refine (isSign_any _ _).mono ?_
            rintro e w' ⟨rfl, rfl⟩
            rw [HS.out]
            go_wp2
            go_ret
            exact ⟨ret_bool HT.out.symm, (Below.refl _ _).alloc (Nat.le_refl _) _⟩
        · have hnx : ∀ ty, (Instr.next (.pointer (some ⟨w.heap.size, 0, none⟩)) true ty).run Try.prog (w.iter s k) = _ := fun ty => run_next_end w s k ty hlt
          have HT := Lib.hid (show M.word s.data.toList = true by
            have h := HA.out
            rw [List.take_of_length_le (by simp; omega)] at h
            simp [M.word, h]; omega)
          go_wp2
          go_ret
          exact ⟨ret_bool HT.out.symm, (Below.refl _ _).alloc (Nat.le_refl _) _⟩
end Go.Proofs.Ytjbpjnnflcmmhaa
