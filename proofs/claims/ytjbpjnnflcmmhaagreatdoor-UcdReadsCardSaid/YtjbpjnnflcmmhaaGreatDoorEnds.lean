/- The contracts of ucd's ends and word over the translation, and of the library's Trim, Cut and SplitN at their calls. Conditions: a string is shorter than 4294967281 bytes; the variable MaxLen of the library holds some number. -/
import Derived.Test.YtjbpjnnflcmmhaaGreatDoorHex
import Derived.Test.YtjbpjnnflcmmhaaGreatDoorShelf
namespace Go.Proofs.YtjbpjnnflcmmhaaGreatDoor
open Go.RowKit

/-- The library's variable MaxLen holds some number. -/
def MaxOk (w : World) : Prop := ∃ m : Int, w.cell? ⟨0, 0, none⟩ = some (.int .i64 m)
theorem MaxOk.lt {w : World} (h : MaxOk w) : 0 < w.heap.size := by
  obtain ⟨m, hm⟩ := h
  exact World.block_lt_of_cell? w _ hm
theorem MaxOk.below {w w' : World} {B : Nat} (h : MaxOk w) (hb : Below B w w') (hB : 0 < B) : MaxOk w' := by
  obtain ⟨m, hm⟩ := h
  exact ⟨m, (hb.cell (p := ⟨0, 0, none⟩) hB).trans hm⟩
theorem MaxOk.next {w w' : World} (h : MaxOk w) (hb : Below w.heap.size w w') : MaxOk w' := h.below hb h.lt

theorem trim_le (l : List UInt8) : (M.trim l).length ≤ l.length := by
  unfold M.trim Lib.trimS Lib.trimLeftS Lib.trimRightS
  refine Nat.le_trans (List.dropWhile_sublist _).length_le ?_
  rw [List.length_reverse]
  refine Nat.le_trans (List.dropWhile_sublist _).length_le ?_
  rw [List.length_reverse]
  exact Nat.le_refl _
theorem cut1_le (s p : List UInt8) : (Lib.cut s p).1.length ≤ s.length := by
  unfold Lib.cut
  split
  · simp; omega
  · exact Nat.le_refl _
theorem cut2_le (s p : List UInt8) : (Lib.cut s p).2.1.length ≤ s.length := by
  unfold Lib.cut
  split
  · simp
  · simp
theorem bytes_size (l : List UInt8) : (M.bytes l).size = l.length := by show l.toArray.size = l.length; simp
theorem below_drewN {B : Nat} {w w' : World} (h : Below B w w') (n : Nat) : Below B w (w'.drewN n) := by
  induction n with
  | zero => exact h
  | succ n ih => exact ih.drew

theorem trim_any (s : ByteArray) (w : World) (hs : s.size ≤ maxLen) :
    Calls Tryz.prog 25 #[.string s, .string ⟨#[32, 9]⟩] w fun e w' => e = .returned (.string (M.bytes (M.trim s.data.toList))) ∧ Below w.heap.size w w' :=
  Any.strings_Trim_laid Tryz.lays160 (by kernel_rfl) s ⟨#[32, 9]⟩ w hs (by decide) (ascii_of_all (by decide))
theorem cutS_any (s : ByteArray) (w : World) (hm : MaxOk w) (hs : s.size < 4294967281) :
    Calls Tryz.prog 37 #[.string s, .string ⟨#[46, 46]⟩] w fun e w' => e = .returned (.tuple #[.string (M.bytes (Lib.cut s.data.toList [46, 46]).1), .string (M.bytes (Lib.cut s.data.toList [46, 46]).2.1), .bool (Lib.cut s.data.toList [46, 46]).2.2]) ∧ Below w.heap.size w w' := by
  obtain ⟨m, hm⟩ := hm
  exact (Any.strings_Cut Tryz.lays145 s ⟨#[46, 46]⟩ m w hs hm).mono fun e w' ⟨he, n, hw⟩ => ⟨he, by subst hw; exact below_drewN (Below.refl _ _) n⟩

/-- The panic that tells a wrong line. -/
abbrev ucdPanic : List PanicEntry := [{ v := .iface 25 (.int .i64 21), recovered := false }]

set_option maxHeartbeats 1000000 in
theorem word_yes (s : ByteArray) (w : World) (hs : s.size ≤ maxLen) (h : M.word (M.trim s.data.toList) = true) :
    Calls Tryz.prog 26 #[.string s] w fun e w' => e = .returned (.string (M.bytes (M.trim s.data.toList))) ∧ Below w.heap.size w w' := by
  have hle : (M.bytes (M.trim s.data.toList)).size ≤ maxLen := by rw [bytes_size]; exact Nat.le_trans (trim_le _) (by simpa using hs)
  obtain ⟨t, ht⟩ : ∃ t, M.bytes (M.trim s.data.toList) = t := ⟨_, rfl⟩
  have H := Lib.hid (show M.word t.data.toList = true by rw [← ht, M.bytes_list]; exact h)
  have HT := Lib.hid (trim_any s w hs)
  rw [ht] at hle HT ⊢
  clear h ht
  go_enter Tryz.func26, Tryz.ntmps26
  go_wp2_with fail
  refine HT.out.mono ?_
  rintro e w1 ⟨rfl, hb⟩
  go_wp2_with fail
  refine (isWord_any _ _ hle).mono ?_
  rintro e w2 ⟨rfl, hb2⟩
  rw [H.out]
  go_wp2
  go_ret
  exact ⟨rfl, hb.trans (hb2.mono hb.size)⟩
set_option maxHeartbeats 1000000 in
theorem word_no (s : ByteArray) (w : World) (hs : s.size ≤ maxLen) (h : M.word (M.trim s.data.toList) = false) :
    Calls Tryz.prog 26 #[.string s] w fun e w' => e = .panicked ucdPanic ∧ Below w.heap.size w w' := by
  have hle : (M.bytes (M.trim s.data.toList)).size ≤ maxLen := by rw [bytes_size]; exact Nat.le_trans (trim_le _) (by simpa using hs)
  obtain ⟨t, ht⟩ : ∃ t, M.bytes (M.trim s.data.toList) = t := ⟨_, rfl⟩
  have H := Lib.hid (show M.word t.data.toList = false by rw [← ht, M.bytes_list]; exact h)
  have HT := Lib.hid (trim_any s w hs)
  rw [ht] at hle HT
  clear h ht
  go_enter Tryz.func26, Tryz.ntmps26
  go_wp2_with fail
  refine HT.out.mono ?_
  rintro e w1 ⟨rfl, hb⟩
  go_wp2_with fail
  refine (isWord_any _ _ hle).mono ?_
  rintro e w2 ⟨rfl, hb2⟩
  rw [H.out]
  go_wp2
  exact ⟨rfl, rfl, hb.trans (hb2.mono hb.size)⟩

set_option maxHeartbeats 1000000 in
/-- What ends does, by the cut of its text and what Hex tells of the two. -/
theorem ends_core (s lo hi : ByteArray) (two i j r : Bool) (a b : Int) (w : World) (hl : lo.size ≤ maxLen) (hh : hi.size ≤ maxLen)
    (hc : Calls Tryz.prog 37 #[.string s, .string ⟨#[46, 46]⟩] w fun e w' => e = .returned (.tuple #[.string lo, .string hi, .bool two]) ∧ Below w.heap.size w w')
    (h1 : M.hexInt lo.data.toList = a ∧ M.hexIs lo.data.toList = i) (h2 : M.hexInt (if two then hi else lo).data.toList = b ∧ M.hexIs (if two then hi else lo).data.toList = j) (hr : M.rising a b = r) :
    Calls Tryz.prog 24 #[.string s] w fun e w' => (if i && j && r then e = .returned (.tuple #[.int .i64 a, .int .i64 b]) else e = .panicked ucdPanic) ∧ Below w.heap.size w w' := by
  have HC := Lib.hid hc
  have H1 := Lib.hid h1
  have H2 := Lib.hid h2
  have HR := Lib.hid hr
  clear hc h1 h2 hr
  cases two <;> cases i <;> cases j <;> cases r <;> simp only [Bool.and_false, Bool.and_true, Bool.false_eq_true, if_false, if_true] at H2 ⊢
  all_goals
    go_enter Tryz.func24, Tryz.ntmps24
    go_wp2_with fail
    refine HC.out.mono ?_
    rintro e w1 ⟨rfl, hb⟩
    go_wp2_with fail
    refine (hex_any _ _ hl).mono ?_
    rintro e w2 ⟨rfl, hb2⟩
    rw [H1.out.1, H1.out.2]
    go_wp2_with fail
    refine (hex_any _ _ (by assumption)).mono ?_
    rintro e w3 ⟨rfl, hb3⟩
    rw [H2.out.1, H2.out.2]
    have hbb := (hb.trans (hb2.mono hb.size)).trans (hb3.mono (Nat.le_trans hb.size hb2.size))
    go_wp2_with (go_at_call 30; refine (rising_any _ _ _).mono ?_; rintro e w4 ⟨rfl, rfl⟩; rw [HR.out])
    first
    | (go_ret2; exact ⟨rfl, hbb⟩)
    | exact ⟨rfl, rfl, hbb⟩

theorem ends_some (s : ByteArray) (a b : Nat) (w : World) (hm : MaxOk w) (hs : s.size < 4294967281) (h : M.ends s.data.toList = some (a, b)) :
    Calls Tryz.prog 24 #[.string s] w fun e w' => e = .returned (.tuple #[.int .i64 a, .int .i64 b]) ∧ Below w.heap.size w w' := by
  have hle := M.ends_le h
  unfold M.ends at h
  have sz : s.data.toList.length = s.size := by simp
  have k1 := cut1_le s.data.toList [46, 46]
  have k2 := cut2_le s.data.toList [46, 46]
  split at h
  · rename_i a' b' ha hb
    split at h
    · simp only [Option.some.injEq, Prod.mk.injEq] at h
      obtain ⟨rfl, rfl⟩ := h
      have := ends_core s _ _ _ true true true (a' : Int) (b' : Int) w (by rw [bytes_size]; unfold maxLen; omega) (by rw [bytes_size]; unfold maxLen; omega) (cutS_any s w hm hs) (by rw [M.bytes_list]; exact M.hex_has ha)
        (by split at hb <;> simp_all [M.bytes_list, M.hex_has]) (by unfold M.rising; rw [decide_eq_true_iff]; omega)
      simpa using this
    · cases h
  · cases h
theorem ends_none (s : ByteArray) (w : World) (hm : MaxOk w) (hs : s.size < 4294967281) (h : M.ends s.data.toList = none) :
    Calls Tryz.prog 24 #[.string s] w fun e w' => e = .panicked ucdPanic ∧ Below w.heap.size w w' := by
  have sz : s.data.toList.length = s.size := by simp
  have k1 := cut1_le s.data.toList [46, 46]
  have k2 := cut2_le s.data.toList [46, 46]
  have hdata : (if (Lib.cut s.data.toList [46, 46]).2.2 then M.bytes (Lib.cut s.data.toList [46, 46]).2.1 else M.bytes (Lib.cut s.data.toList [46, 46]).1).data.toList = (if (Lib.cut s.data.toList [46, 46]).2.2 then (Lib.cut s.data.toList [46, 46]).2.1 else (Lib.cut s.data.toList [46, 46]).1) := by
    split <;> rw [M.bytes_list]
  have := ends_core s _ _ _ _ _ _ _ _ w (by rw [bytes_size]; unfold maxLen; omega) (by rw [bytes_size]; unfold maxLen; omega) (cutS_any s w hm hs) ⟨rfl, rfl⟩ ⟨rfl, rfl⟩ rfl
  rw [hdata, M.bytes_list] at this
  refine this.mono fun e w' ⟨he, hb⟩ => ⟨?_, hb⟩
  refine (if_neg ?_).mp he
  · unfold M.ends at h
    intro hall
    simp only [Bool.and_eq_true, M.hexIs, Option.isSome_iff_exists] at hall
    obtain ⟨⟨⟨a, ha⟩, ⟨b, hb⟩⟩, hr⟩ := hall
    rw [ha, hb] at h
    rw [(M.hex_has ha).1, (M.hex_has hb).1] at hr
    unfold M.rising at hr
    rw [decide_eq_true_iff] at hr
    simp only [Int.ofNat_le] at hr
    simp only [ite_eq_right_iff, reduceCtorEq, imp_false] at h
    omega
end Go.Proofs.YtjbpjnnflcmmhaaGreatDoor
