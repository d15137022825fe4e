/- The contracts of ucd's figure, rising and Hex over the translation. Conditions: a string is no longer than the model lets it be. -/
import Derived.Test.YtjbpjnnflcmmhaaLeaf
namespace Go.Proofs.Ytjbpjnnflcmmhaa
open Go.RowKit

def M.figR (r : Int) : Option Nat := if 48 ≤ r ∧ r ≤ 57 then some (r - 48).toNat else if 65 ≤ r ∧ r ≤ 70 then some (r - 55).toNat else none
theorem M.figR_byte (c : UInt8) : M.figR (c.toNat : Int) = M.figure c := by
  unfold M.figR M.figure
  by_cases h : 48 ≤ c.toNat ∧ c.toNat ≤ 57
  · rw [if_pos (by omega), if_pos h]; congr 1; omega
  · rw [if_neg (by omega), if_neg h]
    by_cases h' : 65 ≤ c.toNat ∧ c.toNat ≤ 70
    · rw [if_pos (by omega), if_pos h']; congr 1; omega
    · rw [if_neg (by omega), if_neg h']
theorem M.figR_high {r : Int} (h : 128 ≤ r) : M.figR r = none := by
  unfold M.figR
  rw [if_neg (by omega), if_neg (by omega)]

set_option maxHeartbeats 1000000 in
theorem figure_some (r : Int) (d : Nat) (w : World) (h : M.figR r = some d) :
    Calls Try.prog 40 #[.int .i32 r] w fun e w' => e = .returned (.tuple #[.int .i64 d, .bool true]) ∧ w = w' := by
  unfold M.figR at h
  by_cases h1 : 48 ≤ r ∧ r ≤ 57
  · rw [if_pos h1] at h
    obtain ⟨h1, h2⟩ := h1
    have hd : (d : Int) = r - 48 := by have := Option.some.inj h; omega
    have HD := Lib.hid hd
    clear h hd
    go_enter Try.func40, Try.ntmps40
    go_wp2
    go_ret2
    rw [HD.out]
    exact ⟨rfl, rfl⟩
  · rw [if_neg h1] at h
    by_cases h2 : 65 ≤ r ∧ r ≤ 70
    · rw [if_pos h2] at h
      obtain ⟨h2, h3⟩ := h2
      have hd : (d : Int) = r - 65 + 10 := by have := Option.some.inj h; omega
      have HD := Lib.hid hd
      have k : ¬ r ≤ 57 := by omega
      have k2 : decide (r ≤ 57) = false := by rw [decide_eq_false_iff_not]; omega
      clear h hd h1
      go_enter Try.func40, Try.ntmps40
      go_wp2
      go_ret2
      rw [HD.out]
      exact ⟨rfl, rfl⟩
    · rw [if_neg h2] at h; cases h
set_option maxHeartbeats 1000000 in
theorem figure_none (r : Int) (w : World) (h : M.figR r = none) :
    Calls Try.prog 40 #[.int .i32 r] w fun e w' => e = .returned (.tuple #[.int .i64 0, .bool false]) ∧ w = w' := by
  unfold M.figR at h
  have h1 : ¬ (48 ≤ r ∧ r ≤ 57) := fun k => by rw [if_pos k] at h; cases h
  have h2 : ¬ (65 ≤ r ∧ r ≤ 70) := fun k => by rw [if_neg h1, if_pos k] at h; cases h
  clear h
  rcases (show r < 48 ∨ (58 ≤ r ∧ r < 65) ∨ 70 < r by omega) with h | ⟨h, h'⟩ | h
  · clear h1 h2
    go_enter Try.func40, Try.ntmps40
    go_wp2
    go_ret2
    exact ⟨rfl, rfl⟩
  · clear h1 h2
    have k2 : decide (r ≤ 57) = false := by rw [decide_eq_false_iff_not]; omega
    go_enter Try.func40, Try.ntmps40
    go_wp2
    go_ret2
    exact ⟨rfl, rfl⟩
  · clear h1 h2
    have k2 : decide (r ≤ 57) = false := by rw [decide_eq_false_iff_not]; omega
    have k3 : decide (r ≤ 70) = false := by rw [decide_eq_false_iff_not]; omega
    go_enter Try.func40, Try.ntmps40
    go_wp2
    go_ret2
    exact ⟨rfl, rfl⟩

set_option maxHeartbeats 1000000 in
theorem rising_any (a b : Int) (w : World) :
    Calls Try.prog 41 #[.int .i64 a, .int .i64 b] w fun e w' => e = .returned (.bool (M.rising a b)) ∧ w = w' := by
  by_cases h1 : 0 ≤ a
  · by_cases h2 : a ≤ b
    · go_enter Try.func41, Try.ntmps41
      go_wp2
      go_ret
      refine ⟨ret_bool ?_, rfl⟩
      unfold M.rising
      rw [Bool.eq_iff_iff]
      simp
      try omega
    · have k : decide (a ≤ b) = false := by rw [decide_eq_false_iff_not]; omega
      go_enter Try.func41, Try.ntmps41
      go_wp2
      go_ret
      refine ⟨ret_bool ?_, rfl⟩
      unfold M.rising
      rw [Bool.eq_iff_iff]
      simp
      try omega
  · have k : decide (0 ≤ a) = false := by rw [decide_eq_false_iff_not]; omega
    go_enter Try.func41, Try.ntmps41
    go_wp2
    go_ret
    refine ⟨ret_bool ?_, rfl⟩
    unfold M.rising
    rw [Bool.eq_iff_iff]
    simp
    try omega

def M.hexInt (l : List UInt8) : Int := match M.hex l with
  | some n => n
  | none => 0
def M.hexIs (l : List UInt8) : Bool := (M.hex l).isSome
theorem M.hex_not {l : List UInt8} (h : M.hex l = none) : M.hexInt l = 0 ∧ M.hexIs l = false := by simp [M.hexInt, M.hexIs, h]
theorem M.hex_has {l : List UInt8} {n : Nat} (h : M.hex l = some n) : M.hexInt l = n ∧ M.hexIs l = true := by simp [M.hexInt, M.hexIs, h]
theorem M.hex_len {l : List UInt8} (h : l.length < 4 ∨ 6 < l.length) : M.hex l = none := by
  unfold M.hex
  rw [if_neg (by omega)]
theorem M.hexv_none {l : List UInt8} {k n : Nat} {c : UInt8} (hc : l[k]? = some c) (hf : M.figure c = none) : M.hexv (l.drop k) n = none := by
  have hk := (List.getElem?_eq_some_iff.1 hc)
  obtain ⟨hk, rfl⟩ := hk
  rw [List.drop_eq_getElem_cons hk, M.hexv, hf]
theorem M.hexv_some {l : List UInt8} {k n d : Nat} {c : UInt8} (hc : l[k]? = some c) (hf : M.figure c = some d) : M.hexv (l.drop k) n = M.hexv (l.drop (k + 1)) (16 * n + d) := by
  have hk := (List.getElem?_eq_some_iff.1 hc)
  obtain ⟨hk, rfl⟩ := hk
  rw [List.drop_eq_getElem_cons hk, M.hexv, hf]
theorem ret_two {a a' : Int} {b b' : Bool} (h : a = a') (h' : b = b') : Ending.returned (.tuple #[.int .i64 a, .bool b]) = .returned (.tuple #[.int .i64 a', .bool b']) := by rw [h, h']

set_option maxHeartbeats 1000000 in
theorem hex_any (s : ByteArray) (w : World) (hm : s.size ≤ maxLen) :
    Calls Try.prog 32 #[.string s] w fun e w' => e = .returned (.tuple #[.int .i64 (M.hexInt s.data.toList), .bool (M.hexIs s.data.toList)]) ∧ Below w.heap.size w w' := by
  unfold maxLen at hm
  have hln : s.data.toList.length = s.size := by simp
  by_cases h1 : s.size < 4
  · have HS := Lib.hid (M.hex_not (M.hex_len (l := s.data.toList) (by omega)))
    clear hln
    go_enter Try.func32, Try.ntmps32
    go_wp2
    go_ret2
    exact ⟨ret_two HS.out.1.symm HS.out.2.symm, Below.refl _ _⟩
  · by_cases h2 : 6 < s.size
    · have HS := Lib.hid (M.hex_not (M.hex_len (l := s.data.toList) (by omega)))
      clear hln
      go_enter Try.func32, Try.ntmps32
      go_wp2
      go_ret2
      exact ⟨ret_two HS.out.1.symm HS.out.2.symm, Below.refl _ _⟩
    · have hd : decide ((6 : Int) < (s.size : Int)) = false := by rw [decide_eq_false_iff_not]; omega
      have HL := Lib.hid hln
      clear hln
      go_enter Try.func32, Try.ntmps32
      go_wp2
      go_loopw [4] (fun v wr => ∃ k n : Nat, k ≤ s.size ∧ v = .int .i64 n ∧ n < 16 ^ k ∧ wr = w.iter s k ∧ M.hexv s.data.toList 0 = M.hexv (s.data.toList.drop k) n) (fun _ wr => s.size - wr.iterPos w.heap.size)
      case atStart => exact ⟨0, 0, Nat.zero_le _, rfl, by omega, rfl, rfl⟩
      case round =>
        obtain ⟨k, n, hk, rfl, hn, rfl, hv⟩ := hrel
        have HV := Lib.hid hv
        have HN := Lib.hid hn
        have hn6 : n < 16777216 := Nat.lt_of_lt_of_le hn (Nat.le_trans (Nat.pow_le_pow_right (by omega) (show k ≤ 6 by omega)) (by decide))
        clear hv hn
        by_cases hlt : k < s.size
        · have hget : s.data.toList[k]? = some s[k] := by rw [List.getElem?_eq_getElem (by simpa using hlt)]; rfl
          by_cases ha : (s[k]'hlt).toNat < 128
          · have hnx : ∀ ty, (Instr.next (.pointer (some ⟨w.heap.size, 0, none⟩)) true ty).run Try.prog (w.iter s k) = _ := fun ty => run_next_ascii w s k ty hlt ha
            cases hf : M.figure s[k] with
            | some d =>
              have HF := Lib.hid (show M.figR ((s[k]).toNat : Int) = some d by rw [M.figR_byte]; exact hf)
              have hd16 := M.figure_lt hf
              have HT := Lib.hid (HV.out.trans (M.hexv_some (n := n) hget hf))
              have HP := Lib.hid (show 16 * n + d < 16 ^ (k + 1) by have := HN.out; rw [Nat.pow_succ]; omega)
              have hk6 : k < 6 := by omega
              have hn5 : n < 1048576 := Nat.lt_of_lt_of_le HN.out (Nat.le_trans (Nat.pow_le_pow_right (by omega) (show k ≤ 5 by omega)) (by decide))
              clear hf hget
              go_wp2_with fail
              refine (figure_some _ d _ HF.out).mono ?_
              rintro e w' ⟨rfl, rfl⟩
              go_wp2
              go_roundw
              case rel => exact ⟨k + 1, 16 * n + d, by omega, by go_num, HP.out, rfl, HT.out⟩
              case measure => simp; omega
            | none =>
              have HF := Lib.hid (show M.figR ((s[k]).toNat : Int) = none by rw [M.figR_byte]; exact hf)
              have HT := Lib.hid (M.hex_not (show M.hex s.data.toList = none by unfold M.hex; rw [HV.out.trans (M.hexv_none (n := n) hget hf)]; simp))
              clear hf hget
              go_wp2_with fail
              refine (figure_none _ _ HF.out).mono ?_
              rintro e w' ⟨rfl, rfl⟩
              go_wp2
              go_ret2
              exact ⟨ret_two HT.out.1.symm HT.out.2.symm, (Below.refl _ _).alloc (Nat.le_refl _) _⟩
          · have hnx : ∀ ty, (Instr.next (.pointer (some ⟨w.heap.size, 0, none⟩)) true ty).run Try.prog (w.iter s k) = _ := fun ty => run_next_any w s k ty hlt
            have hdh := decode_high s k hlt (by omega)
            have HF := Lib.hid (M.figR_high (r := ((Utf8.decode s k).1 : Int)) (by omega))
            have hf : M.figure s[k] = none := by unfold M.figure; rw [if_neg (by omega), if_neg (by omega)]
            have HT := Lib.hid (M.hex_not (show M.hex s.data.toList = none by unfold M.hex; rw [HV.out.trans (M.hexv_none (n := n) hget hf)]; simp))
            clear hf hget hdh
            go_wp2_with fail
            refine (figure_none _ _ HF.out).mono ?_
            rintro e w' ⟨rfl, rfl⟩
            go_wp2
            go_ret2
            exact ⟨ret_two HT.out.1.symm HT.out.2.symm, (Below.refl _ _).alloc (Nat.le_refl _) _⟩
        · have hnx : ∀ ty, (Instr.next (.pointer (some ⟨w.heap.size, 0, none⟩)) true ty).run Try.prog (w.iter s k) = _ := fun ty => run_next_end w s k ty hlt
          have hend : M.hexv s.data.toList 0 = some n := by rw [HV.out, List.drop_eq_nil_of_le (by rw [HL.out]; omega)]; rfl
          by_cases hbig : 1114111 < n
          · have HT := Lib.hid (M.hex_not (show M.hex s.data.toList = none by unfold M.hex; rw [hend]; simp; omega))
            clear hend
            go_wp2
            go_ret2
            exact ⟨ret_two HT.out.1.symm HT.out.2.symm, (Below.refl _ _).alloc (Nat.le_refl _) _⟩
          · have HT := Lib.hid (M.hex_has (show M.hex s.data.toList = some n by unfold M.hex; rw [if_pos (by rw [HL.out]; omega), hend]; simp; omega))
            clear hend
            go_wp2
            go_ret2
            exact ⟨ret_two HT.out.1.symm HT.out.2.symm, (Below.refl _ _).alloc (Nat.le_refl _) _⟩
end Go.Proofs.Ytjbpjnnflcmmhaa
