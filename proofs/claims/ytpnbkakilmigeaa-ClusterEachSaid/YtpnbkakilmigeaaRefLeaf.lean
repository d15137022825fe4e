/- The document's own small answers for clusters, over the translation: which joins end all, which are parts of a syllable, a picture behind a ZWJ, an odd number of Regionals. Conditions: the slice reads as a list of joins. -/
import Derived.Test.YtpnbkakilmigeaaRows
import Derived.Test.YtpnbkakilmigeaaReads
import Derived.WalkKit
import Derived.Lib.Hide
import Derived.Lib.QuietBelow
import Derived.Deep.QuietTactic
import Derived.BigQuiet
import Derived.WalkSpells
import Derived.WalkLawsBesides
namespace Go.Proofs.Ytpnbkakilmigeaa
open Go.RowKit

theorem ret_bool {a b : Bool} (h : a = b) : Ending.returned (.bool a) = .returned (.bool b) := by rw [h]

/-- CR, LF or Control. -/
def M.endsJ (j : Int) : Bool := decide (j = 1 ∨ j = 2 ∨ j = 3)
/-- Two that belong together as parts of a syllable. -/
def M.hang (a b : Int) : Bool := decide ((a = 9 ∧ (b = 9 ∨ b = 10 ∨ b = 12 ∨ b = 13)) ∨ ((a = 12 ∨ a = 10) ∧ (b = 10 ∨ b = 11)) ∨ ((a = 13 ∨ a = 11) ∧ b = 11))
/-- What stands ahead, back to front, begins with Extends and then a Pict. -/
def M.base : List Int → Bool
  | [] => false
  | j :: r => if j = 4 then M.base r else decide (j = 14)
/-- The Regionals at the head of what stands ahead are an odd number. -/
def M.oddR : List Int → Bool
  | [] => false
  | j :: r => if j = 6 then !M.oddR r else false
/-- Is there a break between what stands ahead, back to front, and the next one? -/
def M.cut (r : List Int) (b : Int) : Bool := match r with
  | [] => true
  | a :: t => if a = 1 ∧ b = 2 then false
    else if M.endsJ a = true ∨ M.endsJ b = true then true
    else if M.hang a b = true ∨ b = 4 ∨ b = 5 ∨ b = 8 ∨ a = 7 then false
    else if b = 14 then !(decide (a = 5) && M.base t)
    else if a = 6 ∧ b = 6 then !M.oddR r
    else true
/-- What stands ahead of the i-th, back to front. -/
def M.back (l : List Int) (i : Nat) : List Int := (l.take i).reverse
theorem M.back_zero (l : List Int) : M.back l 0 = [] := rfl
theorem M.back_next {l : List Int} {i : Nat} {x : Int} (h : l[i]? = some x) : M.back l (i + 1) = x :: M.back l i := by
  obtain ⟨h1, h2⟩ := List.getElem?_eq_some_iff.1 h
  unfold M.back
  rw [List.take_succ_eq_append_getElem h1, List.reverse_append, h2]
  rfl

theorem rd_at {w w' : World} {n k : Nat} {A : Option Addr} {l : List Int} (h : RdS .i64 w n A l) (hb : Below n w w') (hk : k < l.length) : ∃ ad x, A = some ad ∧ w'.cell? (ad.add k) = some (.int .i64 x) ∧ l[k]? = some x ∧ ad.block < n := by
  obtain ⟨x, hx⟩ : ∃ x, l[k]? = some x := ⟨_, List.getElem?_eq_getElem hk⟩
  obtain ⟨ad, hA, hB, hc⟩ := (h.below hb) k x hx
  exact ⟨ad, x, hA, hc, hx, hB⟩

set_option maxHeartbeats 1000000 in
theorem refEnds_any (j : Int) (w : World) : Calls Try.prog 17 #[.int .i64 j] w fun r w' => r = .returned (.bool (M.endsJ j)) ∧ Below w.heap.size w w' := by
  unfold M.endsJ
  rcases (show j = 1 ∨ j = 2 ∨ j = 3 ∨ (j ≠ 1 ∧ j ≠ 2 ∧ j ≠ 3) by omega) with rfl | rfl | rfl | ⟨h1, h2, h3⟩
  · go_enter Try.func17, Try.ntmps17
    go_wp2
    go_ret
    exact ⟨ret_bool (by simp), Below.refl _ _⟩
  · go_enter Try.func17, Try.ntmps17
    go_wp2
    go_ret
    exact ⟨ret_bool (by simp), Below.refl _ _⟩
  · go_enter Try.func17, Try.ntmps17
    go_wp2
    go_ret
    exact ⟨ret_bool (by simp), Below.refl _ _⟩
  · have b1 : (j == 1) = false := by rw [beq_eq_false_iff_ne]; exact h1
    have b2 : (j == 2) = false := by rw [beq_eq_false_iff_ne]; exact h2
    have b3 : (j == 3) = false := by rw [beq_eq_false_iff_ne]; exact h3
    have hf : decide (j = 1 ∨ j = 2 ∨ j = 3) = false := decide_eq_false (by omega)
    rw [hf]
    clear hf
    go_enter Try.func17, Try.ntmps17
    go_wp2
    go_ret
    exact ⟨ret_bool (by simp), Below.refl _ _⟩

set_option maxHeartbeats 2000000 in
theorem refIn_any (A : Option Addr) (ca n : Nat) (j : Int) (l : List Int) (w : World) (hr : RdS .i64 w w.heap.size A l) (hn : l.length = n) (hl : n ≤ 1000) :
    Calls Try.prog 29 #[.int .i64 j, .slice A n ca] w fun r w' => r = .returned (.bool (decide (j ∈ l))) ∧ Below w.heap.size w w' := by
  have HR := Lib.hid hr
  have HN := Lib.hid hn
  have hl1 : (n : Int) ≤ 1000 := by omega
  obtain ⟨ans, hans⟩ : ∃ ans, decide (j ∈ l) = ans := ⟨_, rfl⟩
  rw [hans]
  have HANS := Lib.hid hans
  clear hr hn hans
  go_enter Try.func29, Try.ntmps29
  go_wp2
  go_loopw [5] (fun v wr => ∃ k : Nat, v = .int .i64 k ∧ k ≤ n ∧ j ∉ l.take k ∧ Below w.heap.size w wr) (fun v _ => n - (intOf v).toNat)
  case atStart => exact ⟨0, rfl, Nat.zero_le _, by simp, Below.refl _ _⟩
  case round =>
    obtain ⟨k, rfl, hk, hno, hb⟩ := hrel
    have hn := HN.out
    have HB := Lib.hid hb
    have HNO := Lib.hid hno
    by_cases hlt : k < n
    · obtain ⟨ad, x, rfl, hcx, hx, hab⟩ := rd_at HR.out hb (by omega : k < l.length)
      have k0 : (0 : Int) ≤ k := by omega
      have k1 : (k : Int) < n := by omega
      by_cases hxj : x = j
      · subst hxj
        have hyes : ans = true := by rw [← HANS.out]; exact decide_eq_true (List.mem_of_getElem? hx)
        subst hyes
        clear hb hx hab hno hn
        go_wp2
        go_ret
        exact ⟨rfl, by first | exact HB.out | exact HB.out.drew⟩
      · have e : (x == j) = false := by rw [beq_eq_false_iff_ne]; exact hxj
        have HNX := Lib.hid (show j ∉ l.take (k + 1) by
          obtain ⟨h1, h2⟩ := List.getElem?_eq_some_iff.1 hx
          rw [List.take_succ_eq_append_getElem h1, h2]
          intro hm
          rcases List.mem_append.1 hm with h | h
          · exact hno h
          · simp at h; exact hxj h.symm)
        clear hb hx hab hno hn
        go_wp2
        go_roundw
        case rel => exact ⟨k + 1, by go_num, by omega, HNX.out, by first | exact HB.out | exact HB.out.drew⟩
        case measure => simp [intOf]; omega
    · have hno2 : ans = false := by
        rw [← HANS.out]
        refine decide_eq_false ?_
        rwa [List.take_of_length_le (by omega)] at hno
      subst hno2
      clear hb hno hn
      go_wp2
      go_ret
      exact ⟨rfl, HB.out⟩
set_option maxHeartbeats 2000000 in
theorem refHangul_any (a b : Int) (w : World) : Calls Try.prog 18 #[.int .i64 a, .int .i64 b] w fun r w' => r = .returned (.bool (M.hang a b)) ∧ Below w.heap.size w w' := by
  by_cases h9 : a = 9
  · subst h9
    have hh : M.hang 9 b = decide (b ∈ [9, 10, 12, 13]) := by
      unfold M.hang
      rw [decide_eq_decide]
      simp
    obtain ⟨ans, hans⟩ : ∃ ans, M.hang 9 b = ans := ⟨_, rfl⟩
    rw [hans] at hh ⊢
    obtain ⟨W1, hW1⟩ : ∃ W1, w.alloc (.cells #[.int .i64 9, .int .i64 10, .int .i64 12, .int .i64 13] 26) = W1 := ⟨_, rfl⟩
    have hb1 : Below w.heap.size w W1 := by rw [← hW1]; exact (Below.refl _ _).alloc (Nat.le_refl _) _
    have hrd : RdS .i64 W1 W1.heap.size (some ⟨w.heap.size, 0, none⟩) [9, 10, 12, 13] := fun j x hx => by
      refine ⟨_, rfl, by rw [← hW1]; simp, ?_⟩
      rw [← hW1]
      match j, hx with
      | 0, hx => simp at hx; subst hx; simp [Addr.add, go_sem]
      | 1, hx => simp at hx; subst hx; simp [Addr.add, go_sem]
      | 2, hx => simp at hx; subst hx; simp [Addr.add, go_sem]
      | 3, hx => simp at hx; subst hx; simp [Addr.add, go_sem]
    have hc := refIn_any (some ⟨w.heap.size, 0, none⟩) 4 4 b [9, 10, 12, 13] W1 hrd rfl (by omega)
    rw [← hh] at hc
    have HC := Lib.hid hc
    have HB1 := Lib.hid hb1
    have HW1 := Lib.hid hW1
    clear hc hb1 hW1 hrd hh hans
    cases ans
    all_goals
      go_enter Try.func18, Try.ntmps18
      go_wp2_with fail
      rw [HW1.out]
      refine HC.out.mono ?_
      rintro r w2 ⟨rfl, hb2⟩
      have HB2 := Lib.hid (HB1.out.trans (hb2.mono HB1.out.size))
      clear hb2
      go_wp2_with fail
      go_ret
      exact ⟨rfl, HB2.out⟩
  · rcases (show a = 12 ∨ a = 10 ∨ a = 13 ∨ a = 11 ∨ (a ≠ 12 ∧ a ≠ 10 ∧ a ≠ 13 ∧ a ≠ 11) by omega) with rfl | rfl | rfl | rfl | ⟨n1, n2, n3, n4⟩
    · clear h9
      by_cases h11 : b = 11
      · subst h11
        have hh : M.hang 12 11 = true := by decide
        rw [hh]
        clear hh
        go_enter Try.func18, Try.ntmps18
        go_wp2_with fail
        go_ret
        exact ⟨rfl, Below.refl _ _⟩
      · have b11 : (b == 11) = false := by rw [beq_eq_false_iff_ne]; exact h11
        by_cases h10 : b = 10
        · subst h10
          have hh : M.hang 12 10 = true := by decide
          rw [hh]
          clear hh h11 b11
          go_enter Try.func18, Try.ntmps18
          go_wp2_with fail
          go_ret
          exact ⟨rfl, Below.refl _ _⟩
        · have b10 : (b == 10) = false := by rw [beq_eq_false_iff_ne]; exact h10
          have hh : M.hang 12 b = false := decide_eq_false (by omega)
          rw [hh]
          clear hh h11 h10
          go_enter Try.func18, Try.ntmps18
          go_wp2_with fail
          go_ret
          exact ⟨rfl, Below.refl _ _⟩
    · clear h9
      by_cases h11 : b = 11
      · subst h11
        have hh : M.hang 10 11 = true := by decide
        rw [hh]
        clear hh
        go_enter Try.func18, Try.ntmps18
        go_wp2_with fail
        go_ret
        exact ⟨rfl, Below.refl _ _⟩
      · have b11 : (b == 11) = false := by rw [beq_eq_false_iff_ne]; exact h11
        by_cases h10 : b = 10
        · subst h10
          have hh : M.hang 10 10 = true := by decide
          rw [hh]
          clear hh h11 b11
          go_enter Try.func18, Try.ntmps18
          go_wp2_with fail
          go_ret
          exact ⟨rfl, Below.refl _ _⟩
        · have b10 : (b == 10) = false := by rw [beq_eq_false_iff_ne]; exact h10
          have hh : M.hang 10 b = false := decide_eq_false (by omega)
          rw [hh]
          clear hh h11 h10
          go_enter Try.func18, Try.ntmps18
          go_wp2_with fail
          go_ret
          exact ⟨rfl, Below.refl _ _⟩
    · clear h9
      by_cases h11 : b = 11
      · subst h11
        have hh : M.hang 13 11 = true := by decide
        rw [hh]
        clear hh
        go_enter Try.func18, Try.ntmps18
        go_wp2_with fail
        go_ret
        exact ⟨rfl, Below.refl _ _⟩
      · have b11 : (b == 11) = false := by rw [beq_eq_false_iff_ne]; exact h11
        by_cases h10 : b = 10
        · subst h10
          have hh : M.hang 13 10 = false := by decide
          rw [hh]
          clear hh h11 b11
          go_enter Try.func18, Try.ntmps18
          go_wp2_with fail
          go_ret
          exact ⟨rfl, Below.refl _ _⟩
        · have b10 : (b == 10) = false := by rw [beq_eq_false_iff_ne]; exact h10
          have hh : M.hang 13 b = false := decide_eq_false (by omega)
          rw [hh]
          clear hh h11 h10
          go_enter Try.func18, Try.ntmps18
          go_wp2_with fail
          go_ret
          exact ⟨rfl, Below.refl _ _⟩
    · clear h9
      by_cases h11 : b = 11
      · subst h11
        have hh : M.hang 11 11 = true := by decide
        rw [hh]
        clear hh
        go_enter Try.func18, Try.ntmps18
        go_wp2_with fail
        go_ret
        exact ⟨rfl, Below.refl _ _⟩
      · have b11 : (b == 11) = false := by rw [beq_eq_false_iff_ne]; exact h11
        by_cases h10 : b = 10
        · subst h10
          have hh : M.hang 11 10 = false := by decide
          rw [hh]
          clear hh h11 b11
          go_enter Try.func18, Try.ntmps18
          go_wp2_with fail
          go_ret
          exact ⟨rfl, Below.refl _ _⟩
        · have b10 : (b == 10) = false := by rw [beq_eq_false_iff_ne]; exact h10
          have hh : M.hang 11 b = false := decide_eq_false (by omega)
          rw [hh]
          clear hh h11 h10
          go_enter Try.func18, Try.ntmps18
          go_wp2_with fail
          go_ret
          exact ⟨rfl, Below.refl _ _⟩
    · have b9 : (a == 9) = false := by rw [beq_eq_false_iff_ne]; exact h9
      have b1 : (a == 12) = false := by rw [beq_eq_false_iff_ne]; exact n1
      have b2 : (a == 10) = false := by rw [beq_eq_false_iff_ne]; exact n2
      have b3 : (a == 13) = false := by rw [beq_eq_false_iff_ne]; exact n3
      have b4 : (a == 11) = false := by rw [beq_eq_false_iff_ne]; exact n4
      have hh : M.hang a b = false := decide_eq_false (by omega)
      rw [hh]
      clear hh h9 n1 n2 n3 n4
      go_enter Try.func18, Try.ntmps18
      go_wp2_with fail
      go_ret
      exact ⟨rfl, Below.refl _ _⟩
end Go.Proofs.Ytpnbkakilmigeaa
