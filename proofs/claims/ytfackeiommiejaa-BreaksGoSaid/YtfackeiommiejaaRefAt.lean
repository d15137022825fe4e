/- The document's own behind and At over the translation. Conditions: the slice reads as a list of kinds, at most a thousand long. -/
import Derived.Test.YtfackeiommiejaaRefCount
namespace Go.Proofs.Ytfackeiommiejaa
open Go.RowKit

namespace M
/-- What the Spaces up to a place stand behind, or what is there. -/
def hdN (l : List Int) : Nat → Int
  | 0 => 11
  | m + 1 => if (st (l.take (m + 1))).b = 8 then hdN l m else (st (l.take (m + 1))).b
theorem hdN_st {l : List Int} : ∀ {i : Nat}, i < l.length → (st (l.take (i + 1))).h = hdN l i
  | 0, h => by
    rw [st_take (List.getElem?_eq_getElem h)]
    rfl
  | m + 1, h => by
    rw [st_take (List.getElem?_eq_getElem h)]
    show (if (st (l.take (m + 1))).b = 8 then (st (l.take (m + 1))).h else (st (l.take (m + 1))).b) = if (st (l.take (m + 1))).b = 8 then hdN l m else (st (l.take (m + 1))).b
    rw [hdN_st (by omega : m < l.length)]
theorem say_eq (p : P) : say p = if p.m = true ∧ bears p.a = true then 0 else if p.a = 11 then 2 else if p.b = 11 ∨ p.b = 8 ∨ p.b = 9 then 0 else if p.h = 9 then 1 else if p.b = 4 then 0 else if p.h = 3 then 0 else if p.a = 8 then 1
    else if p.a = 7 ∨ p.b = 7 then 0 else if p.b = 5 ∨ p.b = 6 then 0 else if word p.a = true ∧ word p.b = true then 0 else if p.a = 5 ∧ p.b = 1 then 0 else 1 := by
  simp [say, sayFrom, rl, says]
end M

set_option maxHeartbeats 4000000 in
theorem refBehind_any (A : Option Addr) (ca n i : Nat) (k : Int) (l : List Int) (w : World) (hr : RdS .i64 w w.heap.size A (M.cnts l)) (hn : l.length = n) (hl : n ≤ 1000) (hi : i ≤ n) (hk : k ≠ 8 ∧ k ≠ 11) :
    Calls Try.prog 21 #[.slice A n ca, .int .i64 ((i : Int) - 1), .int .i64 k] w fun r w' => r = .returned (.bool (decide (M.hdN l i = k))) ∧ w = w' := by
  obtain ⟨ans, hans⟩ : ∃ b, decide (M.hdN l i = k) = b := ⟨_, rfl⟩
  rw [hans]
  have HANS := Lib.hid hans
  have HR := Lib.hid hr
  have HN := Lib.hid hn
  have hl1 : (n : Int) ≤ 1000 := by omega
  have HK := Lib.hid hk
  clear hr hn hk hans
  go_enter Try.func21, Try.ntmps21
  go_wp2_with fail
  go_loop [1] (fun v => ∃ m : Nat, v = .int .i64 ((m : Int) - 1) ∧ m ≤ i ∧ M.hdN l m = M.hdN l i) (fun v => (intOf v + 1).toNat)
  case atStart => exact ⟨i, rfl, Nat.le_refl _, rfl⟩
  case round =>
    obtain ⟨m, rfl, hm, hh⟩ := hrel
    have hn := HN.out
    rcases Nat.eq_zero_or_pos m with hz | hpos
    · subst hz
      have h0 : ans = false := by
        rw [← HANS.out, ← hh, decide_eq_false_iff_not]
        have := HK.out
        show ¬ (11 : Int) = k
        omega
      subst h0
      clear hn hh
      go_wp2
      go_ret
      exact ⟨rfl, rfl⟩
    · obtain ⟨m', rfl⟩ : ∃ m', m = m' + 1 := ⟨m - 1, by omega⟩
      obtain ⟨ad, y, rfl, hcy, hy, hab⟩ := rd_at HR.out (Below.refl _ _) (by rw [M.cnts_len]; omega : m' < (M.cnts l).length)
      rw [M.cnts_at (by omega)] at hy
      have hy2 : (M.st (l.take (m' + 1))).b = y := by injection hy
      have k0 : (0 : Int) ≤ m' := by omega
      have k1 : (m' : Int) < n := by omega
      rw [show (((m' + 1 : Nat) : Int) - 1) = (m' : Int) by omega]
      have hstep : M.hdN l (m' + 1) = if y = 8 then M.hdN l m' else y := by
        show (if (M.st (l.take (m' + 1))).b = 8 then M.hdN l m' else (M.st (l.take (m' + 1))).b) = _
        rw [hy2]
      by_cases h8 : y = 8
      · subst h8
        rw [if_pos rfl] at hstep
        have HH := Lib.hid (hstep.symm.trans hh)
        clear hn hh hy hy2 hab hstep hpos
        go_wp2
        go_round
        case rel => exact ⟨m', rfl, by omega, HH.out⟩
        case measure => simp [intOf]
      · rw [if_neg h8] at hstep
        have b8 : (y == 8) = false := by rw [beq_eq_false_iff_ne]; exact h8
        have HF := Lib.hid (show (y == k) = ans by rw [← HANS.out, ← hh, hstep]; rfl)
        clear hn hh hy hy2 hab hstep hpos h8
        go_wp2
        go_ret
        exact ⟨ret_bool HF.out, rfl⟩

set_option maxRecDepth 100000 in
set_option maxHeartbeats 8000000 in
theorem refAtIn_any (A : Option Addr) (ca n i : Nat) (l : List Int) (w : World) (hr : RdS .i64 w w.heap.size A l) (hn : l.length = n) (hl : n ≤ 1000) (h0 : 0 < i) (hi : i < n) :
    Calls Try.prog 15 #[.slice A n ca, .int .i64 i] w fun r w' => r = .returned (.int .i64 (M.how l i)) ∧ Below w.heap.size w w' := by
  obtain ⟨ad, x, hA, hcx, hx, hab⟩ := rd_at hr (Below.refl _ _) (by omega : i < l.length)
  have ha := M.cnts_at (l := l) (i := i - 1) (by omega)
  have hb := M.cnts_at (l := l) (i := i) (by omega)
  rw [show i - 1 + 1 = i by omega] at ha
  have hh := M.hdN_st (l := l) (i := i) (by omega)
  have hpa : (M.st (l.take (i + 1))).a = (M.st (l.take i)).b := by rw [M.st_take hx]; rfl
  have hpm : (M.st (l.take (i + 1))).m = decide (x = 10) := by rw [M.st_take hx]; rfl
  have hpc : M.cnt (M.st (l.take i)).b x = (M.st (l.take (i + 1))).b := by rw [M.st_take hx]; rfl
  obtain ⟨a, hae⟩ : ∃ a, (M.st (l.take i)).b = a := ⟨_, rfl⟩
  obtain ⟨b, hbe⟩ : ∃ b, (M.st (l.take (i + 1))).b = b := ⟨_, rfl⟩
  obtain ⟨h, hhe⟩ : ∃ h, M.hdN l i = h := ⟨_, rfl⟩
  rw [hae] at ha
  rw [hbe] at hb
  have hha : a ≠ 8 → h = a := fun h8 => by
    rw [← hhe]
    obtain ⟨m, rfl⟩ : ∃ m, i = m + 1 := ⟨i - 1, by omega⟩
    show (if (M.st (l.take (m + 1))).b = 8 then M.hdN l m else (M.st (l.take (m + 1))).b) = a
    rw [hae, if_neg h8]
  have hsay : M.how l i = M.say ⟨a, b, h, decide (x = 10)⟩ := by
    rw [M.how_in h0 (by omega), ← hae, ← hbe, ← hhe, ← hh, ← hpm, ← hpa]
  rw [hsay, M.say_eq]
  dsimp only
  have HBH := Lib.hid (fun (A2 : Option Addr) (c2 : Nat) (k : Int) (w2 : World) (hr2 : RdS .i64 w2 w2.heap.size A2 (M.cnts l)) (hk : k ≠ 8 ∧ k ≠ 11) => by
    have := refBehind_any A2 c2 n i k l w2 hr2 hn hl (by omega) hk
    rw [hhe] at this
    exact this)
  have HX := Lib.hid hx
  have HCA := Lib.hid ha
  have HCB := Lib.hid hb
  have HCN := Lib.hid (refCounts_any A ca n l w hr hn hl)
  have HRL := Lib.hid hr
  have HLEN := Lib.hid (show (M.cnts l).length = n by rw [M.cnts_len, hn])
  have i0 : (0 : Int) < i := by omega
  have i0' : (0 : Int) ≤ (i : Int) - 1 := by omega
  have i1 : (i : Int) < n := by omega
  have i2 : (i : Int) - 1 < n := by omega
  have l1 : (n : Int) ≤ 1000 := by omega
  have iz : ((i : Int) == (n : Int)) = false := by rw [beq_eq_false_iff_ne]; omega
  have iz' : (i == n) = false := by rw [beq_eq_false_iff_ne]; omega
  obtain ⟨ans, hans⟩ : ∃ v, (if decide (x = 10) = true ∧ M.bears a = true then (0 : Int) else if a = 11 then 2 else if b = 11 ∨ b = 8 ∨ b = 9 then 0 else if h = 9 then 1 else if b = 4 then 0 else if h = 3 then 0 else if a = 8 then 1
    else if a = 7 ∨ b = 7 then 0 else if b = 5 ∨ b = 6 then 0 else if M.word a = true ∧ M.word b = true then 0 else if a = 5 ∧ b = 1 then 0 else 1) = v := ⟨_, rfl⟩
  rw [hans]
  have HANS := Lib.hid hans
  have HHA := Lib.hid hha
  subst hA
  clear hr hn hx ha hb hh hpa hpm hpc hae hbe hhe hha hsay hans hab h0 hi hcx
  go_enter Try.func15, Try.ntmps15
  go_wp2_with fail
  refine HCN.out.mono ?_
  rintro r w2 ⟨A2, c2, rfl, hr2, hc2, _, _, hb2⟩
  rw [HLEN.out]
  obtain ⟨ad2, hA2, _, hca⟩ := hr2 (i - 1) a HCA.out
  obtain ⟨ad3, hA3, _, hcb⟩ := hr2 i b HCB.out
  rw [hA2] at hA3
  injection hA3 with hA3
  subst hA3
  subst hA2
  obtain ⟨ad4, hA4, _, hcx⟩ := (HRL.out.below hb2) i x HX.out
  injection hA4 with hA4
  subst hA4
  have HB2 := Lib.hid hb2
  have HR2 := Lib.hid hr2
  obtain ⟨j, hj⟩ : ∃ j : Nat, j = i - 1 := ⟨_, rfl⟩
  have hji : (i : Int) - 1 = j := by omega
  rw [← hj] at hca
  have HBJ := Lib.hid (fun (A2 : Option Addr) (c2 : Nat) (k : Int) (w2 : World) (hr2 : RdS .i64 w2 w2.heap.size A2 (M.cnts l)) (hk : k ≠ 8 ∧ k ≠ 11) => by
    have := HBH.out A2 c2 k w2 hr2 hk
    rw [hji] at this
    exact this)
  have j0 : (0 : Int) ≤ j := by omega
  have j1 : (j : Int) < n := by omega
  clear hb2 hr2 hc2 hj
  rcases (show a = 11 ∨ a = 9 ∨ a = 8 ∨ (a ≠ 8 ∧ a ≠ 9 ∧ a ≠ 11) by omega) with rfl | rfl | rfl | ⟨q1, q2, q3⟩
  · have hz : ans = 2 := by rw [← HANS.out]; simp [M.bears]
    subst hz
    go_wp2_with (first | (go_at_call 21; refine (HBJ.out _ _ _ _ HR2.out (by omega)).mono ?_; rintro r w3 ⟨rfl, rfl⟩) | (go_at_call 22; refine (refWord_any _ _).mono ?_; rintro r w3 ⟨rfl, rfl⟩))
    all_goals
      go_ret
      exact ⟨rfl, HB2.out⟩
  · have hh := HHA.out (by omega)
    subst hh
    have HA2 := Lib.hid (show (if b = 11 ∨ b = 8 ∨ b = 9 then (0 : Int) else 1) = ans by rw [← HANS.out]; simp [M.bears])
    go_wp2_with (first | (go_at_call 21; refine (HBJ.out _ _ _ _ HR2.out (by omega)).mono ?_; rintro r w3 ⟨rfl, rfl⟩) | (go_at_call 22; refine (refWord_any _ _).mono ?_; rintro r w3 ⟨rfl, rfl⟩))
    all_goals
      go_ret
      exact ⟨ret_int (by rw [← HA2.out]; simp_all), HB2.out⟩
  · have HA2 := Lib.hid (show (if b = 11 ∨ b = 8 ∨ b = 9 then (0 : Int) else if h = 9 then 1 else if b = 4 then 0 else if h = 3 then 0 else 1) = ans by rw [← HANS.out]; simp [M.bears])
    go_wp2_with (first | (go_at_call 21; refine (HBJ.out _ _ _ _ HR2.out (by omega)).mono ?_; rintro r w3 ⟨rfl, rfl⟩) | (go_at_call 22; refine (refWord_any _ _).mono ?_; rintro r w3 ⟨rfl, rfl⟩))
    all_goals
      go_ret
      exact ⟨ret_int (by rw [← HA2.out]; simp_all), HB2.out⟩
  · have b1 : (a == 8) = false := by rw [beq_eq_false_iff_ne]; exact q1
    have b2 : (a == 9) = false := by rw [beq_eq_false_iff_ne]; exact q2
    have b3 : (a == 11) = false := by rw [beq_eq_false_iff_ne]; exact q3
    by_cases hx10 : x = 10
    · subst hx10
      have hz : ans = 0 := by rw [← HANS.out]; simp [M.bears, q1, q2, q3]
      subst hz
      clear q1 q2 q3
      go_wp2_with (first | (go_at_call 21; refine (HBJ.out _ _ _ _ HR2.out (by omega)).mono ?_; rintro r w3 ⟨rfl, rfl⟩) | (go_at_call 22; refine (refWord_any _ _).mono ?_; rintro r w3 ⟨rfl, rfl⟩))
      all_goals
        go_ret
        exact ⟨rfl, HB2.out⟩
    · have b4 : (x == 10) = false := by rw [beq_eq_false_iff_ne]; exact hx10
      have hh := HHA.out q1
      subst hh
      have HA2 := Lib.hid (show (if b = 11 ∨ b = 8 ∨ b = 9 then (0 : Int) else if b = 4 then 0 else if h = 3 then 0
        else if h = 7 ∨ b = 7 then 0 else if b = 5 ∨ b = 6 then 0 else if M.word h = true ∧ M.word b = true then 0 else if h = 5 ∧ b = 1 then 0 else 1) = ans by rw [← HANS.out]; simp [hx10, q1, q2, q3])
      have hd9 : decide (h = 9) = false := decide_eq_false q2
      clear hx10 q1 q2 q3
      go_wp2_with (first | (go_at_call 21; refine (HBJ.out _ _ _ _ HR2.out (by omega)).mono ?_; rintro r w3 ⟨rfl, rfl⟩) | (go_at_call 22; refine (refWord_any _ _).mono ?_; rintro r w3 ⟨rfl, rfl⟩))
      all_goals
        go_ret
        exact ⟨ret_int (by rw [← HA2.out]; simp_all), HB2.out⟩
end Go.Proofs.Ytfackeiommiejaa
