/- The document's own answers for what stands ahead of a join, over the translation: a picture behind a ZWJ, an odd number of Regionals. Conditions: the slice reads as a list of joins, and the place is within it. -/
import Derived.Test.YtpnbkakilmigeaaRefLeaf
namespace Go.Proofs.Ytpnbkakilmigeaa
open Go.RowKit

set_option maxHeartbeats 2000000 in
theorem refPicture_any (A : Option Addr) (ca n a : Nat) (l : List Int) (x : Int) (w : World) (hr : RdS .i64 w w.heap.size A l) (hn : l.length = n) (hl : n ≤ 1000) (ha : a < n) (hx : l[a]? = some x) :
    Calls Try.prog 19 #[.slice A n ca, .int .i64 a] w fun r w' => r = .returned (.bool (decide (x = 5) && M.base (M.back l a))) ∧ Below w.heap.size w w' := by
  obtain ⟨ans, hans⟩ : ∃ ans, (decide (x = 5) && M.base (M.back l a)) = ans := ⟨_, rfl⟩
  rw [hans]
  have HANS := Lib.hid hans
  have HR := Lib.hid hr
  have HN := Lib.hid hn
  have HX := Lib.hid hx
  have hl1 : (n : Int) ≤ 1000 := by omega
  have a0 : (0 : Int) ≤ a := by omega
  have a1 : (a : Int) < n := by omega
  clear hr hn hx hans
  go_enter Try.func19, Try.ntmps19
  go_wp2
  go_loopw [5] (fun v wr => ∃ k : Nat, v = .int .i64 ((k : Int) - 1) ∧ k ≤ a ∧ M.base (M.back l k) = M.base (M.back l a) ∧ Below w.heap.size w wr) (fun v _ => (intOf v + 1).toNat)
  case atStart => exact ⟨a, rfl, Nat.le_refl _, rfl, Below.refl _ _⟩
  case round =>
    obtain ⟨k, rfl, hk, hbase, hb⟩ := hrel
    have HB := Lib.hid hb
    have hn := HN.out
    obtain ⟨ad, x', rfl, hcx, hx', hab⟩ := rd_at HR.out hb (by omega : a < l.length)
    obtain rfl : x = x' := by have := HX.out; rw [this] at hx'; injection hx'
    by_cases hk0 : 0 < k
    · obtain ⟨ad', y, hA, hcy, hy, _⟩ := rd_at HR.out hb (by omega : k - 1 < l.length)
      injection hA with hA
      subst hA
      have hnext := M.back_next hy
      rw [show k - 1 + 1 = k by omega] at hnext
      have k1 : (0 : Int) < k := by omega
      have k2 : (k : Int) ≤ a := by omega
      have hbk : M.base (M.back l k) = if y = 4 then M.base (M.back l (k - 1)) else decide (y = 14) := by rw [hnext]; rfl
      rw [hbk] at hbase
      by_cases h4 : y = 4
      · subst h4
        rw [if_pos rfl] at hbase
        have HBA := Lib.hid hbase
        clear hb hab hn hnext hbk hbase hy hx' hk hcx
        go_wp2
        go_roundw
        case rel => exact ⟨k - 1, by go_num, by omega, HBA.out, HB.out⟩
        case measure => simp [intOf]; omega
      · rw [if_neg h4] at hbase
        have b4 : (y == 4) = false := by rw [beq_eq_false_iff_ne]; exact h4
        have hans := HANS.out
        rw [← hbase] at hans
        clear hb hab hn hnext hbk hbase hy hx' h4 HANS hk
        by_cases h5 : x = 5
        · subst h5
          by_cases h14 : y = 14
          · subst h14
            have HA2 := Lib.hid (show ans = true by rw [← hans]; decide)
            clear hans
            go_wp2
            go_ret
            exact ⟨by rw [HA2.out]; rfl, by first | exact HB.out | exact HB.out.drew⟩
          · have b14 : (y == 14) = false := by rw [beq_eq_false_iff_ne]; exact h14
            have HA2 := Lib.hid (show ans = false by rw [← hans]; simp [h14])
            clear hans h14
            go_wp2
            go_ret
            exact ⟨by rw [HA2.out]; rfl, by first | exact HB.out | exact HB.out.drew⟩
        · have b5 : (x == 5) = false := by rw [beq_eq_false_iff_ne]; exact h5
          have HA2 := Lib.hid (show ans = false by rw [← hans]; simp [h5])
          clear hans h5
          go_wp2
          go_ret
          exact ⟨by rw [HA2.out]; rfl, by first | exact HB.out | exact HB.out.drew⟩
    · obtain rfl : k = 0 := by omega
      have hans := HANS.out
      rw [← hbase, M.back_zero] at hans
      have HA2 := Lib.hid (show ans = false by rw [← hans]; simp [M.base])
      clear hb hab hn hbase hx' HANS hans hk
      by_cases h5 : x = 5
      · subst h5
        go_wp2
        go_ret
        exact ⟨by rw [HA2.out]; rfl, by first | exact HB.out | exact HB.out.drew⟩
      · have b5 : (x == 5) = false := by rw [beq_eq_false_iff_ne]; exact h5
        clear h5
        go_wp2
        go_ret
        exact ⟨by rw [HA2.out]; rfl, by first | exact HB.out | exact HB.out.drew⟩

set_option maxHeartbeats 2000000 in
theorem refOdd_any (A : Option Addr) (ca n a : Nat) (l : List Int) (w : World) (hr : RdS .i64 w w.heap.size A l) (hn : l.length = n) (hl : n ≤ 1000) (ha : a < n) :
    Calls Try.prog 20 #[.slice A n ca, .int .i64 a] w fun r w' => r = .returned (.bool (M.oddR (M.back l (a + 1)))) ∧ Below w.heap.size w w' := by
  obtain ⟨ans, hans⟩ : ∃ ans, M.oddR (M.back l (a + 1)) = ans := ⟨_, rfl⟩
  rw [hans]
  have HANS := Lib.hid hans
  have HR := Lib.hid hr
  have HN := Lib.hid hn
  have hl1 : (n : Int) ≤ 1000 := by omega
  have a0 : (0 : Int) ≤ a := by omega
  have a1 : (a : Int) < n := by omega
  clear hr hn hans
  go_enter Try.func20, Try.ntmps20
  go_wp2
  go_loopw [5, 6] (fun c v wr => ∃ (m k : Nat), c = .int .i64 m ∧ v = .int .i64 ((k : Int) - 1) ∧ m + k = a + 1 ∧ ans = (if m % 2 = 1 then !M.oddR (M.back l k) else M.oddR (M.back l k)) ∧ Below w.heap.size w wr) (fun _ v _ => (intOf v + 1).toNat)
  case atStart => exact ⟨0, a + 1, rfl, by go_num, by omega, by rw [if_neg (by decide)]; exact HANS.out.symm, Below.refl _ _⟩
  case round =>
    obtain ⟨m, k, rfl, rfl, hk, hodd, hb⟩ := hrel
    have HB := Lib.hid hb
    have hn := HN.out
    have m1 : (m : Int) ≤ 1000 := by omega
    have m0 : (0 : Int) ≤ m := by omega
    by_cases hk0 : 0 < k
    · obtain ⟨ad, y, rfl, hcy, hy, hab⟩ := rd_at HR.out hb (by omega : k - 1 < l.length)
      have hnext := M.back_next hy
      rw [show k - 1 + 1 = k by omega] at hnext
      have k1 : (0 : Int) < k := by omega
      have k2 : (k : Int) ≤ n := by omega
      have hbk : M.oddR (M.back l k) = if y = 6 then !M.oddR (M.back l (k - 1)) else false := by rw [hnext]; rfl
      rw [hbk] at hodd
      by_cases h6 : y = 6
      · subst h6
        rw [if_pos rfl] at hodd
        have HO := Lib.hid (show ans = (if (m + 1) % 2 = 1 then !M.oddR (M.back l (k - 1)) else M.oddR (M.back l (k - 1))) by
          rw [hodd]
          by_cases h : m % 2 = 1
          · rw [if_pos h, if_neg (by omega), Bool.not_not]
          · rw [if_neg h, if_pos (by omega)])
        have HK := Lib.hid hk
        clear hb hab hn hnext hbk hodd hy hk
        go_wp2
        go_roundw
        case rel => exact ⟨m + 1, k - 1, by go_num, by go_num, by have := HK.out; omega, HO.out, HB.out⟩
        case measure => simp [intOf]; omega
      · rw [if_neg h6] at hodd
        have b6 : (y == 6) = false := by rw [beq_eq_false_iff_ne]; exact h6
        have HO := Lib.hid (show ans = ((m : Int) % 2 == 1) by
          rw [hodd]
          by_cases h : m % 2 = 1
          · rw [if_pos h]; symm; simp; omega
          · rw [if_neg h]; symm; simp; omega)
        clear hb hab hn hnext hbk hodd hy h6 hk
        go_wp2
        go_ret
        exact ⟨by rw [HO.out]; first | rfl | (congr 2; go_num), by first | exact HB.out | exact HB.out.drew⟩
    · obtain rfl : k = 0 := by omega
      have HO := Lib.hid (show ans = ((m : Int) % 2 == 1) by
        rw [hodd, M.back_zero]
        by_cases h : m % 2 = 1
        · rw [if_pos h]; symm; simp [M.oddR]; omega
        · rw [if_neg h]; symm; simp [M.oddR]; omega)
      clear hb hn hodd hk
      go_wp2
      go_ret
      exact ⟨by rw [HO.out]; first | rfl | (congr 2; go_num), by first | exact HB.out | exact HB.out.drew⟩
end Go.Proofs.Ytpnbkakilmigeaa
