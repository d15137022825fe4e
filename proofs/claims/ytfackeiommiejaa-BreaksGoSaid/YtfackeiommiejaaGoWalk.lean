/- The walk of stage 6's third law: it answers true. Conditions: the slice reads as a list of kinds, within its capacity. -/
import Derived.Test.YtfackeiommiejaaAlive
import Derived.Test.YtfackeiommiejaaMathPart
namespace Go.Proofs.Ytfackeiommiejaa
open Go.RowKit

namespace M
theorem nextFrom_is {l : List Int} : ∀ n i, i ≤ nextFrom l n i ∧ (nextFrom l n i < i + n → how l (nextFrom l n i) ≠ 0) ∧ ∀ j, i ≤ j → j < nextFrom l n i → how l j = 0
  | 0, i => ⟨Nat.le_refl _, fun h => by have : nextFrom l 0 i = i := rfl; omega, fun j h1 h2 => by have : nextFrom l 0 i = i := rfl; omega⟩
  | n + 1, i => by
    by_cases h : how l i ≠ 0
    · rw [nextFrom_hit h]
      exact ⟨Nat.le_refl _, fun _ => h, fun j h1 h2 => by omega⟩
    · have e : nextFrom l (n + 1) i = nextFrom l n (i + 1) := by
        show (if how l i ≠ 0 then i else nextFrom l n (i + 1)) = _
        rw [if_neg h]
      obtain ⟨g1, g2, g3⟩ := nextFrom_is (l := l) n (i + 1)
      rw [e]
      refine ⟨by omega, fun hlt => g2 (by omega), fun j h1 h2 => ?_⟩
      rcases Nat.lt_or_ge i j with hj | hj
      · exact g3 j (by omega) h2
      · obtain rfl : j = i := by omega
        simpa using h
theorem nextN_is {l : List Int} {i : Nat} (h : i < l.length) : i < nextN l i ∧ nextN l i ≤ l.length ∧ how l (nextN l i) ≠ 0 ∧ ∀ j, i < j → j < nextN l i → how l j = 0 := by
  have hle := nextN_le l i
  have e : nextN l i = nextFrom l (l.length - (i + 1)) (i + 1) := by unfold nextN; rw [if_neg (by omega)]
  obtain ⟨g1, g2, g3⟩ := nextFrom_is (l := l) (l.length - (i + 1)) (i + 1)
  rw [e] at hle ⊢
  refine ⟨by omega, hle, ?_, fun j h1 h2 => g3 j (by omega) h2⟩
  rcases Nat.lt_or_ge (nextFrom l (l.length - (i + 1)) (i + 1)) l.length with h1 | h1
  · exact g2 (by omega)
  · rw [show nextFrom l (l.length - (i + 1)) (i + 1) = l.length by omega, how_len (by omega)]
    decide
end M

set_option maxHeartbeats 4000000 in
theorem goLong_any (A : Option Addr) (ca n : Nat) (w : World) (hn : 80 < n) (hm : n ≤ maxLen) :
    Calls Try.prog 5 #[.slice A n ca] w fun r w' => r = .returned (.bool true) ∧ Below w.heap.size w w' := by
  unfold maxLen at hm
  have h1 : (80 : Int) < n := by omega
  go_enter Try.func5, Try.ntmps5
  go_wp2_with fail
  refine (alive_any _).mono ?_
  rintro r w2 ⟨rfl, hb⟩
  have HB := Lib.hid hb
  clear hb
  go_wp2_with fail
  go_ret
  exact ⟨rfl, HB.out⟩

set_option maxRecDepth 100000 in
set_option maxHeartbeats 8000000 in
theorem goShort_any (A : Option Addr) (ca n : Nat) (l : List Int) (w : World) (hr : RdS .i64 w w.heap.size A l) (hn : l.length = n) (hl : n ≤ 80) (hca : n ≤ ca) :
    Calls Try.prog 5 #[.slice A n ca] w fun r w' => r = .returned (.bool true) ∧ Below w.heap.size w w' := by
  have HR := Lib.hid hr
  have HN := Lib.hid hn
  have hl1 : (n : Int) ≤ 80 := by omega
  have HAL := Lib.hid (show (M.all l).length = n by rw [M.all_len, hn])
  have hnn : ((n : Int) == (n : Int)) = true := by simp
  have hnn' : (n == n) = true := by simp
  clear hr hn
  go_enter Try.func5, Try.ntmps5
  go_wp2_with fail
  refine (all_any A ca n l w HR.out HN.out (by omega) hca).mono ?_
  rintro r w1 ⟨A1, c1, rfl, hr1, _, _, _, hb1⟩
  rw [HAL.out]
  have HR1 := Lib.hid hr1
  have HB1 := Lib.hid hb1
  have HRl := Lib.hid ((HR.out.below hb1).more hb1.size)
  clear hr1 hb1
  go_wp2_with fail
  go_loopw [4] (fun v wr => ∃ k : Nat, v = .int .i64 k ∧ k ≤ n ∧ Below w1.heap.size w1 wr) (fun v _ => n - (intOf v).toNat)
  case atStart => exact ⟨0, rfl, Nat.zero_le _, Below.refl _ _⟩
  case round =>
    obtain ⟨k, rfl, hk, hb⟩ := hrel
    have HB := Lib.hid hb
    have hn := HN.out
    have k0 : (0 : Int) ≤ k := by omega
    by_cases hlt : k < n
    · have k1 : (k : Int) < n := by omega
      obtain ⟨g1, g2, g3, g4⟩ := M.nextN_is (l := l) (i := k) (by omega)
      have HNX := Lib.hid (by
        have := nextOf_any A ca n k l wr ((HRl.out.below hb).more hb.size) hn (by omega) hca
        unfold M.nextI at this
        rw [Int.toNat_natCast] at this
        exact this)
      obtain ⟨m, hm⟩ : ∃ m, M.nextN l k = m := ⟨_, rfl⟩
      rw [hm] at g1 g2 g3 g4 HNX
      rw [hn] at g2
      have HG4 := Lib.hid g4
      clear hb hn hm g4
      go_wp2_with fail
      refine HNX.out.mono ?_
      rintro r w2 ⟨rfl, hb2⟩
      have HB2 := Lib.hid (HB.out.trans (hb2.mono HB.out.size))
      clear hb2
      obtain ⟨j, hj⟩ : ∃ j : Nat, m = j + 1 := ⟨m - 1, by omega⟩
      have hcell := (HR1.out.below HB2.out) j (M.how l m) (by rw [M.all_at (by have := HN.out; omega), hj])
      obtain ⟨ad1, rfl, _, hcell⟩ := hcell
      have HHOW := Lib.hid g3
      obtain ⟨v, hv⟩ : ∃ v, M.how l m = v := ⟨_, rfl⟩
      rw [hv] at hcell g3
      have b1 : (v == 0) = false := by rw [beq_eq_false_iff_ne]; exact g3
      have m1 : (k : Int) < m := by omega
      have m2 : (m : Int) ≤ n := by omega
      have hjm : (m : Int) - 1 = j := by omega
      have j0 : (0 : Int) ≤ j := by omega
      have j1 : (j : Int) < n := by omega
      clear hv g3 hj
      go_wp2_with fail
      clear hjm hcell
      go_loopw [6] (fun v wr => ∃ q : Nat, v = .int .i64 q ∧ k + 1 ≤ q ∧ q ≤ m ∧ Below w1.heap.size w1 wr) (fun v _ => m - (intOf v).toNat)
      case atStart => exact ⟨k + 1, by go_num, Nat.le_refl _, by omega, HB2.out⟩
      case round =>
        rename World => wr2
        obtain ⟨q, rfl, hq1, hq2, hb3⟩ := hrel
        have HB3 := Lib.hid hb3
        by_cases hqm : q < m
        · obtain ⟨p, hp⟩ : ∃ p : Nat, q = p + 1 := ⟨q - 1, by omega⟩
          have hcell := (HR1.out.below hb3) p (M.how l q) (by rw [M.all_at (by have := HN.out; omega), hp])
          obtain ⟨ad2, hA, _, hcell⟩ := hcell
          injection hA with hA
          subst hA
          rw [HG4.out q (by omega) hqm] at hcell
          have q0 : (q : Int) < m := by omega
          have q1 : (0 : Int) ≤ q := by omega
          have hpq : (q : Int) - 1 = p := by omega
          have p0 : (0 : Int) ≤ p := by omega
          have p1 : (p : Int) < n := by omega
          clear hp hb3
          go_wp2_with fail
          go_roundw
          case rel => exact ⟨q + 1, by go_num, by omega, by omega, HB3.out⟩
          case measure => simp [intOf]; omega
        · obtain rfl : q = m := by omega
          have q0 : ¬ (q : Int) < q := by omega
          clear hb3
          go_wp2_with fail
          go_roundw
          case rel => exact ⟨q, rfl, by omega, HB3.out⟩
          case measure => simp [intOf]; omega
    · obtain rfl : k = n := by omega
      clear hb hn
      go_wp2_with fail
      go_loopw [7] (fun v wr => ∃ q : Nat, v = .int .i64 q ∧ q ≤ k ∧ Below w1.heap.size w1 wr) (fun v _ => k - (intOf v).toNat)
      case atStart => exact ⟨0, rfl, Nat.zero_le _, HB.out⟩
      case round =>
        rename World => wr2
        obtain ⟨q, rfl, hq, hb3⟩ := hrel
        have HB3 := Lib.hid hb3
        have hn := HN.out
        by_cases hqn : q < k
        · obtain ⟨ad2, x, rfl, hcx, hx, _⟩ := rd_at HRl.out hb3 (by omega : q < l.length)
          obtain ⟨ad3, hA3, _, hch⟩ := (HR1.out.below hb3) q (M.how l (q + 1)) (M.all_at (by omega))
          subst hA3
          have hmust := M.how_must (l := l) (i := q + 1) (x := x) (by omega) (by omega) (by rw [Nat.add_sub_cancel]; exact hx)
          rw [hn] at hmust
          obtain ⟨v, hv⟩ : ∃ v, M.how l (q + 1) = v := ⟨_, rfl⟩
          rw [hv] at hch hmust
          have q0 : (0 : Int) ≤ q := by omega
          have q1 : (q : Int) < k := by omega
          have HMUST := Lib.hid hmust
          clear hb3 hn hx hv hmust
          by_cases hend : q + 1 = k
          · have h2 := HMUST.out.2 (.inl hend)
            subst h2
            have d1 : ((q : Int) + 1 == (k : Int)) = true := by rw [beq_iff_eq]; omega
            clear hend
            go_wp2_with fail
            go_quiet (fail)
            go_wp2_with fail
            go_roundw
            case rel => exact ⟨q + 1, by go_num, by omega, drewN_below HB3.out _⟩
            case measure => simp [intOf]; omega
          · have d1 : ((q : Int) + 1 == (k : Int)) = false := by rw [beq_eq_false_iff_ne]; omega
            by_cases hx11 : x = 11
            · subst hx11
              have h2 := HMUST.out.2 (.inr rfl)
              subst h2
              clear hend
              go_wp2_with fail
              go_quiet (fail)
              go_wp2_with fail
              go_roundw
              case rel => exact ⟨q + 1, by go_num, by omega, drewN_below HB3.out _⟩
              case measure => simp [intOf]; omega
            · have hv2 : v ≠ 2 := fun h => by
                rcases HMUST.out.1 h with h | h
                · exact hend h
                · exact hx11 h
              have d2 : (x == 11) = false := by rw [beq_eq_false_iff_ne]; exact hx11
              have d3 : (v == 2) = false := by rw [beq_eq_false_iff_ne]; exact hv2
              clear hend hx11 hv2
              go_wp2_with fail
              go_quiet (fail)
              go_wp2_with fail
              go_roundw
              case rel => exact ⟨q + 1, by go_num, by omega, drewN_below HB3.out _⟩
              case measure => simp [intOf]; omega
        · obtain rfl : q = k := by omega
          have q0 : ¬ (q : Int) < q := by omega
          clear hb3 hn
          go_wp2_with fail
          refine (alive_any _).mono ?_
          rintro r w4 ⟨rfl, hb4⟩
          have HB4 := Lib.hid (HB3.out.trans (hb4.mono HB3.out.size))
          clear hb4
          have HNX := Lib.hid (by
            have := nextOf_any A ca q q l w4 ((HRl.out.below HB4.out).more HB4.out.size) HN.out (by omega) hca
            unfold M.nextI at this
            rw [Int.toNat_natCast, show M.nextN l q = q by unfold M.nextN; rw [HN.out, if_pos (Nat.le_refl _)]] at this
            exact this)
          go_wp2_with fail
          refine HNX.out.mono ?_
          rintro r w5 ⟨rfl, hb5⟩
          have HB5 := Lib.hid (HB4.out.trans (hb5.mono HB4.out.size))
          clear hb5
          go_wp2_with fail
          go_ret
          exact ⟨ret_bool (by simp), HB1.out.trans (HB5.out.mono HB1.out.size)⟩

theorem goLaw_any (A : Option Addr) (ca n : Nat) (l : List Int) (w : World) (hr : RdS .i64 w w.heap.size A l) (hn : l.length = n) (hca : n ≤ ca) (hcm : ca ≤ maxLen) :
    Calls Try.prog 5 #[.slice A n ca] w fun r w' => r = .returned (.bool true) ∧ Below w.heap.size w w' := by
  rcases Nat.lt_or_ge 80 n with h | h
  · exact goLong_any A ca n w h (Nat.le_trans hca hcm)
  · exact goShort_any A ca n l w hr hn h hca
end Go.Proofs.Ytfackeiommiejaa
