/- The library's leaves on doubles, and the code's Sort, over the translation: bits into a number and back, what is none, the sign, the infinite, and two numbers compared. Conditions: the bits are those of a word of eight bytes. -/
import Derived.Test.YteknpodofmmklaaDoorFacts
import Derived.Test.YteknpodofmmklaaDoorBase
import Derived.Laws.Externs
import Derived.Laws.Cover2
namespace Go.Proofs.YteknpodofmmklaaDoor
open Go.RowKit

@[go_sem] theorem call_frombits (x : Int) (w : World) : (callFunc 49 #[.int .u64 x]).run Tryd.prog w = .ok (.value (.float .f64 x.toNat)) w := by
  rw [run_callFunc_extern Tryd.func49 (by kernel_rfl) (by kernel_rfl) (by kernel_rfl) (e := Extern.MathFloatBits.float64frombits) (by kernel_rfl)]
  rfl
@[go_sem] theorem call_bits (b : Nat) (w : World) : (callFunc 62 #[.float .f64 b]).run Tryd.prog w = .ok (.value (.int .u64 b)) w := by
  rw [run_callFunc_extern Tryd.func62 (by kernel_rfl) (by kernel_rfl) (by kernel_rfl) (e := Extern.MathFloatBits.float64bits) (by kernel_rfl)]
  rfl
@[go_sem] theorem run_negFloat (b : Nat) (w : World) : (Op.unary .neg (.float .f64 b)).run Tryd.prog w = .ok (.float .f64 (F.flip b)) w := rfl


theorem isNaN_any (a : Nat) (w : World) :
    Calls Tryd.prog 52 #[.float .f64 a] w fun r w' => r = .returned (.bool (decide (F.inf < F.rung a))) ∧ w' = w := by
  have h := F.cmp_same a
  go_enter Tryd.func52, Tryd.ntmps52
  go_wp2
  go_ret
  exact ⟨ret_bool h, rfl⟩
theorem isInf_up (a : Nat) (ha : F.rung a ≤ F.inf) (w : World) :
    Calls Tryd.prog 53 #[.float .f64 a, .int .i64 1] w fun r w' => r = .returned (.bool (decide (F.rung a = F.inf ∧ F.neg a = false))) ∧ w' = w := by
  have h := F.up_most ha
  go_enter Tryd.func53, Tryd.ntmps53
  go_wp2
  go_ret
  exact ⟨ret_bool h, rfl⟩
theorem isInf_down (a : Nat) (ha : F.rung a ≤ F.inf) (h64 : a < 18446744073709551616) (w : World) :
    Calls Tryd.prog 53 #[.float .f64 a, .int .i64 (-1)] w fun r w' => r = .returned (.bool (decide (F.rung a = F.inf ∧ F.neg a = true))) ∧ w' = w := by
  have h := F.up_most (x := F.flip a) (by rw [F.flip_rung h64]; exact ha)
  rw [F.flip_rung h64, F.flip_neg h64] at h
  have h := h.trans (decide_eq_decide.2 (by rw [Bool.not_eq_false']) : _ = decide (F.rung a = F.inf ∧ F.neg a = true))
  go_enter Tryd.func53, Tryd.ntmps53
  go_wp2
  go_ret
  exact ⟨ret_bool h, rfl⟩
theorem signbit_any (a : Nat) (ha : a < 18446744073709551616) (w : World) :
    Calls Tryd.prog 54 #[.float .f64 a] w fun r w' => r = .returned (.bool (F.neg a)) ∧ w' = w := by
  have hn := F.neg_iff ha
  by_cases h : 9223372036854775808 ≤ a
  · rw [hn, decide_eq_true h]
    clear hn
    have e : wrap64 (a : Int) = (a : Int) - 18446744073709551616 := by unfold wrap64; omega
    go_enter Tryd.func54, Tryd.ntmps54
    go_wp2
    go_ret
    refine ⟨ret_bool ?_, rfl⟩
    rw [decide_eq_true_iff]
    omega
  · rw [hn, decide_eq_false h]
    clear hn
    go_enter Tryd.func54, Tryd.ntmps54
    go_wp2
    go_ret
    refine ⟨ret_bool ?_, rfl⟩
    rw [decide_eq_false_iff_not]
    omega

set_option maxHeartbeats 1000000 in
theorem sort_any (x : Nat) (w : World) (h : x < 18446744073709551616) :
    Calls Tryd.prog 47 #[.int .u64 (x : Int)] w fun r w' => r = .returned (.int .i64 (M.sortI (x : Int))) ∧ w' = w := by
  rw [F.sort_eq h]
  have HN := Lib.hid (isNaN_any x w)
  by_cases h1 : F.inf < F.rung x
  · rw [if_pos h1]
    rw [decide_eq_true h1] at HN
    go_enter Tryd.func47, Tryd.ntmps47
    go_wp2_with fail
    refine HN.out.mono ?_
    rintro r w2 ⟨rfl, rfl⟩
    go_wp2
    go_ret
    exact ⟨rfl, rfl⟩
  · rw [if_neg h1]
    rw [decide_eq_false h1] at HN
    have hle : F.rung x ≤ F.inf := by omega
    have HD := Lib.hid (isInf_down x hle h w)
    have HU := Lib.hid (isInf_up x hle w)
    have HS := Lib.hid (signbit_any x h w)
    have hb := F.below_nought hle
    have ha := F.above_nought hle
    unfold F.cmp at hb ha
    by_cases h2 : F.rung x = F.inf
    · have h20 : F.rung x ≠ 0 := by unfold F.inf at h2; omega
      rw [if_pos h2]
      clear hb ha
      cases hn : F.neg x
      · rw [hn] at HD HU
        rw [decide_eq_false (fun k => by simp at k)] at HD
        rw [decide_eq_true ⟨h2, rfl⟩] at HU
        simp only [Bool.false_eq_true, if_false]
        clear h1 h2 hn
        go_enter Tryd.func47, Tryd.ntmps47
        go_wp2_with fail
        refine HN.out.mono ?_
        rintro r w2 ⟨rfl, rfl⟩
        go_wp2_with fail
        refine HD.out.mono ?_
        rintro r w2 ⟨rfl, rfl⟩
        go_wp2_with fail
        refine HU.out.mono ?_
        rintro r w2 ⟨rfl, rfl⟩
        go_wp2
        go_ret
        exact ⟨rfl, rfl⟩
      · rw [hn] at HD
        rw [decide_eq_true ⟨h2, rfl⟩] at HD
        simp only [if_true]
        clear h1 h2 hn
        go_enter Tryd.func47, Tryd.ntmps47
        go_wp2_with fail
        refine HN.out.mono ?_
        rintro r w2 ⟨rfl, rfl⟩
        go_wp2_with fail
        refine HD.out.mono ?_
        rintro r w2 ⟨rfl, rfl⟩
        go_wp2
        go_ret
        exact ⟨rfl, rfl⟩
    · rw [if_neg h2]
      rw [decide_eq_false (fun k => h2 k.1)] at HD HU
      by_cases h3 : F.rung x = 0
      · rw [if_pos h3]
        rw [decide_eq_false (fun k => k.2 h3)] at hb ha
        cases hn : F.neg x
        · rw [hn] at HS
          simp only [Bool.false_eq_true, if_false]
          clear h1 h2 hn h3
          go_enter Tryd.func47, Tryd.ntmps47
          go_wp2_with fail
          refine HN.out.mono ?_
          rintro r w2 ⟨rfl, rfl⟩
          go_wp2_with fail
          refine HD.out.mono ?_
          rintro r w2 ⟨rfl, rfl⟩
          go_wp2_with fail
          refine HU.out.mono ?_
          rintro r w2 ⟨rfl, rfl⟩
          go_wp2_with fail
          refine HS.out.mono ?_
          rintro r w2 ⟨rfl, rfl⟩
          go_wp2
          go_ret
          exact ⟨rfl, rfl⟩
        · rw [hn] at HS
          simp only [if_true]
          clear h1 h2 hn h3
          go_enter Tryd.func47, Tryd.ntmps47
          go_wp2_with fail
          refine HN.out.mono ?_
          rintro r w2 ⟨rfl, rfl⟩
          go_wp2_with fail
          refine HD.out.mono ?_
          rintro r w2 ⟨rfl, rfl⟩
          go_wp2_with fail
          refine HU.out.mono ?_
          rintro r w2 ⟨rfl, rfl⟩
          go_wp2_with fail
          refine HS.out.mono ?_
          rintro r w2 ⟨rfl, rfl⟩
          go_wp2
          go_ret
          exact ⟨rfl, rfl⟩
      · rw [if_neg h3]
        clear HS
        cases hn : F.neg x
        · rw [hn] at hb ha
          rw [decide_eq_false (fun k => by simp at k)] at hb
          rw [decide_eq_true ⟨rfl, h3⟩] at ha
          simp only [Bool.false_eq_true, if_false]
          clear h1 h2 hn h3
          go_enter Tryd.func47, Tryd.ntmps47
          go_wp2_with fail
          refine HN.out.mono ?_
          rintro r w2 ⟨rfl, rfl⟩
          go_wp2_with fail
          refine HD.out.mono ?_
          rintro r w2 ⟨rfl, rfl⟩
          go_wp2_with fail
          refine HU.out.mono ?_
          rintro r w2 ⟨rfl, rfl⟩
          go_wp2
          go_ret
          exact ⟨rfl, rfl⟩
        · rw [hn] at hb
          rw [decide_eq_true ⟨rfl, h3⟩] at hb
          simp only [if_true]
          clear h1 h2 hn h3 ha
          go_enter Tryd.func47, Tryd.ntmps47
          go_wp2_with fail
          refine HN.out.mono ?_
          rintro r w2 ⟨rfl, rfl⟩
          go_wp2_with fail
          refine HD.out.mono ?_
          rintro r w2 ⟨rfl, rfl⟩
          go_wp2_with fail
          refine HU.out.mono ?_
          rintro r w2 ⟨rfl, rfl⟩
          go_wp2
          go_ret
          exact ⟨rfl, rfl⟩
end Go.Proofs.YteknpodofmmklaaDoor
