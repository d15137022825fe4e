/- The code's Cells over the translation: it is the document's, on the bits. Conditions: the bits are those of a word of eight bytes. -/
import Derived.Test.YteknpodofmmklaaDoorSorts
import Derived.Laws.FloatArith
namespace Go.Proofs.YteknpodofmmklaaDoor
open Go.RowKit

namespace F
/-- The word of a number made whole upwards. -/
def up2 (x : Nat) : Nat := FloatKind.f64.encode ((FloatKind.f64.decode x).integral .up)
theorem up2_pos {x : Nat} (h : rung x < inf) (hn : neg x = false) : up2 x = Ieee.double.nearest false (C (rung x)) 0 := by
  unfold up2
  rw [show FloatKind.f64.decode x = Ieee.double.read x from rfl, integral_up h hn]
  rfl
theorem up2_small {x : Nat} (h : rung x < inf) (hn : neg x = false) (hc : C (rung x) ≤ 9007199254740992) : up2 x = R (C (rung x)) := by
  rw [up2_pos h hn, nearest_whole false hc]
  rfl
/-- The word of a whole number above 2^53 is above that of 64. -/
theorem nearest_great {n : Nat} (h : 9007199254740992 < n) : rung (Ieee.double.nearest false n 0) ≤ inf ∧ neg (Ieee.double.nearest false n 0) = false ∧ 4634204016564240384 < rung (Ieee.double.nearest false n 0) := by
  have hl : 53 ≤ n.log2 := by
    rcases Nat.lt_or_ge n.log2 53 with hl | hge
    · have h1 := (log2_bounds (n := n) (by omega)).2
      have h2 := Nat.pow_le_pow_right (show 0 < 2 by decide) (show n.log2 + 1 ≤ 53 by omega)
      have e : (2 : Nat) ^ 53 = 9007199254740992 := by decide
      omega
    · exact hge
  unfold Ieee.Format.nearest
  rw [if_neg (by omega), leastPlace, binade, infRung]
  have hlast : max ((0 : Int) + (n.log2 : Int) - (Ieee.double.fractionBits : Nat)) (-1074) = (n.log2 : Int) - 52 := by
    show max ((0 : Int) + (n.log2 : Int) - ((52 : Nat) : Int)) (-1074) = _
    omega
  dsimp only
  rw [hlast]
  obtain ⟨k, hk⟩ : ∃ k, Ieee.Toward.even.cut false (n <<< ((0 : Int) - ((n.log2 : Int) - 52)).toNat) ((n.log2 : Int) - 52 - 0).toNat = k := ⟨_, rfl⟩
  rw [hk]
  have e3 : ((n.log2 : Int) - 52 - -1074).toNat = n.log2 + 1022 := by omega
  rw [e3]
  obtain ⟨t, ht⟩ : ∃ t, min ((n.log2 + 1022) * 4503599627370496 + k) 9218868437227405312 = t := ⟨_, rfl⟩
  rw [ht]
  have t1 : t ≤ 9218868437227405312 := by omega
  have t2 : 4634204016564240384 < t := by omega
  have e : Ieee.double.word false t = t := by unfold Ieee.Format.word; rfl
  rw [e]
  unfold rung neg inf
  refine ⟨by omega, ?_, by omega⟩
  rw [Bool.eq_false_iff, Ne, beq_iff_eq]
  omega
theorem R_64 : R 64 = 4634204016564240384 := by decide +kernel
theorem R_1 : R 1 = 4607182418800017408 := by decide +kernel
/-- Above 64 cells the library says so. -/
theorem up2_above {x : Nat} (h : rung x < inf) (hn : neg x = false) : (cmp (up2 x) 4634204016564240384 == some .gt) = decide (64 < C (rung x)) := by
  have ek : key 4634204016564240384 = 4634204016564240384 := by decide
  rcases Nat.lt_or_ge 9007199254740992 (C (rung x)) with hc | hc
  · obtain ⟨g1, g2, g3⟩ := nearest_great hc
    rw [up2_pos h hn, cmp_gt_iff g1 (by decide), ek, key_eq, g2]
    simp only [Bool.false_eq_true, if_false]
    rw [decide_eq_decide]
    omega
  · have g := R_lt_inf hc
    have gz : inf = 9218868437227405312 := rfl
    have gr : rung (R (C (rung x))) = R (C (rung x)) := by
      obtain ⟨n, hn⟩ : ∃ n, R (C (rung x)) = n := ⟨_, rfl⟩
      rw [hn] at g ⊢
      unfold rung
      omega
    have gn : neg (R (C (rung x))) = false := by
      unfold neg
      rw [Bool.eq_false_iff, Ne, beq_iff_eq]
      omega
    have hlt := R_lt (n := 64) (m := C (rung x)) (by omega) hc
    rw [R_64] at hlt
    rw [up2_small h hn hc, cmp_gt_iff (by omega) (by decide), ek, key_eq, gn, gr]
    simp only [Bool.false_eq_true, if_false]
    rw [decide_eq_decide]
    omega
theorem whole_int : ∀ k : Fin 65, floatToIntVal .f64 (R k) .i64 = some ((k : Nat) : Int) := by decide +kernel
theorem whole_minus : floatToIntVal .f64 9223372036854775808 .i64 = some 0 := by decide +kernel
theorem up2_int {x : Nat} (h : rung x < inf) (hn : neg x = false) (hc : C (rung x) ≤ 64) : floatToIntVal .f64 (up2 x) .i64 = some ((C (rung x) : Nat) : Int) := by
  rw [up2_small h hn (by omega)]
  exact whole_int ⟨C (rung x), by omega⟩
/-- The document's way to the cells of a number from 1 to 128, and the library's, say the same. -/
theorem upI_eq {x : Nat} (h1 : 4607182418800017408 ≤ rung x) (h2 : rung x < 4638707616191610880) :
    M.upI ((rung x / 4503599627370496 : Nat) : Int) ((rung x % 4503599627370496 : Nat) : Int) = ((C (rung x) : Nat) : Int) := by
  obtain ⟨r, hr⟩ : ∃ r, rung x = r := ⟨_, rfl⟩
  rw [hr] at h1 h2 ⊢
  obtain ⟨e, he⟩ : ∃ e, r / 4503599627370496 = e := ⟨_, rfl⟩
  obtain ⟨f, hf⟩ : ∃ f, r % 4503599627370496 = f := ⟨_, rfl⟩
  have e1 : 1023 ≤ e := by omega
  have e2 : e ≤ 1029 := by omega
  unfold M.upI
  rw [he, hf]
  have et : (1075 - (e : Int)).toNat = 1075 - e := by omega
  rw [et]
  obtain ⟨s, hs⟩ : ∃ s, 2 ^ (1075 - e) = s := ⟨_, rfl⟩
  have s0 : 0 < s := by rw [← hs]; exact Nat.two_pow_pos _
  have hw : W r = (4503599627370496 + f) * 2 ^ (e - 1) := by
    unfold W
    rw [if_neg (by omega), he, hf]
  have key : ∀ k, C r ≤ k ↔ 4503599627370496 + f ≤ k * s := by
    intro k
    rw [C_le, hw, U_eq]
    have eP : 2 ^ (52 + P) = s * 2 ^ (e - 1) := by
      rw [← hs, ← Nat.pow_add]
      congr 1
      unfold P
      omega
    rw [eP, ← Nat.mul_assoc]
    exact ⟨fun g => Nat.le_of_mul_le_mul_right g (Nat.two_pow_pos _), fun g => Nat.mul_le_mul_right _ g⟩
  have hts : M.two (1075 - e) = (s : Int) := by unfold M.two; rw [hs]
  rw [hts]
  have q : ((f : Int) + 4503599627370496 + (s : Int) - 1) / (s : Int) = (((4503599627370496 + f + s - 1) / s : Nat) : Int) := by
    rw [Int.natCast_ediv]
    congr 1
    omega
  rw [q]
  congr 1
  have a1 : (4503599627370496 + f + s - 1) / s ≤ C r := by
    have := (key (C r)).1 (Nat.le_refl _)
    rw [← Nat.lt_succ_iff, Nat.div_lt_iff_lt_mul s0, Nat.succ_mul]
    omega
  have a2 : C r ≤ (4503599627370496 + f + s - 1) / s := by
    rw [key]
    have d := Nat.div_add_mod (4503599627370496 + f + s - 1) s
    have m := Nat.mod_lt (4503599627370496 + f + s - 1) s0
    rw [Nat.mul_comm] at d
    omega
  omega
/-- The document's cells of a number above nought, by the least whole number that is not below it. -/
theorem cells_pos {x : Nat} (hx : x < 18446744073709551616) (h : rung x < inf) (h0 : 0 < rung x) (hn : neg x = false) : M.cellsI (x : Int) = if 64 < C (rung x) then none else some ((C (rung x) : Nat) : Int) := by
  have hs : M.sortI (x : Int) = 5 := by
    rw [sort_eq hx, if_neg (by omega), if_neg (by omega), if_neg (by omega), hn]; rfl
  have hz : inf = 9218868437227405312 := rfl
  have hxr : x = rung x := by
    rw [neg_iff hx] at hn
    have := of_decide_eq_false hn
    unfold rung
    omega
  unfold M.cellsI
  dsimp only
  rw [hs, if_neg (by omega), if_neg (by omega)]
  have ee : (x : Int) / 4503599627370496 % 2048 = ((rung x / 4503599627370496 : Nat) : Int) := by
    rw [Int.natCast_ediv]; rw [← hxr]; omega
  have ef : (x : Int) % 4503599627370496 = ((rung x % 4503599627370496 : Nat) : Int) := by
    rw [Int.natCast_emod]; rw [← hxr]; rfl
  rw [ee, ef]
  have c0 := C_le_R (rung x) (k := 0) (by omega)
  have c1 := C_le_R (rung x) (k := 1) (by omega)
  have c64 := C_le_R (rung x) (k := 64) (by omega)
  rw [R_1] at c1
  rw [R_64] at c64
  rw [show R 0 = 0 from rfl] at c0
  by_cases h1 : rung x ≤ 4607182418800017408
  · rw [if_pos (by omega)]
    have : C (rung x) = 1 := by omega
    rw [this]
    rfl
  · rw [if_neg (by omega)]
    by_cases h2 : rung x < 4638707616191610880
    · rw [if_neg (by omega), upI_eq (by omega) h2]
      by_cases h3 : 64 < C (rung x)
      · rw [if_pos h3, if_pos (by omega)]
      · rw [if_neg h3, if_neg (by omega)]
    · rw [if_pos (by omega), if_pos (by omega)]
theorem cells_other {x : Nat} (hs : M.sortI (x : Int) = 0 ∨ M.sortI (x : Int) = 1 ∨ M.sortI (x : Int) = 2 ∨ M.sortI (x : Int) = 6) : M.cellsI (x : Int) = none := by
  unfold M.cellsI
  dsimp only
  rw [if_neg (by omega), if_pos (by omega)]
theorem cells_nought {x : Nat} (hs : M.sortI (x : Int) = 3 ∨ M.sortI (x : Int) = 4) : M.cellsI (x : Int) = some 0 := by
  unfold M.cellsI
  dsimp only
  rw [if_pos hs]
end F

theorem decode_number {x : Nat} (h : F.rung x < F.inf) : FloatKind.f64.decode x = .number (F.neg x) (F.mag (F.rung x)) (-1074 + (F.up (F.rung x) : Int)) := F.read_number h

theorem call_archCeil {x : Nat} (h : F.rung x < F.inf) (w : World) : (callFunc 55 #[.float .f64 x]).run Tryd.prog w = .ok (.value (.float .f64 (F.up2 x))) w := by
  rw [run_callFunc_extern Tryd.func55 (by kernel_rfl) (by kernel_rfl) (by kernel_rfl) (e := Extern.MathFloor.toIntegral "math.archCeil" .up) (by kernel_rfl)]
  have hd := decode_number h
  unfold F.up2
  show (Sem.run _ (match FloatKind.f64.decode x with | .nan _ _ => _ | d => _) w).andThen _ = _
  generalize FloatKind.f64.decode x = d at hd ⊢
  subst hd
  rfl

theorem ceil_any (x : Nat) (w : World) (h : F.rung x < F.inf) :
    Calls Tryd.prog 48 #[.float .f64 x] w fun r w' => r = .returned (.float .f64 (F.up2 x)) ∧ w' = w := by
  have hc := fun w => call_archCeil h w
  go_enter Tryd.func48, Tryd.ntmps48
  go_wp2
  go_ret
  exact ⟨rfl, rfl⟩

theorem up2_minus : F.up2 9223372036854775808 = 9223372036854775808 := by decide +kernel
theorem up2_none : F.up2 0 = 0 := by decide +kernel

set_option maxHeartbeats 1000000 in
theorem cells_any (x : Nat) (w : World) (h : x < 18446744073709551616) :
    Calls Tryd.prog 43 #[.int .u64 (x : Int)] w fun r w' => r = .returned (M.cellsV (M.cellsI (x : Int))) ∧ w' = w := by
  have HS := Lib.hid (sort_any x w h)
  rcases F.sorts h with ⟨hs, hc⟩ | ⟨hs, hc⟩ | ⟨hs, hc⟩ | ⟨hs, h1, h2⟩ | ⟨hs, h1, h2⟩ | ⟨hs, h1, h2, h3⟩ | ⟨hs, hc⟩
  · rw [F.cells_other (.inl hs)]
    rw [hs] at HS
    clear hs hc
    go_enter Tryd.func43, Tryd.ntmps43
    go_wp2_with fail
    refine HS.out.mono ?_
    rintro r w2 ⟨rfl, rfl⟩
    go_wp2
    go_ret2
    exact ⟨rfl, rfl⟩
  · rw [F.cells_other (.inr (.inl hs))]
    rw [hs] at HS
    clear hs hc
    go_enter Tryd.func43, Tryd.ntmps43
    go_wp2_with fail
    refine HS.out.mono ?_
    rintro r w2 ⟨rfl, rfl⟩
    go_wp2
    go_ret2
    exact ⟨rfl, rfl⟩
  · rw [F.cells_other (.inr (.inr (.inl hs)))]
    rw [hs] at HS
    clear hs hc
    go_enter Tryd.func43, Tryd.ntmps43
    go_wp2_with fail
    refine HS.out.mono ?_
    rintro r w2 ⟨rfl, rfl⟩
    go_wp2
    go_ret2
    exact ⟨rfl, rfl⟩
  · rw [F.cells_nought (.inl hs)]
    have hx : x = 9223372036854775808 := by rw [F.neg_iff h] at h2; have := of_decide_eq_true h2; unfold F.rung at h1; omega
    subst hx
    have HC := Lib.hid (ceil_any 9223372036854775808 w (by decide))
    rw [up2_minus] at HC
    have hg : (FloatKind.f64.format.order 9223372036854775808 4634204016564240384 == some .gt) = false := by decide +kernel
    have hv : ∀ w, (convert 65 3 (.float .f64 9223372036854775808)).run Tryd.prog w = .ok (.int .i64 0) w := fun w => run_convert_float_int w _ _ _ _ _ _ (by kernel_rfl) (by kernel_rfl) F.whole_minus
    rw [hs] at HS
    clear hs h1 h2
    go_enter Tryd.func43, Tryd.ntmps43
    go_wp2_with fail
    refine HS.out.mono ?_
    rintro r w2 ⟨rfl, rfl⟩
    go_wp2_with fail
    refine HC.out.mono ?_
    rintro r w2 ⟨rfl, rfl⟩
    go_wp2
    go_ret2
    exact ⟨rfl, rfl⟩
  · rw [F.cells_nought (.inr hs)]
    have hx : x = 0 := by rw [F.neg_iff h] at h2; have := of_decide_eq_false h2; unfold F.rung at h1; omega
    subst hx
    have HC := Lib.hid (ceil_any 0 w (by decide))
    rw [up2_none] at HC
    have hg : (FloatKind.f64.format.order 0 4634204016564240384 == some .gt) = false := by decide +kernel
    have hv : ∀ w, (convert 65 3 (.float .f64 0)).run Tryd.prog w = .ok (.int .i64 0) w := fun w => run_convert_float_int w _ _ _ _ _ _ (by kernel_rfl) (by kernel_rfl) (F.whole_int 0)
    rw [hs] at HS
    clear hs h1 h2
    go_enter Tryd.func43, Tryd.ntmps43
    go_wp2_with fail
    refine HS.out.mono ?_
    rintro r w2 ⟨rfl, rfl⟩
    go_wp2_with fail
    refine HC.out.mono ?_
    rintro r w2 ⟨rfl, rfl⟩
    go_wp2
    go_ret2
    exact ⟨rfl, rfl⟩
  · rw [F.cells_pos h h1 h2 h3]
    have HC := Lib.hid (ceil_any x w h1)
    have hg := F.up2_above h1 h3
    unfold F.cmp at hg
    have hi := fun hc => F.up2_int (x := x) h1 h3 hc
    obtain ⟨c, hc⟩ : ∃ c, F.C (F.rung x) = c := ⟨_, rfl⟩
    rw [hc] at hg hi ⊢
    obtain ⟨u, hu⟩ : ∃ u, F.up2 x = u := ⟨_, rfl⟩
    rw [hu] at HC hg hi
    rw [hs] at HS
    clear hs h1 h2 h3 hc hu
    by_cases h64 : 64 < c
    · rw [if_pos h64]
      rw [decide_eq_true h64] at hg
      clear hi h64
      go_enter Tryd.func43, Tryd.ntmps43
      go_wp2_with fail
      refine HS.out.mono ?_
      rintro r w2 ⟨rfl, rfl⟩
      go_wp2_with fail
      refine HC.out.mono ?_
      rintro r w2 ⟨rfl, rfl⟩
      go_wp2
      go_ret2
      exact ⟨rfl, rfl⟩
    · rw [if_neg h64]
      rw [decide_eq_false h64] at hg
      have hv : ∀ w, (convert 65 3 (.float .f64 u)).run Tryd.prog w = .ok (.int .i64 (c : Int)) w := fun w => run_convert_float_int w _ _ _ _ _ _ (by kernel_rfl) (by kernel_rfl) (hi (by omega))
      clear hi
      go_enter Tryd.func43, Tryd.ntmps43
      go_wp2_with fail
      refine HS.out.mono ?_
      rintro r w2 ⟨rfl, rfl⟩
      go_wp2_with fail
      refine HC.out.mono ?_
      rintro r w2 ⟨rfl, rfl⟩
      go_wp2
      go_ret2
      exact ⟨rfl, rfl⟩
  · rw [F.cells_other (.inr (.inr (.inr hs)))]
    rw [hs] at HS
    clear hs hc
    go_enter Tryd.func43, Tryd.ntmps43
    go_wp2_with fail
    refine HS.out.mono ?_
    rintro r w2 ⟨rfl, rfl⟩
    go_wp2
    go_ret2
    exact ⟨rfl, rfl⟩
end Go.Proofs.YteknpodofmmklaaDoor
