/- The walk of ResolveNear: it answers true. Conditions: the slices read as lists, within their capacities. -/
/- The walk of ResolvePlain: it answers true. Conditions: the slice reads as a list, within its capacity. -/
/- What ResolveWhole says, as plain mathematics. No program is read here. -/
import Derived.Test.YtjlfgojblimobaaGreatD00
import Derived.Test.YtjlfgojblimobaaGreatA39
import Derived.Test.YtjlfgojblimobaaGreatA18
import Derived.Lib.QuietBelow
import Derived.Test.YtjlfgojblimobaaGreatA35
import Derived.Test.YtjlfgojblimobaaGreatA30
section
namespace Go.Proofs.YtjlfgojblimobaaGreat
open Go.RowKit
set_option maxRecDepth 100000

theorem and_1 (n : Int) : bits .and .i64 n 1 = 0 ∨ bits .and .i64 n 1 = 1 := by
  have h : (BitVec.ofInt 64 n &&& BitVec.ofInt 64 1).toNat ≤ 1 := by
    rw [BitVec.toNat_and]
    exact Nat.and_le_right
  have e : bits .and .i64 n 1 = IntKind.i64.wrap ((BitVec.ofInt 64 n &&& BitVec.ofInt 64 1).toNat : Int) := rfl
  obtain ⟨k, hk⟩ : ∃ k, (BitVec.ofInt 64 n &&& BitVec.ofInt 64 1).toNat = k := ⟨_, rfl⟩
  rw [hk] at h e
  rw [e, IntKind.wrap_i64]
  omega
set_option maxHeartbeats 4000000 in
theorem nearLong_any (A B : Option Addr) (ca cb n m : Nat) (b : Int) (w : World) (h : 150 < n ∨ 150 < m) (hn : n ≤ maxLen) (hm : m ≤ maxLen) :
    Calls Tryz.prog 6 #[.slice A n ca, .slice B m cb, .int .i64 b] w fun r w' => r = .returned (.bool true) ∧ Below w.heap.size w w' := by
  unfold maxLen at hn hm
  have h1 : (n : Int) ≤ 9223372036854775807 := by omega
  have h2 : (m : Int) ≤ 9223372036854775807 := by omega
  by_cases h3 : 150 < n
  · have h4 : (150 : Int) < n := by omega
    go_enter Tryz.func6, Tryz.ntmps6
    go_wp2_with fail
    refine (alive_any _).mono ?_
    rintro r w2 ⟨rfl, hb⟩
    have HB := Lib.hid hb
    clear hb
    go_wp2_with fail
    go_ret
    exact ⟨rfl, HB.out⟩
  · have h4 : (n : Int) ≤ 150 := by omega
    have h5 : (150 : Int) < m := by omega
    go_enter Tryz.func6, Tryz.ntmps6
    go_wp2_with fail
    refine (alive_any _).mono ?_
    rintro r w2 ⟨rfl, hb⟩
    have HB := Lib.hid hb
    clear hb
    go_wp2_with fail
    go_ret
    exact ⟨rfl, HB.out⟩
theorem M.near_all {l : List Int} {ms : List (Int × Int)} {b c x y : Int} {i : Nat} (hb : b = 0 ∨ b = 1) (hc : l[i]? = some c) (hx : (M.para l ms b)[i]? = some x) (hy : ((M.run b (M.fresh b) l).map Prod.fst)[i]? = some y) :
    (M.removed c = true ∧ x = -1) ∨ (M.removed c = false ∧ y ≤ x ∧ x ≤ y + 2 ∧ b ≤ x ∧ b ≤ y ∧ y ≤ 125) := by
  have hlv : (M.levs l b)[i]? = some y := hy
  rcases M.levs_deep (show b ≤ 125 by omega) hc hlv with ⟨h1, -⟩ | ⟨h1, h2, h3⟩
  · rw [M.para_removed hb hc h1] at hx
    injection hx with hx
    exact .inl ⟨h1, hx.symm⟩
  · obtain ⟨s, -, k, -, h4, h5⟩ := M.para_kept (ms := ms) hb hc h1
    rw [hlv] at h5
    injection h5 with h5
    rw [hx] at h4
    have := M.seqN_at h4.symm
    exact .inr ⟨h1, by omega, by omega, by omega, by omega, by omega⟩
set_option maxHeartbeats 16000000 in
theorem nearShort_any (A B : Option Addr) (ca cb n m : Nat) (base : Int) (l : List Int) (ms : List (Int × Int)) (w : World) (hr : RdS .i64 w w.heap.size A l) (hr2 : S11.RdT w w.heap.size B ms) (hn : l.length = n) (hm : ms.length = m) (hl : n ≤ 150) (hl2 : m ≤ 150) (hca : n ≤ ca) :
    Calls Tryz.prog 6 #[.slice A n ca, .slice B m cb, .int .i64 base] w fun r w' => r = .returned (.bool true) ∧ Below w.heap.size w w' := by
  obtain ⟨b, hbb⟩ : ∃ b, bits .and .i64 base 1 = b := ⟨_, rfl⟩
  have hb := and_1 base
  rw [hbb] at hb
  have HR := Lib.hid hr
  have HR2 := Lib.hid hr2
  have HN := Lib.hid hn
  have HM := Lib.hid hm
  have HCA := Lib.hid hca
  have HB := Lib.hid hb
  have n1 : (n : Int) ≤ 150 := by omega
  have m1 : (m : Int) ≤ 150 := by omega
  have d1 : decide ((150 : Int) < n) = false := by simp; omega
  have d2 : decide ((150 : Int) < m) = false := by simp; omega
  have d3 : decide (150 < n) = false := by simp; omega
  have d4 : decide (150 < m) = false := by simp; omega
  have bn : ((n : Int) != (n : Int)) = false := by simp
  have HBI := Lib.hid (show M.baseI l b = b by unfold M.baseI; rw [if_neg (by omega)])
  have HLB := Lib.hid (M.levels_01 (l := l) hb)
  clear hr hr2 hn hm hca hb
  go_enter Tryz.func6, Tryz.ntmps6
  go_wp2_with fail
  refine (S11.marks_any B cb m ms w HR2.out HM.out (by omega)).mono ?_
  rintro r w1 ⟨v, rfl, ho1, hb1⟩
  obtain ⟨A1, c1, rfl, hr1, hc1, -, -⟩ := ho1.shape
  rw [HM.out] at hc1 ⊢
  have HX1 := Lib.hid hr1
  have HC1 := Lib.hid hc1
  have HB1 := Lib.hid hb1
  have HL1 := Lib.hid ((HR.out.below hb1).more hb1.size)
  clear ho1 hr1 hc1 hb1
  go_wp2_with fail
  refine (cpara_any A A1 ca c1 n m l ms b w1 HL1.out HX1.out HN.out HM.out (by omega) (by omega) HCA.out HC1.out).mono ?_
  rintro r w2 ⟨hb2, hok, -⟩
  obtain ⟨A2, c2, rfl, hx2, hc2⟩ := hok (by have := HB.out; omega)
  rw [HBI.out] at hx2 hc2 ⊢
  rw [M.para_len, HN.out] at hc2 ⊢
  have HX2 := Lib.hid hx2
  have HB2 := Lib.hid (HB1.out.trans (hb2.mono HB1.out.size))
  have HL2 := Lib.hid ((HL1.out.below hb2).more hb2.size)
  clear hb2 hok hx2 hc2
  have HQ := Lib.hid (clevels_any A ca n l b w2 HL2.out HN.out (by omega))
  rw [HLB.out] at HQ
  go_wp2_with fail
  refine HQ.out.mono ?_
  intro r w3 hq
  obtain ⟨A3, c3, A4, c4, rfl, hy3, -, -, -, hb3⟩ := lev_rows hq
  rw [M.run_len, HN.out]
  have HY3 := Lib.hid hy3
  have HX3 := Lib.hid ((HX2.out.below hb3).more hb3.size)
  have HL3 := Lib.hid ((HL2.out.below hb3).more hb3.size)
  have HB3 := Lib.hid (HB2.out.trans (hb3.mono HB2.out.size))
  clear hq hy3 hb3
  go_wp2_with fail
  go_loopw [13] (fun v wr => ∃ k : Nat, v = .int .i64 k ∧ k ≤ n ∧ Below w3.heap.size w3 wr) (fun v _ => n - (intOf v).toNat)
  case atStart => exact ⟨0, rfl, Nat.zero_le _, Below.refl _ _⟩
  case round =>
    obtain ⟨k, rfl, hk, hbel⟩ := hrel
    rename World => wr
    have HBE := Lib.hid hbel
    have k0 : (0 : Int) ≤ k := by omega
    by_cases hlt : k < n
    · have k1 : (k : Int) < n := by omega
      obtain ⟨ad, c, rfl, hcx, hc, -⟩ := rd_at HL3.out hbel (by rw [HN.out]; exact hlt : k < l.length)
      obtain ⟨xd, x, rfl, hxx, hx, -⟩ := rd_at HX3.out hbel (by rw [M.para_len, HN.out]; exact hlt : k < (M.para l ms b).length)
      obtain ⟨yd, y, rfl, hyy, hy, -⟩ := rd_at HY3.out hbel (by rw [List.length_map, M.run_len, HN.out]; exact hlt : k < ((M.run b (M.fresh b) l).map Prod.fst).length)
      have hna := M.near_all HB.out hc hx hy
      have HRM := Lib.hid (removed_any c wr)
      obtain ⟨m', hm'⟩ : ∃ m', M.removed c = m' := ⟨_, rfl⟩
      rw [hm'] at hna HRM
      have hb0 := HB.out
      have z2 := fun d os => cell_regrown hxx d os
      have z3 := fun d os => cell_regrown hyy d os
      clear hc hx hy hm' hxx hyy hbel
      rcases hna with ⟨rfl, rfl⟩ | ⟨rfl, g1, g2, g3, g4, g5⟩
      · clear hb0
        go_wp2_with fail
        refine HRM.out.mono ?_
        rintro r w4 ⟨rfl, rfl⟩
        go_wp2_with fail
        refine wp_region_quiet_below (by kernel_rfl) (by kernel_rfl) ?_
        repeat (go_big_quiet_step (fail))
        refine wpQuiet_nil ?_
        intro _ hw'
        obtain ⟨⟨dq, osq⟩, hw4⟩ := hw'
        subst hw4
        have hbg := below_regrown wr dq osq
        have HBX := Lib.hid (HBE.out.trans (hbg.mono HBE.out.size))
        obtain ⟨X, hX⟩ : ∃ Z, Sort.grow (redrawn wr dq) osq = Z := ⟨_, rfl⟩
        rw [hX] at HBX
        dsimp only
        rw [hX]
        clear hX hbg z2 z3 hcx
        go_wp2_with fail
        go_roundw
        case rel => exact ⟨k + 1, by go_num, by omega, HBX.out⟩
        case measure => simp [intOf]; omega
      · have q0 : (x == -1) = false := by simp; omega
        have q1 : decide (x < y) = false := by simp; omega
        have q2 : decide (y + 2 < x) = false := by simp; omega
        have q3 : decide (x < b) = false := by simp; omega
        have q4 : -1 ≤ y := by omega
        clear hb0 g1 g2 g3 g4
        go_wp2_with fail
        refine HRM.out.mono ?_
        rintro r w4 ⟨rfl, rfl⟩
        go_wp2_with fail
        refine wp_region_quiet_below (by kernel_rfl) (by kernel_rfl) ?_
        repeat (go_big_quiet_step (fail))
        refine wpQuiet_nil ?_
        intro _ hw'
        obtain ⟨⟨dq, osq⟩, hw4⟩ := hw'
        subst hw4
        have hbg := below_regrown wr dq osq
        have HBX := Lib.hid (HBE.out.trans (hbg.mono HBE.out.size))
        obtain ⟨X, hX⟩ : ∃ Z, Sort.grow (redrawn wr dq) osq = Z := ⟨_, rfl⟩
        rw [hX] at HBX
        dsimp only
        rw [hX]
        clear hX hbg z2 z3 hcx
        go_wp2_with fail
        go_roundw
        case rel => exact ⟨k + 1, by go_num, by omega, HBX.out⟩
        case measure => simp [intOf]; omega
    · obtain rfl : k = n := by omega
      have k1 : ¬ (k : Int) < (k : Int) := by omega
      go_wp2_with fail
      refine (alive_any _).mono ?_
      rintro r w4 ⟨rfl, hb4⟩
      have HB4 := Lib.hid ((HB3.out.trans (HBE.out.mono HB3.out.size)).trans (hb4.mono (Nat.le_trans HB3.out.size HBE.out.size)))
      clear hb4
      go_wp2_with fail
      go_ret
      exact ⟨rfl, HB4.out⟩
theorem nearLaw_any (A B : Option Addr) (ca cb n m : Nat) (base : Int) (l : List Int) (ms : List (Int × Int)) (w : World) (hr : RdS .i64 w w.heap.size A l) (hr2 : S11.RdT w w.heap.size B ms) (hn : l.length = n) (hm : ms.length = m) (hca : n ≤ ca) (hn2 : n ≤ maxLen) (hm2 : m ≤ maxLen) :
    Calls Tryz.prog 6 #[.slice A n ca, .slice B m cb, .int .i64 base] w fun r w' => r = .returned (.bool true) ∧ Below w.heap.size w w' := by
  by_cases h : 150 < n ∨ 150 < m
  · exact nearLong_any A B ca cb n m base w h hn2 hm2
  · exact nearShort_any A B ca cb n m base l ms w hr hr2 hn hm (by omega) (by omega) hca
end Go.Proofs.YtjlfgojblimobaaGreat
end

section
namespace Go.Proofs.YtjlfgojblimobaaGreat
open Go.RowKit
set_option maxRecDepth 100000

set_option maxHeartbeats 4000000 in
theorem plainLong_any (A : Option Addr) (ca n : Nat) (how : Int) (w : World) (h : 150 < n) (hn : n ≤ maxLen) :
    Calls Tryz.prog 5 #[.slice A n ca, .int .i64 how] w fun r w' => r = .returned (.bool true) ∧ Below w.heap.size w w' := by
  unfold maxLen at hn
  have h1 : (n : Int) ≤ 9223372036854775807 := by omega
  have h4 : (150 : Int) < n := by omega
  go_enter Tryz.func5, Tryz.ntmps5
  go_wp2_with fail
  refine (alive_any _).mono ?_
  rintro r w2 ⟨rfl, hb⟩
  have HB := Lib.hid hb
  clear hb
  go_wp2_with fail
  go_ret
  exact ⟨rfl, HB.out⟩
def M.pln (s c : Int) : Int := if c = 11 ∨ c = 12 ∨ c = 13 then c else s
theorem M.pln_is {s c : Int} : M.pln s c = s ∨ M.pln s c = 11 ∨ M.pln s c = 12 ∨ M.pln s c = 13 := by
  unfold M.pln
  split <;> omega
theorem M.strong_first {s : Int} (hs : s = 0 ∨ s = 1) (r : List Int) : M.strong (s :: r) = s := by
  rw [M.strong_cons]
  rcases hs with rfl | rfl <;> rfl
set_option maxHeartbeats 16000000 in
theorem plainS0 (A : Option Addr) (ca n : Nat) (how : Int) (l : List Int) (w : World) (hr : RdS .i64 w w.heap.size A l) (hn : l.length = n) (hl : n ≤ 150) (hh : bits .and .i64 how 1 = 0) :
    Calls Tryz.prog 5 #[.slice A n ca, .int .i64 how] w fun r w' => r = .returned (.bool true) ∧ Below w.heap.size w w' := by
  obtain ⟨i0, hi, hz0, hz1, hz2⟩ := info_parts Tryz.infoCls13
  obtain ⟨W1, hW1⟩ : ∃ X, w.alloc (.cells #[.int .i64 0] 39) = X := ⟨_, rfl⟩
  have hb1 : Below w.heap.size w W1 := by rw [← hW1]; exact (Below.refl _ _).alloc (Nat.le_refl _) _
  have ho1 : W1.ownsRow w.heap.size 39 1 (.slice (some ⟨w.heap.size, 0, none⟩) 1 1) ([(0 : Int)] : List Int).length (([(0 : Int)] : List Int).map (Value.int .i64)) := by
    rw [← hW1]
    exact World.ownsRow_lit w #[.int .i64 0] 1 (Nat.le_refl _) (by unfold maxLen; omega) rfl
  have HR := Lib.hid hr
  have HN := Lib.hid hn
  have HB1 := Lib.hid hb1
  have HO1 := Lib.hid ho1
  have n1 : (n : Int) ≤ 150 := by omega
  have n0 : (0 : Int) ≤ n := by omega
  have d1 : decide ((150 : Int) < n) = false := by simp; omega
  clear hr hn hb1 ho1
  go_enter Tryz.func5, Tryz.ntmps5
  go_wp2_with fail
  go_loopw [7, 8] (fun o v wr => ∃ (k : Nat) (acc : List Int), v = .int .i64 k ∧ k ≤ n ∧ acc = 0 :: (l.take k).map (M.pln 0) ∧ wr.ownsRow w.heap.size 39 1 o acc.length (acc.map (Value.int .i64)) ∧ Below w.heap.size w wr) (fun _ v _ => n - (intOf v).toNat)
  case atStart => exact ⟨0, [0], rfl, Nat.zero_le _, rfl, HO1.out, HB1.out⟩
  case round =>
    obtain ⟨k, acc, rfl, hk, hacc, ho, hb⟩ := hrel
    rename World => wr
    have HB := Lib.hid hb
    have k0 : (0 : Int) ≤ k := by omega
    have hal : acc.length = k + 1 := by
      rw [hacc, List.length_cons, List.length_map, List.length_take, HN.out]
      omega
    by_cases hlt : k < n
    · have k1 : (k : Int) < n := by omega
      obtain ⟨ad, c, rfl, hcx, hc, -⟩ := rd_at HR.out hb (by rw [HN.out]; exact hlt : k < l.length)
      have HNX := Lib.hid (show acc ++ [M.pln 0 c] = 0 :: (l.take (k + 1)).map (M.pln 0) by
        obtain ⟨hj, e⟩ := List.getElem?_eq_some_iff.1 hc
        rw [hacc, List.take_succ_eq_append_getElem hj, e, List.map_append, List.cons_append]
        rfl)
      have HBG := Lib.hid (begins_any c wr)
      have HNE := Lib.hid (S12.refNeu_any c wr)
      rw [hal] at ho
      have HO := Lib.hid ho
      have HAL := Lib.hid hal
      have hws := hb.size
      clear hacc ho hal hc hb
      by_cases hp : c = 11 ∨ c = 12 ∨ c = 13
      · have hpv : M.pln 0 c = c := by unfold M.pln; rw [if_pos hp]
        have e1 : M.begins c = false := by rcases hp with rfl | rfl | rfl <;> rfl
        have e2 : decide (S12.M.neu c) = true := decide_eq_true (by unfold S12.M.neu; omega)
        have e3 : (c != 22) = true := by rcases hp with rfl | rfl | rfl <;> rfl
        have e4 : (c != 10) = true := by rcases hp with rfl | rfl | rfl <;> rfl
        rw [e1] at HBG
        rw [e2] at HNE
        rw [hpv] at HNX
        clear e1 e2 hp hpv
        go_wp2_with fail
        refine HBG.out.mono ?_
        rintro r w2 ⟨rfl, rfl⟩
        go_wp2_with fail
        refine HNE.out.mono ?_
        rintro r w2 ⟨rfl, rfl⟩
        go_wp2_with (at_builtin; refine wpList_append_own _ rfl _ _ 22 rfl w.heap.size 39 i0 (.int .i64 0) 1 8 Tryz.underlying22 hi hz0 hz1 hz2 rfl (by decide) _ _ _ rfl (World.ownsRow.alloc HO.out _) ⟨wr.heap.size, 0, none⟩ 1 1 [.int .i64 c] rfl rfl (one_new _ _ _) one_cell (by unfold maxLen; omega) (by omega) (by simp; omega) ?_)
        intro v4 w4 ho4 hg4 _
        have HB4 := Lib.hid (show Below w.heap.size w w4 from (HB.out.alloc hws _).grown hg4 (by simp; omega) (fun k hk => (World.ownsRow.lt HO.out k hk).1))
        have HO4 := Lib.hid (show w4.ownsRow w.heap.size 39 1 v4 (acc ++ [c]).length ((acc ++ [c]).map (Value.int .i64)) from by rw [List.length_append, HAL.out, List.map_append]; exact ho4)
        clear ho4 hg4
        go_wp2_with fail
        go_roundw
        case rel => exact ⟨k + 1, acc ++ [c], by go_num, by omega, HNX.out, HO4.out, HB4.out⟩
        case measure => simp [intOf]; omega
      · have hpv : M.pln 0 c = 0 := by unfold M.pln; rw [if_neg hp]
        rw [hpv] at HNX
        obtain ⟨x1, hx1⟩ : ∃ x, M.begins c = x := ⟨_, rfl⟩
        obtain ⟨x2, hx2⟩ : ∃ x, decide (S12.M.neu c) = x := ⟨_, rfl⟩
        have hcond : x2 = false ∨ x1 = true ∨ (c != 22) = false ∨ (c != 10) = false := by
          by_cases hne : S12.M.neu c
          · unfold S12.M.neu at hne
            by_cases hbe : M.begins c = true
            · exact .inr (.inl (hx1.symm.trans hbe))
            · have h19 : ¬ (c = 19 ∨ c = 20 ∨ c = 21) := fun h => hbe (by rcases h with rfl | rfl | rfl <;> rfl)
              rcases (show c = 22 ∨ c = 10 by omega) with rfl | rfl
              · exact .inr (.inr (.inl rfl))
              · exact .inr (.inr (.inr rfl))
          · exact .inl (hx2.symm.trans (decide_eq_false hne))
        rw [hx1] at HBG
        rw [hx2] at HNE
        obtain ⟨x3, hx3⟩ : ∃ x, (c != 22) = x := ⟨_, rfl⟩
        obtain ⟨x4, hx4⟩ : ∃ x, (c != 10) = x := ⟨_, rfl⟩
        rw [hx3, hx4] at hcond
        clear hx1 hx2 hp hpv
        rcases hcond with rfl | rfl | rfl | rfl
        all_goals (try cases x1)
        all_goals (try cases x2)
        all_goals (try cases x3)
        all_goals (try cases x4)
        all_goals
          go_wp2_with fail
          refine HBG.out.mono ?_
          rintro r w2 ⟨rfl, rfl⟩
          go_wp2_with fail
          refine HNE.out.mono ?_
          rintro r w2 ⟨rfl, rfl⟩
          go_wp2_with (at_builtin; refine wpList_append_own _ rfl _ _ 22 rfl w.heap.size 39 i0 (.int .i64 0) 1 8 Tryz.underlying22 hi hz0 hz1 hz2 rfl (by decide) _ _ _ rfl (World.ownsRow.alloc HO.out _) ⟨wr.heap.size, 0, none⟩ 1 1 [.int .i64 0] rfl rfl (one_new _ _ _) one_cell (by unfold maxLen; omega) (by omega) (by simp; omega) ?_)
          intro v4 w4 ho4 hg4 _
          have HB4 := Lib.hid (show Below w.heap.size w w4 from (HB.out.alloc hws _).grown hg4 (by simp; omega) (fun k hk => (World.ownsRow.lt HO.out k hk).1))
          have HO4 := Lib.hid (show w4.ownsRow w.heap.size 39 1 v4 (acc ++ [0]).length ((acc ++ [0]).map (Value.int .i64)) from by rw [List.length_append, HAL.out, List.map_append]; exact ho4)
          clear ho4 hg4
          go_wp2_with fail
          go_roundw
          case rel => exact ⟨k + 1, acc ++ [0], by go_num, by omega, HNX.out, HO4.out, HB4.out⟩
          case measure => simp [intOf]; omega
    · obtain rfl : k = n := by omega
      have k1 : ¬ (k : Int) < (k : Int) := by omega
      rw [List.take_of_length_le (by rw [HN.out]; exact Nat.le_refl _)] at hacc
      have hall : ∀ c ∈ acc, c = 0 ∨ c = 11 ∨ c = 12 ∨ c = 13 := fun c hc => by
        rw [hacc] at hc
        rcases List.mem_cons.1 hc with rfl | hc
        · exact .inl rfl
        · obtain ⟨d, -, rfl⟩ := List.mem_map.1 hc
          exact M.pln_is
      have hst : M.strong acc = 0 := by rw [hacc]; exact M.strong_first (by omega) _
      obtain ⟨A2, c2, rfl, hrd, hc2, -, -⟩ := reads_own ho
      obtain ⟨q, hq⟩ : ∃ q, k + 1 = q := ⟨_, rfl⟩
      rw [hq] at hal
      rw [hal]
      have hq1 : (q : Int) ≤ 151 := by omega
      have HQ := Lib.hid hq
      have HRD := Lib.hid hrd
      have HC2 := Lib.hid hc2
      have HAL := Lib.hid hal
      have HALL := Lib.hid hall
      have HPP := Lib.hid (fun (bb : Int) (hbb : bb = 0 ∨ bb = -1) => show M.baseI acc bb = 0 by
        unfold M.baseI
        rcases hbb with rfl | rfl
        · rw [if_neg (by omega)]
        · rw [if_pos (by omega), hst])
      obtain ⟨z, hz⟩ : ∃ z, (bits .and .i64 how 2 == 2) = z := ⟨_, rfl⟩
      clear hacc ho hb hal hall hst hrd hc2 hq
      cases z with
      | true =>
        go_wp2_with fail
        refine (cpara_any A2 none c2 0 q 0 acc [] (-1) wr HRD.out S11.RdT.nil HAL.out rfl (by omega) (by omega) (by have := HC2.out; have := HAL.out; omega) (Nat.le_refl _)).mono ?_
        rintro r w3 ⟨hb3, hok, -⟩
        obtain ⟨A3, c3, rfl, hx3, hc3⟩ := hok (by omega)
        rw [HPP.out (-1) (by omega)] at hx3 hc3 ⊢
        rw [M.para_len, HAL.out] at hc3 ⊢
        have HX3 := Lib.hid hx3
        have HB3 := Lib.hid (HB.out.trans (hb3.mono HB.out.size))
        have bq : ((q : Int) != (q : Int)) = false := by simp
        clear hb3 hok hx3 hc3
        go_wp2_with fail
        go_loop [13] (fun v => ∃ t : Nat, v = .int .i64 t ∧ t ≤ q) (fun v => q - (intOf v).toNat)
        case atStart => exact ⟨0, rfl, Nat.zero_le _⟩
        case round =>
          obtain ⟨t, rfl, ht⟩ := hrel
          have t0 : (0 : Int) ≤ t := by omega
          by_cases hlt : t < q
          · have t1 : (t : Int) < q := by omega
            obtain ⟨xd, x, rfl, hxx, hx, -⟩ := rd_at HX3.out (Below.refl _ _) (by rw [M.para_len, HAL.out]; exact hlt : t < (M.para acc [] 0).length)
            obtain rfl := M.para_plain (n := k) (by omega) HALL.out (by rw [HAL.out, HQ.out]) hx
            clear hx
            go_wp2_with fail
            go_round
            case rel => exact ⟨t + 1, by go_num, by omega⟩
            case measure => simp [intOf]; omega
          · obtain rfl : t = q := by omega
            have t1 : ¬ (t : Int) < (t : Int) := by omega
            go_wp2_with fail
            refine (alive_any _).mono ?_
            rintro r w4 ⟨rfl, hb4⟩
            have HB4 := Lib.hid (HB3.out.trans (hb4.mono HB3.out.size))
            clear hb4
            go_wp2_with fail
            go_ret
            exact ⟨rfl, HB4.out⟩
      | false =>
        go_wp2_with fail
        refine (cpara_any A2 none c2 0 q 0 acc [] (0) wr HRD.out S11.RdT.nil HAL.out rfl (by omega) (by omega) (by have := HC2.out; have := HAL.out; omega) (Nat.le_refl _)).mono ?_
        rintro r w3 ⟨hb3, hok, -⟩
        obtain ⟨A3, c3, rfl, hx3, hc3⟩ := hok (by omega)
        rw [HPP.out (0) (by omega)] at hx3 hc3 ⊢
        rw [M.para_len, HAL.out] at hc3 ⊢
        have HX3 := Lib.hid hx3
        have HB3 := Lib.hid (HB.out.trans (hb3.mono HB.out.size))
        have bq : ((q : Int) != (q : Int)) = false := by simp
        clear hb3 hok hx3 hc3
        go_wp2_with fail
        go_loop [13] (fun v => ∃ t : Nat, v = .int .i64 t ∧ t ≤ q) (fun v => q - (intOf v).toNat)
        case atStart => exact ⟨0, rfl, Nat.zero_le _⟩
        case round =>
          obtain ⟨t, rfl, ht⟩ := hrel
          have t0 : (0 : Int) ≤ t := by omega
          by_cases hlt : t < q
          · have t1 : (t : Int) < q := by omega
            obtain ⟨xd, x, rfl, hxx, hx, -⟩ := rd_at HX3.out (Below.refl _ _) (by rw [M.para_len, HAL.out]; exact hlt : t < (M.para acc [] 0).length)
            obtain rfl := M.para_plain (n := k) (by omega) HALL.out (by rw [HAL.out, HQ.out]) hx
            clear hx
            go_wp2_with fail
            go_round
            case rel => exact ⟨t + 1, by go_num, by omega⟩
            case measure => simp [intOf]; omega
          · obtain rfl : t = q := by omega
            have t1 : ¬ (t : Int) < (t : Int) := by omega
            go_wp2_with fail
            refine (alive_any _).mono ?_
            rintro r w4 ⟨rfl, hb4⟩
            have HB4 := Lib.hid (HB3.out.trans (hb4.mono HB3.out.size))
            clear hb4
            go_wp2_with fail
            go_ret
            exact ⟨rfl, HB4.out⟩
set_option maxHeartbeats 16000000 in
theorem plainS1 (A : Option Addr) (ca n : Nat) (how : Int) (l : List Int) (w : World) (hr : RdS .i64 w w.heap.size A l) (hn : l.length = n) (hl : n ≤ 150) (hh : bits .and .i64 how 1 = 1) :
    Calls Tryz.prog 5 #[.slice A n ca, .int .i64 how] w fun r w' => r = .returned (.bool true) ∧ Below w.heap.size w w' := by
  obtain ⟨i0, hi, hz0, hz1, hz2⟩ := info_parts Tryz.infoCls13
  obtain ⟨W1, hW1⟩ : ∃ X, w.alloc (.cells #[.int .i64 1] 39) = X := ⟨_, rfl⟩
  have hb1 : Below w.heap.size w W1 := by rw [← hW1]; exact (Below.refl _ _).alloc (Nat.le_refl _) _
  have ho1 : W1.ownsRow w.heap.size 39 1 (.slice (some ⟨w.heap.size, 0, none⟩) 1 1) ([(1 : Int)] : List Int).length (([(1 : Int)] : List Int).map (Value.int .i64)) := by
    rw [← hW1]
    exact World.ownsRow_lit w #[.int .i64 1] 1 (Nat.le_refl _) (by unfold maxLen; omega) rfl
  have HR := Lib.hid hr
  have HN := Lib.hid hn
  have HB1 := Lib.hid hb1
  have HO1 := Lib.hid ho1
  have n1 : (n : Int) ≤ 150 := by omega
  have n0 : (0 : Int) ≤ n := by omega
  have d1 : decide ((150 : Int) < n) = false := by simp; omega
  clear hr hn hb1 ho1
  go_enter Tryz.func5, Tryz.ntmps5
  go_wp2_with fail
  go_loopw [7, 8] (fun o v wr => ∃ (k : Nat) (acc : List Int), v = .int .i64 k ∧ k ≤ n ∧ acc = 1 :: (l.take k).map (M.pln 1) ∧ wr.ownsRow w.heap.size 39 1 o acc.length (acc.map (Value.int .i64)) ∧ Below w.heap.size w wr) (fun _ v _ => n - (intOf v).toNat)
  case atStart => exact ⟨0, [1], rfl, Nat.zero_le _, rfl, HO1.out, HB1.out⟩
  case round =>
    obtain ⟨k, acc, rfl, hk, hacc, ho, hb⟩ := hrel
    rename World => wr
    have HB := Lib.hid hb
    have k0 : (0 : Int) ≤ k := by omega
    have hal : acc.length = k + 1 := by
      rw [hacc, List.length_cons, List.length_map, List.length_take, HN.out]
      omega
    by_cases hlt : k < n
    · have k1 : (k : Int) < n := by omega
      obtain ⟨ad, c, rfl, hcx, hc, -⟩ := rd_at HR.out hb (by rw [HN.out]; exact hlt : k < l.length)
      have HNX := Lib.hid (show acc ++ [M.pln 1 c] = 1 :: (l.take (k + 1)).map (M.pln 1) by
        obtain ⟨hj, e⟩ := List.getElem?_eq_some_iff.1 hc
        rw [hacc, List.take_succ_eq_append_getElem hj, e, List.map_append, List.cons_append]
        rfl)
      have HBG := Lib.hid (begins_any c wr)
      have HNE := Lib.hid (S12.refNeu_any c wr)
      rw [hal] at ho
      have HO := Lib.hid ho
      have HAL := Lib.hid hal
      have hws := hb.size
      clear hacc ho hal hc hb
      by_cases hp : c = 11 ∨ c = 12 ∨ c = 13
      · have hpv : M.pln 1 c = c := by unfold M.pln; rw [if_pos hp]
        have e1 : M.begins c = false := by rcases hp with rfl | rfl | rfl <;> rfl
        have e2 : decide (S12.M.neu c) = true := decide_eq_true (by unfold S12.M.neu; omega)
        have e3 : (c != 22) = true := by rcases hp with rfl | rfl | rfl <;> rfl
        have e4 : (c != 10) = true := by rcases hp with rfl | rfl | rfl <;> rfl
        rw [e1] at HBG
        rw [e2] at HNE
        rw [hpv] at HNX
        clear e1 e2 hp hpv
        go_wp2_with fail
        refine HBG.out.mono ?_
        rintro r w2 ⟨rfl, rfl⟩
        go_wp2_with fail
        refine HNE.out.mono ?_
        rintro r w2 ⟨rfl, rfl⟩
        go_wp2_with (at_builtin; refine wpList_append_own _ rfl _ _ 22 rfl w.heap.size 39 i0 (.int .i64 0) 1 8 Tryz.underlying22 hi hz0 hz1 hz2 rfl (by decide) _ _ _ rfl (World.ownsRow.alloc HO.out _) ⟨wr.heap.size, 0, none⟩ 1 1 [.int .i64 c] rfl rfl (one_new _ _ _) one_cell (by unfold maxLen; omega) (by omega) (by simp; omega) ?_)
        intro v4 w4 ho4 hg4 _
        have HB4 := Lib.hid (show Below w.heap.size w w4 from (HB.out.alloc hws _).grown hg4 (by simp; omega) (fun k hk => (World.ownsRow.lt HO.out k hk).1))
        have HO4 := Lib.hid (show w4.ownsRow w.heap.size 39 1 v4 (acc ++ [c]).length ((acc ++ [c]).map (Value.int .i64)) from by rw [List.length_append, HAL.out, List.map_append]; exact ho4)
        clear ho4 hg4
        go_wp2_with fail
        go_roundw
        case rel => exact ⟨k + 1, acc ++ [c], by go_num, by omega, HNX.out, HO4.out, HB4.out⟩
        case measure => simp [intOf]; omega
      · have hpv : M.pln 1 c = 1 := by unfold M.pln; rw [if_neg hp]
        rw [hpv] at HNX
        obtain ⟨x1, hx1⟩ : ∃ x, M.begins c = x := ⟨_, rfl⟩
        obtain ⟨x2, hx2⟩ : ∃ x, decide (S12.M.neu c) = x := ⟨_, rfl⟩
        have hcond : x2 = false ∨ x1 = true ∨ (c != 22) = false ∨ (c != 10) = false := by
          by_cases hne : S12.M.neu c
          · unfold S12.M.neu at hne
            by_cases hbe : M.begins c = true
            · exact .inr (.inl (hx1.symm.trans hbe))
            · have h19 : ¬ (c = 19 ∨ c = 20 ∨ c = 21) := fun h => hbe (by rcases h with rfl | rfl | rfl <;> rfl)
              rcases (show c = 22 ∨ c = 10 by omega) with rfl | rfl
              · exact .inr (.inr (.inl rfl))
              · exact .inr (.inr (.inr rfl))
          · exact .inl (hx2.symm.trans (decide_eq_false hne))
        rw [hx1] at HBG
        rw [hx2] at HNE
        obtain ⟨x3, hx3⟩ : ∃ x, (c != 22) = x := ⟨_, rfl⟩
        obtain ⟨x4, hx4⟩ : ∃ x, (c != 10) = x := ⟨_, rfl⟩
        rw [hx3, hx4] at hcond
        clear hx1 hx2 hp hpv
        rcases hcond with rfl | rfl | rfl | rfl
        all_goals (try cases x1)
        all_goals (try cases x2)
        all_goals (try cases x3)
        all_goals (try cases x4)
        all_goals
          go_wp2_with fail
          refine HBG.out.mono ?_
          rintro r w2 ⟨rfl, rfl⟩
          go_wp2_with fail
          refine HNE.out.mono ?_
          rintro r w2 ⟨rfl, rfl⟩
          go_wp2_with (at_builtin; refine wpList_append_own _ rfl _ _ 22 rfl w.heap.size 39 i0 (.int .i64 0) 1 8 Tryz.underlying22 hi hz0 hz1 hz2 rfl (by decide) _ _ _ rfl (World.ownsRow.alloc HO.out _) ⟨wr.heap.size, 0, none⟩ 1 1 [.int .i64 1] rfl rfl (one_new _ _ _) one_cell (by unfold maxLen; omega) (by omega) (by simp; omega) ?_)
          intro v4 w4 ho4 hg4 _
          have HB4 := Lib.hid (show Below w.heap.size w w4 from (HB.out.alloc hws _).grown hg4 (by simp; omega) (fun k hk => (World.ownsRow.lt HO.out k hk).1))
          have HO4 := Lib.hid (show w4.ownsRow w.heap.size 39 1 v4 (acc ++ [1]).length ((acc ++ [1]).map (Value.int .i64)) from by rw [List.length_append, HAL.out, List.map_append]; exact ho4)
          clear ho4 hg4
          go_wp2_with fail
          go_roundw
          case rel => exact ⟨k + 1, acc ++ [1], by go_num, by omega, HNX.out, HO4.out, HB4.out⟩
          case measure => simp [intOf]; omega
    · obtain rfl : k = n := by omega
      have k1 : ¬ (k : Int) < (k : Int) := by omega
      rw [List.take_of_length_le (by rw [HN.out]; exact Nat.le_refl _)] at hacc
      have hall : ∀ c ∈ acc, c = 1 ∨ c = 11 ∨ c = 12 ∨ c = 13 := fun c hc => by
        rw [hacc] at hc
        rcases List.mem_cons.1 hc with rfl | hc
        · exact .inl rfl
        · obtain ⟨d, -, rfl⟩ := List.mem_map.1 hc
          exact M.pln_is
      have hst : M.strong acc = 1 := by rw [hacc]; exact M.strong_first (by omega) _
      obtain ⟨A2, c2, rfl, hrd, hc2, -, -⟩ := reads_own ho
      obtain ⟨q, hq⟩ : ∃ q, k + 1 = q := ⟨_, rfl⟩
      rw [hq] at hal
      rw [hal]
      have hq1 : (q : Int) ≤ 151 := by omega
      have HQ := Lib.hid hq
      have HRD := Lib.hid hrd
      have HC2 := Lib.hid hc2
      have HAL := Lib.hid hal
      have HALL := Lib.hid hall
      have HPP := Lib.hid (fun (bb : Int) (hbb : bb = 1 ∨ bb = -1) => show M.baseI acc bb = 1 by
        unfold M.baseI
        rcases hbb with rfl | rfl
        · rw [if_neg (by omega)]
        · rw [if_pos (by omega), hst])
      obtain ⟨z, hz⟩ : ∃ z, (bits .and .i64 how 2 == 2) = z := ⟨_, rfl⟩
      clear hacc ho hb hal hall hst hrd hc2 hq
      cases z with
      | true =>
        go_wp2_with fail
        refine (cpara_any A2 none c2 0 q 0 acc [] (-1) wr HRD.out S11.RdT.nil HAL.out rfl (by omega) (by omega) (by have := HC2.out; have := HAL.out; omega) (Nat.le_refl _)).mono ?_
        rintro r w3 ⟨hb3, hok, -⟩
        obtain ⟨A3, c3, rfl, hx3, hc3⟩ := hok (by omega)
        rw [HPP.out (-1) (by omega)] at hx3 hc3 ⊢
        rw [M.para_len, HAL.out] at hc3 ⊢
        have HX3 := Lib.hid hx3
        have HB3 := Lib.hid (HB.out.trans (hb3.mono HB.out.size))
        have bq : ((q : Int) != (q : Int)) = false := by simp
        clear hb3 hok hx3 hc3
        go_wp2_with fail
        go_loop [13] (fun v => ∃ t : Nat, v = .int .i64 t ∧ t ≤ q) (fun v => q - (intOf v).toNat)
        case atStart => exact ⟨0, rfl, Nat.zero_le _⟩
        case round =>
          obtain ⟨t, rfl, ht⟩ := hrel
          have t0 : (0 : Int) ≤ t := by omega
          by_cases hlt : t < q
          · have t1 : (t : Int) < q := by omega
            obtain ⟨xd, x, rfl, hxx, hx, -⟩ := rd_at HX3.out (Below.refl _ _) (by rw [M.para_len, HAL.out]; exact hlt : t < (M.para acc [] 1).length)
            obtain rfl := M.para_plain (n := k) (by omega) HALL.out (by rw [HAL.out, HQ.out]) hx
            clear hx
            go_wp2_with fail
            go_round
            case rel => exact ⟨t + 1, by go_num, by omega⟩
            case measure => simp [intOf]; omega
          · obtain rfl : t = q := by omega
            have t1 : ¬ (t : Int) < (t : Int) := by omega
            go_wp2_with fail
            refine (alive_any _).mono ?_
            rintro r w4 ⟨rfl, hb4⟩
            have HB4 := Lib.hid (HB3.out.trans (hb4.mono HB3.out.size))
            clear hb4
            go_wp2_with fail
            go_ret
            exact ⟨rfl, HB4.out⟩
      | false =>
        go_wp2_with fail
        refine (cpara_any A2 none c2 0 q 0 acc [] (1) wr HRD.out S11.RdT.nil HAL.out rfl (by omega) (by omega) (by have := HC2.out; have := HAL.out; omega) (Nat.le_refl _)).mono ?_
        rintro r w3 ⟨hb3, hok, -⟩
        obtain ⟨A3, c3, rfl, hx3, hc3⟩ := hok (by omega)
        rw [HPP.out (1) (by omega)] at hx3 hc3 ⊢
        rw [M.para_len, HAL.out] at hc3 ⊢
        have HX3 := Lib.hid hx3
        have HB3 := Lib.hid (HB.out.trans (hb3.mono HB.out.size))
        have bq : ((q : Int) != (q : Int)) = false := by simp
        clear hb3 hok hx3 hc3
        go_wp2_with fail
        go_loop [13] (fun v => ∃ t : Nat, v = .int .i64 t ∧ t ≤ q) (fun v => q - (intOf v).toNat)
        case atStart => exact ⟨0, rfl, Nat.zero_le _⟩
        case round =>
          obtain ⟨t, rfl, ht⟩ := hrel
          have t0 : (0 : Int) ≤ t := by omega
          by_cases hlt : t < q
          · have t1 : (t : Int) < q := by omega
            obtain ⟨xd, x, rfl, hxx, hx, -⟩ := rd_at HX3.out (Below.refl _ _) (by rw [M.para_len, HAL.out]; exact hlt : t < (M.para acc [] 1).length)
            obtain rfl := M.para_plain (n := k) (by omega) HALL.out (by rw [HAL.out, HQ.out]) hx
            clear hx
            go_wp2_with fail
            go_round
            case rel => exact ⟨t + 1, by go_num, by omega⟩
            case measure => simp [intOf]; omega
          · obtain rfl : t = q := by omega
            have t1 : ¬ (t : Int) < (t : Int) := by omega
            go_wp2_with fail
            refine (alive_any _).mono ?_
            rintro r w4 ⟨rfl, hb4⟩
            have HB4 := Lib.hid (HB3.out.trans (hb4.mono HB3.out.size))
            clear hb4
            go_wp2_with fail
            go_ret
            exact ⟨rfl, HB4.out⟩
theorem plainLaw_any (A : Option Addr) (ca n : Nat) (how : Int) (l : List Int) (w : World) (hr : RdS .i64 w w.heap.size A l) (hn : l.length = n) (hn2 : n ≤ maxLen) :
    Calls Tryz.prog 5 #[.slice A n ca, .int .i64 how] w fun r w' => r = .returned (.bool true) ∧ Below w.heap.size w w' := by
  by_cases h : 150 < n
  · exact plainLong_any A ca n how w h hn2
  · rcases and_1 how with h1 | h1
    · exact plainS0 A ca n how l w hr hn (by omega) h1
    · exact plainS1 A ca n how l w hr hn (by omega) h1
end Go.Proofs.YtjlfgojblimobaaGreat
end

section
namespace Go.Proofs.YtjlfgojblimobaaGreat.M

variable {l : List Int} {ms : List (Int × Int)} {b c x y : Int} {i k : Nat}
theorem line_all (h : l.length = (para l ms b).length) : line l (para l ms b) 0 (l.length : Nat) b = ln b b l (para l ms b) := by
  unfold line
  rw [Int.toNat_natCast, Int.toNat_zero, List.drop_zero, List.drop_zero, List.take_length, h, List.take_length]
theorem whole_at (hb : b = 0 ∨ b = 1) (hc : l[i]? = some c) (hx : (para l ms b)[i]? = some x) (hy : (line l (para l ms b) 0 (l.length : Nat) b)[i]? = some y) :
    (c = 11 ∨ c = 10 → y = b) ∧ (¬ S12.M.neu c → removed c = false → y = x) ∧ b ≤ y := by
  have hl : l.length = (para l ms b).length := para_len.symm
  rw [line_all hl] at hy
  have hlow := ln_low (base := b) (last := b) (b := b) hl (Int.le_refl _) (Int.le_refl _) (fun j d z h1 h2 h3 => by
    obtain ⟨v, hv⟩ : ∃ v, ((run b (fresh b) l).map Prod.fst)[j]? = some v := ⟨_, List.getElem?_eq_getElem (by rw [List.length_map, run_len]; exact (List.getElem?_eq_some_iff.1 h1).1)⟩
    rcases near_all hb h1 h2 hv with ⟨h4, -⟩ | ⟨-, -, -, h5, -⟩
    · rw [h3] at h4
      cases h4
    · exact h5) hy
  obtain ⟨last', -, -, h3⟩ := ln_at (base := b) (last := b) hl hc hx
  rw [hy] at h3
  injection h3 with h3
  have hd : l.drop i = c :: l.drop (i + 1) := by
    obtain ⟨hk, e⟩ := List.getElem?_eq_some_iff.1 hc
    rw [List.drop_eq_getElem_cons hk, e]
  rw [hd] at h3
  refine ⟨fun h => ?_, fun h1 h2 => ?_, hlow⟩
  · rw [h3, bk_ends h, if_pos rfl]
  · rw [h3, bk_firm ⟨h1, h2⟩, if_neg (by simp), if_neg (by rw [h2]; simp)]
theorem line_cut (hc : l[k]? = some c) (h1 : ¬ S12.M.neu c) (h2 : removed c = false) : line l (para l ms b) 0 ((k + 1 : Nat) : Int) b = (line l (para l ms b) 0 (l.length : Nat) b).take (k + 1) := by
  have hl : l.length = (para l ms b).length := para_len.symm
  rw [line_all hl]
  unfold line
  rw [Int.toNat_natCast, Int.toNat_zero, List.drop_zero, List.drop_zero]
  obtain ⟨hk, e⟩ := List.getElem?_eq_some_iff.1 hc
  obtain ⟨x, hx⟩ : ∃ x, (para l ms b)[k]? = some x := ⟨_, List.getElem?_eq_getElem (by omega)⟩
  obtain ⟨hk2, e2⟩ := List.getElem?_eq_some_iff.1 hx
  have hp : (l.take k).length = ((para l ms b).take k).length := by rw [List.length_take, List.length_take]; omega
  obtain ⟨z, hz⟩ := ln_cut (base := b) (last := b) (p := l.take k) (q := (para l ms b).take k) (c := c) (x := x) (r := l.drop (k + 1)) (s := (para l ms b).drop (k + 1)) hp ⟨h1, h2⟩
  have e3 : l.take k ++ c :: l.drop (k + 1) = l := by rw [← e, ← List.drop_eq_getElem_cons hk, List.take_append_drop]
  have e4 : (para l ms b).take k ++ x :: (para l ms b).drop (k + 1) = para l ms b := by rw [← e2, ← List.drop_eq_getElem_cons hk2, List.take_append_drop]
  rw [e3, e4] at hz
  rw [List.take_succ_eq_append_getElem hk, e, List.take_succ_eq_append_getElem hk2, e2, hz]
  have hq : (ln b b (l.take k ++ [c]) ((para l ms b).take k ++ [x])).length = k + 1 := by
    rw [ln_len (by rw [List.length_append, List.length_append, hp]; rfl), List.length_append, List.length_take]
    simp
    omega
  generalize ln b b (l.take k ++ [c]) ((para l ms b).take k ++ [x]) = Q at hq ⊢
  rw [List.take_append_of_le_length (by omega)]
  exact (List.take_of_length_le (by omega)).symm
theorem line_len0 {t : Nat} (ht : t ≤ l.length) : (line l (para l ms b) 0 t b).length = t := by
  unfold line
  rw [Int.toNat_natCast, Int.toNat_zero, List.drop_zero, List.drop_zero, ln_len (by rw [List.length_take, List.length_take, para_len]), List.length_take]
  omega
end Go.Proofs.YtjlfgojblimobaaGreat.M
end
