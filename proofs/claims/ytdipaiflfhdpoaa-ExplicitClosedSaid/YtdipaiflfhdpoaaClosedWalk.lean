/- The walk of ExplicitClosed: it answers true. Conditions: the four slices read as lists, within their capacities. -/
import Derived.Test.YtdipaiflfhdpoaaPartsWalk
import Derived.Test.YtdipaiflfhdpoaaPart
import Derived.Test.YtdipaiflfhdpoaaClosedMath
import Derived.BigQuiet
namespace Go.Proofs.Ytdipaiflfhdpoaa
open Go.RowKit

theorem snoc_ints (l : List Int) (c : Int) : l.map (Value.int .i64) ++ [Value.int .i64 c] = (l ++ [c]).map (Value.int .i64) := by simp
theorem app_ints (l r : List Int) : l.map (Value.int .i64) ++ r.map (Value.int .i64) = (l ++ r).map (Value.int .i64) := by simp
set_option maxRecDepth 100000 in
set_option maxHeartbeats 4000000 in
theorem closedLong1_0 (A0 A1 A2 A3 : Option Addr) (y0 y1 y2 y3 n0 n1 n2 n3 : Nat) (how : Int) (w : World) (hn : 400 < n0 + n1 + n2) (m0 : n0 * 8 ≤ 140737488351232) (m1 : n1 * 8 ≤ 140737488351232) (m2 : n2 * 8 ≤ 140737488351232) (hbv : bits .and .i64 how 1 = 0) :
    Calls Try.prog 6 #[.agg #[.slice A0 n0 y0, .slice A1 n1 y1, .slice A2 n2 y2], .slice A3 n3 y3, .int .i64 how] w fun r w' => r = .returned (.bool true) ∧ Below w.heap.size w w' := by
  have q1 : (400 : Int) < (n0 : Int) + n1 + n2 := by omega
  have p0 : (n0 : Int) ≤ 4503599627370496 := by omega
  have p1 : (n1 : Int) ≤ 4503599627370496 := by omega
  have p2 : (n2 : Int) ≤ 4503599627370496 := by omega
  obtain ⟨W0, hW0⟩ : ∃ W, w.alloc (.cells #[.slice A0 n0 y0, .slice A1 n1 y1, .slice A2 n2 y2] 38) = W := ⟨_, rfl⟩
  have hb0 : Below w.heap.size w W0 := by rw [← hW0]; exact (Below.refl _ _).alloc (Nat.le_refl _) _
  have hs0 : W0.heap.size = w.heap.size + 1 := by rw [← hW0]; simp
  have d0 : W0.cell? ⟨w.heap.size, 0, none⟩ = some (.slice A0 n0 y0) := by rw [← hW0]; simp [go_sem]
  have d1 : W0.cell? ⟨w.heap.size, 1, none⟩ = some (.slice A1 n1 y1) := by rw [← hW0]; simp [go_sem]
  have d2 : W0.cell? ⟨w.heap.size, 2, none⟩ = some (.slice A2 n2 y2) := by rw [← hW0]; simp [go_sem]
  have HB0 := Lib.hid hb0
  have HW0 := Lib.hid hW0
  clear hb0 hs0 hn m0 m1 m2
  go_enter Try.func6, Try.ntmps6
  go_wp2_with fail
  refine (alive_any _).mono ?_
  rintro r w2 ⟨rfl, hb⟩
  have HB := Lib.hid (HB0.out.trans (hb.mono HB0.out.size))
  clear hb
  go_wp2_with fail
  go_ret
  exact ⟨rfl, HB.out⟩
set_option maxRecDepth 100000 in
set_option maxHeartbeats 4000000 in
theorem closedLong1_1 (A0 A1 A2 A3 : Option Addr) (y0 y1 y2 y3 n0 n1 n2 n3 : Nat) (how : Int) (w : World) (hn : 400 < n0 + n1 + n2) (m0 : n0 * 8 ≤ 140737488351232) (m1 : n1 * 8 ≤ 140737488351232) (m2 : n2 * 8 ≤ 140737488351232) (hbv : bits .and .i64 how 1 = 1) :
    Calls Try.prog 6 #[.agg #[.slice A0 n0 y0, .slice A1 n1 y1, .slice A2 n2 y2], .slice A3 n3 y3, .int .i64 how] w fun r w' => r = .returned (.bool true) ∧ Below w.heap.size w w' := by
  have q1 : (400 : Int) < (n0 : Int) + n1 + n2 := by omega
  have p0 : (n0 : Int) ≤ 4503599627370496 := by omega
  have p1 : (n1 : Int) ≤ 4503599627370496 := by omega
  have p2 : (n2 : Int) ≤ 4503599627370496 := by omega
  obtain ⟨W0, hW0⟩ : ∃ W, w.alloc (.cells #[.slice A0 n0 y0, .slice A1 n1 y1, .slice A2 n2 y2] 38) = W := ⟨_, rfl⟩
  have hb0 : Below w.heap.size w W0 := by rw [← hW0]; exact (Below.refl _ _).alloc (Nat.le_refl _) _
  have hs0 : W0.heap.size = w.heap.size + 1 := by rw [← hW0]; simp
  have d0 : W0.cell? ⟨w.heap.size, 0, none⟩ = some (.slice A0 n0 y0) := by rw [← hW0]; simp [go_sem]
  have d1 : W0.cell? ⟨w.heap.size, 1, none⟩ = some (.slice A1 n1 y1) := by rw [← hW0]; simp [go_sem]
  have d2 : W0.cell? ⟨w.heap.size, 2, none⟩ = some (.slice A2 n2 y2) := by rw [← hW0]; simp [go_sem]
  have HB0 := Lib.hid hb0
  have HW0 := Lib.hid hW0
  clear hb0 hs0 hn m0 m1 m2
  go_enter Try.func6, Try.ntmps6
  go_wp2_with fail
  refine (alive_any _).mono ?_
  rintro r w2 ⟨rfl, hb⟩
  have HB := Lib.hid (HB0.out.trans (hb.mono HB0.out.size))
  clear hb
  go_wp2_with fail
  go_ret
  exact ⟨rfl, HB.out⟩
set_option maxRecDepth 100000 in
set_option maxHeartbeats 4000000 in
theorem closedLong2_0 (A0 A1 A2 A3 : Option Addr) (y0 y1 y2 y3 n0 n1 n2 n3 : Nat) (how : Int) (w : World) (hn : n0 + n1 + n2 ≤ 400) (hn3 : 400 < n3) (m0 : n0 * 8 ≤ 140737488351232) (m1 : n1 * 8 ≤ 140737488351232) (m2 : n2 * 8 ≤ 140737488351232) (m3 : n3 ≤ maxLen) (hbv : bits .and .i64 how 1 = 0) :
    Calls Try.prog 6 #[.agg #[.slice A0 n0 y0, .slice A1 n1 y1, .slice A2 n2 y2], .slice A3 n3 y3, .int .i64 how] w fun r w' => r = .returned (.bool true) ∧ Below w.heap.size w w' := by
  unfold maxLen at m3
  have q1 : (n0 : Int) + n1 + n2 ≤ 400 := by omega
  have q2 : (400 : Int) < n3 := by omega
  have p0 : (n0 : Int) ≤ 4503599627370496 := by omega
  have p1 : (n1 : Int) ≤ 4503599627370496 := by omega
  have p2 : (n2 : Int) ≤ 4503599627370496 := by omega
  obtain ⟨W0, hW0⟩ : ∃ W, w.alloc (.cells #[.slice A0 n0 y0, .slice A1 n1 y1, .slice A2 n2 y2] 38) = W := ⟨_, rfl⟩
  have hb0 : Below w.heap.size w W0 := by rw [← hW0]; exact (Below.refl _ _).alloc (Nat.le_refl _) _
  have hs0 : W0.heap.size = w.heap.size + 1 := by rw [← hW0]; simp
  have d0 : W0.cell? ⟨w.heap.size, 0, none⟩ = some (.slice A0 n0 y0) := by rw [← hW0]; simp [go_sem]
  have d1 : W0.cell? ⟨w.heap.size, 1, none⟩ = some (.slice A1 n1 y1) := by rw [← hW0]; simp [go_sem]
  have d2 : W0.cell? ⟨w.heap.size, 2, none⟩ = some (.slice A2 n2 y2) := by rw [← hW0]; simp [go_sem]
  have HB0 := Lib.hid hb0
  have HW0 := Lib.hid hW0
  clear hb0 hs0 hn m0 m1 m2 m3
  go_enter Try.func6, Try.ntmps6
  go_wp2_with fail
  refine (alive_any _).mono ?_
  rintro r w2 ⟨rfl, hb⟩
  have HB := Lib.hid (HB0.out.trans (hb.mono HB0.out.size))
  clear hb
  go_wp2_with fail
  go_ret
  exact ⟨rfl, HB.out⟩
set_option maxRecDepth 100000 in
set_option maxHeartbeats 4000000 in
theorem closedLong2_1 (A0 A1 A2 A3 : Option Addr) (y0 y1 y2 y3 n0 n1 n2 n3 : Nat) (how : Int) (w : World) (hn : n0 + n1 + n2 ≤ 400) (hn3 : 400 < n3) (m0 : n0 * 8 ≤ 140737488351232) (m1 : n1 * 8 ≤ 140737488351232) (m2 : n2 * 8 ≤ 140737488351232) (m3 : n3 ≤ maxLen) (hbv : bits .and .i64 how 1 = 1) :
    Calls Try.prog 6 #[.agg #[.slice A0 n0 y0, .slice A1 n1 y1, .slice A2 n2 y2], .slice A3 n3 y3, .int .i64 how] w fun r w' => r = .returned (.bool true) ∧ Below w.heap.size w w' := by
  unfold maxLen at m3
  have q1 : (n0 : Int) + n1 + n2 ≤ 400 := by omega
  have q2 : (400 : Int) < n3 := by omega
  have p0 : (n0 : Int) ≤ 4503599627370496 := by omega
  have p1 : (n1 : Int) ≤ 4503599627370496 := by omega
  have p2 : (n2 : Int) ≤ 4503599627370496 := by omega
  obtain ⟨W0, hW0⟩ : ∃ W, w.alloc (.cells #[.slice A0 n0 y0, .slice A1 n1 y1, .slice A2 n2 y2] 38) = W := ⟨_, rfl⟩
  have hb0 : Below w.heap.size w W0 := by rw [← hW0]; exact (Below.refl _ _).alloc (Nat.le_refl _) _
  have hs0 : W0.heap.size = w.heap.size + 1 := by rw [← hW0]; simp
  have d0 : W0.cell? ⟨w.heap.size, 0, none⟩ = some (.slice A0 n0 y0) := by rw [← hW0]; simp [go_sem]
  have d1 : W0.cell? ⟨w.heap.size, 1, none⟩ = some (.slice A1 n1 y1) := by rw [← hW0]; simp [go_sem]
  have d2 : W0.cell? ⟨w.heap.size, 2, none⟩ = some (.slice A2 n2 y2) := by rw [← hW0]; simp [go_sem]
  have HB0 := Lib.hid hb0
  have HW0 := Lib.hid hW0
  clear hb0 hs0 hn m0 m1 m2 m3
  go_enter Try.func6, Try.ntmps6
  go_wp2_with fail
  refine (alive_any _).mono ?_
  rintro r w2 ⟨rfl, hb⟩
  have HB := Lib.hid (HB0.out.trans (hb.mono HB0.out.size))
  clear hb
  go_wp2_with fail
  go_ret
  exact ⟨rfl, HB.out⟩
set_option maxRecDepth 100000 in
set_option maxHeartbeats 16000000 in
theorem closedShort_0 (A0 A1 A2 A3 : Option Addr) (y0 y1 y2 y3 n0 n1 n2 n3 : Nat) (l0 l1 l2 l3 : List Int) (how : Int) (w : World) (hn : n0 + n1 + n2 ≤ 400) (hn3 : n3 ≤ 400) (hbv : bits .and .i64 how 1 = 0)
    (r0 : RdS .i64 w w.heap.size A0 l0) (r1 : RdS .i64 w w.heap.size A1 l1) (r2 : RdS .i64 w w.heap.size A2 l2) (r3 : RdS .i64 w w.heap.size A3 l3) (e0 : l0.length = n0) (e1 : l1.length = n1) (e2 : l2.length = n2) (e3 : l3.length = n3)
    (c0 : n0 ≤ y0) (N0 : A0 = none → y0 = 0) (N2 : A2 = none → y2 = 0) :
    Calls Try.prog 6 #[.agg #[.slice A0 n0 y0, .slice A1 n1 y1, .slice A2 n2 y2], .slice A3 n3 y3, .int .i64 how] w fun r w' => r = .returned (.bool true) ∧ Below w.heap.size w w' := by
  obtain ⟨i0, hi0, hz0, hz1, hz2⟩ := info_parts Try.infoCls
  have q1 : (n0 : Int) + n1 + n2 ≤ 400 := by omega
  have q2 : (n3 : Int) ≤ 400 := by omega
  obtain ⟨T, hT⟩ : ∃ T, l0.take 20 = T := ⟨_, rfl⟩
  obtain ⟨X, hX⟩ : ∃ X, M.whole l1 = X := ⟨_, rfl⟩
  obtain ⟨Y, hY⟩ : ∃ Y, M.whole l3 = Y := ⟨_, rfl⟩
  obtain ⟨t, ht⟩ : ∃ t, T.length = t := ⟨_, rfl⟩
  obtain ⟨x, hx⟩ : ∃ x, X.length = x := ⟨_, rfl⟩
  obtain ⟨y, hy⟩ : ∃ y, Y.length = y := ⟨_, rfl⟩
  have bx : M.bal 0 X := by rw [← hX]; exact M.whole_bal _
  have by' : M.bal 0 Y := by rw [← hY]; exact M.whole_bal _
  have t1 : t ≤ 20 := by rw [← ht, ← hT, List.length_take]; omega
  have x1 : x ≤ 40 := by rw [← hx, ← hX]; exact M.whole_len _
  have y1' : y ≤ 40 := by rw [← hy, ← hY]; exact M.whole_len _
  obtain ⟨na, hna⟩ : ∃ na, t + 1 + x + 1 + n2 = na := ⟨_, rfl⟩
  obtain ⟨nb, hnb⟩ : ∃ nb, t + 1 + y + 1 + n2 = nb := ⟨_, rfl⟩
  obtain ⟨b0, b1⟩ := and_one (how / 2)
  obtain ⟨bs, hbs⟩ : ∃ b, bits .and .i64 (how / 2) 1 = b := ⟨_, rfl⟩
  rw [hbs] at b0 b1
  obtain ⟨hd, tl, hhd, htl, hcl⟩ := M.closed_levels (base := bs) (b := 20) (by omega) b0 b1 T l2
  obtain ⟨XX, hXX, hP⟩ := hcl X bx
  obtain ⟨YY, hYY, hQ⟩ := hcl Y by'
  obtain ⟨P, hPP⟩ : ∃ P, hd ++ (XX ++ tl) = P := ⟨_, rfl⟩
  obtain ⟨Q, hQQ⟩ : ∃ Q, hd ++ (YY ++ tl) = Q := ⟨_, rfl⟩
  rw [hPP] at hP
  rw [hQQ] at hQ
  have HAH := Lib.hid (show ∀ j, j ≤ t → ∃ y, P[j]? = some y ∧ Q[j]? = some y by
    intro j hj
    rw [← hPP, ← hQQ]
    exact M.closed_ahead (by omega))
  have HBE := Lib.hid (show ∀ i k1 k2, i ≤ n2 → k1 + 1 + i = na → k2 + 1 + i = nb → ∃ y, P[k1]? = some y ∧ Q[k2]? = some y by
    intro i k1 k2 hi g1 g2
    rw [← hPP, ← hQQ]
    refine M.closed_behind (i := i) (by omega) ?_ ?_
    · rw [g1]; simp only [List.length_append]; omega
    · rw [g2]; simp only [List.length_append]; omega)
  have HEa := Lib.hid (show M.levels (M.about T 20 X l2) bs = some (M.run bs (M.fresh bs) (M.about T 20 X l2)) by unfold M.levels; rw [if_neg (by omega), if_neg (by omega)])
  have HEb := Lib.hid (show M.levels (M.about T 20 Y l2) bs = some (M.run bs (M.fresh bs) (M.about T 20 Y l2)) by unfold M.levels; rw [if_neg (by omega), if_neg (by omega)])
  have HRLa := Lib.hid (M.run_len bs (M.fresh bs) (M.about T 20 X l2))
  have HRLb := Lib.hid (M.run_len bs (M.fresh bs) (M.about T 20 Y l2))
  have HPa := Lib.hid hP
  have HPb := Lib.hid hQ
  clear hP hQ hhd htl hcl hXX hYY hPP hQQ
  have na1 : (t : Int) + n2 + 2 ≤ na := by omega
  have nb1 : (t : Int) + n2 + 2 ≤ nb := by omega
  have a1' : na ≤ 600 := by omega
  have b1' : nb ≤ 600 := by omega
  obtain ⟨W0, hW0⟩ : ∃ W, w.alloc (.cells #[.slice A0 n0 y0, .slice A1 n1 y1, .slice A2 n2 y2] 38) = W := ⟨_, rfl⟩
  have hb0 : Below w.heap.size w W0 := by rw [← hW0]; exact (Below.refl _ _).alloc (Nat.le_refl _) _
  have hs0 : W0.heap.size = w.heap.size + 1 := by rw [← hW0]; simp
  have d0 : W0.cell? ⟨w.heap.size, 0, none⟩ = some (.slice A0 n0 y0) := by rw [← hW0]; simp [go_sem]
  have d1 : W0.cell? ⟨w.heap.size, 1, none⟩ = some (.slice A1 n1 y1) := by rw [← hW0]; simp [go_sem]
  have d2 : W0.cell? ⟨w.heap.size, 2, none⟩ = some (.slice A2 n2 y2) := by rw [← hW0]; simp [go_sem]
  have HB0 := Lib.hid hb0
  have HW0 := Lib.hid hW0
  have HN0 := Lib.hid N0
  have HN2 := Lib.hid N2
  have HTL := Lib.hid ht
  have HXL := Lib.hid hx
  have HYL := Lib.hid hy
  have HL2 := Lib.hid e2
  have HKa := Lib.hid hna
  have HKb := Lib.hid hnb
  have HLa := Lib.hid (show (M.about T 20 X l2).length = na by rw [M.about_len, ht, hx, e2, hna])
  have HLb := Lib.hid (show (M.about T 20 Y l2).length = nb by rw [M.about_len, ht, hy, e2, hnb])
  have HX := Lib.hid hX
  have HY := Lib.hid hY
  have HBX := Lib.hid bx
  have HBY := Lib.hid by'
  have HR0 := Lib.hid ((r0.below hb0).more hb0.size)
  have HR1 := Lib.hid ((r1.below hb0).more hb0.size)
  have HR2 := Lib.hid ((r2.below hb0).more hb0.size)
  have HR3 := Lib.hid ((r3.below hb0).more hb0.size)
  have HE1 := Lib.hid e1
  have HE3 := Lib.hid e3
  have HE0 := Lib.hid e0
  have HT := Lib.hid hT
  have HD2 := Lib.hid d2
  have HD0 := Lib.hid d0
  have s1 : n1 ≤ 1000 := by omega
  have s3 : n3 ≤ 1000 := by omega
  have s0 : n0 ≤ 1000 := by omega
  clear r0 r1 r2 r3 e0 e1 e2 e3 hT hX hY ht hx hy bx by' hna hnb N0 N2 hb0 hn hn3
  go_enter Try.func6, Try.ntmps6
  go_wp2_with fail
  refine (whole_any A1 y1 n1 l1 W0 HR1.out HE1.out s1).mono ?_
  rintro r w1 ⟨vX, rfl, hox, hb1⟩
  rw [HX.out] at hox
  obtain ⟨AX, cX, rfl, hrX, _, _, hnX⟩ := reads_own hox
  rw [HXL.out]
  have HXw1 := Lib.hid hrX
  have HNX := Lib.hid hnX
  have HB1 := Lib.hid hb1
  have hs1 := hb1.size
  have HR3w1 := Lib.hid ((HR3.out.below hb1).more hb1.size)
  clear hox hrX hnX hb1
  go_wp2_with fail
  refine (whole_any A3 y3 n3 l3 w1 HR3w1.out HE3.out s3).mono ?_
  rintro r w2 ⟨vY, rfl, hoy, hb2⟩
  rw [HY.out] at hoy
  obtain ⟨AY, cY, rfl, hrY, _, _, hnY⟩ := reads_own hoy
  rw [HYL.out]
  have HYw2 := Lib.hid hrY
  have HNY := Lib.hid hnY
  have hs2 := hb2.size
  have HXw2 := Lib.hid ((HXw1.out.below hb2).more hb2.size)
  have hb02 : Below W0.heap.size W0 w2 := HB1.out.trans (hb2.mono HB1.out.size)
  have HB2 := Lib.hid (HB0.out.trans (hb02.mono HB0.out.size))
  have x0 : w2.cell? ⟨w.heap.size, 0, none⟩ = some (.slice A0 n0 y0) := (hb02.cell (p := ⟨w.heap.size, 0, none⟩) (show w.heap.size < W0.heap.size by omega)).trans HD0.out
  have HDw2 := Lib.hid ((hb02.cell (p := ⟨w.heap.size, 2, none⟩) (show w.heap.size < W0.heap.size by omega)).trans HD2.out)
  have HTw2 := Lib.hid (show RdS .i64 w2 w2.heap.size A0 T by rw [← HT.out]; exact ((HR0.out.below hb02).more hb02.size).take 20)
  have HZw2 := Lib.hid ((HR2.out.below hb02).more hb02.size)
  clear hoy hrY hnY hb2 hb02
  go_wp2_with fail
  refine (part_any A0 y0 n0 l0 w2 HE0.out s0 c0).mono ?_
  rintro r w2 ⟨rfl, rfl⟩
  rw [HT.out, HTL.out]
  clear d0 d1 d2 x0
  go_wp2_with (at_builtin; refine wpList_append_rd _ rfl _ _ 22 rfl w2.heap.size 34 i0 (.int .i64 0) 8 Try.underlying22 hi0 hz0 hz1 hz2 rfl _ 0 [] rfl (World.ownsRow_lit w2 #[] 0 (Nat.le_refl _) (Nat.zero_le _) rfl) .i64 w2.heap.size A0 y0 T (by rw [HTL.out]; rfl) (HTw2.out.keep (fun p hp => World.cell?_alloc_lt w2 _ p (by omega))) HN0.out (by rw [HTL.out]; unfold maxLen; omega) (by rw [HTL.out]; omega) (by simp) ?_)
  intro va1 a1 ho hg
  have hb : Below w2.heap.size w2 a1 := grow_below0 ((Below.refl _ _).alloc (Nat.le_refl _) _) (World.ownsRow_lit w2 #[] 0 (Nat.le_refl _) (Nat.zero_le _) rfl) hg (by simp)
  have HOa1 := Lib.hid (show a1.ownsRow w2.heap.size 34 1 va1 (t) ((T).map (Value.int .i64)) by rw [HTL.out] at ho; simpa using ho)
  have hsa1 := hb.size
  have HBa1 := Lib.hid hb
  clear ho hg hb
  go_wp2_with (at_builtin; refine wpList_append_own _ rfl _ _ 22 rfl w2.heap.size 34 i0 (.int .i64 0) 1 8 Try.underlying22 hi0 hz0 hz1 hz2 rfl (by decide) _ _ _ rfl (World.ownsRow.alloc HOa1.out _) ⟨a1.heap.size, 0, none⟩ 1 1 [.int .i64 20] rfl rfl (one_new _ _ _) one_cell (by unfold maxLen; omega) (by omega) (by simp; omega) ?_)
  intro va2 a2 ho hg _
  have hb : Below w2.heap.size w2 a2 := (HBa1.out.alloc hsa1 _).grown hg (by simp; omega) (fun q hq => (World.ownsRow.lt HOa1.out q hq).1)
  have HOa2 := Lib.hid (show a2.ownsRow w2.heap.size 34 1 va2 (t + 1) ((T ++ [20]).map (Value.int .i64)) by simpa using ho)
  have hsa2 := hb.size
  have HBa2 := Lib.hid hb
  clear ho hg hb
  go_wp2_with (at_builtin; refine wpList_append_rd _ rfl _ _ 22 rfl w2.heap.size 34 i0 (.int .i64 0) 8 Try.underlying22 hi0 hz0 hz1 hz2 rfl _ (t + 1) _ rfl HOa2.out .i64 w2.heap.size AX cX X (by rw [HXL.out]; rfl) (HXw2.out.below HBa2.out) HNX.out (by rw [HXL.out]; unfold maxLen; omega) (by rw [HXL.out]; omega) hsa2 ?_)
  intro va3 a3 ho hg
  have hb : Below w2.heap.size w2 a3 := grow_below0 HBa2.out HOa2.out hg hsa2
  have HOa3 := Lib.hid (show a3.ownsRow w2.heap.size 34 1 va3 (t + 1 + x) ((T ++ [20] ++ X).map (Value.int .i64)) by rw [HXL.out] at ho; simpa using ho)
  have hsa3 := hb.size
  have HBa3 := Lib.hid hb
  clear ho hg hb
  go_wp2_with (at_builtin; refine wpList_append_own _ rfl _ _ 22 rfl w2.heap.size 34 i0 (.int .i64 0) 1 8 Try.underlying22 hi0 hz0 hz1 hz2 rfl (by decide) _ _ _ rfl (World.ownsRow.alloc HOa3.out _) ⟨a3.heap.size, 0, none⟩ 1 1 [.int .i64 22] rfl rfl (one_new _ _ _) one_cell (by unfold maxLen; omega) (by omega) (by simp; omega) ?_)
  intro va4 a4 ho hg _
  have hb : Below w2.heap.size w2 a4 := (HBa3.out.alloc hsa3 _).grown hg (by simp; omega) (fun q hq => (World.ownsRow.lt HOa3.out q hq).1)
  have HOa4 := Lib.hid (show a4.ownsRow w2.heap.size 34 1 va4 (t + 1 + x + 1) ((T ++ [20] ++ X ++ [22]).map (Value.int .i64)) by simpa using ho)
  have hsa4 := hb.size
  have HBa4 := Lib.hid hb
  clear ho hg hb
  have xza : a4.cell? ⟨w.heap.size, 2, none⟩ = some (.slice A2 n2 y2) := (HBa4.out.cell (p := ⟨w.heap.size, 2, none⟩) (show w.heap.size < w2.heap.size by omega)).trans HDw2.out
  go_wp2_with (at_builtin; refine wpList_append_rd _ rfl _ _ 22 rfl w2.heap.size 34 i0 (.int .i64 0) 8 Try.underlying22 hi0 hz0 hz1 hz2 rfl _ (t + 1 + x + 1) _ rfl HOa4.out .i64 w2.heap.size A2 y2 l2 (by rw [HL2.out]; rfl) (HZw2.out.below HBa4.out) HN2.out (by rw [HL2.out]; unfold maxLen; omega) (by rw [HL2.out]; omega) hsa4 ?_)
  intro va5 a5 ho hg
  have hb : Below w2.heap.size w2 a5 := grow_below0 HBa4.out HOa4.out hg hsa4
  have HOa5 := Lib.hid (show a5.ownsRow w2.heap.size 34 1 va5 (t + 1 + x + 1 + n2) ((T ++ [20] ++ X ++ [22] ++ l2).map (Value.int .i64)) by rw [HL2.out] at ho; simpa using ho)
  have hsa5 := hb.size
  have HBa5 := Lib.hid hb
  clear ho hg hb
  have ho5 := HOa5.out
  rw [M.about_made, HKa.out, ← HLa.out] at ho5
  obtain ⟨Aa, ca, rfl, hra, _, _, _⟩ := reads_own (l := M.about T 20 X l2) ho5
  rw [HLa.out]
  have HRa := Lib.hid hra
  clear ho5 hra xza
  have HTa5 := Lib.hid ((HTw2.out.below HBa5.out).more hsa5)
  have HYa5 := Lib.hid ((HYw2.out.below HBa5.out).more hsa5)
  have HZa5 := Lib.hid ((HZw2.out.below HBa5.out).more hsa5)
  have HDa5 := Lib.hid ((HBa5.out.cell (p := ⟨w.heap.size, 2, none⟩) (show w.heap.size < w2.heap.size by omega)).trans HDw2.out)
  go_wp2_with (at_builtin; refine wpList_append_rd _ rfl _ _ 22 rfl a5.heap.size 34 i0 (.int .i64 0) 8 Try.underlying22 hi0 hz0 hz1 hz2 rfl _ 0 [] rfl (World.ownsRow_lit a5 #[] 0 (Nat.le_refl _) (Nat.zero_le _) rfl) .i64 a5.heap.size A0 y0 T (by rw [HTL.out]; rfl) (HTa5.out.keep (fun p hp => World.cell?_alloc_lt a5 _ p (by omega))) HN0.out (by rw [HTL.out]; unfold maxLen; omega) (by rw [HTL.out]; omega) (by simp) ?_)
  intro vb1 b1 ho hg
  have hb : Below a5.heap.size a5 b1 := grow_below0 ((Below.refl _ _).alloc (Nat.le_refl _) _) (World.ownsRow_lit a5 #[] 0 (Nat.le_refl _) (Nat.zero_le _) rfl) hg (by simp)
  have HOb1 := Lib.hid (show b1.ownsRow a5.heap.size 34 1 vb1 (t) ((T).map (Value.int .i64)) by rw [HTL.out] at ho; simpa using ho)
  have hsb1 := hb.size
  have HBb1 := Lib.hid hb
  clear ho hg hb
  go_wp2_with (at_builtin; refine wpList_append_own _ rfl _ _ 22 rfl a5.heap.size 34 i0 (.int .i64 0) 1 8 Try.underlying22 hi0 hz0 hz1 hz2 rfl (by decide) _ _ _ rfl (World.ownsRow.alloc HOb1.out _) ⟨b1.heap.size, 0, none⟩ 1 1 [.int .i64 20] rfl rfl (one_new _ _ _) one_cell (by unfold maxLen; omega) (by omega) (by simp; omega) ?_)
  intro vb2 b2 ho hg _
  have hb : Below a5.heap.size a5 b2 := (HBb1.out.alloc hsb1 _).grown hg (by simp; omega) (fun q hq => (World.ownsRow.lt HOb1.out q hq).1)
  have HOb2 := Lib.hid (show b2.ownsRow a5.heap.size 34 1 vb2 (t + 1) ((T ++ [20]).map (Value.int .i64)) by simpa using ho)
  have hsb2 := hb.size
  have HBb2 := Lib.hid hb
  clear ho hg hb
  go_wp2_with (at_builtin; refine wpList_append_rd _ rfl _ _ 22 rfl a5.heap.size 34 i0 (.int .i64 0) 8 Try.underlying22 hi0 hz0 hz1 hz2 rfl _ (t + 1) _ rfl HOb2.out .i64 a5.heap.size AY cY Y (by rw [HYL.out]; rfl) (HYa5.out.below HBb2.out) HNY.out (by rw [HYL.out]; unfold maxLen; omega) (by rw [HYL.out]; omega) hsb2 ?_)
  intro vb3 b3 ho hg
  have hb : Below a5.heap.size a5 b3 := grow_below0 HBb2.out HOb2.out hg hsb2
  have HOb3 := Lib.hid (show b3.ownsRow a5.heap.size 34 1 vb3 (t + 1 + y) ((T ++ [20] ++ Y).map (Value.int .i64)) by rw [HYL.out] at ho; simpa using ho)
  have hsb3 := hb.size
  have HBb3 := Lib.hid hb
  clear ho hg hb
  go_wp2_with (at_builtin; refine wpList_append_own _ rfl _ _ 22 rfl a5.heap.size 34 i0 (.int .i64 0) 1 8 Try.underlying22 hi0 hz0 hz1 hz2 rfl (by decide) _ _ _ rfl (World.ownsRow.alloc HOb3.out _) ⟨b3.heap.size, 0, none⟩ 1 1 [.int .i64 22] rfl rfl (one_new _ _ _) one_cell (by unfold maxLen; omega) (by omega) (by simp; omega) ?_)
  intro vb4 b4 ho hg _
  have hb : Below a5.heap.size a5 b4 := (HBb3.out.alloc hsb3 _).grown hg (by simp; omega) (fun q hq => (World.ownsRow.lt HOb3.out q hq).1)
  have HOb4 := Lib.hid (show b4.ownsRow a5.heap.size 34 1 vb4 (t + 1 + y + 1) ((T ++ [20] ++ Y ++ [22]).map (Value.int .i64)) by simpa using ho)
  have hsb4 := hb.size
  have HBb4 := Lib.hid hb
  clear ho hg hb
  have xzb : b4.cell? ⟨w.heap.size, 2, none⟩ = some (.slice A2 n2 y2) := (HBb4.out.cell (p := ⟨w.heap.size, 2, none⟩) (show w.heap.size < a5.heap.size by omega)).trans HDa5.out
  go_wp2_with (at_builtin; refine wpList_append_rd _ rfl _ _ 22 rfl a5.heap.size 34 i0 (.int .i64 0) 8 Try.underlying22 hi0 hz0 hz1 hz2 rfl _ (t + 1 + y + 1) _ rfl HOb4.out .i64 a5.heap.size A2 y2 l2 (by rw [HL2.out]; rfl) (HZa5.out.below HBb4.out) HN2.out (by rw [HL2.out]; unfold maxLen; omega) (by rw [HL2.out]; omega) hsb4 ?_)
  intro vb5 b5 ho hg
  have hb : Below a5.heap.size a5 b5 := grow_below0 HBb4.out HOb4.out hg hsb4
  have HOb5 := Lib.hid (show b5.ownsRow a5.heap.size 34 1 vb5 (t + 1 + y + 1 + n2) ((T ++ [20] ++ Y ++ [22] ++ l2).map (Value.int .i64)) by rw [HL2.out] at ho; simpa using ho)
  have hsb5 := hb.size
  have HBb5 := Lib.hid hb
  clear ho hg hb
  have ho5 := HOb5.out
  rw [M.about_made, HKb.out, ← HLb.out] at ho5
  obtain ⟨Ab, cb, rfl, hrb, _, _, _⟩ := reads_own (l := M.about T 20 Y l2) ho5
  rw [HLb.out]
  have HRb := Lib.hid hrb
  clear ho5 hrb xzb
  have HB5 := Lib.hid ((HB2.out.trans (HBa5.out.mono HB2.out.size)).trans (HBb5.out.mono (Nat.le_trans HB2.out.size hsa5)))
  have HRa5 := Lib.hid ((HRa.out.below HBb5.out).more hsb5)
  have HDb5 := Lib.hid ((HBb5.out.cell (p := ⟨w.heap.size, 2, none⟩) (show w.heap.size < a5.heap.size by omega)).trans HDa5.out)
  go_wp2_with fail
  refine (clevels_any Aa ca na (M.about T 20 X l2) bs b5 HRa5.out HLa.out (by omega)).mono ?_
  rintro r w6 hout
  rw [HEa.out] at hout
  obtain ⟨Ap, cp, Ad, cd, rfl, hrp, -, -, -, -, -, hb6, -, -⟩ := lev_rows hout
  rw [HRLa.out, HLa.out]
  rw [HPa.out] at hrp
  have HRP6 := Lib.hid hrp
  have HRb6 := Lib.hid ((HRb.out.below hb6).more hb6.size)
  have HB6 := Lib.hid (HB5.out.trans (hb6.mono HB5.out.size))
  have hs6 := hb6.size
  have HDw6 := Lib.hid ((hb6.cell (p := ⟨w.heap.size, 2, none⟩) (show w.heap.size < b5.heap.size by omega)).trans HDb5.out)
  clear hrp hb6 hout
  go_wp2_with fail
  refine (clevels_any Ab cb nb (M.about T 20 Y l2) bs w6 HRb6.out HLb.out (by omega)).mono ?_
  rintro r w7 hout
  rw [HEb.out] at hout
  obtain ⟨Aq, cq, Ae, ce, rfl, hrq, -, -, -, -, -, hb7, -, -⟩ := lev_rows hout
  rw [HRLb.out, HLb.out]
  rw [HPb.out] at hrq
  have HRQ := Lib.hid hrq
  have HRP := Lib.hid ((HRP6.out.below hb7).more hb7.size)
  have HB7 := Lib.hid (HB6.out.trans (hb7.mono HB6.out.size))
  have HD7 := Lib.hid ((hb7.cell (p := ⟨w.heap.size, 2, none⟩) (show w.heap.size < w6.heap.size by omega)).trans HDw6.out)
  have hs7 := hb7.size
  clear hrq hb7 hout
  go_wp2_with fail
  go_loopw [20] (fun i wr => ∃ j : Nat, i = .int .i64 j ∧ j ≤ t + 1 ∧ Below w7.heap.size w7 wr) (fun i _ => t + 1 - (intOf i).toNat)
  case atStart => exact ⟨0, rfl, Nat.zero_le _, Below.refl _ _⟩
  case round =>
    obtain ⟨j, rfl, hj, hbr⟩ := hrel
    have HBR := Lib.hid hbr
    by_cases hjt : j ≤ t
    · have j0 : (0 : Int) ≤ (j : Int) := by omega
      have j1 : (j : Int) ≤ (t : Int) := by omega
      have j2 : (j : Int) < (na : Int) := by omega
      have j3 : (j : Int) < (nb : Int) := by omega
      obtain ⟨lv, g1, g2⟩ := HAH.out j hjt
      obtain ⟨ad1, rfl, p1, x1'⟩ := HRP.out j lv g1
      obtain ⟨ad2, rfl, p2, x2'⟩ := HRQ.out j lv g2
      have z1 := (hbr.cell (p := ad1.add j) (by rw [addr_block]; exact p1)).trans x1'
      have z2 := (hbr.cell (p := ad2.add j) (by rw [addr_block]; exact p2)).trans x2'
      clear g1 g2 x1' x2' p1 p2 hbr
      go_wp2
      go_quiet (fail)
      go_wp2
      go_roundw
      case rel => exact ⟨j + 1, by go_num, by omega, by first | exact HBR.out.drew | exact drewN_below HBR.out _⟩
      case measure => simp [intOf]; omega
    · obtain rfl : j = t + 1 := by omega
      have j1 : ¬ ((t + 1 : Nat) : Int) ≤ (t : Int) := by omega
      have hsr := hbr.size
      clear hbr
      have d8 := (HBR.out.cell (p := ⟨w.heap.size, 2, none⟩) (show w.heap.size < w7.heap.size by omega)).trans HD7.out
      have HD8 := Lib.hid d8
      clear d8
      rename World => w8
      go_wp2_with fail
      go_loopw [21] (fun i wr => ∃ j : Nat, i = .int .i64 j ∧ j ≤ n2 + 1 ∧ Below w8.heap.size w8 wr) (fun i _ => n2 + 1 - (intOf i).toNat)
      case atStart => exact ⟨0, rfl, Nat.zero_le _, Below.refl _ _⟩
      case round =>
        obtain ⟨j, rfl, hj, hbs⟩ := hrel
        have HBS := Lib.hid hbs
        have z0 : wr.cell? ⟨w.heap.size, 2, none⟩ = some (.slice A2 n2 y2) := (hbs.cell (p := ⟨w.heap.size, 2, none⟩) (show w.heap.size < w8.heap.size by omega)).trans HD8.out
        by_cases hjt : j ≤ n2
        · obtain ⟨k1, hk1⟩ : ∃ k1 : Nat, (na : Int) - 1 - (j : Int) = (k1 : Int) := ⟨na - 1 - j, by omega⟩
          obtain ⟨k2, hk2⟩ : ∃ k2 : Nat, (nb : Int) - 1 - (j : Int) = (k2 : Int) := ⟨nb - 1 - j, by omega⟩
          have j1 : (j : Int) ≤ (n2 : Int) := by omega
          have j0 : (0 : Int) ≤ (j : Int) := by omega
          have j2 : (k1 : Int) < (na : Int) := by omega
          have j3 : (k2 : Int) < (nb : Int) := by omega
          have j4 : (0 : Int) ≤ (k1 : Int) := by omega
          have j5 : (0 : Int) ≤ (k2 : Int) := by omega
          obtain ⟨lv, g1, g2⟩ := HBE.out j k1 k2 hjt (by omega) (by omega)
          obtain ⟨ad1, rfl, p1, x1'⟩ := HRP.out k1 lv g1
          obtain ⟨ad2, rfl, p2, x2'⟩ := HRQ.out k2 lv g2
          have z1 := ((HBR.out.trans (hbs.mono HBR.out.size)).cell (p := ad1.add k1) (by rw [addr_block]; exact p1)).trans x1'
          have z2 := ((HBR.out.trans (hbs.mono HBR.out.size)).cell (p := ad2.add k2) (by rw [addr_block]; exact p2)).trans x2'
          clear g1 g2 x1' x2' p1 p2 hbs
          go_wp2
          go_quiet (fail)
          go_wp2
          go_roundw
          case rel => exact ⟨j + 1, by go_num, by omega, by first | exact HBS.out.drew | exact drewN_below HBS.out _⟩
          case measure => simp [intOf]; omega
        · obtain rfl : j = n2 + 1 := by omega
          have j1 : ¬ ((n2 + 1 : Nat) : Int) ≤ (n2 : Int) := by omega
          go_wp2_with fail
          refine (alive_any _).mono ?_
          rintro r w9 ⟨rfl, hb9⟩
          have HB8 := Lib.hid (HB7.out.trans (HBR.out.mono HB7.out.size))
          have HB9 := Lib.hid (HB8.out.trans (hbs.mono HB8.out.size))
          have HB10 := Lib.hid (HB9.out.trans (hb9.mono HB9.out.size))
          clear hb9 hbs
          go_wp2_with fail
          go_ret
          exact ⟨rfl, HB10.out⟩
set_option maxRecDepth 100000 in
set_option maxHeartbeats 16000000 in
theorem closedShort_1 (A0 A1 A2 A3 : Option Addr) (y0 y1 y2 y3 n0 n1 n2 n3 : Nat) (l0 l1 l2 l3 : List Int) (how : Int) (w : World) (hn : n0 + n1 + n2 ≤ 400) (hn3 : n3 ≤ 400) (hbv : bits .and .i64 how 1 = 1)
    (r0 : RdS .i64 w w.heap.size A0 l0) (r1 : RdS .i64 w w.heap.size A1 l1) (r2 : RdS .i64 w w.heap.size A2 l2) (r3 : RdS .i64 w w.heap.size A3 l3) (e0 : l0.length = n0) (e1 : l1.length = n1) (e2 : l2.length = n2) (e3 : l3.length = n3)
    (c0 : n0 ≤ y0) (N0 : A0 = none → y0 = 0) (N2 : A2 = none → y2 = 0) :
    Calls Try.prog 6 #[.agg #[.slice A0 n0 y0, .slice A1 n1 y1, .slice A2 n2 y2], .slice A3 n3 y3, .int .i64 how] w fun r w' => r = .returned (.bool true) ∧ Below w.heap.size w w' := by
  obtain ⟨i0, hi0, hz0, hz1, hz2⟩ := info_parts Try.infoCls
  have q1 : (n0 : Int) + n1 + n2 ≤ 400 := by omega
  have q2 : (n3 : Int) ≤ 400 := by omega
  obtain ⟨T, hT⟩ : ∃ T, l0.take 20 = T := ⟨_, rfl⟩
  obtain ⟨X, hX⟩ : ∃ X, M.whole l1 = X := ⟨_, rfl⟩
  obtain ⟨Y, hY⟩ : ∃ Y, M.whole l3 = Y := ⟨_, rfl⟩
  obtain ⟨t, ht⟩ : ∃ t, T.length = t := ⟨_, rfl⟩
  obtain ⟨x, hx⟩ : ∃ x, X.length = x := ⟨_, rfl⟩
  obtain ⟨y, hy⟩ : ∃ y, Y.length = y := ⟨_, rfl⟩
  have bx : M.bal 0 X := by rw [← hX]; exact M.whole_bal _
  have by' : M.bal 0 Y := by rw [← hY]; exact M.whole_bal _
  have t1 : t ≤ 20 := by rw [← ht, ← hT, List.length_take]; omega
  have x1 : x ≤ 40 := by rw [← hx, ← hX]; exact M.whole_len _
  have y1' : y ≤ 40 := by rw [← hy, ← hY]; exact M.whole_len _
  obtain ⟨na, hna⟩ : ∃ na, t + 1 + x + 1 + n2 = na := ⟨_, rfl⟩
  obtain ⟨nb, hnb⟩ : ∃ nb, t + 1 + y + 1 + n2 = nb := ⟨_, rfl⟩
  obtain ⟨b0, b1⟩ := and_one (how / 2)
  obtain ⟨bs, hbs⟩ : ∃ b, bits .and .i64 (how / 2) 1 = b := ⟨_, rfl⟩
  rw [hbs] at b0 b1
  obtain ⟨hd, tl, hhd, htl, hcl⟩ := M.closed_levels (base := bs) (b := 19) (by omega) b0 b1 T l2
  obtain ⟨XX, hXX, hP⟩ := hcl X bx
  obtain ⟨YY, hYY, hQ⟩ := hcl Y by'
  obtain ⟨P, hPP⟩ : ∃ P, hd ++ (XX ++ tl) = P := ⟨_, rfl⟩
  obtain ⟨Q, hQQ⟩ : ∃ Q, hd ++ (YY ++ tl) = Q := ⟨_, rfl⟩
  rw [hPP] at hP
  rw [hQQ] at hQ
  have HAH := Lib.hid (show ∀ j, j ≤ t → ∃ y, P[j]? = some y ∧ Q[j]? = some y by
    intro j hj
    rw [← hPP, ← hQQ]
    exact M.closed_ahead (by omega))
  have HBE := Lib.hid (show ∀ i k1 k2, i ≤ n2 → k1 + 1 + i = na → k2 + 1 + i = nb → ∃ y, P[k1]? = some y ∧ Q[k2]? = some y by
    intro i k1 k2 hi g1 g2
    rw [← hPP, ← hQQ]
    refine M.closed_behind (i := i) (by omega) ?_ ?_
    · rw [g1]; simp only [List.length_append]; omega
    · rw [g2]; simp only [List.length_append]; omega)
  have HEa := Lib.hid (show M.levels (M.about T 19 X l2) bs = some (M.run bs (M.fresh bs) (M.about T 19 X l2)) by unfold M.levels; rw [if_neg (by omega), if_neg (by omega)])
  have HEb := Lib.hid (show M.levels (M.about T 19 Y l2) bs = some (M.run bs (M.fresh bs) (M.about T 19 Y l2)) by unfold M.levels; rw [if_neg (by omega), if_neg (by omega)])
  have HRLa := Lib.hid (M.run_len bs (M.fresh bs) (M.about T 19 X l2))
  have HRLb := Lib.hid (M.run_len bs (M.fresh bs) (M.about T 19 Y l2))
  have HPa := Lib.hid hP
  have HPb := Lib.hid hQ
  clear hP hQ hhd htl hcl hXX hYY hPP hQQ
  have na1 : (t : Int) + n2 + 2 ≤ na := by omega
  have nb1 : (t : Int) + n2 + 2 ≤ nb := by omega
  have a1' : na ≤ 600 := by omega
  have b1' : nb ≤ 600 := by omega
  obtain ⟨W0, hW0⟩ : ∃ W, w.alloc (.cells #[.slice A0 n0 y0, .slice A1 n1 y1, .slice A2 n2 y2] 38) = W := ⟨_, rfl⟩
  have hb0 : Below w.heap.size w W0 := by rw [← hW0]; exact (Below.refl _ _).alloc (Nat.le_refl _) _
  have hs0 : W0.heap.size = w.heap.size + 1 := by rw [← hW0]; simp
  have d0 : W0.cell? ⟨w.heap.size, 0, none⟩ = some (.slice A0 n0 y0) := by rw [← hW0]; simp [go_sem]
  have d1 : W0.cell? ⟨w.heap.size, 1, none⟩ = some (.slice A1 n1 y1) := by rw [← hW0]; simp [go_sem]
  have d2 : W0.cell? ⟨w.heap.size, 2, none⟩ = some (.slice A2 n2 y2) := by rw [← hW0]; simp [go_sem]
  have HB0 := Lib.hid hb0
  have HW0 := Lib.hid hW0
  have HN0 := Lib.hid N0
  have HN2 := Lib.hid N2
  have HTL := Lib.hid ht
  have HXL := Lib.hid hx
  have HYL := Lib.hid hy
  have HL2 := Lib.hid e2
  have HKa := Lib.hid hna
  have HKb := Lib.hid hnb
  have HLa := Lib.hid (show (M.about T 19 X l2).length = na by rw [M.about_len, ht, hx, e2, hna])
  have HLb := Lib.hid (show (M.about T 19 Y l2).length = nb by rw [M.about_len, ht, hy, e2, hnb])
  have HX := Lib.hid hX
  have HY := Lib.hid hY
  have HBX := Lib.hid bx
  have HBY := Lib.hid by'
  have HR0 := Lib.hid ((r0.below hb0).more hb0.size)
  have HR1 := Lib.hid ((r1.below hb0).more hb0.size)
  have HR2 := Lib.hid ((r2.below hb0).more hb0.size)
  have HR3 := Lib.hid ((r3.below hb0).more hb0.size)
  have HE1 := Lib.hid e1
  have HE3 := Lib.hid e3
  have HE0 := Lib.hid e0
  have HT := Lib.hid hT
  have HD2 := Lib.hid d2
  have HD0 := Lib.hid d0
  have s1 : n1 ≤ 1000 := by omega
  have s3 : n3 ≤ 1000 := by omega
  have s0 : n0 ≤ 1000 := by omega
  clear r0 r1 r2 r3 e0 e1 e2 e3 hT hX hY ht hx hy bx by' hna hnb N0 N2 hb0 hn hn3
  go_enter Try.func6, Try.ntmps6
  go_wp2_with fail
  refine (whole_any A1 y1 n1 l1 W0 HR1.out HE1.out s1).mono ?_
  rintro r w1 ⟨vX, rfl, hox, hb1⟩
  rw [HX.out] at hox
  obtain ⟨AX, cX, rfl, hrX, _, _, hnX⟩ := reads_own hox
  rw [HXL.out]
  have HXw1 := Lib.hid hrX
  have HNX := Lib.hid hnX
  have HB1 := Lib.hid hb1
  have hs1 := hb1.size
  have HR3w1 := Lib.hid ((HR3.out.below hb1).more hb1.size)
  clear hox hrX hnX hb1
  go_wp2_with fail
  refine (whole_any A3 y3 n3 l3 w1 HR3w1.out HE3.out s3).mono ?_
  rintro r w2 ⟨vY, rfl, hoy, hb2⟩
  rw [HY.out] at hoy
  obtain ⟨AY, cY, rfl, hrY, _, _, hnY⟩ := reads_own hoy
  rw [HYL.out]
  have HYw2 := Lib.hid hrY
  have HNY := Lib.hid hnY
  have hs2 := hb2.size
  have HXw2 := Lib.hid ((HXw1.out.below hb2).more hb2.size)
  have hb02 : Below W0.heap.size W0 w2 := HB1.out.trans (hb2.mono HB1.out.size)
  have HB2 := Lib.hid (HB0.out.trans (hb02.mono HB0.out.size))
  have x0 : w2.cell? ⟨w.heap.size, 0, none⟩ = some (.slice A0 n0 y0) := (hb02.cell (p := ⟨w.heap.size, 0, none⟩) (show w.heap.size < W0.heap.size by omega)).trans HD0.out
  have HDw2 := Lib.hid ((hb02.cell (p := ⟨w.heap.size, 2, none⟩) (show w.heap.size < W0.heap.size by omega)).trans HD2.out)
  have HTw2 := Lib.hid (show RdS .i64 w2 w2.heap.size A0 T by rw [← HT.out]; exact ((HR0.out.below hb02).more hb02.size).take 20)
  have HZw2 := Lib.hid ((HR2.out.below hb02).more hb02.size)
  clear hoy hrY hnY hb2 hb02
  go_wp2_with fail
  refine (part_any A0 y0 n0 l0 w2 HE0.out s0 c0).mono ?_
  rintro r w2 ⟨rfl, rfl⟩
  rw [HT.out, HTL.out]
  clear d0 d1 d2 x0
  go_wp2_with (at_builtin; refine wpList_append_rd _ rfl _ _ 22 rfl w2.heap.size 34 i0 (.int .i64 0) 8 Try.underlying22 hi0 hz0 hz1 hz2 rfl _ 0 [] rfl (World.ownsRow_lit w2 #[] 0 (Nat.le_refl _) (Nat.zero_le _) rfl) .i64 w2.heap.size A0 y0 T (by rw [HTL.out]; rfl) (HTw2.out.keep (fun p hp => World.cell?_alloc_lt w2 _ p (by omega))) HN0.out (by rw [HTL.out]; unfold maxLen; omega) (by rw [HTL.out]; omega) (by simp) ?_)
  intro va1 a1 ho hg
  have hb : Below w2.heap.size w2 a1 := grow_below0 ((Below.refl _ _).alloc (Nat.le_refl _) _) (World.ownsRow_lit w2 #[] 0 (Nat.le_refl _) (Nat.zero_le _) rfl) hg (by simp)
  have HOa1 := Lib.hid (show a1.ownsRow w2.heap.size 34 1 va1 (t) ((T).map (Value.int .i64)) by rw [HTL.out] at ho; simpa using ho)
  have hsa1 := hb.size
  have HBa1 := Lib.hid hb
  clear ho hg hb
  go_wp2_with (at_builtin; refine wpList_append_own _ rfl _ _ 22 rfl w2.heap.size 34 i0 (.int .i64 0) 1 8 Try.underlying22 hi0 hz0 hz1 hz2 rfl (by decide) _ _ _ rfl (World.ownsRow.alloc HOa1.out _) ⟨a1.heap.size, 0, none⟩ 1 1 [.int .i64 19] rfl rfl (one_new _ _ _) one_cell (by unfold maxLen; omega) (by omega) (by simp; omega) ?_)
  intro va2 a2 ho hg _
  have hb : Below w2.heap.size w2 a2 := (HBa1.out.alloc hsa1 _).grown hg (by simp; omega) (fun q hq => (World.ownsRow.lt HOa1.out q hq).1)
  have HOa2 := Lib.hid (show a2.ownsRow w2.heap.size 34 1 va2 (t + 1) ((T ++ [19]).map (Value.int .i64)) by simpa using ho)
  have hsa2 := hb.size
  have HBa2 := Lib.hid hb
  clear ho hg hb
  go_wp2_with (at_builtin; refine wpList_append_rd _ rfl _ _ 22 rfl w2.heap.size 34 i0 (.int .i64 0) 8 Try.underlying22 hi0 hz0 hz1 hz2 rfl _ (t + 1) _ rfl HOa2.out .i64 w2.heap.size AX cX X (by rw [HXL.out]; rfl) (HXw2.out.below HBa2.out) HNX.out (by rw [HXL.out]; unfold maxLen; omega) (by rw [HXL.out]; omega) hsa2 ?_)
  intro va3 a3 ho hg
  have hb : Below w2.heap.size w2 a3 := grow_below0 HBa2.out HOa2.out hg hsa2
  have HOa3 := Lib.hid (show a3.ownsRow w2.heap.size 34 1 va3 (t + 1 + x) ((T ++ [19] ++ X).map (Value.int .i64)) by rw [HXL.out] at ho; simpa using ho)
  have hsa3 := hb.size
  have HBa3 := Lib.hid hb
  clear ho hg hb
  go_wp2_with (at_builtin; refine wpList_append_own _ rfl _ _ 22 rfl w2.heap.size 34 i0 (.int .i64 0) 1 8 Try.underlying22 hi0 hz0 hz1 hz2 rfl (by decide) _ _ _ rfl (World.ownsRow.alloc HOa3.out _) ⟨a3.heap.size, 0, none⟩ 1 1 [.int .i64 22] rfl rfl (one_new _ _ _) one_cell (by unfold maxLen; omega) (by omega) (by simp; omega) ?_)
  intro va4 a4 ho hg _
  have hb : Below w2.heap.size w2 a4 := (HBa3.out.alloc hsa3 _).grown hg (by simp; omega) (fun q hq => (World.ownsRow.lt HOa3.out q hq).1)
  have HOa4 := Lib.hid (show a4.ownsRow w2.heap.size 34 1 va4 (t + 1 + x + 1) ((T ++ [19] ++ X ++ [22]).map (Value.int .i64)) by simpa using ho)
  have hsa4 := hb.size
  have HBa4 := Lib.hid hb
  clear ho hg hb
  have xza : a4.cell? ⟨w.heap.size, 2, none⟩ = some (.slice A2 n2 y2) := (HBa4.out.cell (p := ⟨w.heap.size, 2, none⟩) (show w.heap.size < w2.heap.size by omega)).trans HDw2.out
  go_wp2_with (at_builtin; refine wpList_append_rd _ rfl _ _ 22 rfl w2.heap.size 34 i0 (.int .i64 0) 8 Try.underlying22 hi0 hz0 hz1 hz2 rfl _ (t + 1 + x + 1) _ rfl HOa4.out .i64 w2.heap.size A2 y2 l2 (by rw [HL2.out]; rfl) (HZw2.out.below HBa4.out) HN2.out (by rw [HL2.out]; unfold maxLen; omega) (by rw [HL2.out]; omega) hsa4 ?_)
  intro va5 a5 ho hg
  have hb : Below w2.heap.size w2 a5 := grow_below0 HBa4.out HOa4.out hg hsa4
  have HOa5 := Lib.hid (show a5.ownsRow w2.heap.size 34 1 va5 (t + 1 + x + 1 + n2) ((T ++ [19] ++ X ++ [22] ++ l2).map (Value.int .i64)) by rw [HL2.out] at ho; simpa using ho)
  have hsa5 := hb.size
  have HBa5 := Lib.hid hb
  clear ho hg hb
  have ho5 := HOa5.out
  rw [M.about_made, HKa.out, ← HLa.out] at ho5
  obtain ⟨Aa, ca, rfl, hra, _, _, _⟩ := reads_own (l := M.about T 19 X l2) ho5
  rw [HLa.out]
  have HRa := Lib.hid hra
  clear ho5 hra xza
  have HTa5 := Lib.hid ((HTw2.out.below HBa5.out).more hsa5)
  have HYa5 := Lib.hid ((HYw2.out.below HBa5.out).more hsa5)
  have HZa5 := Lib.hid ((HZw2.out.below HBa5.out).more hsa5)
  have HDa5 := Lib.hid ((HBa5.out.cell (p := ⟨w.heap.size, 2, none⟩) (show w.heap.size < w2.heap.size by omega)).trans HDw2.out)
  go_wp2_with (at_builtin; refine wpList_append_rd _ rfl _ _ 22 rfl a5.heap.size 34 i0 (.int .i64 0) 8 Try.underlying22 hi0 hz0 hz1 hz2 rfl _ 0 [] rfl (World.ownsRow_lit a5 #[] 0 (Nat.le_refl _) (Nat.zero_le _) rfl) .i64 a5.heap.size A0 y0 T (by rw [HTL.out]; rfl) (HTa5.out.keep (fun p hp => World.cell?_alloc_lt a5 _ p (by omega))) HN0.out (by rw [HTL.out]; unfold maxLen; omega) (by rw [HTL.out]; omega) (by simp) ?_)
  intro vb1 b1 ho hg
  have hb : Below a5.heap.size a5 b1 := grow_below0 ((Below.refl _ _).alloc (Nat.le_refl _) _) (World.ownsRow_lit a5 #[] 0 (Nat.le_refl _) (Nat.zero_le _) rfl) hg (by simp)
  have HOb1 := Lib.hid (show b1.ownsRow a5.heap.size 34 1 vb1 (t) ((T).map (Value.int .i64)) by rw [HTL.out] at ho; simpa using ho)
  have hsb1 := hb.size
  have HBb1 := Lib.hid hb
  clear ho hg hb
  go_wp2_with (at_builtin; refine wpList_append_own _ rfl _ _ 22 rfl a5.heap.size 34 i0 (.int .i64 0) 1 8 Try.underlying22 hi0 hz0 hz1 hz2 rfl (by decide) _ _ _ rfl (World.ownsRow.alloc HOb1.out _) ⟨b1.heap.size, 0, none⟩ 1 1 [.int .i64 19] rfl rfl (one_new _ _ _) one_cell (by unfold maxLen; omega) (by omega) (by simp; omega) ?_)
  intro vb2 b2 ho hg _
  have hb : Below a5.heap.size a5 b2 := (HBb1.out.alloc hsb1 _).grown hg (by simp; omega) (fun q hq => (World.ownsRow.lt HOb1.out q hq).1)
  have HOb2 := Lib.hid (show b2.ownsRow a5.heap.size 34 1 vb2 (t + 1) ((T ++ [19]).map (Value.int .i64)) by simpa using ho)
  have hsb2 := hb.size
  have HBb2 := Lib.hid hb
  clear ho hg hb
  go_wp2_with (at_builtin; refine wpList_append_rd _ rfl _ _ 22 rfl a5.heap.size 34 i0 (.int .i64 0) 8 Try.underlying22 hi0 hz0 hz1 hz2 rfl _ (t + 1) _ rfl HOb2.out .i64 a5.heap.size AY cY Y (by rw [HYL.out]; rfl) (HYa5.out.below HBb2.out) HNY.out (by rw [HYL.out]; unfold maxLen; omega) (by rw [HYL.out]; omega) hsb2 ?_)
  intro vb3 b3 ho hg
  have hb : Below a5.heap.size a5 b3 := grow_below0 HBb2.out HOb2.out hg hsb2
  have HOb3 := Lib.hid (show b3.ownsRow a5.heap.size 34 1 vb3 (t + 1 + y) ((T ++ [19] ++ Y).map (Value.int .i64)) by rw [HYL.out] at ho; simpa using ho)
  have hsb3 := hb.size
  have HBb3 := Lib.hid hb
  clear ho hg hb
  go_wp2_with (at_builtin; refine wpList_append_own _ rfl _ _ 22 rfl a5.heap.size 34 i0 (.int .i64 0) 1 8 Try.underlying22 hi0 hz0 hz1 hz2 rfl (by decide) _ _ _ rfl (World.ownsRow.alloc HOb3.out _) ⟨b3.heap.size, 0, none⟩ 1 1 [.int .i64 22] rfl rfl (one_new _ _ _) one_cell (by unfold maxLen; omega) (by omega) (by simp; omega) ?_)
  intro vb4 b4 ho hg _
  have hb : Below a5.heap.size a5 b4 := (HBb3.out.alloc hsb3 _).grown hg (by simp; omega) (fun q hq => (World.ownsRow.lt HOb3.out q hq).1)
  have HOb4 := Lib.hid (show b4.ownsRow a5.heap.size 34 1 vb4 (t + 1 + y + 1) ((T ++ [19] ++ Y ++ [22]).map (Value.int .i64)) by simpa using ho)
  have hsb4 := hb.size
  have HBb4 := Lib.hid hb
  clear ho hg hb
  have xzb : b4.cell? ⟨w.heap.size, 2, none⟩ = some (.slice A2 n2 y2) := (HBb4.out.cell (p := ⟨w.heap.size, 2, none⟩) (show w.heap.size < a5.heap.size by omega)).trans HDa5.out
  go_wp2_with (at_builtin; refine wpList_append_rd _ rfl _ _ 22 rfl a5.heap.size 34 i0 (.int .i64 0) 8 Try.underlying22 hi0 hz0 hz1 hz2 rfl _ (t + 1 + y + 1) _ rfl HOb4.out .i64 a5.heap.size A2 y2 l2 (by rw [HL2.out]; rfl) (HZa5.out.below HBb4.out) HN2.out (by rw [HL2.out]; unfold maxLen; omega) (by rw [HL2.out]; omega) hsb4 ?_)
  intro vb5 b5 ho hg
  have hb : Below a5.heap.size a5 b5 := grow_below0 HBb4.out HOb4.out hg hsb4
  have HOb5 := Lib.hid (show b5.ownsRow a5.heap.size 34 1 vb5 (t + 1 + y + 1 + n2) ((T ++ [19] ++ Y ++ [22] ++ l2).map (Value.int .i64)) by rw [HL2.out] at ho; simpa using ho)
  have hsb5 := hb.size
  have HBb5 := Lib.hid hb
  clear ho hg hb
  have ho5 := HOb5.out
  rw [M.about_made, HKb.out, ← HLb.out] at ho5
  obtain ⟨Ab, cb, rfl, hrb, _, _, _⟩ := reads_own (l := M.about T 19 Y l2) ho5
  rw [HLb.out]
  have HRb := Lib.hid hrb
  clear ho5 hrb xzb
  have HB5 := Lib.hid ((HB2.out.trans (HBa5.out.mono HB2.out.size)).trans (HBb5.out.mono (Nat.le_trans HB2.out.size hsa5)))
  have HRa5 := Lib.hid ((HRa.out.below HBb5.out).more hsb5)
  have HDb5 := Lib.hid ((HBb5.out.cell (p := ⟨w.heap.size, 2, none⟩) (show w.heap.size < a5.heap.size by omega)).trans HDa5.out)
  go_wp2_with fail
  refine (clevels_any Aa ca na (M.about T 19 X l2) bs b5 HRa5.out HLa.out (by omega)).mono ?_
  rintro r w6 hout
  rw [HEa.out] at hout
  obtain ⟨Ap, cp, Ad, cd, rfl, hrp, -, -, -, -, -, hb6, -, -⟩ := lev_rows hout
  rw [HRLa.out, HLa.out]
  rw [HPa.out] at hrp
  have HRP6 := Lib.hid hrp
  have HRb6 := Lib.hid ((HRb.out.below hb6).more hb6.size)
  have HB6 := Lib.hid (HB5.out.trans (hb6.mono HB5.out.size))
  have hs6 := hb6.size
  have HDw6 := Lib.hid ((hb6.cell (p := ⟨w.heap.size, 2, none⟩) (show w.heap.size < b5.heap.size by omega)).trans HDb5.out)
  clear hrp hb6 hout
  go_wp2_with fail
  refine (clevels_any Ab cb nb (M.about T 19 Y l2) bs w6 HRb6.out HLb.out (by omega)).mono ?_
  rintro r w7 hout
  rw [HEb.out] at hout
  obtain ⟨Aq, cq, Ae, ce, rfl, hrq, -, -, -, -, -, hb7, -, -⟩ := lev_rows hout
  rw [HRLb.out, HLb.out]
  rw [HPb.out] at hrq
  have HRQ := Lib.hid hrq
  have HRP := Lib.hid ((HRP6.out.below hb7).more hb7.size)
  have HB7 := Lib.hid (HB6.out.trans (hb7.mono HB6.out.size))
  have HD7 := Lib.hid ((hb7.cell (p := ⟨w.heap.size, 2, none⟩) (show w.heap.size < w6.heap.size by omega)).trans HDw6.out)
  have hs7 := hb7.size
  clear hrq hb7 hout
  go_wp2_with fail
  go_loopw [20] (fun i wr => ∃ j : Nat, i = .int .i64 j ∧ j ≤ t + 1 ∧ Below w7.heap.size w7 wr) (fun i _ => t + 1 - (intOf i).toNat)
  case atStart => exact ⟨0, rfl, Nat.zero_le _, Below.refl _ _⟩
  case round =>
    obtain ⟨j, rfl, hj, hbr⟩ := hrel
    have HBR := Lib.hid hbr
    by_cases hjt : j ≤ t
    · have j0 : (0 : Int) ≤ (j : Int) := by omega
      have j1 : (j : Int) ≤ (t : Int) := by omega
      have j2 : (j : Int) < (na : Int) := by omega
      have j3 : (j : Int) < (nb : Int) := by omega
      obtain ⟨lv, g1, g2⟩ := HAH.out j hjt
      obtain ⟨ad1, rfl, p1, x1'⟩ := HRP.out j lv g1
      obtain ⟨ad2, rfl, p2, x2'⟩ := HRQ.out j lv g2
      have z1 := (hbr.cell (p := ad1.add j) (by rw [addr_block]; exact p1)).trans x1'
      have z2 := (hbr.cell (p := ad2.add j) (by rw [addr_block]; exact p2)).trans x2'
      clear g1 g2 x1' x2' p1 p2 hbr
      go_wp2
      go_quiet (fail)
      go_wp2
      go_roundw
      case rel => exact ⟨j + 1, by go_num, by omega, by first | exact HBR.out.drew | exact drewN_below HBR.out _⟩
      case measure => simp [intOf]; omega
    · obtain rfl : j = t + 1 := by omega
      have j1 : ¬ ((t + 1 : Nat) : Int) ≤ (t : Int) := by omega
      have hsr := hbr.size
      clear hbr
      have d8 := (HBR.out.cell (p := ⟨w.heap.size, 2, none⟩) (show w.heap.size < w7.heap.size by omega)).trans HD7.out
      have HD8 := Lib.hid d8
      clear d8
      rename World => w8
      go_wp2_with fail
      go_loopw [21] (fun i wr => ∃ j : Nat, i = .int .i64 j ∧ j ≤ n2 + 1 ∧ Below w8.heap.size w8 wr) (fun i _ => n2 + 1 - (intOf i).toNat)
      case atStart => exact ⟨0, rfl, Nat.zero_le _, Below.refl _ _⟩
      case round =>
        obtain ⟨j, rfl, hj, hbs⟩ := hrel
        have HBS := Lib.hid hbs
        have z0 : wr.cell? ⟨w.heap.size, 2, none⟩ = some (.slice A2 n2 y2) := (hbs.cell (p := ⟨w.heap.size, 2, none⟩) (show w.heap.size < w8.heap.size by omega)).trans HD8.out
        by_cases hjt : j ≤ n2
        · obtain ⟨k1, hk1⟩ : ∃ k1 : Nat, (na : Int) - 1 - (j : Int) = (k1 : Int) := ⟨na - 1 - j, by omega⟩
          obtain ⟨k2, hk2⟩ : ∃ k2 : Nat, (nb : Int) - 1 - (j : Int) = (k2 : Int) := ⟨nb - 1 - j, by omega⟩
          have j1 : (j : Int) ≤ (n2 : Int) := by omega
          have j0 : (0 : Int) ≤ (j : Int) := by omega
          have j2 : (k1 : Int) < (na : Int) := by omega
          have j3 : (k2 : Int) < (nb : Int) := by omega
          have j4 : (0 : Int) ≤ (k1 : Int) := by omega
          have j5 : (0 : Int) ≤ (k2 : Int) := by omega
          obtain ⟨lv, g1, g2⟩ := HBE.out j k1 k2 hjt (by omega) (by omega)
          obtain ⟨ad1, rfl, p1, x1'⟩ := HRP.out k1 lv g1
          obtain ⟨ad2, rfl, p2, x2'⟩ := HRQ.out k2 lv g2
          have z1 := ((HBR.out.trans (hbs.mono HBR.out.size)).cell (p := ad1.add k1) (by rw [addr_block]; exact p1)).trans x1'
          have z2 := ((HBR.out.trans (hbs.mono HBR.out.size)).cell (p := ad2.add k2) (by rw [addr_block]; exact p2)).trans x2'
          clear g1 g2 x1' x2' p1 p2 hbs
          go_wp2
          go_quiet (fail)
          go_wp2
          go_roundw
          case rel => exact ⟨j + 1, by go_num, by omega, by first | exact HBS.out.drew | exact drewN_below HBS.out _⟩
          case measure => simp [intOf]; omega
        · obtain rfl : j = n2 + 1 := by omega
          have j1 : ¬ ((n2 + 1 : Nat) : Int) ≤ (n2 : Int) := by omega
          go_wp2_with fail
          refine (alive_any _).mono ?_
          rintro r w9 ⟨rfl, hb9⟩
          have HB8 := Lib.hid (HB7.out.trans (HBR.out.mono HB7.out.size))
          have HB9 := Lib.hid (HB8.out.trans (hbs.mono HB8.out.size))
          have HB10 := Lib.hid (HB9.out.trans (hb9.mono HB9.out.size))
          clear hb9 hbs
          go_wp2_with fail
          go_ret
          exact ⟨rfl, HB10.out⟩
theorem closedLaw_any (A0 A1 A2 A3 : Option Addr) (y0 y1 y2 y3 n0 n1 n2 n3 : Nat) (l0 l1 l2 l3 : List Int) (how : Int) (w : World)
    (r0 : RdS .i64 w w.heap.size A0 l0) (r1 : RdS .i64 w w.heap.size A1 l1) (r2 : RdS .i64 w w.heap.size A2 l2) (r3 : RdS .i64 w w.heap.size A3 l3) (e0 : l0.length = n0) (e1 : l1.length = n1) (e2 : l2.length = n2) (e3 : l3.length = n3)
    (c0 : n0 ≤ y0) (N0 : A0 = none → y0 = 0) (N2 : A2 = none → y2 = 0) (m0 : n0 * 8 ≤ 140737488351232) (m1 : n1 * 8 ≤ 140737488351232) (m2 : n2 * 8 ≤ 140737488351232) (m3 : n3 ≤ maxLen) :
    Calls Try.prog 6 #[.agg #[.slice A0 n0 y0, .slice A1 n1 y1, .slice A2 n2 y2], .slice A3 n3 y3, .int .i64 how] w fun r w' => r = .returned (.bool true) ∧ Below w.heap.size w w' := by
  obtain ⟨b0, b1⟩ := and_one how
  have hb : bits .and .i64 how 1 = 0 ∨ bits .and .i64 how 1 = 1 := by omega
  by_cases h1 : n0 + n1 + n2 ≤ 400
  · by_cases h3 : n3 ≤ 400
    · rcases hb with hb | hb
      · exact closedShort_0 A0 A1 A2 A3 y0 y1 y2 y3 n0 n1 n2 n3 l0 l1 l2 l3 how w h1 h3 hb r0 r1 r2 r3 e0 e1 e2 e3 c0 N0 N2
      · exact closedShort_1 A0 A1 A2 A3 y0 y1 y2 y3 n0 n1 n2 n3 l0 l1 l2 l3 how w h1 h3 hb r0 r1 r2 r3 e0 e1 e2 e3 c0 N0 N2
    · rcases hb with hb | hb
      · exact closedLong2_0 A0 A1 A2 A3 y0 y1 y2 y3 n0 n1 n2 n3 how w h1 (by omega) m0 m1 m2 m3 hb
      · exact closedLong2_1 A0 A1 A2 A3 y0 y1 y2 y3 n0 n1 n2 n3 how w h1 (by omega) m0 m1 m2 m3 hb
  · rcases hb with hb | hb
    · exact closedLong1_0 A0 A1 A2 A3 y0 y1 y2 y3 n0 n1 n2 n3 how w (by omega) m0 m1 m2 hb
    · exact closedLong1_1 A0 A1 A2 A3 y0 y1 y2 y3 n0 n1 n2 n3 how w (by omega) m0 m1 m2 hb
end Go.Proofs.Ytdipaiflfhdpoaa
