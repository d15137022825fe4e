/- The walk of ExplicitParts: it answers true. Conditions: the slice reads as a list of classes, within its capacity. -/
import Derived.Test.YtdipaiflfhdpoaaAlive
import Derived.Test.YtdipaiflfhdpoaaAppendRd
namespace Go.Proofs.Ytdipaiflfhdpoaa
open Go.RowKit

theorem and_one (n : Int) : 0 ≤ bits .and .i64 n 1 ∧ bits .and .i64 n 1 ≤ 1 := by
  have h : (BitVec.ofInt 64 n &&& BitVec.ofInt 64 1).toNat ≤ 1 := by
    rw [BitVec.toNat_and]
    exact Nat.and_le_right
  have e : bits .and .i64 n 1 = IntKind.i64.wrap ((BitVec.ofInt 64 n &&& BitVec.ofInt 64 1).toNat : Int) := rfl
  obtain ⟨k, hk⟩ : ∃ k, (BitVec.ofInt 64 n &&& BitVec.ofInt 64 1).toNat = k := ⟨_, rfl⟩
  rw [hk] at h e
  rw [e, IntKind.wrap_i64]
  omega
theorem own_block {w : World} {b n g : Nat} {e : TypeId} {v : Value} {xs : List Value} (h : w.ownsRow b e 1 v n xs) (hv : v.ownBlock = some g) : ∃ cur, w.heap[g]? = some (.cells cur e (0, 0)) := by
  rcases h.2 with ⟨h1, _⟩ | ⟨g', cap, cur, h1, _, hg, _⟩
  · rw [h1] at hv; cases hv
  · rw [h1] at hv
    have e2 : g' = g := by simpa [Value.ownBlock] using hv
    subst e2
    exact ⟨cur, hg⟩
/-- Two rows of cells of two kinds are apart. -/
theorem rows_kinds {w : World} {b b' n n' : Nat} {e e' : TypeId} {v v' : Value} {xs xs' : List Value} (h : w.ownsRow b e 1 v n xs) (h' : w.ownsRow b' e' 1 v' n' xs') (hne : e ≠ e') : v.ownBlock = none ∨ v.ownBlock ≠ v'.ownBlock := by
  rcases hv : v.ownBlock with _ | g
  · exact .inl rfl
  · refine .inr fun q => ?_
    obtain ⟨c1, h1⟩ := own_block h hv
    obtain ⟨c2, h2⟩ := own_block h' q.symm
    rw [h1] at h2
    injection h2 with h2
    injection h2 with _ h2 _
    exact hne h2
theorem own_ne {a b : Option Nat} (h : ∀ g, a = some g → b ≠ some g) : a = none ∨ a ≠ b := by
  cases a with
  | none => exact .inl rfl
  | some g => exact .inr (fun e => h g rfl e.symm)
/-- A list that a row of one's own holds is kept where another row grows, apart from it. -/
theorem rd_apart {w w' : World} {b k n c : Nat} {e : TypeId} {A : Option Addr} {xs : List Value} {l : List Int} {row : Option Nat} (ho : w.ownsRow b e 1 (.slice A k c) n xs) (h : RdS .i64 w w.heap.size A l) (hg : w.grownBy w' row) (hne : (Value.slice A k c).ownBlock = none ∨ (Value.slice A k c).ownBlock ≠ row) : RdS .i64 w' w.heap.size A l := by
  refine h.grown hg fun ad hA q => ?_
  subst hA
  rcases ho.2 with ⟨h1, _⟩ | ⟨g', cap, cur, h1, _, _⟩
  · cases h1
  · cases h1
    rcases hne with h2 | h2
    · simp [Value.ownBlock] at h2
    · exact h2 (by rw [q]; rfl)
set_option maxRecDepth 100000 in
set_option maxHeartbeats 4000000 in
theorem parts_long (A : Option Addr) (ca n : Nat) (i base : Int) (w : World) (hn : 400 < n) (hm : n ≤ maxLen) :
    Calls Try.prog 7 #[.slice A n ca, .int .i64 i, .int .i64 base] w fun r w' => r = .returned (.bool true) ∧ Below w.heap.size w w' := by
  unfold maxLen at hm
  have h1 : (400 : Int) < n := by omega
  go_enter Try.func7, Try.ntmps7
  go_wp2_with fail
  refine (alive_any _).mono ?_
  rintro r w2 ⟨rfl, hb⟩
  have HB := Lib.hid hb
  clear hb
  go_wp2_with fail
  go_ret
  exact ⟨rfl, HB.out⟩
set_option maxRecDepth 100000 in
set_option maxHeartbeats 4000000 in
theorem parts_low (A : Option Addr) (ca n : Nat) (i base : Int) (w : World) (hn : n ≤ 400) (hi : i < 1) :
    Calls Try.prog 7 #[.slice A n ca, .int .i64 i, .int .i64 base] w fun r w' => r = .returned (.bool true) ∧ Below w.heap.size w w' := by
  have h1 : (n : Int) ≤ 400 := by omega
  go_enter Try.func7, Try.ntmps7
  go_wp2_with fail
  refine (alive_any _).mono ?_
  rintro r w2 ⟨rfl, hb⟩
  have HB := Lib.hid hb
  clear hb
  go_wp2_with fail
  go_ret
  exact ⟨rfl, HB.out⟩
set_option maxRecDepth 100000 in
set_option maxHeartbeats 4000000 in
theorem parts_high (A : Option Addr) (ca n : Nat) (i base : Int) (w : World) (hn : n ≤ 400) (hi : (n : Int) < i) (hi1 : ¬ i < 1) :
    Calls Try.prog 7 #[.slice A n ca, .int .i64 i, .int .i64 base] w fun r w' => r = .returned (.bool true) ∧ Below w.heap.size w w' := by
  have h1 : (n : Int) ≤ 400 := by omega
  go_enter Try.func7, Try.ntmps7
  go_wp2_with fail
  refine (alive_any _).mono ?_
  rintro r w2 ⟨rfl, hb⟩
  have HB := Lib.hid hb
  clear hb
  go_wp2_with fail
  go_ret
  exact ⟨rfl, HB.out⟩
set_option maxRecDepth 100000 in
set_option maxHeartbeats 4000000 in
theorem parts_other (A : Option Addr) (ca n : Nat) (i base : Int) (l : List Int) (w : World) (j : Nat) (hj : i = (j : Int) + 1) (hr : RdS .i64 w w.heap.size A l) (hl : l.length = n) (hn : n ≤ 400) (hjn : j < n) (x : Int) (hx : l[j]? = some x) (hx10 : x ≠ 10) :
    Calls Try.prog 7 #[.slice A n ca, .int .i64 i, .int .i64 base] w fun r w' => r = .returned (.bool true) ∧ Below w.heap.size w w' := by
  obtain ⟨ad, x', rfl, hcc, hx', -⟩ := rd_at hr (Below.refl _ _) (by omega : j < l.length)
  obtain rfl : x = x' := by rw [hx] at hx'; injection hx'
  subst hj
  have h1 : (n : Int) ≤ 400 := by omega
  have j0 : (0 : Int) ≤ (j : Int) := by omega
  have j1 : (j : Int) < (n : Int) := by omega
  have j2 : (j : Int) + 1 ≤ (n : Int) := by omega
  have hw1 : IntKind.i64.wrap ((j : Int) + 1 - 1) = (j : Int) := by rw [IntKind.wrap_i64]; omega
  have hx11 : (x != 10) = true := by rw [bne_iff_ne]; exact hx10
  clear hr hl hx hx'
  go_enter Try.func7, Try.ntmps7
  go_wp2_with fail
  refine (alive_any _).mono ?_
  rintro r w2 ⟨rfl, hb⟩
  have HB := Lib.hid hb
  clear hb
  go_wp2_with fail
  go_ret
  exact ⟨rfl, HB.out⟩
set_option maxRecDepth 100000 in
set_option maxHeartbeats 4000000 in
theorem parts_cut (A : Option Addr) (ca n : Nat) (i base : Int) (l : List Int) (w : World) (j : Nat) (hj : i = (j : Int) + 1) (hr : RdS .i64 w w.heap.size A l) (hl : l.length = n) (hn : n ≤ 400) (hca : n ≤ ca) (hm : ca ≤ maxLen) (hjn : j < n) (hx : l[j]? = some 10) (hcap : ca ≠ j + 1) :
    Calls Try.prog 7 #[.slice A n ca, .int .i64 i, .int .i64 base] w fun r w' => r = .returned (.bool true) ∧ Below w.heap.size w w' := by
  obtain ⟨i0, hi0, hz0, hz1, hz2⟩ := info_parts Try.infoInt
  obtain ⟨i1, hi1, hy0, hy1, hy2⟩ := info_parts Try.infoCls
  unfold maxLen at hm
  obtain ⟨ad, x', hA, hcc, hx', -⟩ := rd_at hr (Below.refl _ _) (by omega : j < l.length)
  obtain rfl : (10 : Int) = x' := by rw [hx] at hx'; injection hx'
  have hcut := hr.cut (n := j + 1) (cap := ca) (by rw [hl]; exact hca)
  subst hA hj
  obtain ⟨b0, b1⟩ := and_one base
  obtain ⟨b, hb⟩ : ∃ b, bits .and .i64 base 1 = b := ⟨_, rfl⟩
  rw [hb] at b0 b1
  have hd : l = l.take j ++ 10 :: l.drop (j + 1) := by
    rw [show (10 : Int) :: l.drop (j + 1) = l.drop j by rw [List.drop_eq_getElem_cons (show j < l.length by omega)]; congr 1; rw [List.getElem?_eq_getElem (show j < l.length by omega)] at hx; exact (Option.some.inj hx).symm]
    exact (List.take_append_drop j l).symm
  have htk : l.take (j + 1) = l.take j ++ [10] := by rw [List.take_add_one, hx]; rfl
  have HW := Lib.hid (show M.levels l b = some (M.run b (M.fresh b) l) by unfold M.levels; rw [if_neg (by omega), if_neg (by omega)])
  have HU := Lib.hid (show M.levels (l.take (j + 1)) b = some (M.run b (M.fresh b) (l.take (j + 1))) by unfold M.levels; rw [if_neg (by omega), if_neg (by omega)])
  have HV := Lib.hid (show M.levels (l.drop (j + 1)) b = some (M.run b (M.fresh b) (l.drop (j + 1))) by unfold M.levels; rw [if_neg (by omega), if_neg (by omega)])
  have HJ := Lib.hid (show M.run b (M.fresh b) l = M.run b (M.fresh b) (l.take (j + 1)) ++ M.run b (M.fresh b) (l.drop (j + 1)) by
    rw [htk, M.run_B]
    conv => lhs; rw [hd]
    rw [M.run_B]
    simp [M.run])
  have HL1 := Lib.hid (show (l.take (j + 1)).length = j + 1 by rw [List.length_take, hl]; omega)
  have HL2 := Lib.hid (show (l.drop (j + 1)).length = n - (j + 1) by rw [List.length_drop, hl])
  have HR1 := Lib.hid (M.run_len b (M.fresh b) l)
  have HR2 := Lib.hid (M.run_len b (M.fresh b) (l.take (j + 1)))
  have HR3 := Lib.hid (M.run_len b (M.fresh b) (l.drop (j + 1)))
  have HR := Lib.hid hr
  have HL := Lib.hid hl
  have HCUT := Lib.hid hcut
  have hl2 := HL2.out
  have hl1 := HL1.out
  obtain ⟨X, hX⟩ : ∃ x, (M.run b (M.fresh b) l).map Prod.fst = x := ⟨_, rfl⟩
  have HXL := Lib.hid (show X.length = n by rw [← hX, List.length_map, M.run_len]; omega)
  obtain ⟨C, hC⟩ : ∃ x, (M.run b (M.fresh b) l).map Prod.snd = x := ⟨_, rfl⟩
  have HCL := Lib.hid (show C.length = n by rw [← hC, List.length_map, M.run_len]; omega)
  obtain ⟨Y, hY⟩ : ∃ x, (M.run b (M.fresh b) (l.take (j + 1))).map Prod.fst = x := ⟨_, rfl⟩
  have HYL := Lib.hid (show Y.length = j + 1 by rw [← hY, List.length_map, M.run_len]; omega)
  obtain ⟨D, hD⟩ : ∃ x, (M.run b (M.fresh b) (l.take (j + 1))).map Prod.snd = x := ⟨_, rfl⟩
  have HDL := Lib.hid (show D.length = j + 1 by rw [← hD, List.length_map, M.run_len]; omega)
  obtain ⟨Z, hZ⟩ : ∃ x, (M.run b (M.fresh b) (l.drop (j + 1))).map Prod.fst = x := ⟨_, rfl⟩
  have HZL := Lib.hid (show Z.length = n - (j + 1) by rw [← hZ, List.length_map, M.run_len]; omega)
  obtain ⟨G, hG⟩ : ∃ x, (M.run b (M.fresh b) (l.drop (j + 1))).map Prod.snd = x := ⟨_, rfl⟩
  have HGL := Lib.hid (show G.length = n - (j + 1) by rw [← hG, List.length_map, M.run_len]; omega)
  have HXJ := Lib.hid (show X = Y ++ Z by rw [← hX, ← hY, ← hZ, ← List.map_append, ← HJ.out])
  have HCJ := Lib.hid (show C = D ++ G by rw [← hC, ← hD, ← hG, ← List.map_append, ← HJ.out])
  have HXE := Lib.hid hX
  have HCE := Lib.hid hC
  have HYE := Lib.hid hY
  have HDE := Lib.hid hD
  have HZE := Lib.hid hZ
  have HGE := Lib.hid hG
  have h1 : (n : Int) ≤ 400 := by omega
  have j0 : (0 : Int) ≤ (j : Int) := by omega
  have j1 : (j : Int) < (n : Int) := by omega
  have j2 : (j : Int) + 1 ≤ (n : Int) := by omega
  have j3 : (n : Int) ≤ (ca : Int) := by omega
  have j4 : (j : Int) + 1 ≤ (ca : Int) := by omega
  have j5 : j + 1 ≤ ca := by omega
  have e1 : ((j : Int) + 1).toNat = j + 1 := by omega
  have hw1 : IntKind.i64.wrap ((j : Int) + 1 - 1) = (j : Int) := by rw [IntKind.wrap_i64]; omega
  clear hr hl hx hx' hcut hd htk hX hC hY hD hZ hG hl1 hl2
  go_enter Try.func7, Try.ntmps7
  go_wp2_with fail
  refine (clevels_any (some ad) ca n l b w HR.out HL.out (by omega)).mono ?_
  rintro r w2 hout
  rw [HW.out] at hout
  obtain ⟨Ax, cx, Ac, cc, rfl, hrx, hrc, _, _, _, _, hb2, _, _⟩ := lev_rows hout
  rw [HR1.out, HL.out]
  rw [HXE.out] at hrx
  rw [HCE.out] at hrc
  have HRX := Lib.hid hrx
  have HRC := Lib.hid hrc
  have HB2 := Lib.hid hb2
  have HRl2 := Lib.hid ((HR.out.below hb2).more hb2.size)
  have HCUT2 := Lib.hid ((HCUT.out.below hb2).more hb2.size)
  clear hrx hrc hb2 hout hcc
  go_wp2_with fail
  refine (clevels_any (some ad) ca (j + 1) (l.take (j + 1)) b w2 (HRl2.out.take _) HL1.out (by omega)).mono ?_
  rintro r w3 hout
  rw [HU.out] at hout
  obtain ⟨Ay, cy, Ad, cd, rfl, hry, hrd, _, _, _, _, hb3, hoy, hod⟩ := lev_rows hout
  rw [HR2.out, HL1.out] at hoy hod ⊢
  rw [HYE.out] at hoy
  rw [HDE.out] at hod
  have HOY := Lib.hid hoy
  have HOD := Lib.hid hod
  have HB3 := Lib.hid hb3
  have HRX3 := Lib.hid (HRX.out.below hb3)
  have HRC3 := Lib.hid (HRC.out.below hb3)
  have HCUT3 := Lib.hid ((HCUT2.out.below hb3).more hb3.size)
  clear hry hrd hb3 hoy hod hout
  rw [if_neg hcap] at HCUT3
  simp only [Option.map_some, addr_add_pos ad (j + 1) (by omega)] at HCUT3
  go_wp2_with fail
  refine (clevels_any _ _ (n - (j + 1)) (l.drop (j + 1)) b w3 HCUT3.out HL2.out (by omega)).mono ?_
  rintro r w4 hout
  rw [HV.out] at hout
  obtain ⟨Az, cz, Ag, cg, rfl, hrz, hrg, lz, mz, lg, mg, hb4, hoz, hog⟩ := lev_rows hout
  rw [HR3.out, HL2.out] at hoz hog lz lg ⊢
  rw [HZE.out] at hoz hrz
  rw [HGE.out] at hog hrg
  have HB4 := Lib.hid hb4
  have hoy4 := own_below HOY.out hb4
  have hod4 := own_below HOD.out hb4
  have HRX4 := Lib.hid (HRX3.out.below (hb4.mono HB3.out.size))
  have HRC4 := Lib.hid (HRC3.out.below (hb4.mono HB3.out.size))
  have HOY4 := Lib.hid hoy4
  have HOD4 := Lib.hid hod4
  have HRZ := Lib.hid hrz
  have HRG := Lib.hid hrg
  have HOG := Lib.hid hog
  have hnz : Az = none → cz = 0 := by
    intro e
    subst e
    rcases hoz.2 with ⟨h1, _⟩ | ⟨g', cap, cur, h1, _⟩
    · injection h1 with _ _ h1
    · cases h1
  have hng : Ag = none → cg = 0 := by
    intro e
    subst e
    rcases hog.2 with ⟨h1, _⟩ | ⟨g', cap, cur, h1, _⟩
    · injection h1 with _ _ h1
    · cases h1
  have HNZ := Lib.hid hnz
  have HNG := Lib.hid hng
  have hs2 := HB2.out.size
  have hs3 := HB3.out.size
  have hs4 := hb4.size
  have HAP := Lib.hid (own_ne (rows_apart HOY.out hog (Nat.le_refl _)))
  clear hrz hrg hb4 hoz hog hnz hng hoy4 hod4 hout lz mz lg mg
  have HLN := Lib.hid (show j + 1 + (n - (j + 1)) = n by omega)
  go_wp2_with (at_builtin; refine wpList_append_rd _ rfl _ _ 25 rfl w2.heap.size 3 i0 (.int .i64 0) 8 Try.underlying25 hi0 hz0 hz1 hz2 rfl _ (j + 1) _ rfl HOY4.out .i64 w4.heap.size Az cz Z (by rw [HZL.out]; rfl) HRZ.out HNZ.out (by rw [HZL.out]; unfold maxLen; omega) (by rw [HZL.out]; omega) (by omega) ?_)
  intro v5 w5 ho5 hg5
  have hb5 : Below w2.heap.size w4 w5 := grow_below0 (Below.refl _ _) HOY4.out hg5 (by omega)
  have ho5' : w5.ownsRow w2.heap.size 3 1 v5 X.length (X.map (Value.int .i64)) := by
    rw [HXL.out, HXJ.out, List.map_append]
    rw [HZL.out, HLN.out] at ho5
    exact ho5
  obtain ⟨A5, c5, rfl, hr5, _, _, _⟩ := reads_own ho5'
  rw [HXL.out] at ho5' ⊢
  have HO5 := Lib.hid ho5'
  have HOD5 := Lib.hid (World.ownsRow.kept HOD4.out hg5 (rows_kinds HOD4.out HOY4.out (by decide)))
  have HRG5 := Lib.hid (rd_apart HOG.out HRG.out hg5 HAP.out)
  have HRX5 := Lib.hid (HRX4.out.below hb5)
  have HRC5 := Lib.hid (HRC4.out.below hb5)
  have HB5 := Lib.hid hb5
  have hs5 := hb5.size
  clear ho5 ho5' hg5 hb5 hr5
  go_wp2_with (at_builtin; refine wpList_append_rd _ rfl _ _ 22 rfl w2.heap.size 34 i1 (.int .i64 0) 8 Try.underlying22 hi1 hy0 hy1 hy2 rfl _ (j + 1) _ rfl HOD5.out .i64 w4.heap.size Ag cg G (by rw [HGL.out]; rfl) HRG5.out HNG.out (by rw [HGL.out]; unfold maxLen; omega) (by rw [HGL.out]; omega) (by omega) ?_)
  intro v6 w6 ho6 hg6
  have hb6 : Below w2.heap.size w5 w6 := grow_below0 (Below.refl _ _) HOD5.out hg6 (by omega)
  have ho6' : w6.ownsRow w2.heap.size 34 1 v6 C.length (C.map (Value.int .i64)) := by
    rw [HCL.out, HCJ.out, List.map_append]
    rw [HGL.out, HLN.out] at ho6
    exact ho6
  obtain ⟨A6, c6, rfl, hr6, _, _, _⟩ := reads_own ho6'
  rw [HCL.out]
  have ho56 := World.ownsRow.kept HO5.out hg6 (rows_kinds HO5.out HOD5.out (by decide))
  obtain ⟨A5', c5', e5, hr5, _, _, _⟩ := reads_own (l := X) (by rw [HXL.out]; exact ho56)
  injection e5 with e5 e5n e5b
  clear e5n
  subst e5 e5b
  have hs6 := hb6.size
  have HR6 := Lib.hid hr6
  have HRY6 := Lib.hid hr5
  have HRX6 := Lib.hid ((HRX5.out.below hb6).more (show w2.heap.size ≤ w6.heap.size by omega))
  have HRC6 := Lib.hid ((HRC5.out.below hb6).more (show w2.heap.size ≤ w6.heap.size by omega))
  have HB6 := Lib.hid (HB2.out.trans (((HB3.out.trans (HB4.out.mono hs3)).trans (HB5.out.trans hb6)).mono hs2))
  clear ho6 ho6' hg6 hb6 hr6 hr5 ho56 hs2 hs3 hs4 hs5 hs6
  go_wp2_with fail
  refine (same_same Ac A6 cc c6 n _ w6 HRC6.out HR6.out HCL.out (by omega)).mono ?_
  rintro r w7 ⟨rfl, hb7⟩
  have HRX7 := Lib.hid ((HRX6.out.below hb7).more hb7.size)
  have HRY7 := Lib.hid ((HRY6.out.below hb7).more hb7.size)
  have HB7 := Lib.hid (HB6.out.trans (hb7.mono HB6.out.size))
  clear hb7
  go_wp2_with fail
  refine (alive_any _).mono ?_
  rintro r w8 ⟨rfl, hb8⟩
  have HRX8 := Lib.hid ((HRX7.out.below hb8).more hb8.size)
  have HRY8 := Lib.hid ((HRY7.out.below hb8).more hb8.size)
  have HB8 := Lib.hid (HB7.out.trans (hb8.mono HB7.out.size))
  clear hb8
  go_wp2_with fail
  refine (ints_same Ax A5 cx c5 n _ w8 HRX8.out HRY8.out HXL.out (by omega)).mono ?_
  rintro r w9 ⟨rfl, hb9⟩
  have HB9 := Lib.hid (HB8.out.trans (hb9.mono HB8.out.size))
  clear hb9
  go_wp2_with fail
  go_ret
  exact ⟨rfl, HB9.out⟩
set_option maxRecDepth 100000 in
set_option maxHeartbeats 4000000 in
theorem parts_end (A : Option Addr) (ca n : Nat) (i base : Int) (l : List Int) (w : World) (j : Nat) (hj : i = (j : Int) + 1) (hr : RdS .i64 w w.heap.size A l) (hl : l.length = n) (hn : n ≤ 400) (hca : n ≤ ca) (hm : ca ≤ maxLen) (hjn : j < n) (hx : l[j]? = some 10) (hcap : ca = j + 1) :
    Calls Try.prog 7 #[.slice A n ca, .int .i64 i, .int .i64 base] w fun r w' => r = .returned (.bool true) ∧ Below w.heap.size w w' := by
  obtain ⟨i0, hi0, hz0, hz1, hz2⟩ := info_parts Try.infoInt
  obtain ⟨i1, hi1, hy0, hy1, hy2⟩ := info_parts Try.infoCls
  unfold maxLen at hm
  obtain ⟨ad, x', hA, hcc, hx', -⟩ := rd_at hr (Below.refl _ _) (by omega : j < l.length)
  obtain rfl : (10 : Int) = x' := by rw [hx] at hx'; injection hx'
  have hcut := hr.cut (n := j + 1) (cap := ca) (by rw [hl]; exact hca)
  subst hA hj
  subst hcap
  obtain rfl : n = j + 1 := by omega
  obtain ⟨b0, b1⟩ := and_one base
  obtain ⟨b, hb⟩ : ∃ b, bits .and .i64 base 1 = b := ⟨_, rfl⟩
  rw [hb] at b0 b1
  have hd : l = l.take j ++ 10 :: l.drop (j + 1) := by
    rw [show (10 : Int) :: l.drop (j + 1) = l.drop j by rw [List.drop_eq_getElem_cons (show j < l.length by omega)]; congr 1; rw [List.getElem?_eq_getElem (show j < l.length by omega)] at hx; exact (Option.some.inj hx).symm]
    exact (List.take_append_drop j l).symm
  have htk : l.take (j + 1) = l.take j ++ [10] := by rw [List.take_add_one, hx]; rfl
  have HW := Lib.hid (show M.levels l b = some (M.run b (M.fresh b) l) by unfold M.levels; rw [if_neg (by omega), if_neg (by omega)])
  have HU := Lib.hid (show M.levels (l.take (j + 1)) b = some (M.run b (M.fresh b) (l.take (j + 1))) by unfold M.levels; rw [if_neg (by omega), if_neg (by omega)])
  have HV := Lib.hid (show M.levels (l.drop (j + 1)) b = some (M.run b (M.fresh b) (l.drop (j + 1))) by unfold M.levels; rw [if_neg (by omega), if_neg (by omega)])
  have HJ := Lib.hid (show M.run b (M.fresh b) l = M.run b (M.fresh b) (l.take (j + 1)) ++ M.run b (M.fresh b) (l.drop (j + 1)) by
    rw [htk, M.run_B]
    conv => lhs; rw [hd]
    rw [M.run_B]
    simp [M.run])
  have HL1 := Lib.hid (show (l.take (j + 1)).length = j + 1 by rw [List.length_take, hl]; omega)
  have HL2 := Lib.hid (show (l.drop (j + 1)).length = 0 by rw [List.length_drop, hl]; exact Nat.sub_self _)
  have HR1 := Lib.hid (M.run_len b (M.fresh b) l)
  have HR2 := Lib.hid (M.run_len b (M.fresh b) (l.take (j + 1)))
  have HR3 := Lib.hid (M.run_len b (M.fresh b) (l.drop (j + 1)))
  have HR := Lib.hid hr
  have HL := Lib.hid hl
  have HCUT := Lib.hid hcut
  have hl2 := HL2.out
  have hl1 := HL1.out
  obtain ⟨X, hX⟩ : ∃ x, (M.run b (M.fresh b) l).map Prod.fst = x := ⟨_, rfl⟩
  have HXL := Lib.hid (show X.length = (j + 1) by rw [← hX, List.length_map, M.run_len]; omega)
  obtain ⟨C, hC⟩ : ∃ x, (M.run b (M.fresh b) l).map Prod.snd = x := ⟨_, rfl⟩
  have HCL := Lib.hid (show C.length = (j + 1) by rw [← hC, List.length_map, M.run_len]; omega)
  obtain ⟨Y, hY⟩ : ∃ x, (M.run b (M.fresh b) (l.take (j + 1))).map Prod.fst = x := ⟨_, rfl⟩
  have HYL := Lib.hid (show Y.length = j + 1 by rw [← hY, List.length_map, M.run_len]; omega)
  obtain ⟨D, hD⟩ : ∃ x, (M.run b (M.fresh b) (l.take (j + 1))).map Prod.snd = x := ⟨_, rfl⟩
  have HDL := Lib.hid (show D.length = j + 1 by rw [← hD, List.length_map, M.run_len]; omega)
  obtain ⟨Z, hZ⟩ : ∃ x, (M.run b (M.fresh b) (l.drop (j + 1))).map Prod.fst = x := ⟨_, rfl⟩
  have HZL := Lib.hid (show Z.length = 0 by rw [← hZ, List.length_map, M.run_len]; omega)
  obtain ⟨G, hG⟩ : ∃ x, (M.run b (M.fresh b) (l.drop (j + 1))).map Prod.snd = x := ⟨_, rfl⟩
  have HGL := Lib.hid (show G.length = 0 by rw [← hG, List.length_map, M.run_len]; omega)
  have HXJ := Lib.hid (show X = Y ++ Z by rw [← hX, ← hY, ← hZ, ← List.map_append, ← HJ.out])
  have HCJ := Lib.hid (show C = D ++ G by rw [← hC, ← hD, ← hG, ← List.map_append, ← HJ.out])
  have HXE := Lib.hid hX
  have HCE := Lib.hid hC
  have HYE := Lib.hid hY
  have HDE := Lib.hid hD
  have HZE := Lib.hid hZ
  have HGE := Lib.hid hG
  have h1 : ((j + 1) : Int) ≤ 400 := by omega
  have j0 : (0 : Int) ≤ (j : Int) := by omega
  have j1 : (j : Int) < ((j + 1) : Int) := by omega
  have j2 : (j : Int) + 1 ≤ ((j + 1) : Int) := by omega
  have j3 : ((j + 1) : Int) ≤ ((j + 1) : Int) := by omega
  have j4 : (j : Int) + 1 ≤ ((j + 1) : Int) := by omega
  have j5 : j + 1 ≤ (j + 1) := by omega
  have e1 : ((j : Int) + 1).toNat = j + 1 := by omega
  have hw1 : IntKind.i64.wrap ((j : Int) + 1 - 1) = (j : Int) := by rw [IntKind.wrap_i64]; omega
  clear hr hl hx hx' hcut hd htk hX hC hY hD hZ hG hl1 hl2
  go_enter Try.func7, Try.ntmps7
  go_wp2_with fail
  refine (clevels_any (some ad) (j + 1) (j + 1) l b w HR.out HL.out (by omega)).mono ?_
  rintro r w2 hout
  rw [HW.out] at hout
  obtain ⟨Ax, cx, Ac, cc, rfl, hrx, hrc, _, _, _, _, hb2, _, _⟩ := lev_rows hout
  rw [HR1.out, HL.out]
  rw [HXE.out] at hrx
  rw [HCE.out] at hrc
  have HRX := Lib.hid hrx
  have HRC := Lib.hid hrc
  have HB2 := Lib.hid hb2
  have HRl2 := Lib.hid ((HR.out.below hb2).more hb2.size)
  have HCUT2 := Lib.hid ((HCUT.out.below hb2).more hb2.size)
  clear hrx hrc hb2 hout hcc
  go_wp2_with fail
  refine (clevels_any (some ad) (j + 1) (j + 1) (l.take (j + 1)) b w2 (HRl2.out.take _) HL1.out (by omega)).mono ?_
  rintro r w3 hout
  rw [HU.out] at hout
  obtain ⟨Ay, cy, Ad, cd, rfl, hry, hrd, _, _, _, _, hb3, hoy, hod⟩ := lev_rows hout
  rw [HR2.out, HL1.out] at hoy hod ⊢
  rw [HYE.out] at hoy
  rw [HDE.out] at hod
  have HOY := Lib.hid hoy
  have HOD := Lib.hid hod
  have HB3 := Lib.hid hb3
  have HRX3 := Lib.hid (HRX.out.below hb3)
  have HRC3 := Lib.hid (HRC.out.below hb3)
  have HCUT3 := Lib.hid ((HCUT2.out.below hb3).more hb3.size)
  clear hry hrd hb3 hoy hod hout
  rw [if_pos trivial] at HCUT3
  go_wp2_with fail
  refine (clevels_any _ _ (0) (l.drop (j + 1)) b w3 HCUT3.out HL2.out (by omega)).mono ?_
  rintro r w4 hout
  rw [HV.out] at hout
  obtain ⟨Az, cz, Ag, cg, rfl, hrz, hrg, lz, mz, lg, mg, hb4, hoz, hog⟩ := lev_rows hout
  rw [HR3.out, HL2.out] at hoz hog lz lg ⊢
  rw [HZE.out] at hoz hrz
  rw [HGE.out] at hog hrg
  have HB4 := Lib.hid hb4
  have hoy4 := own_below HOY.out hb4
  have hod4 := own_below HOD.out hb4
  have HRX4 := Lib.hid (HRX3.out.below (hb4.mono HB3.out.size))
  have HRC4 := Lib.hid (HRC3.out.below (hb4.mono HB3.out.size))
  have HOY4 := Lib.hid hoy4
  have HOD4 := Lib.hid hod4
  have HRZ := Lib.hid hrz
  have HRG := Lib.hid hrg
  have HOG := Lib.hid hog
  have hnz : Az = none → cz = 0 := by
    intro e
    subst e
    rcases hoz.2 with ⟨h1, _⟩ | ⟨g', cap, cur, h1, _⟩
    · injection h1 with _ _ h1
    · cases h1
  have hng : Ag = none → cg = 0 := by
    intro e
    subst e
    rcases hog.2 with ⟨h1, _⟩ | ⟨g', cap, cur, h1, _⟩
    · injection h1 with _ _ h1
    · cases h1
  have HNZ := Lib.hid hnz
  have HNG := Lib.hid hng
  have hs2 := HB2.out.size
  have hs3 := HB3.out.size
  have hs4 := hb4.size
  have HAP := Lib.hid (own_ne (rows_apart HOY.out hog (Nat.le_refl _)))
  clear hrz hrg hb4 hoz hog hnz hng hoy4 hod4 hout lz mz lg mg
  go_wp2_with (at_builtin; refine wpList_append_rd _ rfl _ _ 25 rfl w2.heap.size 3 i0 (.int .i64 0) 8 Try.underlying25 hi0 hz0 hz1 hz2 rfl _ (j + 1) _ rfl HOY4.out .i64 w4.heap.size Az cz Z (by rw [HZL.out]; rfl) HRZ.out HNZ.out (by rw [HZL.out]; unfold maxLen; omega) (by rw [HZL.out]; omega) (by omega) ?_)
  intro v5 w5 ho5 hg5
  have hb5 : Below w2.heap.size w4 w5 := grow_below0 (Below.refl _ _) HOY4.out hg5 (by omega)
  have ho5' : w5.ownsRow w2.heap.size 3 1 v5 X.length (X.map (Value.int .i64)) := by
    rw [HXL.out, HXJ.out, List.map_append]
    rw [HZL.out, Nat.add_zero] at ho5
    exact ho5
  obtain ⟨A5, c5, rfl, hr5, _, _, _⟩ := reads_own ho5'
  rw [HXL.out] at ho5' ⊢
  have HO5 := Lib.hid ho5'
  have HOD5 := Lib.hid (World.ownsRow.kept HOD4.out hg5 (rows_kinds HOD4.out HOY4.out (by decide)))
  have HRG5 := Lib.hid (rd_apart HOG.out HRG.out hg5 HAP.out)
  have HRX5 := Lib.hid (HRX4.out.below hb5)
  have HRC5 := Lib.hid (HRC4.out.below hb5)
  have HB5 := Lib.hid hb5
  have hs5 := hb5.size
  clear ho5 ho5' hg5 hb5 hr5
  go_wp2_with (at_builtin; refine wpList_append_rd _ rfl _ _ 22 rfl w2.heap.size 34 i1 (.int .i64 0) 8 Try.underlying22 hi1 hy0 hy1 hy2 rfl _ (j + 1) _ rfl HOD5.out .i64 w4.heap.size Ag cg G (by rw [HGL.out]; rfl) HRG5.out HNG.out (by rw [HGL.out]; unfold maxLen; omega) (by rw [HGL.out]; omega) (by omega) ?_)
  intro v6 w6 ho6 hg6
  have hb6 : Below w2.heap.size w5 w6 := grow_below0 (Below.refl _ _) HOD5.out hg6 (by omega)
  have ho6' : w6.ownsRow w2.heap.size 34 1 v6 C.length (C.map (Value.int .i64)) := by
    rw [HCL.out, HCJ.out, List.map_append]
    rw [HGL.out, Nat.add_zero] at ho6
    exact ho6
  obtain ⟨A6, c6, rfl, hr6, _, _, _⟩ := reads_own ho6'
  rw [HCL.out]
  have ho56 := World.ownsRow.kept HO5.out hg6 (rows_kinds HO5.out HOD5.out (by decide))
  obtain ⟨A5', c5', e5, hr5, _, _, _⟩ := reads_own (l := X) (by rw [HXL.out]; exact ho56)
  injection e5 with e5 e5n e5b
  clear e5n
  subst e5 e5b
  have hs6 := hb6.size
  have HR6 := Lib.hid hr6
  have HRY6 := Lib.hid hr5
  have HRX6 := Lib.hid ((HRX5.out.below hb6).more (show w2.heap.size ≤ w6.heap.size by omega))
  have HRC6 := Lib.hid ((HRC5.out.below hb6).more (show w2.heap.size ≤ w6.heap.size by omega))
  have HB6 := Lib.hid (HB2.out.trans (((HB3.out.trans (HB4.out.mono hs3)).trans (HB5.out.trans hb6)).mono hs2))
  clear ho6 ho6' hg6 hb6 hr6 hr5 ho56 hs2 hs3 hs4 hs5 hs6
  go_wp2_with fail
  refine (same_same Ac A6 cc c6 (j + 1) _ w6 HRC6.out HR6.out HCL.out (by omega)).mono ?_
  rintro r w7 ⟨rfl, hb7⟩
  have HRX7 := Lib.hid ((HRX6.out.below hb7).more hb7.size)
  have HRY7 := Lib.hid ((HRY6.out.below hb7).more hb7.size)
  have HB7 := Lib.hid (HB6.out.trans (hb7.mono HB6.out.size))
  clear hb7
  go_wp2_with fail
  refine (alive_any _).mono ?_
  rintro r w8 ⟨rfl, hb8⟩
  have HRX8 := Lib.hid ((HRX7.out.below hb8).more hb8.size)
  have HRY8 := Lib.hid ((HRY7.out.below hb8).more hb8.size)
  have HB8 := Lib.hid (HB7.out.trans (hb8.mono HB7.out.size))
  clear hb8
  go_wp2_with fail
  refine (ints_same Ax A5 cx c5 (j + 1) _ w8 HRX8.out HRY8.out HXL.out (by omega)).mono ?_
  rintro r w9 ⟨rfl, hb9⟩
  have HB9 := Lib.hid (HB8.out.trans (hb9.mono HB8.out.size))
  clear hb9
  go_wp2_with fail
  go_ret
  exact ⟨rfl, HB9.out⟩
theorem partsLaw_any (A : Option Addr) (ca n : Nat) (i base : Int) (l : List Int) (w : World) (hr : RdS .i64 w w.heap.size A l) (hn : l.length = n) (hca : n ≤ ca) (hm : ca ≤ maxLen) :
    Calls Try.prog 7 #[.slice A n ca, .int .i64 i, .int .i64 base] w fun r w' => r = .returned (.bool true) ∧ Below w.heap.size w w' := by
  by_cases h : n ≤ 400
  · by_cases h1 : i < 1
    · exact parts_low A ca n i base w h h1
    · by_cases h2 : (n : Int) < i
      · exact parts_high A ca n i base w h h2 h1
      · obtain ⟨j, hj⟩ : ∃ j : Nat, i = (j : Int) + 1 := ⟨(i - 1).toNat, by omega⟩
        have hjn : j < n := by omega
        obtain ⟨x, hx⟩ : ∃ x, l[j]? = some x := ⟨_, List.getElem?_eq_getElem (by omega)⟩
        by_cases h10 : x = 10
        · subst h10
          by_cases hcap : ca = j + 1
          · exact parts_end A ca n i base l w j hj hr hn h hca hm hjn hx hcap
          · exact parts_cut A ca n i base l w j hj hr hn h hca hm hjn hx hcap
        · exact parts_other A ca n i base l w j hj hr hn h hjn x hx h10
  · exact parts_long A ca n i base w (by omega) (by omega)
end Go.Proofs.Ytdipaiflfhdpoaa
