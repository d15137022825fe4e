/- The document's own Sorted, over the translation: a slice that holds the words in order, stably. Conditions: the slice reads as a list of words, at most sixty of them. -/
import Derived.Test.YtdjdgpfoakkamaaSorted
import Derived.Test.YtdjdgpfoakkamaaSum
import Derived.Test.YtdjdgpfoakkamaaAppendRd
namespace Go.Proofs.Ytdjdgpfoakkamaa
open Go.RowKit

theorem one_new (w : World) (x : Value) (ty : TypeId) : ∀ j u, [x][j]? = some u → (w.alloc (.cells #[x] ty)).cell? ((⟨w.heap.size, 0, none⟩ : Addr).add j) = some u := by
  intro j u hj
  match j, hj with
  | 0, hj => simp at hj; subst hj; simp [Addr.add]
theorem one_cell {k : IntKind} {x : Int} : ∀ u ∈ [Value.int k x], u.oneCell' = true := by
  intro u hu; simp at hu; subst hu; rfl
theorem grow_below0 {w w1 w2 : World} {base n : Nat} {t : TypeId} {v : Value} {xs : List Value} (hb : Below base w w1) (h : w1.ownsRow base t 1 v n xs) (hg : w1.grownBy w2 v.ownBlock) (hbase : base ≤ w1.heap.size) : Below base w w2 :=
  hb.grown hg hbase (fun k hk => (World.ownsRow.lt h k hk).1)
theorem reads_own {k : IntKind} {w : World} {base : Nat} {t : TypeId} {v : Value} {l : List Int} (h : w.ownsRow base t 1 v l.length (l.map (Value.int k))) :
    ∃ A' c', v = .slice A' l.length c' ∧ RdS k w w.heap.size A' l ∧ l.length ≤ c' ∧ c' ≤ maxLen ∧ (A' = none → c' = 0) := by
  rcases h.2 with ⟨rfl, h0⟩ | ⟨g, cap, cur, rfl, _, hg, hn, hm, _, htake⟩
  · have : l = [] := List.eq_nil_of_length_eq_zero h0
    subst this
    exact ⟨none, 0, rfl, RdS.nil, Nat.le_refl _, Nat.zero_le _, fun _ => rfl⟩
  · refine ⟨_, cap, rfl, fun j x hx => ⟨_, rfl, lt_of_block hg, ?_⟩, hn, hm, fun h => by cases h⟩
    exact World.ownsRow.cells h rfl j _ (by rw [List.getElem?_map, hx]; rfl)

theorem cut_none {A : Option Addr} {c k : Nat} (hA : A = none → c = 0) : (if c = k then A else A.map (·.add k)) = none → c - k = 0 := by
  intro h
  split at h
  · omega
  · rw [Option.map_eq_none_iff] at h
    have := hA h
    omega
theorem refOrder_below (x y : Int) (w : World) (h0 : 0 ≤ x) (h1 : x ≤ 18446744073709551615) (g0 : 0 ≤ y) (g1 : y ≤ 18446744073709551615) :
    Calls Try.prog 16 #[.int .u64 x, .int .u64 y] w fun r w' => r = .returned (.int .i64 (M.signI (M.rk x) (M.rk y))) ∧ Below w.heap.size w w' :=
  (refOrder_any x y w h0 h1 g0 g1).mono fun r w' ⟨hr, hw⟩ => ⟨by rw [hr, order_place h0 h1 g0 g1]; rfl, by rw [hw]; exact Below.refl _ _⟩

set_option maxHeartbeats 8000000 in
theorem refSorted_any (A : Option Addr) (ca n : Nat) (l : List Int) (w : World) (hr : RdS .u64 w w.heap.size A l) (hw : M.Wd l) (hn : l.length = n) (hl : n ≤ 60) :
    Calls Try.prog 21 #[.slice A n ca] w (SortedOut l w) := by
  obtain ⟨i0, hi, hz0, hz1, hz2⟩ := info_parts Try.infoWord
  have HR := Lib.hid hr
  have HN := Lib.hid hn
  have HW := Lib.hid hw
  have hl1 : (n : Int) ≤ 60 := by omega
  clear hr hn hw
  go_enter Try.func21, Try.ntmps21
  go_wp2_with fail
  go_loopw [3, 4] (fun o v wr => ∃ (i c : Nat) (A' : Option Addr) (t : List Int), o = .slice A' i c ∧ v = .int .i64 i ∧ i ≤ n ∧ t.length = i ∧ i ≤ c ∧ c ≤ maxLen ∧ (A' = none → c = 0) ∧ RdS .u64 wr wr.heap.size A' t ∧ M.Sor t ∧ M.St (l.take i) t ∧ Below w.heap.size w wr) (fun _ v _ => n - (intOf v).toNat)
  case atStart => exact ⟨0, 0, none, [], rfl, rfl, Nat.zero_le _, rfl, Nat.le_refl _, Nat.zero_le _, fun _ => rfl, RdS.nil, M.Sor.nil, M.St.refl _, Below.refl _ _⟩
  case round =>
    obtain ⟨i, c, A', t, rfl, rfl, hin, ht, hic, hcm, hA, hrd, hs, hst, hb⟩ := hrel
    have hn := HN.out
    have i0' : (0 : Int) ≤ i := by omega
    by_cases hlt : i < n
    · obtain ⟨ad, x, hAl, hcx, hx, hab⟩ := rd_at HR.out hb (by omega : i < l.length)
      have HX := Lib.hid (show l[i]? = some x from hx)
      have HRD := Lib.hid hrd
      have HS := Lib.hid hs
      have HST := Lib.hid hst
      have HB := Lib.hid hb
      have HT := Lib.hid ht
      have HA := Lib.hid hA
      have i1 : (i : Int) < n := by omega
      have hxw := HW.out x (List.mem_of_getElem? hx)
      have htw : M.Wd t := fun y hy => HW.out y (List.mem_of_mem_take (hst.mem.2 hy))
      have HTW := Lib.hid htw
      have HXW := Lib.hid hxw
      have hcm' : (c : Int) ≤ 9223372036854775807 := by unfold maxLen at hcm; omega
      have HCM := Lib.hid hcm
      have hic' : (i : Int) ≤ c := by omega
      have HHB := Lib.hid (show w.heap.size ≤ wr.heap.size from hb.size)
      have HCX := Lib.hid hcx
      clear hrd hs hst ht hA hx hab hb hxw htw hcm hn hcx
      subst hAl
      obtain ⟨W0, rfl⟩ : ∃ W, W = wr := ⟨_, rfl⟩
      go_wp2_with fail
      go_loopw [5] (fun v w2 => ∃ (k : Nat) (p q : List Int), v = .int .i64 k ∧ k ≤ i ∧ t = p ++ q ∧ p.length = k ∧ (∀ z ∈ q, M.rk x < M.rk z) ∧ Below W0.heap.size W0 w2) (fun v _ => (intOf v).toNat)
      case atStart => exact ⟨i, t, [], rfl, Nat.le_refl _, by simp, HT.out, by simp, Below.refl _ _⟩
      case round =>
        obtain ⟨k, p, q, rfl, hki, htpq, hpk, hq, hbi⟩ := hrel
        have HBI := Lib.hid hbi
        have hrd := HRD.out.below hbi
        have k0' : (0 : Int) ≤ k := by omega
        have k1' : (k : Int) ≤ i := by omega
        have kc : (k : Int) ≤ c := by omega
        have kc2 : k ≤ c := by omega
        have hcx := (hbi.cell (block_lt_of_cell HCX.out)).trans HCX.out
        have HQ := Lib.hid hq
        have HTPQ := Lib.hid htpq
        have HPK := Lib.hid hpk
        have ht := HT.out
        by_cases hk : 0 < k
        · have k2 : (0 : Int) < k := by omega
          obtain ⟨y, hy⟩ : ∃ y, t[k - 1]? = some y := ⟨_, List.getElem?_eq_getElem (by omega)⟩
          obtain ⟨ad2, hA2, _, hcy0⟩ := hrd (k - 1) y hy
          have hyw := HTW.out y (List.mem_of_getElem? hy)
          have hxw := HXW.out
          have C0 := fun d os => refOrder_below y x (Sort.grow (redrawn wr d) os) hyw.1 hyw.2 hxw.1 hxw.2
          have cx := fun d os => cell_regrown hcx d os
          have cy := fun d os => cell_regrown hcy0 d os
          have HYW := Lib.hid (show t[k - 1]? = some y from hy)
          by_cases hxy : M.rk x < M.rk y
          · have e : M.signI (M.rk y) (M.rk x) = 1 := by
              unfold M.signI
              rw [if_neg (by omega), if_pos hxy]
            rw [e] at C0
            have C1 := Lib.hid (fun d os => Calls.regrown_of (C0 d os))
            have HREL := Lib.hid (show ∃ p2, t = p2 ++ (y :: q) ∧ p2.length = k - 1 ∧ ∀ z ∈ y :: q, M.rk x < M.rk z from by
              obtain ⟨p2, z, hpz⟩ : ∃ p2 z, p = p2 ++ [z] := by
                rcases List.eq_nil_or_concat p with h | ⟨a, b, h⟩
                · subst h; simp at hpk; omega
                · exact ⟨a, b, by simpa using h⟩
              subst hpz
              have hl2 : p2.length = k - 1 := by simp at hpk; omega
              have : z = y := by
                rw [htpq, List.append_assoc, List.getElem?_append_right (by omega), show k - 1 - p2.length = 0 by omega] at hy
                simpa using hy
              subst this
              refine ⟨p2, by rw [htpq]; simp, hl2, fun v hv => ?_⟩
              rcases List.mem_cons.1 hv with h | h
              · rw [h]; exact hxy
              · exact hq v h)
            subst hA2
            clear hrd hcx hcy0 C0 e hxy hy hyw hxw hq htpq hpk hbi ht
            go_wp2_with fail
            refine wp_region_quiet_below (by kernel_rfl) (by kernel_rfl) ?_
            repeat (go_big_quiet_step (with_reducible exact C1.out _ _))
            refine wpQuiet_nil ?_
            intro _ hw'
            obtain ⟨⟨dq, osq⟩, hw4⟩ := hw'
            subst hw4
            have HB5 := Lib.hid (show Below W0.heap.size W0 (Sort.grow (redrawn wr dq) osq) from HBI.out.trans ((below_regrown wr dq osq).mono HBI.out.size))
            obtain ⟨W2, hW2⟩ : ∃ W, Sort.grow (redrawn wr dq) osq = W := ⟨_, rfl⟩
            have HBW := Lib.hid (below_regrown wr dq osq)
            rw [hW2] at HB5 HBW
            dsimp only
            rw [hW2]
            clear hW2
            clear cx cy
            go_wp2_with fail
            go_roundw
            case rel =>
              obtain ⟨p2, g1, g2, g3⟩ := HREL.out
              exact ⟨k - 1, p2, y :: q, by go_num, by omega, g1, g2, g3, HB5.out⟩
            case measure => simp [intOf]; omega
          · have e : ¬ 0 < M.signI (M.rk y) (M.rk x) := by rw [signI_le]; exact hxy
            obtain ⟨o, ho⟩ : ∃ o, M.signI (M.rk y) (M.rk x) = o := ⟨_, rfl⟩
            rw [ho] at C0 e
            have C1 := Lib.hid (fun d os => Calls.regrown_of (C0 d os))
            have HLE := Lib.hid (show ∀ z ∈ p, M.rk z ≤ M.rk x from fun z hz => by
              obtain ⟨j, hj, hjz⟩ := List.mem_iff_getElem.1 hz
              have h1 : t[j]? = some z := by
                rw [htpq, List.getElem?_append_left hj]
                exact List.getElem?_eq_some_iff.2 ⟨hj, hjz⟩
              have := HS.out.at (show j ≤ k - 1 by omega) h1 hy
              omega)
            have HP := Lib.hid (show RdS .u64 wr W0.heap.size A' p by have := hrd.take k; rw [htpq, List.take_append_of_le_length (by omega), List.take_of_length_le (by omega)] at this; exact this)
            have HQQ := Lib.hid (show RdS .u64 wr W0.heap.size (if c = k then A' else A'.map (·.add k)) q by have := hrd.cut (n := k) (cap := c) (by omega); rw [htpq, List.drop_append_of_le_length (by omega), List.drop_of_length_le (by omega), List.nil_append] at this; exact this)
            subst hA2
            clear hrd hcx hcy0 C0 ho hxy hy hyw hxw hq htpq hpk hbi ht
            go_wp2_with fail
            refine wp_region_quiet_below (by kernel_rfl) (by kernel_rfl) ?_
            repeat (go_big_quiet_step (with_reducible exact C1.out _ _))
            refine wpQuiet_nil ?_
            intro _ hw'
            obtain ⟨⟨dq, osq⟩, hw4⟩ := hw'
            subst hw4
            have HB5 := Lib.hid (show Below W0.heap.size W0 (Sort.grow (redrawn wr dq) osq) from HBI.out.trans ((below_regrown wr dq osq).mono HBI.out.size))
            obtain ⟨W2, hW2⟩ : ∃ W, Sort.grow (redrawn wr dq) osq = W := ⟨_, rfl⟩
            have HBW := Lib.hid (below_regrown wr dq osq)
            rw [hW2] at HB5 HBW
            dsimp only
            rw [hW2]
            clear hW2
            clear cx cy
            have HB6 := Lib.hid (show Below wr.heap.size wr W2 from HBW.out)
            have HP2 := Lib.hid (HP.out.keep (w' := W2) (fun p hp => HB6.out.cell (Nat.lt_of_lt_of_le hp HBI.out.size)))
            have HQ2 := Lib.hid (HQQ.out.keep (w' := W2) (fun p hp => HB6.out.cell (Nat.lt_of_lt_of_le hp HBI.out.size)))
            have HQL := Lib.hid (show q.length = i - k by have h1 := HT.out; have h2 := HTPQ.out; have h3 := HPK.out; rw [h2] at h1; simp at h1; omega)
            have HCX2 := Lib.hid ((HB5.out.cell (block_lt_of_cell HCX.out)).trans HCX.out)
            have HSZ := Lib.hid (show W0.heap.size ≤ W2.heap.size ∧ ad.block < W0.heap.size from ⟨HB5.out.size, by have := block_lt_of_cell HCX.out; rwa [addr_block] at this⟩)
            go_wp2_with (at_builtin; refine wpList_append_rd _ rfl (.tmp 32) (.tmp 35) 32 rfl W2.heap.size 22 i0 (.int .u64 0) 8 Try.underlying32 hi hz0 hz1 hz2 rfl _ 0 [] rfl (World.ownsRow_lit W2 #[] 0 (Nat.le_refl _) (Nat.zero_le _) rfl) .u64 W0.heap.size _ c p (by rw [HPK.out]; rfl) (HP2.out.keep (fun p hp => World.cell?_alloc_lt W2 _ p (by have := HSZ.out.1; omega))) HA.out (by have := HPK.out; unfold maxLen; omega) (by have := HPK.out; omega) (by simp) ?_)
            intro v3 w3 ho3 hg3
            have hb3 : Below W2.heap.size W2 w3 := grow_below0 ((Below.refl _ _).alloc (Nat.le_refl _) _) (World.ownsRow_lit W2 #[] 0 (Nat.le_refl _) (Nat.zero_le _) rfl) hg3 (by simp)
            have HB3 := Lib.hid hb3
            have HO3 := Lib.hid (show w3.ownsRow W2.heap.size 22 1 v3 p.length (p.map (Value.int .u64)) by simpa using ho3)
            have hcx3 : w3.cell? (ad.add i) = some (.int .u64 x) := (hb3.cell (by rw [addr_block]; have := HSZ.out; omega)).trans HCX2.out
            have HS3 := Lib.hid hb3.size
            clear ho3 hg3 hb3
            go_wp2_with (at_builtin; refine wpList_append_own _ rfl (.tmp 37) (.tmp 42) 32 rfl W2.heap.size 22 i0 (.int .u64 0) 1 8 Try.underlying32 hi hz0 hz1 hz2 rfl (by decide) _ _ _ rfl (World.ownsRow.alloc HO3.out _) ⟨w3.heap.size, 0, none⟩ 1 1 [.int .u64 x] rfl rfl (one_new _ _ _) one_cell (by have := HPK.out; unfold maxLen; omega) (by have := HPK.out; omega) (by have := HS3.out; simp; omega) ?_)
            intro v4 w4 ho4 hg4 _
            have hb4 : Below W2.heap.size W2 w4 := grow_below0 (HB3.out.alloc HS3.out _) (World.ownsRow.alloc HO3.out _) hg4 (by have := HS3.out; simp; omega)
            have HB4 := Lib.hid hb4
            have HO4 := Lib.hid (show w4.ownsRow W2.heap.size 22 1 v4 (p ++ [x]).length ((p ++ [x]).map (Value.int .u64)) by simpa using ho4)
            have HQ4 := Lib.hid (HQ2.out.keep (w' := w4) (fun p hp => hb4.cell (by have := HSZ.out.1; omega)))
            have HS4 := Lib.hid hb4.size
            clear ho4 hg4 hb4 hcx3
            go_wp2_with (at_builtin; refine wpList_append_rd _ rfl (.tmp 44) (.tmp 47) 32 rfl W2.heap.size 22 i0 (.int .u64 0) 8 Try.underlying32 hi hz0 hz1 hz2 rfl _ _ _ rfl HO4.out .u64 W0.heap.size _ (c - k) q (by rw [HQL.out]; rfl) HQ4.out (cut_none HA.out) (by have := HPK.out; have := HQL.out; unfold maxLen; simp; omega) (by have := HPK.out; have := HQL.out; simp; omega) HS4.out ?_)
            all_goals
              intro v5 w5 ho5 hg5
              have hb5 : Below W2.heap.size W2 w5 := grow_below0 HB4.out HO4.out hg5 HS4.out
              have HO5 := Lib.hid (show w5.ownsRow W2.heap.size 22 1 v5 (p ++ x :: q).length ((p ++ x :: q).map (Value.int .u64)) by have := ho5; simp at this ⊢; rw [show p.length + 1 + q.length = p.length + (q.length + 1) by omega] at this; exact this)
              have hlen : (p ++ x :: q).length = i + 1 := by have h3 := HPK.out; have h4 := HQL.out; simp; omega
              obtain ⟨A5, c5, rfl, hr5, hx5, hm5, hn5⟩ := reads_own HO5.out
              rw [hlen] at hx5 ⊢
              have HF := Lib.hid (show (p ++ x :: q).length = i + 1 ∧ i + 1 ≤ c5 ∧ c5 ≤ maxLen ∧ (A5 = none → c5 = 0) ∧ RdS .u64 w5 w5.heap.size A5 (p ++ x :: q) ∧ Below w.heap.size w w5 from ⟨hlen, hx5, hm5, hn5, hr5, HB.out.trans ((HB5.out.trans (hb5.mono HSZ.out.1)).mono HHB.out)⟩)
              have HSO := Lib.hid (show M.Sor (p ++ x :: q) from by
                have h := HS.out
                rw [HTPQ.out] at h
                obtain ⟨s1, s2, s3⟩ := M.Sor.app.1 h
                refine M.Sor.app.2 ⟨s1, M.Sor.cons.2 ⟨fun z hz => Int.le_of_lt (HQ.out z hz), s2⟩, fun z hz v hv => ?_⟩
                rcases List.mem_cons.1 hv with k | k
                · rw [k]; exact HLE.out z hz
                · exact s3 z hz v k)
              have HSS := Lib.hid (show M.St (l.take (i + 1)) (p ++ x :: q) from by
                have e : l.take (i + 1) = l.take i ++ [x] := by
                  obtain ⟨h1, h2⟩ := List.getElem?_eq_some_iff.1 HX.out
                  rw [List.take_succ_eq_append_getElem h1, h2]
                rw [e]
                have h1 := HST.out
                rw [HTPQ.out] at h1
                have h2 : M.St (q ++ [x]) ([x] ++ q) := M.St.turn (fun c hc d hd => by simp at hd; subst hd; have := HQ.out c hc; omega)
                have h3 := h1.app (M.St.refl [x])
                have h4 := (M.St.refl p).app h2
                rw [List.append_assoc] at h3
                have h5 := h3.trans h4
                simpa using h5)
              clear ho5 hg5 hb5 hlen hr5 hx5 hm5 hn5
              go_wp2_with fail
              go_roundw
              case rel =>
                obtain ⟨f1, f2, f3, f4, f5, f6⟩ := HF.out
                exact ⟨i + 1, c5, A5, p ++ x :: q, rfl, by go_num, by omega, f1, f2, f3, f4, f5, HSO.out, HSS.out, f6⟩
              case measure => simp [intOf]; omega
        · have k2 : ¬ (0 : Int) < k := by omega
          have HLE := Lib.hid (show ∀ z ∈ p, M.rk z ≤ M.rk x from fun z hz => by
            have : p = [] := List.eq_nil_of_length_eq_zero (by omega)
            rw [this] at hz
            cases hz)
          have HP := Lib.hid (show RdS .u64 wr W0.heap.size A' p by have := hrd.take k; rw [htpq, List.take_append_of_le_length (by omega), List.take_of_length_le (by omega)] at this; exact this)
          have HQQ := Lib.hid (show RdS .u64 wr W0.heap.size (if c = k then A' else A'.map (·.add k)) q by have := hrd.cut (n := k) (cap := c) (by omega); rw [htpq, List.drop_append_of_le_length (by omega), List.drop_of_length_le (by omega), List.nil_append] at this; exact this)
          clear hrd hcx hq htpq hpk hbi ht
          go_wp2_with fail
          refine wp_region_quiet_below (by kernel_rfl) (by kernel_rfl) ?_
          repeat (go_big_quiet_step (fail))
          refine wpQuiet_nil ?_
          intro _ hw'
          obtain ⟨⟨dq, osq⟩, hw4⟩ := hw'
          subst hw4
          have HB5 := Lib.hid (show Below W0.heap.size W0 (Sort.grow (redrawn wr dq) osq) from HBI.out.trans ((below_regrown wr dq osq).mono HBI.out.size))
          obtain ⟨W2, hW2⟩ : ∃ W, Sort.grow (redrawn wr dq) osq = W := ⟨_, rfl⟩
          have HBW := Lib.hid (below_regrown wr dq osq)
          rw [hW2] at HB5 HBW
          dsimp only
          rw [hW2]
          clear hW2
          have HB6 := Lib.hid (show Below wr.heap.size wr W2 from HBW.out)
          have HP2 := Lib.hid (HP.out.keep (w' := W2) (fun p hp => HB6.out.cell (Nat.lt_of_lt_of_le hp HBI.out.size)))
          have HQ2 := Lib.hid (HQQ.out.keep (w' := W2) (fun p hp => HB6.out.cell (Nat.lt_of_lt_of_le hp HBI.out.size)))
          have HQL := Lib.hid (show q.length = i - k by have h1 := HT.out; have h2 := HTPQ.out; have h3 := HPK.out; rw [h2] at h1; simp at h1; omega)
          have HCX2 := Lib.hid ((HB5.out.cell (block_lt_of_cell HCX.out)).trans HCX.out)
          have HSZ := Lib.hid (show W0.heap.size ≤ W2.heap.size ∧ ad.block < W0.heap.size from ⟨HB5.out.size, by have := block_lt_of_cell HCX.out; rwa [addr_block] at this⟩)
          go_wp2_with (at_builtin; refine wpList_append_rd _ rfl (.tmp 32) (.tmp 35) 32 rfl W2.heap.size 22 i0 (.int .u64 0) 8 Try.underlying32 hi hz0 hz1 hz2 rfl _ 0 [] rfl (World.ownsRow_lit W2 #[] 0 (Nat.le_refl _) (Nat.zero_le _) rfl) .u64 W0.heap.size _ c p (by rw [HPK.out]; rfl) (HP2.out.keep (fun p hp => World.cell?_alloc_lt W2 _ p (by have := HSZ.out.1; omega))) HA.out (by have := HPK.out; unfold maxLen; omega) (by have := HPK.out; omega) (by simp) ?_)
          intro v3 w3 ho3 hg3
          have hb3 : Below W2.heap.size W2 w3 := grow_below0 ((Below.refl _ _).alloc (Nat.le_refl _) _) (World.ownsRow_lit W2 #[] 0 (Nat.le_refl _) (Nat.zero_le _) rfl) hg3 (by simp)
          have HB3 := Lib.hid hb3
          have HO3 := Lib.hid (show w3.ownsRow W2.heap.size 22 1 v3 p.length (p.map (Value.int .u64)) by simpa using ho3)
          have hcx3 : w3.cell? (ad.add i) = some (.int .u64 x) := (hb3.cell (by rw [addr_block]; have := HSZ.out; omega)).trans HCX2.out
          have HS3 := Lib.hid hb3.size
          clear ho3 hg3 hb3
          go_wp2_with (at_builtin; refine wpList_append_own _ rfl (.tmp 37) (.tmp 42) 32 rfl W2.heap.size 22 i0 (.int .u64 0) 1 8 Try.underlying32 hi hz0 hz1 hz2 rfl (by decide) _ _ _ rfl (World.ownsRow.alloc HO3.out _) ⟨w3.heap.size, 0, none⟩ 1 1 [.int .u64 x] rfl rfl (one_new _ _ _) one_cell (by have := HPK.out; unfold maxLen; omega) (by have := HPK.out; omega) (by have := HS3.out; simp; omega) ?_)
          intro v4 w4 ho4 hg4 _
          have hb4 : Below W2.heap.size W2 w4 := grow_below0 (HB3.out.alloc HS3.out _) (World.ownsRow.alloc HO3.out _) hg4 (by have := HS3.out; simp; omega)
          have HB4 := Lib.hid hb4
          have HO4 := Lib.hid (show w4.ownsRow W2.heap.size 22 1 v4 (p ++ [x]).length ((p ++ [x]).map (Value.int .u64)) by simpa using ho4)
          have HQ4 := Lib.hid (HQ2.out.keep (w' := w4) (fun p hp => hb4.cell (by have := HSZ.out.1; omega)))
          have HS4 := Lib.hid hb4.size
          clear ho4 hg4 hb4 hcx3
          go_wp2_with (at_builtin; refine wpList_append_rd _ rfl (.tmp 44) (.tmp 47) 32 rfl W2.heap.size 22 i0 (.int .u64 0) 8 Try.underlying32 hi hz0 hz1 hz2 rfl _ _ _ rfl HO4.out .u64 W0.heap.size _ (c - k) q (by rw [HQL.out]; rfl) HQ4.out (cut_none HA.out) (by have := HPK.out; have := HQL.out; unfold maxLen; simp; omega) (by have := HPK.out; have := HQL.out; simp; omega) HS4.out ?_)
          all_goals
            intro v5 w5 ho5 hg5
            have hb5 : Below W2.heap.size W2 w5 := grow_below0 HB4.out HO4.out hg5 HS4.out
            have HO5 := Lib.hid (show w5.ownsRow W2.heap.size 22 1 v5 (p ++ x :: q).length ((p ++ x :: q).map (Value.int .u64)) by have := ho5; simp at this ⊢; rw [show p.length + 1 + q.length = p.length + (q.length + 1) by omega] at this; exact this)
            have hlen : (p ++ x :: q).length = i + 1 := by have h3 := HPK.out; have h4 := HQL.out; simp; omega
            obtain ⟨A5, c5, rfl, hr5, hx5, hm5, hn5⟩ := reads_own HO5.out
            rw [hlen] at hx5 ⊢
            have HF := Lib.hid (show (p ++ x :: q).length = i + 1 ∧ i + 1 ≤ c5 ∧ c5 ≤ maxLen ∧ (A5 = none → c5 = 0) ∧ RdS .u64 w5 w5.heap.size A5 (p ++ x :: q) ∧ Below w.heap.size w w5 from ⟨hlen, hx5, hm5, hn5, hr5, HB.out.trans ((HB5.out.trans (hb5.mono HSZ.out.1)).mono HHB.out)⟩)
            have HSO := Lib.hid (show M.Sor (p ++ x :: q) from by
              have h := HS.out
              rw [HTPQ.out] at h
              obtain ⟨s1, s2, s3⟩ := M.Sor.app.1 h
              refine M.Sor.app.2 ⟨s1, M.Sor.cons.2 ⟨fun z hz => Int.le_of_lt (HQ.out z hz), s2⟩, fun z hz v hv => ?_⟩
              rcases List.mem_cons.1 hv with k | k
              · rw [k]; exact HLE.out z hz
              · exact s3 z hz v k)
            have HSS := Lib.hid (show M.St (l.take (i + 1)) (p ++ x :: q) from by
              have e : l.take (i + 1) = l.take i ++ [x] := by
                obtain ⟨h1, h2⟩ := List.getElem?_eq_some_iff.1 HX.out
                rw [List.take_succ_eq_append_getElem h1, h2]
              rw [e]
              have h1 := HST.out
              rw [HTPQ.out] at h1
              have h2 : M.St (q ++ [x]) ([x] ++ q) := M.St.turn (fun c hc d hd => by simp at hd; subst hd; have := HQ.out c hc; omega)
              have h3 := h1.app (M.St.refl [x])
              have h4 := (M.St.refl p).app h2
              rw [List.append_assoc] at h3
              have h5 := h3.trans h4
              simpa using h5)
            clear ho5 hg5 hb5 hlen hr5 hx5 hm5 hn5
            go_wp2_with fail
            go_roundw
            case rel =>
              obtain ⟨f1, f2, f3, f4, f5, f6⟩ := HF.out
              exact ⟨i + 1, c5, A5, p ++ x :: q, rfl, by go_num, by omega, f1, f2, f3, f4, f5, HSO.out, HSS.out, f6⟩
            case measure => simp [intOf]; omega
    · obtain rfl : i = n := by omega
      have HF := Lib.hid (show RdS .u64 wr wr.heap.size A' t ∧ M.Sor t ∧ M.St l t ∧ Below w.heap.size w wr from ⟨hrd, hs, by rwa [List.take_of_length_le (by omega)] at hst, hb⟩)
      clear hrd hs hst hb hA hn hlt hcm
      go_wp2_with fail
      go_ret
      obtain ⟨f1, f2, f3, f4⟩ := HF.out
      exact ⟨A', c, t, by rw [HN.out]; rfl, f1, f2, f3, f4⟩
end Go.Proofs.Ytdjdgpfoakkamaa
