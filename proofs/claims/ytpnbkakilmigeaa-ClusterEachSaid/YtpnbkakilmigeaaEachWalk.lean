/- The walk of stage 5's fourth law: it answers true. Conditions: the slice reads as a list of joins, within its capacity. -/
import Derived.Test.YtpnbkakilmigeaaAlive
namespace Go.Proofs.Ytpnbkakilmigeaa
open Go.RowKit

set_option maxHeartbeats 4000000 in
theorem eachLong_any (A : Option Addr) (ca n : Nat) (w : World) (hn : 120 < n) (hm : n ≤ maxLen) :
    Calls Try.prog 6 #[.slice A n ca] w fun r w' => r = .returned (.bool true) ∧ Below w.heap.size w w' := by
  unfold maxLen at hm
  have h1 : (120 : Int) < n := by omega
  go_enter Try.func6, Try.ntmps6
  go_wp2_with fail
  refine (alive_any _).mono ?_
  rintro r w2 ⟨rfl, hb⟩
  have HB := Lib.hid hb
  clear hb
  go_wp2_with fail
  go_ret
  exact ⟨rfl, HB.out⟩

set_option maxHeartbeats 4000000 in
theorem eachNil_any (A : Option Addr) (ca : Nat) (w : World) :
    Calls Try.prog 6 #[.slice A 0 ca] w fun r w' => r = .returned (.bool true) ∧ Below w.heap.size w w' := by
  go_enter Try.func6, Try.ntmps6
  go_wp2_with fail
  refine (starts_any A ca 0 [] w (fun j x hx => by simp at hx) rfl (by omega) (by omega)).mono ?_
  rintro r w2 ⟨A2, c2, rfl, _, _, _, _, hb⟩
  rw [show (M.startsTo [] 0).length = 0 from rfl]
  have HB := Lib.hid hb
  clear hb
  go_wp2_with fail
  refine (alive_any _).mono ?_
  rintro r w3 ⟨rfl, hb⟩
  have HB3 := Lib.hid (HB.out.trans (hb.mono HB.out.size))
  clear hb
  go_wp2_with fail
  go_ret
  exact ⟨rfl, HB3.out⟩

set_option maxRecDepth 100000 in
set_option maxHeartbeats 8000000 in
theorem eachShort_any (A : Option Addr) (ca n : Nat) (l : List Int) (w : World) (hr : RdS .i64 w w.heap.size A l) (hn : l.length = n) (hl : n ≤ 120) (hn0 : 0 < n) (hca : n ≤ ca) :
    Calls Try.prog 6 #[.slice A n ca] w fun r w' => r = .returned (.bool true) ∧ Below w.heap.size w w' := by
  have HR := Lib.hid hr
  have HN := Lib.hid hn
  have hl1 : (n : Int) ≤ 120 := by omega
  have hnz : ((n : Int) == 0) = false := by rw [beq_eq_false_iff_ne]; omega
  have hnz' : (n == 0) = false := by rw [beq_eq_false_iff_ne]; omega
  obtain ⟨ad, _, rfl, _, _, _⟩ := rd_at hr (Below.refl _ _) (by omega : 0 < l.length)
  have hhead := M.starts_head (l := l) (by intro h; rw [h] at hn; simp at hn; omega) n hn0
  have hlen := M.startsTo_len l n
  have hclu : ∀ (k : Nat) x, (M.startsTo l n)[k]? = some x → ∃ x' e : Nat, x = x' ∧ M.Clu l k x' e := fun k x hx => M.clu (by rw [hn]; exact hx)
  have HUP := Lib.hid (M.starts_rise l n)
  have HCLU := Lib.hid hclu
  obtain ⟨xs, hxs⟩ : ∃ xs, M.startsTo l n = xs := ⟨_, rfl⟩
  have HXS := Lib.hid hxs
  rw [hxs] at hhead hlen HUP HCLU
  obtain ⟨m, hm⟩ : ∃ m, xs.length = m := ⟨_, rfl⟩
  rw [hm] at hlen
  have HM := Lib.hid hm
  have HH := Lib.hid hhead
  have hm0 : 0 < m := by rw [← hm]; exact (List.getElem?_eq_some_iff.1 hhead).1
  have m0 : (0 : Int) < m := by omega
  have m1 : (m : Int) ≤ n := by omega
  have hmz : ((m : Int) == 0) = false := by rw [beq_eq_false_iff_ne]; omega
  have hmz' : (m == 0) = false := by rw [beq_eq_false_iff_ne]; omega
  have hnm : decide (n < m) = false := decide_eq_false (by omega)
  clear hr hn hclu hxs hm hhead
  go_enter Try.func6, Try.ntmps6
  go_wp2_with fail
  refine (starts_any (some ad) ca n l w HR.out HN.out (by omega) hca).mono ?_
  rintro r w2 ⟨A2, c2, rfl, hr2, _, _, _, hb2⟩
  rw [HXS.out] at hr2 ⊢
  rw [HM.out]
  have HB2 := Lib.hid hb2
  have HR2 := Lib.hid hr2
  have HRL := Lib.hid ((HR.out.below hb2).more hb2.size)
  obtain ⟨ax, rfl, hax, hc0⟩ := hr2 0 0 HH.out
  rw [show ax.add 0 = ax by simp [Addr.add]] at hc0
  clear hb2 hr2 hax
  go_wp2_with fail
  go_loopw [4] (fun v wr => ∃ k : Nat, v = .int .i64 k ∧ k ≤ m ∧ Below w2.heap.size w2 wr) (fun v _ => m - (intOf v).toNat)
  case atStart => exact ⟨0, rfl, Nat.zero_le _, Below.refl _ _⟩
  case round =>
    obtain ⟨k, rfl, hk, hb⟩ := hrel
    have HB := Lib.hid hb
    have hmm := HM.out
    have k0 : (0 : Int) ≤ k := by omega
    clear hc0
    by_cases hlt : k < m
    · obtain ⟨x, hx⟩ : ∃ x, xs[k]? = some x := ⟨_, List.getElem?_eq_getElem (by omega)⟩
      obtain ⟨x, e, rfl, hcl⟩ := HCLU.out k x hx
      have hxe := hcl.lt
      have hen := hcl.le
      rw [HN.out] at hen
      obtain ⟨_, he1, _, hcx⟩ := (HR2.out.below hb) k x hx
      injection he1 with he1
      subst he1
      have HCL := Lib.hid hcl
      have k1 : (k : Int) < m := by omega
      have x0 : (0 : Int) ≤ x := by omega
      have xe : (x : Int) < e := by omega
      have en : (e : Int) ≤ n := by omega
      obtain ⟨a, ha⟩ : ∃ a, l[x]? = some a := ⟨_, List.getElem?_eq_getElem (by have := HN.out; omega)⟩
      obtain ⟨_, ha1, _, hca⟩ := (HRL.out.below hb) x a ha
      injection ha1 with ha1
      subst ha1
      -- the end of the cluster
      have hend : (k + 1 < m ∧ wr.cell? ⟨ax.block, ax.off + (k + 1), none⟩ = some (.int .i64 e)) ∨ (k + 1 = m ∧ n = e) := by
        rcases Nat.lt_or_ge (k + 1) m with h | h
        · obtain ⟨y, hy⟩ : ∃ y, xs[k + 1]? = some y := ⟨_, List.getElem?_eq_getElem (by omega)⟩
          obtain ⟨_, g1, _, g2⟩ := (HR2.out.below hb) (k + 1) y hy
          injection g1 with g1
          subst g1
          have := hcl.next y (by rw [HN.out, HXS.out]; exact hy)
          subst this
          exact .inl ⟨h, by rw [← addr_add_pos _ _ (by omega)]; exact g2⟩
        · refine .inr ⟨by omega, ?_⟩
          have := hcl.last (by rw [HN.out, HXS.out, hmm]; omega)
          rw [this, HN.out]
      have hfour : ((e : Int) == (x : Int) + 2) = false ∨ (((e : Int) == (x : Int) + 2) = true ∧ e = x + 2 ∧ ((a == 1) = false ∨ ((a == 1) = true ∧ ∃ b, l[x + 1]? = some b ∧ wr.cell? ⟨ad.block, ad.off + (x + 1), none⟩ = some (.int .i64 b) ∧ ((b == 2) = false ∨ (b == 2) = true)))) := by
        by_cases h2 : e = x + 2
        · refine .inr ⟨by rw [beq_iff_eq]; omega, h2, ?_⟩
          by_cases h1 : a = 1
          · refine .inr ⟨by rw [beq_iff_eq]; exact h1, ?_⟩
            obtain ⟨b, hb'⟩ : ∃ b, l[x + 1]? = some b := ⟨_, List.getElem?_eq_getElem (by have := HN.out; omega)⟩
            obtain ⟨_, g1, _, g2⟩ := (HRL.out.below hb) (x + 1) b hb'
            injection g1 with g1
            subst g1
            refine ⟨b, hb', by rw [← addr_add_pos _ _ (by omega)]; exact g2, ?_⟩
            by_cases h3 : b = 2
            · exact .inr (by rw [beq_iff_eq]; exact h3)
            · exact .inl (by rw [beq_eq_false_iff_ne]; exact h3)
          · exact .inl (by rw [beq_eq_false_iff_ne]; exact h1)
        · exact .inl (by rw [beq_eq_false_iff_ne]; omega)
      have HALONE := Lib.hid (fun (i : Nat) (j : Int) (h1 : x ≤ i) (h2 : i < e) (hj : l[i]? = some j) (he : M.endsJ j = true) (hm : x + 1 < e) => hcl.alone h1 h2 hj he hm)
      have HOF := Lib.hid (fun (i : Nat) (h1 : x ≤ i) (h2 : i < e) => show M.ofI xs i = k by have := hcl.of h1 h2; rwa [HN.out, HXS.out] at this)
      have HA := Lib.hid ha
      have hadd1 : ((x : Int) + 1).toNat = x + 1 := by omega
      have hex : decide (e ≤ x) = false := decide_eq_false (by omega)
      have hadd2 : ((k : Int) + 1).toNat = k + 1 := by omega
      have HX := Lib.hid hx
      clear hb hx hxe hen hcl hmm ha
      rcases hend with ⟨hk1, hce⟩ | ⟨hk1, rfl⟩
      · have hk1' : (k : Int) + 1 < m := by omega
        rcases hfour with g | ⟨g, ge, g2 | ⟨g2, b, hb1, hcb, g3 | g3⟩⟩
        · have HNO := Lib.hid (fun (i : Nat) (j : Int) (h1 : x ≤ i) (h2 : i < e) (hj : l[i]? = some j) (he : M.endsJ j = true) (hm : x + 1 < e) => show False by
            have := (HALONE.out i j h1 h2 hj he hm).1
            rw [beq_eq_false_iff_ne] at g
            omega)
          go_wp2_with fail
          go_loopw [7] (fun v wr2 => ∃ i : Nat, v = .int .i64 i ∧ x ≤ i ∧ i ≤ e ∧ Below wr.heap.size wr wr2) (fun v _ => e - (intOf v).toNat)
          case atStart => exact ⟨x, rfl, Nat.le_refl _, by omega, Below.refl _ _⟩
          case round =>
            rename World => wr2
            obtain ⟨i, rfl, hxi, hie, hbi⟩ := hrel
            have HBI := Lib.hid hbi
            have hnn := HN.out
            have i0 : (0 : Int) ≤ i := by omega
            by_cases hlt2 : i < e
            · obtain ⟨j, hj⟩ : ∃ j, l[i]? = some j := ⟨_, List.getElem?_eq_getElem (by omega)⟩
              have hcj : wr2.cell? (ad.add i) = some (.int .i64 j) := by
                obtain ⟨_, g1, _, g2⟩ := ((HRL.out.below HB.out).more HB.out.size |>.below hbi) i j hj
                injection g1 with g1
                subst g1
                exact g2
              have hcx2 : wr2.cell? (ax.add k) = some (.int .i64 x) := by
                obtain ⟨_, g1, _, g2⟩ := ((HR2.out.below HB.out).more HB.out.size |>.below hbi) k x HX.out
                injection g1 with g1
                subst g1
                exact g2
              have i1 : (i : Int) < e := by omega
              have i2 : (i : Int) < n := by omega
              have HJ := Lib.hid hj
              clear hbi hj hnn hcx
              rcases (show j = 1 ∨ j = 2 ∨ j = 3 ∨ (j ≠ 1 ∧ j ≠ 2 ∧ j ≠ 3) by omega) with rfl | rfl | rfl | ⟨q1, q2, q3⟩
              · by_cases hmore : x + 1 < e
                · exact (HNO.out i _ hxi hlt2 HJ.out (by decide) hmore).elim
                · have hmore1 : ¬ ((x : Int) + 1 < e) := by omega
                  clear hmore
                  go_wp2_with fail
                  refine (of_any wr2 i ((((HR2.out.below HB.out).more HB.out.size).below HBI.out).more HBI.out.size) HM.out (by omega) HUP.out).mono ?_
                  rintro r w4 ⟨rfl, hb4⟩
                  rw [HOF.out i hxi hlt2]
                  have HB4 := Lib.hid (HBI.out.trans (hb4.mono HBI.out.size))
                  clear hb4
                  go_wp2_with fail
                  go_roundw
                  case rel => exact ⟨i + 1, by go_num, by omega, by omega, HB4.out⟩
                  case measure => simp [intOf]; omega
              · by_cases hmore : x + 1 < e
                · exact (HNO.out i _ hxi hlt2 HJ.out (by decide) hmore).elim
                · have hmore1 : ¬ ((x : Int) + 1 < e) := by omega
                  clear hmore
                  go_wp2_with fail
                  refine (of_any wr2 i ((((HR2.out.below HB.out).more HB.out.size).below HBI.out).more HBI.out.size) HM.out (by omega) HUP.out).mono ?_
                  rintro r w4 ⟨rfl, hb4⟩
                  rw [HOF.out i hxi hlt2]
                  have HB4 := Lib.hid (HBI.out.trans (hb4.mono HBI.out.size))
                  clear hb4
                  go_wp2_with fail
                  go_roundw
                  case rel => exact ⟨i + 1, by go_num, by omega, by omega, HB4.out⟩
                  case measure => simp [intOf]; omega
              · by_cases hmore : x + 1 < e
                · exact (HNO.out i _ hxi hlt2 HJ.out (by decide) hmore).elim
                · have hmore1 : ¬ ((x : Int) + 1 < e) := by omega
                  clear hmore
                  go_wp2_with fail
                  refine (of_any wr2 i ((((HR2.out.below HB.out).more HB.out.size).below HBI.out).more HBI.out.size) HM.out (by omega) HUP.out).mono ?_
                  rintro r w4 ⟨rfl, hb4⟩
                  rw [HOF.out i hxi hlt2]
                  have HB4 := Lib.hid (HBI.out.trans (hb4.mono HBI.out.size))
                  clear hb4
                  go_wp2_with fail
                  go_roundw
                  case rel => exact ⟨i + 1, by go_num, by omega, by omega, HB4.out⟩
                  case measure => simp [intOf]; omega
              · have b1 : (j == 1) = false := by rw [beq_eq_false_iff_ne]; exact q1
                have b2 : (j == 2) = false := by rw [beq_eq_false_iff_ne]; exact q2
                have b3 : (j == 3) = false := by rw [beq_eq_false_iff_ne]; exact q3
                clear q1 q2 q3
                go_wp2_with fail
                refine (of_any wr2 i ((((HR2.out.below HB.out).more HB.out.size).below HBI.out).more HBI.out.size) HM.out (by omega) HUP.out).mono ?_
                rintro r w4 ⟨rfl, hb4⟩
                rw [HOF.out i hxi hlt2]
                have HB4 := Lib.hid (HBI.out.trans (hb4.mono HBI.out.size))
                clear hb4
                go_wp2_with fail
                go_roundw
                case rel => exact ⟨i + 1, by go_num, by omega, by omega, HB4.out⟩
                case measure => simp [intOf]; omega
            · obtain rfl : i = e := by omega
              have HBE := Lib.hid (HB.out.trans (hbi.mono HB.out.size))
              clear hbi hnn
              go_wp2_with fail
              go_roundw
              case rel => exact ⟨k + 1, by go_num, by omega, HBE.out⟩
              case measure => simp [intOf]; omega
        · have HGE := Lib.hid ge
          have xn : (x : Int) < n := by omega
          have xn1 : (x : Int) + 1 < n := by omega
          clear ge
          have HNO := Lib.hid (fun (i : Nat) (j : Int) (h1 : x ≤ i) (h2 : i < e) (hj : l[i]? = some j) (he : M.endsJ j = true) (hm : x + 1 < e) => show False by
            have := (HALONE.out i j h1 h2 hj he hm).2.1
            rw [HA.out] at this
            injection this with this
            rw [beq_eq_false_iff_ne] at g2
            have := HGE.out
            omega)
          go_wp2_with fail
          go_loopw [7] (fun v wr2 => ∃ i : Nat, v = .int .i64 i ∧ x ≤ i ∧ i ≤ e ∧ Below wr.heap.size wr wr2) (fun v _ => e - (intOf v).toNat)
          case atStart => exact ⟨x, rfl, Nat.le_refl _, by omega, Below.refl _ _⟩
          case round =>
            rename World => wr2
            obtain ⟨i, rfl, hxi, hie, hbi⟩ := hrel
            have HBI := Lib.hid hbi
            have hnn := HN.out
            have i0 : (0 : Int) ≤ i := by omega
            by_cases hlt2 : i < e
            · obtain ⟨j, hj⟩ : ∃ j, l[i]? = some j := ⟨_, List.getElem?_eq_getElem (by omega)⟩
              have hcj : wr2.cell? (ad.add i) = some (.int .i64 j) := by
                obtain ⟨_, g1, _, g2⟩ := ((HRL.out.below HB.out).more HB.out.size |>.below hbi) i j hj
                injection g1 with g1
                subst g1
                exact g2
              have hcx2 : wr2.cell? (ax.add k) = some (.int .i64 x) := by
                obtain ⟨_, g1, _, g2⟩ := ((HR2.out.below HB.out).more HB.out.size |>.below hbi) k x HX.out
                injection g1 with g1
                subst g1
                exact g2
              have i1 : (i : Int) < e := by omega
              have i2 : (i : Int) < n := by omega
              have HJ := Lib.hid hj
              clear hbi hj hnn hcx
              rcases (show j = 1 ∨ j = 2 ∨ j = 3 ∨ (j ≠ 1 ∧ j ≠ 2 ∧ j ≠ 3) by omega) with rfl | rfl | rfl | ⟨q1, q2, q3⟩
              · by_cases hmore : x + 1 < e
                · exact (HNO.out i _ hxi hlt2 HJ.out (by decide) hmore).elim
                · exact absurd (by have := HGE.out; omega : x + 1 < e) hmore
              · by_cases hmore : x + 1 < e
                · exact (HNO.out i _ hxi hlt2 HJ.out (by decide) hmore).elim
                · exact absurd (by have := HGE.out; omega : x + 1 < e) hmore
              · by_cases hmore : x + 1 < e
                · exact (HNO.out i _ hxi hlt2 HJ.out (by decide) hmore).elim
                · exact absurd (by have := HGE.out; omega : x + 1 < e) hmore
              · have b1 : (j == 1) = false := by rw [beq_eq_false_iff_ne]; exact q1
                have b2 : (j == 2) = false := by rw [beq_eq_false_iff_ne]; exact q2
                have b3 : (j == 3) = false := by rw [beq_eq_false_iff_ne]; exact q3
                clear q1 q2 q3
                go_wp2_with fail
                refine (of_any wr2 i ((((HR2.out.below HB.out).more HB.out.size).below HBI.out).more HBI.out.size) HM.out (by omega) HUP.out).mono ?_
                rintro r w4 ⟨rfl, hb4⟩
                rw [HOF.out i hxi hlt2]
                have HB4 := Lib.hid (HBI.out.trans (hb4.mono HBI.out.size))
                clear hb4
                go_wp2_with fail
                go_roundw
                case rel => exact ⟨i + 1, by go_num, by omega, by omega, HB4.out⟩
                case measure => simp [intOf]; omega
            · obtain rfl : i = e := by omega
              have HBE := Lib.hid (HB.out.trans (hbi.mono HB.out.size))
              clear hbi hnn
              go_wp2_with fail
              go_roundw
              case rel => exact ⟨k + 1, by go_num, by omega, HBE.out⟩
              case measure => simp [intOf]; omega
        · have HGE := Lib.hid ge
          have xn : (x : Int) < n := by omega
          have xn1 : (x : Int) + 1 < n := by omega
          clear ge
          have HNO := Lib.hid (fun (i : Nat) (j : Int) (h1 : x ≤ i) (h2 : i < e) (hj : l[i]? = some j) (he : M.endsJ j = true) (hm : x + 1 < e) => show False by
            have := (HALONE.out i j h1 h2 hj he hm).2.2
            rw [hb1] at this
            injection this with this
            rw [beq_eq_false_iff_ne] at g3
            omega)
          clear hb1
          go_wp2_with fail
          go_loopw [7] (fun v wr2 => ∃ i : Nat, v = .int .i64 i ∧ x ≤ i ∧ i ≤ e ∧ Below wr.heap.size wr wr2) (fun v _ => e - (intOf v).toNat)
          case atStart => exact ⟨x, rfl, Nat.le_refl _, by omega, Below.refl _ _⟩
          case round =>
            rename World => wr2
            obtain ⟨i, rfl, hxi, hie, hbi⟩ := hrel
            have HBI := Lib.hid hbi
            have hnn := HN.out
            have i0 : (0 : Int) ≤ i := by omega
            by_cases hlt2 : i < e
            · obtain ⟨j, hj⟩ : ∃ j, l[i]? = some j := ⟨_, List.getElem?_eq_getElem (by omega)⟩
              have hcj : wr2.cell? (ad.add i) = some (.int .i64 j) := by
                obtain ⟨_, g1, _, g2⟩ := ((HRL.out.below HB.out).more HB.out.size |>.below hbi) i j hj
                injection g1 with g1
                subst g1
                exact g2
              have hcx2 : wr2.cell? (ax.add k) = some (.int .i64 x) := by
                obtain ⟨_, g1, _, g2⟩ := ((HR2.out.below HB.out).more HB.out.size |>.below hbi) k x HX.out
                injection g1 with g1
                subst g1
                exact g2
              have i1 : (i : Int) < e := by omega
              have i2 : (i : Int) < n := by omega
              have HJ := Lib.hid hj
              clear hbi hj hnn hcx
              rcases (show j = 1 ∨ j = 2 ∨ j = 3 ∨ (j ≠ 1 ∧ j ≠ 2 ∧ j ≠ 3) by omega) with rfl | rfl | rfl | ⟨q1, q2, q3⟩
              · by_cases hmore : x + 1 < e
                · exact (HNO.out i _ hxi hlt2 HJ.out (by decide) hmore).elim
                · exact absurd (by have := HGE.out; omega : x + 1 < e) hmore
              · by_cases hmore : x + 1 < e
                · exact (HNO.out i _ hxi hlt2 HJ.out (by decide) hmore).elim
                · exact absurd (by have := HGE.out; omega : x + 1 < e) hmore
              · by_cases hmore : x + 1 < e
                · exact (HNO.out i _ hxi hlt2 HJ.out (by decide) hmore).elim
                · exact absurd (by have := HGE.out; omega : x + 1 < e) hmore
              · have b1 : (j == 1) = false := by rw [beq_eq_false_iff_ne]; exact q1
                have b2 : (j == 2) = false := by rw [beq_eq_false_iff_ne]; exact q2
                have b3 : (j == 3) = false := by rw [beq_eq_false_iff_ne]; exact q3
                clear q1 q2 q3
                go_wp2_with fail
                refine (of_any wr2 i ((((HR2.out.below HB.out).more HB.out.size).below HBI.out).more HBI.out.size) HM.out (by omega) HUP.out).mono ?_
                rintro r w4 ⟨rfl, hb4⟩
                rw [HOF.out i hxi hlt2]
                have HB4 := Lib.hid (HBI.out.trans (hb4.mono HBI.out.size))
                clear hb4
                go_wp2_with fail
                go_roundw
                case rel => exact ⟨i + 1, by go_num, by omega, by omega, HB4.out⟩
                case measure => simp [intOf]; omega
            · obtain rfl : i = e := by omega
              have HBE := Lib.hid (HB.out.trans (hbi.mono HB.out.size))
              clear hbi hnn
              go_wp2_with fail
              go_roundw
              case rel => exact ⟨k + 1, by go_num, by omega, HBE.out⟩
              case measure => simp [intOf]; omega
        · have HGE := Lib.hid ge
          have xn : (x : Int) < n := by omega
          have xn1 : (x : Int) + 1 < n := by omega
          clear ge
          clear hb1
          go_wp2_with fail
          go_loopw [7] (fun v wr2 => ∃ i : Nat, v = .int .i64 i ∧ x ≤ i ∧ i ≤ e ∧ Below wr.heap.size wr wr2) (fun v _ => e - (intOf v).toNat)
          case atStart => exact ⟨x, rfl, Nat.le_refl _, by omega, Below.refl _ _⟩
          case round =>
            rename World => wr2
            obtain ⟨i, rfl, hxi, hie, hbi⟩ := hrel
            have HBI := Lib.hid hbi
            have hnn := HN.out
            have i0 : (0 : Int) ≤ i := by omega
            by_cases hlt2 : i < e
            · obtain ⟨j, hj⟩ : ∃ j, l[i]? = some j := ⟨_, List.getElem?_eq_getElem (by omega)⟩
              have hcj : wr2.cell? (ad.add i) = some (.int .i64 j) := by
                obtain ⟨_, g1, _, g2⟩ := ((HRL.out.below HB.out).more HB.out.size |>.below hbi) i j hj
                injection g1 with g1
                subst g1
                exact g2
              have hcx2 : wr2.cell? (ax.add k) = some (.int .i64 x) := by
                obtain ⟨_, g1, _, g2⟩ := ((HR2.out.below HB.out).more HB.out.size |>.below hbi) k x HX.out
                injection g1 with g1
                subst g1
                exact g2
              have i1 : (i : Int) < e := by omega
              have i2 : (i : Int) < n := by omega
              have HJ := Lib.hid hj
              clear hbi hj hnn hcx
              rcases (show j = 1 ∨ j = 2 ∨ j = 3 ∨ (j ≠ 1 ∧ j ≠ 2 ∧ j ≠ 3) by omega) with rfl | rfl | rfl | ⟨q1, q2, q3⟩
              · by_cases hmore : x + 1 < e
                · have hmore1 : (x : Int) + 1 < e := by omega
                  clear hmore
                  go_wp2_with fail
                  refine (of_any wr2 i ((((HR2.out.below HB.out).more HB.out.size).below HBI.out).more HBI.out.size) HM.out (by omega) HUP.out).mono ?_
                  rintro r w4 ⟨rfl, hb4⟩
                  rw [HOF.out i hxi hlt2]
                  have HB4 := Lib.hid (HBI.out.trans (hb4.mono HBI.out.size))
                  clear hb4
                  go_wp2_with fail
                  go_roundw
                  case rel => exact ⟨i + 1, by go_num, by omega, by omega, HB4.out⟩
                  case measure => simp [intOf]; omega
                · exact absurd (by have := HGE.out; omega : x + 1 < e) hmore
              · by_cases hmore : x + 1 < e
                · have hmore1 : (x : Int) + 1 < e := by omega
                  clear hmore
                  go_wp2_with fail
                  refine (of_any wr2 i ((((HR2.out.below HB.out).more HB.out.size).below HBI.out).more HBI.out.size) HM.out (by omega) HUP.out).mono ?_
                  rintro r w4 ⟨rfl, hb4⟩
                  rw [HOF.out i hxi hlt2]
                  have HB4 := Lib.hid (HBI.out.trans (hb4.mono HBI.out.size))
                  clear hb4
                  go_wp2_with fail
                  go_roundw
                  case rel => exact ⟨i + 1, by go_num, by omega, by omega, HB4.out⟩
                  case measure => simp [intOf]; omega
                · exact absurd (by have := HGE.out; omega : x + 1 < e) hmore
              · by_cases hmore : x + 1 < e
                · have hmore1 : (x : Int) + 1 < e := by omega
                  clear hmore
                  go_wp2_with fail
                  refine (of_any wr2 i ((((HR2.out.below HB.out).more HB.out.size).below HBI.out).more HBI.out.size) HM.out (by omega) HUP.out).mono ?_
                  rintro r w4 ⟨rfl, hb4⟩
                  rw [HOF.out i hxi hlt2]
                  have HB4 := Lib.hid (HBI.out.trans (hb4.mono HBI.out.size))
                  clear hb4
                  go_wp2_with fail
                  go_roundw
                  case rel => exact ⟨i + 1, by go_num, by omega, by omega, HB4.out⟩
                  case measure => simp [intOf]; omega
                · exact absurd (by have := HGE.out; omega : x + 1 < e) hmore
              · have b1 : (j == 1) = false := by rw [beq_eq_false_iff_ne]; exact q1
                have b2 : (j == 2) = false := by rw [beq_eq_false_iff_ne]; exact q2
                have b3 : (j == 3) = false := by rw [beq_eq_false_iff_ne]; exact q3
                clear q1 q2 q3
                go_wp2_with fail
                refine (of_any wr2 i ((((HR2.out.below HB.out).more HB.out.size).below HBI.out).more HBI.out.size) HM.out (by omega) HUP.out).mono ?_
                rintro r w4 ⟨rfl, hb4⟩
                rw [HOF.out i hxi hlt2]
                have HB4 := Lib.hid (HBI.out.trans (hb4.mono HBI.out.size))
                clear hb4
                go_wp2_with fail
                go_roundw
                case rel => exact ⟨i + 1, by go_num, by omega, by omega, HB4.out⟩
                case measure => simp [intOf]; omega
            · obtain rfl : i = e := by omega
              have HBE := Lib.hid (HB.out.trans (hbi.mono HB.out.size))
              clear hbi hnn
              go_wp2_with fail
              go_roundw
              case rel => exact ⟨k + 1, by go_num, by omega, HBE.out⟩
              case measure => simp [intOf]; omega
      · have hk1' : ¬ ((k : Int) + 1 < m) := by omega
        rcases hfour with g | ⟨g, ge, g2 | ⟨g2, b, hb1, hcb, g3 | g3⟩⟩
        · have HNO := Lib.hid (fun (i : Nat) (j : Int) (h1 : x ≤ i) (h2 : i < n) (hj : l[i]? = some j) (he : M.endsJ j = true) (hm : x + 1 < n) => show False by
            have := (HALONE.out i j h1 h2 hj he hm).1
            rw [beq_eq_false_iff_ne] at g
            omega)
          go_wp2_with fail
          go_loopw [7] (fun v wr2 => ∃ i : Nat, v = .int .i64 i ∧ x ≤ i ∧ i ≤ n ∧ Below wr.heap.size wr wr2) (fun v _ => n - (intOf v).toNat)
          case atStart => exact ⟨x, rfl, Nat.le_refl _, by omega, Below.refl _ _⟩
          case round =>
            rename World => wr2
            obtain ⟨i, rfl, hxi, hie, hbi⟩ := hrel
            have HBI := Lib.hid hbi
            have hnn := HN.out
            have i0 : (0 : Int) ≤ i := by omega
            by_cases hlt2 : i < n
            · obtain ⟨j, hj⟩ : ∃ j, l[i]? = some j := ⟨_, List.getElem?_eq_getElem (by omega)⟩
              have hcj : wr2.cell? (ad.add i) = some (.int .i64 j) := by
                obtain ⟨_, g1, _, g2⟩ := ((HRL.out.below HB.out).more HB.out.size |>.below hbi) i j hj
                injection g1 with g1
                subst g1
                exact g2
              have hcx2 : wr2.cell? (ax.add k) = some (.int .i64 x) := by
                obtain ⟨_, g1, _, g2⟩ := ((HR2.out.below HB.out).more HB.out.size |>.below hbi) k x HX.out
                injection g1 with g1
                subst g1
                exact g2
              have i1 : (i : Int) < n := by omega
              have HJ := Lib.hid hj
              clear hbi hj hnn hcx
              rcases (show j = 1 ∨ j = 2 ∨ j = 3 ∨ (j ≠ 1 ∧ j ≠ 2 ∧ j ≠ 3) by omega) with rfl | rfl | rfl | ⟨q1, q2, q3⟩
              · by_cases hmore : x + 1 < n
                · exact (HNO.out i _ hxi hlt2 HJ.out (by decide) hmore).elim
                · have hmore1 : ¬ ((x : Int) + 1 < n) := by omega
                  clear hmore
                  go_wp2_with fail
                  refine (of_any wr2 i ((((HR2.out.below HB.out).more HB.out.size).below HBI.out).more HBI.out.size) HM.out (by omega) HUP.out).mono ?_
                  rintro r w4 ⟨rfl, hb4⟩
                  rw [HOF.out i hxi hlt2]
                  have HB4 := Lib.hid (HBI.out.trans (hb4.mono HBI.out.size))
                  clear hb4
                  go_wp2_with fail
                  go_roundw
                  case rel => exact ⟨i + 1, by go_num, by omega, by omega, HB4.out⟩
                  case measure => simp [intOf]; omega
              · by_cases hmore : x + 1 < n
                · exact (HNO.out i _ hxi hlt2 HJ.out (by decide) hmore).elim
                · have hmore1 : ¬ ((x : Int) + 1 < n) := by omega
                  clear hmore
                  go_wp2_with fail
                  refine (of_any wr2 i ((((HR2.out.below HB.out).more HB.out.size).below HBI.out).more HBI.out.size) HM.out (by omega) HUP.out).mono ?_
                  rintro r w4 ⟨rfl, hb4⟩
                  rw [HOF.out i hxi hlt2]
                  have HB4 := Lib.hid (HBI.out.trans (hb4.mono HBI.out.size))
                  clear hb4
                  go_wp2_with fail
                  go_roundw
                  case rel => exact ⟨i + 1, by go_num, by omega, by omega, HB4.out⟩
                  case measure => simp [intOf]; omega
              · by_cases hmore : x + 1 < n
                · exact (HNO.out i _ hxi hlt2 HJ.out (by decide) hmore).elim
                · have hmore1 : ¬ ((x : Int) + 1 < n) := by omega
                  clear hmore
                  go_wp2_with fail
                  refine (of_any wr2 i ((((HR2.out.below HB.out).more HB.out.size).below HBI.out).more HBI.out.size) HM.out (by omega) HUP.out).mono ?_
                  rintro r w4 ⟨rfl, hb4⟩
                  rw [HOF.out i hxi hlt2]
                  have HB4 := Lib.hid (HBI.out.trans (hb4.mono HBI.out.size))
                  clear hb4
                  go_wp2_with fail
                  go_roundw
                  case rel => exact ⟨i + 1, by go_num, by omega, by omega, HB4.out⟩
                  case measure => simp [intOf]; omega
              · have b1 : (j == 1) = false := by rw [beq_eq_false_iff_ne]; exact q1
                have b2 : (j == 2) = false := by rw [beq_eq_false_iff_ne]; exact q2
                have b3 : (j == 3) = false := by rw [beq_eq_false_iff_ne]; exact q3
                clear q1 q2 q3
                go_wp2_with fail
                refine (of_any wr2 i ((((HR2.out.below HB.out).more HB.out.size).below HBI.out).more HBI.out.size) HM.out (by omega) HUP.out).mono ?_
                rintro r w4 ⟨rfl, hb4⟩
                rw [HOF.out i hxi hlt2]
                have HB4 := Lib.hid (HBI.out.trans (hb4.mono HBI.out.size))
                clear hb4
                go_wp2_with fail
                go_roundw
                case rel => exact ⟨i + 1, by go_num, by omega, by omega, HB4.out⟩
                case measure => simp [intOf]; omega
            · obtain rfl : i = n := by omega
              have HBE := Lib.hid (HB.out.trans (hbi.mono HB.out.size))
              clear hbi hnn
              go_wp2_with fail
              go_roundw
              case rel => exact ⟨k + 1, by go_num, by omega, HBE.out⟩
              case measure => simp [intOf]; omega
        · have HGE := Lib.hid ge
          have xn : (x : Int) < n := by omega
          have xn1 : (x : Int) + 1 < n := by omega
          clear ge
          have HNO := Lib.hid (fun (i : Nat) (j : Int) (h1 : x ≤ i) (h2 : i < n) (hj : l[i]? = some j) (he : M.endsJ j = true) (hm : x + 1 < n) => show False by
            have := (HALONE.out i j h1 h2 hj he hm).2.1
            rw [HA.out] at this
            injection this with this
            rw [beq_eq_false_iff_ne] at g2
            have := HGE.out
            omega)
          go_wp2_with fail
          go_loopw [7] (fun v wr2 => ∃ i : Nat, v = .int .i64 i ∧ x ≤ i ∧ i ≤ n ∧ Below wr.heap.size wr wr2) (fun v _ => n - (intOf v).toNat)
          case atStart => exact ⟨x, rfl, Nat.le_refl _, by omega, Below.refl _ _⟩
          case round =>
            rename World => wr2
            obtain ⟨i, rfl, hxi, hie, hbi⟩ := hrel
            have HBI := Lib.hid hbi
            have hnn := HN.out
            have i0 : (0 : Int) ≤ i := by omega
            by_cases hlt2 : i < n
            · obtain ⟨j, hj⟩ : ∃ j, l[i]? = some j := ⟨_, List.getElem?_eq_getElem (by omega)⟩
              have hcj : wr2.cell? (ad.add i) = some (.int .i64 j) := by
                obtain ⟨_, g1, _, g2⟩ := ((HRL.out.below HB.out).more HB.out.size |>.below hbi) i j hj
                injection g1 with g1
                subst g1
                exact g2
              have hcx2 : wr2.cell? (ax.add k) = some (.int .i64 x) := by
                obtain ⟨_, g1, _, g2⟩ := ((HR2.out.below HB.out).more HB.out.size |>.below hbi) k x HX.out
                injection g1 with g1
                subst g1
                exact g2
              have i1 : (i : Int) < n := by omega
              have HJ := Lib.hid hj
              clear hbi hj hnn hcx
              rcases (show j = 1 ∨ j = 2 ∨ j = 3 ∨ (j ≠ 1 ∧ j ≠ 2 ∧ j ≠ 3) by omega) with rfl | rfl | rfl | ⟨q1, q2, q3⟩
              · by_cases hmore : x + 1 < n
                · exact (HNO.out i _ hxi hlt2 HJ.out (by decide) hmore).elim
                · exact absurd (by have := HGE.out; omega : x + 1 < n) hmore
              · by_cases hmore : x + 1 < n
                · exact (HNO.out i _ hxi hlt2 HJ.out (by decide) hmore).elim
                · exact absurd (by have := HGE.out; omega : x + 1 < n) hmore
              · by_cases hmore : x + 1 < n
                · exact (HNO.out i _ hxi hlt2 HJ.out (by decide) hmore).elim
                · exact absurd (by have := HGE.out; omega : x + 1 < n) hmore
              · have b1 : (j == 1) = false := by rw [beq_eq_false_iff_ne]; exact q1
                have b2 : (j == 2) = false := by rw [beq_eq_false_iff_ne]; exact q2
                have b3 : (j == 3) = false := by rw [beq_eq_false_iff_ne]; exact q3
                clear q1 q2 q3
                go_wp2_with fail
                refine (of_any wr2 i ((((HR2.out.below HB.out).more HB.out.size).below HBI.out).more HBI.out.size) HM.out (by omega) HUP.out).mono ?_
                rintro r w4 ⟨rfl, hb4⟩
                rw [HOF.out i hxi hlt2]
                have HB4 := Lib.hid (HBI.out.trans (hb4.mono HBI.out.size))
                clear hb4
                go_wp2_with fail
                go_roundw
                case rel => exact ⟨i + 1, by go_num, by omega, by omega, HB4.out⟩
                case measure => simp [intOf]; omega
            · obtain rfl : i = n := by omega
              have HBE := Lib.hid (HB.out.trans (hbi.mono HB.out.size))
              clear hbi hnn
              go_wp2_with fail
              go_roundw
              case rel => exact ⟨k + 1, by go_num, by omega, HBE.out⟩
              case measure => simp [intOf]; omega
        · have HGE := Lib.hid ge
          have xn : (x : Int) < n := by omega
          have xn1 : (x : Int) + 1 < n := by omega
          clear ge
          have HNO := Lib.hid (fun (i : Nat) (j : Int) (h1 : x ≤ i) (h2 : i < n) (hj : l[i]? = some j) (he : M.endsJ j = true) (hm : x + 1 < n) => show False by
            have := (HALONE.out i j h1 h2 hj he hm).2.2
            rw [hb1] at this
            injection this with this
            rw [beq_eq_false_iff_ne] at g3
            omega)
          clear hb1
          go_wp2_with fail
          go_loopw [7] (fun v wr2 => ∃ i : Nat, v = .int .i64 i ∧ x ≤ i ∧ i ≤ n ∧ Below wr.heap.size wr wr2) (fun v _ => n - (intOf v).toNat)
          case atStart => exact ⟨x, rfl, Nat.le_refl _, by omega, Below.refl _ _⟩
          case round =>
            rename World => wr2
            obtain ⟨i, rfl, hxi, hie, hbi⟩ := hrel
            have HBI := Lib.hid hbi
            have hnn := HN.out
            have i0 : (0 : Int) ≤ i := by omega
            by_cases hlt2 : i < n
            · obtain ⟨j, hj⟩ : ∃ j, l[i]? = some j := ⟨_, List.getElem?_eq_getElem (by omega)⟩
              have hcj : wr2.cell? (ad.add i) = some (.int .i64 j) := by
                obtain ⟨_, g1, _, g2⟩ := ((HRL.out.below HB.out).more HB.out.size |>.below hbi) i j hj
                injection g1 with g1
                subst g1
                exact g2
              have hcx2 : wr2.cell? (ax.add k) = some (.int .i64 x) := by
                obtain ⟨_, g1, _, g2⟩ := ((HR2.out.below HB.out).more HB.out.size |>.below hbi) k x HX.out
                injection g1 with g1
                subst g1
                exact g2
              have i1 : (i : Int) < n := by omega
              have HJ := Lib.hid hj
              clear hbi hj hnn hcx
              rcases (show j = 1 ∨ j = 2 ∨ j = 3 ∨ (j ≠ 1 ∧ j ≠ 2 ∧ j ≠ 3) by omega) with rfl | rfl | rfl | ⟨q1, q2, q3⟩
              · by_cases hmore : x + 1 < n
                · exact (HNO.out i _ hxi hlt2 HJ.out (by decide) hmore).elim
                · exact absurd (by have := HGE.out; omega : x + 1 < n) hmore
              · by_cases hmore : x + 1 < n
                · exact (HNO.out i _ hxi hlt2 HJ.out (by decide) hmore).elim
                · exact absurd (by have := HGE.out; omega : x + 1 < n) hmore
              · by_cases hmore : x + 1 < n
                · exact (HNO.out i _ hxi hlt2 HJ.out (by decide) hmore).elim
                · exact absurd (by have := HGE.out; omega : x + 1 < n) hmore
              · have b1 : (j == 1) = false := by rw [beq_eq_false_iff_ne]; exact q1
                have b2 : (j == 2) = false := by rw [beq_eq_false_iff_ne]; exact q2
                have b3 : (j == 3) = false := by rw [beq_eq_false_iff_ne]; exact q3
                clear q1 q2 q3
                go_wp2_with fail
                refine (of_any wr2 i ((((HR2.out.below HB.out).more HB.out.size).below HBI.out).more HBI.out.size) HM.out (by omega) HUP.out).mono ?_
                rintro r w4 ⟨rfl, hb4⟩
                rw [HOF.out i hxi hlt2]
                have HB4 := Lib.hid (HBI.out.trans (hb4.mono HBI.out.size))
                clear hb4
                go_wp2_with fail
                go_roundw
                case rel => exact ⟨i + 1, by go_num, by omega, by omega, HB4.out⟩
                case measure => simp [intOf]; omega
            · obtain rfl : i = n := by omega
              have HBE := Lib.hid (HB.out.trans (hbi.mono HB.out.size))
              clear hbi hnn
              go_wp2_with fail
              go_roundw
              case rel => exact ⟨k + 1, by go_num, by omega, HBE.out⟩
              case measure => simp [intOf]; omega
        · have HGE := Lib.hid ge
          have xn : (x : Int) < n := by omega
          have xn1 : (x : Int) + 1 < n := by omega
          clear ge
          clear hb1
          go_wp2_with fail
          go_loopw [7] (fun v wr2 => ∃ i : Nat, v = .int .i64 i ∧ x ≤ i ∧ i ≤ n ∧ Below wr.heap.size wr wr2) (fun v _ => n - (intOf v).toNat)
          case atStart => exact ⟨x, rfl, Nat.le_refl _, by omega, Below.refl _ _⟩
          case round =>
            rename World => wr2
            obtain ⟨i, rfl, hxi, hie, hbi⟩ := hrel
            have HBI := Lib.hid hbi
            have hnn := HN.out
            have i0 : (0 : Int) ≤ i := by omega
            by_cases hlt2 : i < n
            · obtain ⟨j, hj⟩ : ∃ j, l[i]? = some j := ⟨_, List.getElem?_eq_getElem (by omega)⟩
              have hcj : wr2.cell? (ad.add i) = some (.int .i64 j) := by
                obtain ⟨_, g1, _, g2⟩ := ((HRL.out.below HB.out).more HB.out.size |>.below hbi) i j hj
                injection g1 with g1
                subst g1
                exact g2
              have hcx2 : wr2.cell? (ax.add k) = some (.int .i64 x) := by
                obtain ⟨_, g1, _, g2⟩ := ((HR2.out.below HB.out).more HB.out.size |>.below hbi) k x HX.out
                injection g1 with g1
                subst g1
                exact g2
              have i1 : (i : Int) < n := by omega
              have HJ := Lib.hid hj
              clear hbi hj hnn hcx
              rcases (show j = 1 ∨ j = 2 ∨ j = 3 ∨ (j ≠ 1 ∧ j ≠ 2 ∧ j ≠ 3) by omega) with rfl | rfl | rfl | ⟨q1, q2, q3⟩
              · by_cases hmore : x + 1 < n
                · have hmore1 : (x : Int) + 1 < n := by omega
                  clear hmore
                  go_wp2_with fail
                  refine (of_any wr2 i ((((HR2.out.below HB.out).more HB.out.size).below HBI.out).more HBI.out.size) HM.out (by omega) HUP.out).mono ?_
                  rintro r w4 ⟨rfl, hb4⟩
                  rw [HOF.out i hxi hlt2]
                  have HB4 := Lib.hid (HBI.out.trans (hb4.mono HBI.out.size))
                  clear hb4
                  go_wp2_with fail
                  go_roundw
                  case rel => exact ⟨i + 1, by go_num, by omega, by omega, HB4.out⟩
                  case measure => simp [intOf]; omega
                · exact absurd (by have := HGE.out; omega : x + 1 < n) hmore
              · by_cases hmore : x + 1 < n
                · have hmore1 : (x : Int) + 1 < n := by omega
                  clear hmore
                  go_wp2_with fail
                  refine (of_any wr2 i ((((HR2.out.below HB.out).more HB.out.size).below HBI.out).more HBI.out.size) HM.out (by omega) HUP.out).mono ?_
                  rintro r w4 ⟨rfl, hb4⟩
                  rw [HOF.out i hxi hlt2]
                  have HB4 := Lib.hid (HBI.out.trans (hb4.mono HBI.out.size))
                  clear hb4
                  go_wp2_with fail
                  go_roundw
                  case rel => exact ⟨i + 1, by go_num, by omega, by omega, HB4.out⟩
                  case measure => simp [intOf]; omega
                · exact absurd (by have := HGE.out; omega : x + 1 < n) hmore
              · by_cases hmore : x + 1 < n
                · have hmore1 : (x : Int) + 1 < n := by omega
                  clear hmore
                  go_wp2_with fail
                  refine (of_any wr2 i ((((HR2.out.below HB.out).more HB.out.size).below HBI.out).more HBI.out.size) HM.out (by omega) HUP.out).mono ?_
                  rintro r w4 ⟨rfl, hb4⟩
                  rw [HOF.out i hxi hlt2]
                  have HB4 := Lib.hid (HBI.out.trans (hb4.mono HBI.out.size))
                  clear hb4
                  go_wp2_with fail
                  go_roundw
                  case rel => exact ⟨i + 1, by go_num, by omega, by omega, HB4.out⟩
                  case measure => simp [intOf]; omega
                · exact absurd (by have := HGE.out; omega : x + 1 < n) hmore
              · have b1 : (j == 1) = false := by rw [beq_eq_false_iff_ne]; exact q1
                have b2 : (j == 2) = false := by rw [beq_eq_false_iff_ne]; exact q2
                have b3 : (j == 3) = false := by rw [beq_eq_false_iff_ne]; exact q3
                clear q1 q2 q3
                go_wp2_with fail
                refine (of_any wr2 i ((((HR2.out.below HB.out).more HB.out.size).below HBI.out).more HBI.out.size) HM.out (by omega) HUP.out).mono ?_
                rintro r w4 ⟨rfl, hb4⟩
                rw [HOF.out i hxi hlt2]
                have HB4 := Lib.hid (HBI.out.trans (hb4.mono HBI.out.size))
                clear hb4
                go_wp2_with fail
                go_roundw
                case rel => exact ⟨i + 1, by go_num, by omega, by omega, HB4.out⟩
                case measure => simp [intOf]; omega
            · obtain rfl : i = n := by omega
              have HBE := Lib.hid (HB.out.trans (hbi.mono HB.out.size))
              clear hbi hnn
              go_wp2_with fail
              go_roundw
              case rel => exact ⟨k + 1, by go_num, by omega, HBE.out⟩
              case measure => simp [intOf]; omega
    · obtain rfl : k = m := by omega
      have HBW := Lib.hid (HB2.out.trans (hb.mono HB2.out.size))
      clear hb hmm
      go_wp2_with fail
      refine (alive_any _).mono ?_
      rintro r w4 ⟨rfl, hb4⟩
      have HB4 := Lib.hid (HBW.out.trans (hb4.mono HBW.out.size))
      clear hb4
      go_wp2_with fail
      go_ret
      exact ⟨rfl, HB4.out⟩

theorem eachLaw_any (A : Option Addr) (ca n : Nat) (l : List Int) (w : World) (hr : RdS .i64 w w.heap.size A l) (hn : l.length = n) (hca : n ≤ ca) (hcm : ca ≤ maxLen) :
    Calls Try.prog 6 #[.slice A n ca] w fun r w' => r = .returned (.bool true) ∧ Below w.heap.size w w' := by
  rcases Nat.lt_or_ge 120 n with h | h
  · exact eachLong_any A ca n w h (Nat.le_trans hca hcm)
  · rcases Nat.eq_zero_or_pos n with hz | hz
    · subst hz
      exact eachNil_any A ca w
    · exact eachShort_any A ca n l w hr hn h hz hca
end Go.Proofs.Ytpnbkakilmigeaa
