/- The walk of ReorderOnce: it answers true. Conditions: the slice reads as a list of whole numbers, within its capacity, and takes at most 2^47 bytes. -/
import Derived.Test.YtahjkndphkpieaaAlive
namespace Go.Proofs.Ytahjkndphkpieaa
open Go.RowKit
set_option maxRecDepth 100000

set_option maxHeartbeats 8000000 in
theorem onceOther_any (A : Option Addr) (ca n : Nat) (l : List Int) (w : World) (hr : RdS .i64 w w.heap.size A l) (hn : l.length = n) (hl8 : n * 8 ≤ 140737488351232) (hca : n ≤ ca) (h : 200 < n ∨ ¬ M.ordOk l) :
    Calls Try.prog 4 #[.slice A n ca] w fun r w' => r = .returned (.bool true) ∧ Below w.heap.size w w' := by
  have HO := Lib.hid (corder_any A ca n l w hr hn hl8 hca)
  have hl1 : (n : Int) ≤ 17592186043904 := by omega
  obtain ⟨eg, heg⟩ : ∃ e, M.orE 81 (M.ordOk l) = e := ⟨_, rfl⟩
  have hc : (200 : Int) < n ∨ (¬ (200 : Int) < n ∧ (eg != 0) = true) := by
    by_cases h1 : 200 < n
    · exact .inl (by omega)
    · refine .inr ⟨by omega, ?_⟩
      rw [← heg]
      unfold M.orE
      rw [if_neg (h.resolve_left h1)]
      rfl
  clear h hr hn hca hl8
  rcases hc with b1 | ⟨b1, b2⟩
  all_goals
    go_enter Try.func4, Try.ntmps4
    go_wp2_with fail
    refine HO.out.mono ?_
    rintro r w2 hout
    obtain ⟨A2, c2, rfl, -, hb2, -⟩ := row_out hout
    rw [heg]
    have HB2 := Lib.hid hb2
    clear hout hb2
    go_wp2_with fail
    refine (alive_any _).mono ?_
    rintro r w6 ⟨rfl, hb6⟩
    have HB6 := Lib.hid (HB2.out.trans (hb6.mono HB2.out.size))
    clear hb6
    go_wp2_with fail
    go_ret
    exact ⟨rfl, HB6.out⟩
set_option maxHeartbeats 16000000 in
theorem onceIn_any (A : Option Addr) (ca n : Nat) (l : List Int) (w : World) (hr : RdS .i64 w w.heap.size A l) (hn : l.length = n) (hl8 : n * 8 ≤ 140737488351232) (hca : n ≤ ca) (hn2 : n ≤ 200) (hok : M.ordOk l) :
    Calls Try.prog 4 #[.slice A n ca] w fun r w' => r = .returned (.bool true) ∧ Below w.heap.size w w' := by
  have HO := Lib.hid (corder_any A ca n l w hr hn hl8 hca)
  have HR := Lib.hid hr
  have HN := Lib.hid hn
  have HOK := Lib.hid hok
  obtain ⟨X, hX⟩ : ∃ X, M.ints (M.order l) = X := ⟨_, rfl⟩
  obtain ⟨Y, hY⟩ : ∃ Y, M.inv X = Y := ⟨_, rfl⟩
  have hXl : X.length = n := by rw [← hX, M.ints_len, M.order_len, hn]
  have hYl : Y.length = n := by rw [← hY, M.inv_len, hXl]
  have hXo : M.isOrd X := by rw [← hX]; exact M.order_isOrd
  have hYo : M.isOrd Y := by rw [← hY]; exact M.inv_ord hXo
  have hYX : M.inv Y = X := by rw [← hY]; exact M.inv_inv hXo
  have HX := Lib.hid (And.intro hX (And.intro hXl hXo))
  have HY := Lib.hid (And.intro hY (And.intro hYl (And.intro hYo hYX)))
  have HNEAR := Lib.hid (fun (i : Nat) (v : Int) (h1 : l[i]? = some v) (h2 : l[i + 1]? = some v) => show ∃ a b : Nat, Y[i]? = some (a : Int) ∧ Y[i + 1]? = some (b : Int) ∧ (b : Int) = if v % 2 = 1 then (a : Int) - 1 else (a : Int) + 1 by
    rw [← hY, ← hX]
    exact M.order_near (hok v (List.mem_of_getElem? h1)) h1 h2)
  have n2 : ¬ (200 : Int) < n := by omega
  have n2' : (n : Int) ≤ 200 := by omega
  have bnn : ((n : Int) != (n : Int)) = false := by simp
  clear hr hn hok hX hY hXl hYl hXo hYo hYX hca hl8
  go_enter Try.func4, Try.ntmps4
  go_wp2_with fail
  refine HO.out.mono ?_
  rintro r w1 hout
  obtain ⟨A1, c1, rfl, hr1, hb1, hc1, -, -⟩ := row_ok hout HOK.out
  rw [HX.out.1] at hr1 hc1 ⊢
  rw [HX.out.2.1] at hc1 ⊢
  have HX1 := Lib.hid hr1
  have HC1 := Lib.hid hc1
  have HB1 := Lib.hid hb1
  have HR1 := Lib.hid ((HR.out.below hb1).more hb1.size)
  clear hout hr1 hb1 hc1
  go_wp2_with fail
  refine (cback_any A1 c1 n X w1 HX1.out HX.out.2.1 (by omega) HC1.out).mono ?_
  rintro r w2 hout
  obtain ⟨A2, c2, rfl, hr2, hb2, hc2, -, -⟩ := row_ok hout HX.out.2.2
  rw [HY.out.1] at hr2 hc2 ⊢
  rw [HY.out.2.1] at hc2 ⊢
  have HY2 := Lib.hid hr2
  have HC2 := Lib.hid hc2
  have HB2 := Lib.hid (HB1.out.trans (hb2.mono HB1.out.size))
  have HR2 := Lib.hid ((HR1.out.below hb2).more hb2.size)
  have HX2 := Lib.hid ((HX1.out.below hb2).more hb2.size)
  clear hout hr2 hb2 hc2
  go_wp2_with fail
  refine (cback_any A2 c2 n Y w2 HY2.out HY.out.2.1 (by omega) HC2.out).mono ?_
  rintro r w3 hout
  obtain ⟨A3, c3, rfl, hr3, hb3, hc3, -, -⟩ := row_ok hout HY.out.2.2.1
  rw [HY.out.2.2.2] at hr3 ⊢
  rw [HX.out.2.1]
  have HZ3 := Lib.hid hr3
  have HB3 := Lib.hid (HB2.out.trans (hb3.mono HB2.out.size))
  have HR3 := Lib.hid ((HR2.out.below hb3).more hb3.size)
  have HX3 := Lib.hid ((HX2.out.below hb3).more hb3.size)
  have HY3 := Lib.hid ((HY2.out.below hb3).more hb3.size)
  clear hout hr3 hb3 hc3
  go_wp2_with fail
  refine (ints_same A3 A1 c3 c1 n X w3 HZ3.out HX3.out HX.out.2.1 (by omega)).mono ?_
  rintro r w4 ⟨rfl, hb4⟩
  have HB4 := Lib.hid (HB3.out.trans (hb4.mono HB3.out.size))
  have HR4 := Lib.hid ((HR3.out.below hb4).more hb4.size)
  have HY4 := Lib.hid ((HY3.out.below hb4).more hb4.size)
  clear hb4
  go_wp2_with fail
  go_loopw [9] (fun v wr => ∃ k : Nat, v = .int .i64 k ∧ k ≤ n ∧ Below w4.heap.size w4 wr) (fun v _ => n - (intOf v).toNat)
  case atStart => exact ⟨0, rfl, Nat.zero_le _, Below.refl _ _⟩
  case round =>
    obtain ⟨k, rfl, hk, hb⟩ := hrel
    rename World => wr
    have HB := Lib.hid hb
    have k0 : (0 : Int) ≤ k := by omega
    by_cases hlt : k + 1 < n
    · have k1 : (k : Int) + 1 < n := by omega
      have k2 : (k : Int) < n := by omega
      have k3 : (0 : Int) ≤ (k : Int) + 1 := by omega
      obtain ⟨ad, v, rfl, hcv, hv, -⟩ := rd_at HR4.out hb (by rw [HN.out]; omega : k < l.length)
      obtain ⟨ad', u, hA, hcu, hu, -⟩ := rd_at HR4.out hb (by rw [HN.out]; exact hlt : k + 1 < l.length)
      injection hA with hA
      subst hA
      obtain ⟨ae, a, rfl, hca, ha, -⟩ := rd_at HY4.out hb (by rw [HY.out.2.1]; omega : k < Y.length)
      obtain ⟨ae', b, hA, hcb, hb', -⟩ := rd_at HY4.out hb (by rw [HY.out.2.1]; exact hlt : k + 1 < Y.length)
      injection hA with hA
      subst hA
      obtain ⟨kk, hkk⟩ : ∃ kk : Nat, k + 1 = kk := ⟨_, rfl⟩
      have hkk2 : (k : Int) + 1 = kk := by omega
      rw [hkk] at hcu hcb
      have kk1 : (kk : Int) < n := by omega
      have kk0 : (0 : Int) ≤ kk := by omega
      have HKK := Lib.hid (show kk = k + 1 from hkk.symm)
      have hv0 := (HOK.out v (List.mem_of_getElem? hv)).1
      have hnear : v = u → (b : Int) = if v % 2 = 1 then a - 1 else a + 1 := fun e => by
        subst e
        obtain ⟨a', b', h1, h2, h3⟩ := HNEAR.out k v hv hu
        rw [ha] at h1
        rw [hb'] at h2
        injection h1 with h1
        injection h2 with h2
        rw [h1, h2]
        exact h3
      have hab : 0 ≤ a ∧ a < 200 := by
        have := HY.out.2.2.1.1 a (List.mem_of_getElem? ha)
        rw [HY.out.2.1] at this
        omega
      have a0 := hab.1
      have a1 := hab.2
      have HNR := Lib.hid hnear
      clear hv hu ha hb' hnear hab hkk hk hlt
      have hw : IntKind.i64.wrap ((k : Int) + 1) = (kk : Int) := by rw [IntKind.wrap_i64]; omega
      have cv := fun d os => cell_regrown hcv d os
      have cu := fun d os => cell_regrown hcu d os
      have cA := fun d os => cell_regrown hca d os
      have cB := fun d os => cell_regrown hcb d os
      clear hb hkk2 k3
      rcases Int.emod_two_eq v with h2 | h2
      · have m2 : (v % 2 == 1) = false := by rw [h2]; rfl
        by_cases e : v = u
        · have hbv := HNR.out e
          rw [if_neg (by omega)] at hbv
          have hw3 : IntKind.i64.wrap (a + 1) = b := by rw [IntKind.wrap_i64]; omega
          have bb : (b != b) = false := by simp
          have be : (v == u) = true := by simp [e]
          clear e h2 hbv
          go_wp2_with fail
          refine wp_region_quiet_below (by kernel_rfl) (by kernel_rfl) ?_
          repeat (go_big_quiet_step (fail))
          refine wpQuiet_nil ?_
          intro _ hw'
          obtain ⟨⟨dq, osq⟩, hw4⟩ := hw'
          subst hw4
          have hbg := below_regrown wr dq osq
          obtain ⟨Z, hZ⟩ : ∃ Z, Sort.grow (redrawn wr dq) osq = Z := ⟨_, rfl⟩
          rw [hZ] at hbg
          have HBX := Lib.hid (HB.out.trans (hbg.mono HB.out.size))
          dsimp only
          rw [hZ]
          clear hZ hbg
          rename_i Kf hKf
          refine hKf _ _ ?_
          clear hKf
          go_wp2_with fail
          go_roundw
          case rel => exact ⟨kk, rfl, by omega, HBX.out⟩
          case measure => have := HKK.out; simp [intOf]; omega
        · have be : (v == u) = false := by simp [e]
          clear e h2
          go_wp2_with fail
          refine wp_region_quiet_below (by kernel_rfl) (by kernel_rfl) ?_
          repeat (go_big_quiet_step (fail))
          refine wpQuiet_nil ?_
          intro _ hw'
          obtain ⟨⟨dq, osq⟩, hw4⟩ := hw'
          subst hw4
          have hbg := below_regrown wr dq osq
          obtain ⟨Z, hZ⟩ : ∃ Z, Sort.grow (redrawn wr dq) osq = Z := ⟨_, rfl⟩
          rw [hZ] at hbg
          have HBX := Lib.hid (HB.out.trans (hbg.mono HB.out.size))
          dsimp only
          rw [hZ]
          clear hZ hbg
          rename_i Kf hKf
          refine hKf _ _ ?_
          clear hKf
          go_wp2_with fail
          go_roundw
          case rel => exact ⟨kk, rfl, by omega, HBX.out⟩
          case measure => have := HKK.out; simp [intOf]; omega
      · have m2 : (v % 2 == 1) = true := by rw [h2]; rfl
        by_cases e : v = u
        · have hbv := HNR.out e
          rw [if_pos h2] at hbv
          have hw3 : IntKind.i64.wrap (a + -1) = b := by rw [IntKind.wrap_i64]; omega
          have bb : (b != b) = false := by simp
          have be : (v == u) = true := by simp [e]
          clear e h2 hbv
          go_wp2_with fail
          refine wp_region_quiet_below (by kernel_rfl) (by kernel_rfl) ?_
          repeat (go_big_quiet_step (fail))
          refine wpQuiet_nil ?_
          intro _ hw'
          obtain ⟨⟨dq, osq⟩, hw4⟩ := hw'
          subst hw4
          have hbg := below_regrown wr dq osq
          obtain ⟨Z, hZ⟩ : ∃ Z, Sort.grow (redrawn wr dq) osq = Z := ⟨_, rfl⟩
          rw [hZ] at hbg
          have HBX := Lib.hid (HB.out.trans (hbg.mono HB.out.size))
          dsimp only
          rw [hZ]
          clear hZ hbg
          rename_i Kf hKf
          refine hKf _ _ ?_
          clear hKf
          go_wp2_with fail
          go_roundw
          case rel => exact ⟨kk, rfl, by omega, HBX.out⟩
          case measure => have := HKK.out; simp [intOf]; omega
        · have be : (v == u) = false := by simp [e]
          clear e h2
          go_wp2_with fail
          refine wp_region_quiet_below (by kernel_rfl) (by kernel_rfl) ?_
          repeat (go_big_quiet_step (fail))
          refine wpQuiet_nil ?_
          intro _ hw'
          obtain ⟨⟨dq, osq⟩, hw4⟩ := hw'
          subst hw4
          have hbg := below_regrown wr dq osq
          obtain ⟨Z, hZ⟩ : ∃ Z, Sort.grow (redrawn wr dq) osq = Z := ⟨_, rfl⟩
          rw [hZ] at hbg
          have HBX := Lib.hid (HB.out.trans (hbg.mono HB.out.size))
          dsimp only
          rw [hZ]
          clear hZ hbg
          rename_i Kf hKf
          refine hKf _ _ ?_
          clear hKf
          go_wp2_with fail
          go_roundw
          case rel => exact ⟨kk, rfl, by omega, HBX.out⟩
          case measure => have := HKK.out; simp [intOf]; omega
    · have k1 : ¬ (k : Int) + 1 < n := by omega
      clear hb
      go_wp2_with fail
      refine (alive_any _).mono ?_
      rintro r w6 ⟨rfl, hb6⟩
      have HB6 := Lib.hid ((HB4.out.trans (HB.out.mono HB4.out.size)).trans (hb6.mono (Nat.le_trans HB4.out.size HB.out.size)))
      clear hb6
      go_wp2_with fail
      go_ret
      exact ⟨rfl, HB6.out⟩
theorem onceLaw_any (A : Option Addr) (ca n : Nat) (l : List Int) (w : World) (hr : RdS .i64 w w.heap.size A l) (hn : l.length = n) (hl8 : n * 8 ≤ 140737488351232) (hca : n ≤ ca) :
    Calls Try.prog 4 #[.slice A n ca] w fun r w' => r = .returned (.bool true) ∧ Below w.heap.size w w' := by
  by_cases h : n ≤ 200 ∧ M.ordOk l
  · exact onceIn_any A ca n l w hr hn hl8 hca h.1 h.2
  · refine onceOther_any A ca n l w hr hn hl8 hca ?_
    by_cases h1 : 200 < n
    · exact .inl h1
    · exact .inr fun h2 => h ⟨by omega, h2⟩
end Go.Proofs.Ytahjkndphkpieaa
