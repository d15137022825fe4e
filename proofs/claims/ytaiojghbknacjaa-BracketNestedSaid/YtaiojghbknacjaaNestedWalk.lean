/- The walk of BracketNested: it answers true. Conditions: the slices read as lists of classes and of marks, within their capacities. -/
import Derived.Test.YtaiojghbknacjaaAlive
namespace Go.Proofs.Ytaiojghbknacjaa
open Go.RowKit
set_option maxRecDepth 100000

set_option maxHeartbeats 4000000 in
theorem nestedLong_any (A B : Option Addr) (ca cb n m : Nat) (w : World) (hn : n ≤ maxLen) (hm : m ≤ maxLen) (h : 200 < n ∨ 200 < m) :
    Calls Try.prog 5 #[.slice A n ca, .slice B m cb] w fun r w' => r = .returned (.bool true) ∧ Below w.heap.size w w' := by
  unfold maxLen at hn hm
  by_cases h1 : 200 < n
  · have h2 : (200 : Int) < n := by omega
    clear h h1
    go_enter Try.func5, Try.ntmps5
    go_wp2_with fail
    refine (alive_any _).mono ?_
    rintro r w2 ⟨rfl, hb⟩
    have HB := Lib.hid hb
    clear hb
    go_wp2_with fail
    go_ret
    exact ⟨rfl, HB.out⟩
  · have h2 : ¬ (200 : Int) < n := by omega
    have h3 : (200 : Int) < m := by omega
    clear h h1
    go_enter Try.func5, Try.ntmps5
    go_wp2_with fail
    refine (alive_any _).mono ?_
    rintro r w2 ⟨rfl, hb⟩
    have HB := Lib.hid hb
    clear hb
    go_wp2_with fail
    go_ret
    exact ⟨rfl, HB.out⟩
set_option maxHeartbeats 16000000 in
theorem nestedShort_any (A B : Option Addr) (ca cb n m : Nat) (l : List Int) (ms : List (Int × Int)) (w : World) (hr : RdS .i64 w w.heap.size A l) (hn : l.length = n) (hl : n ≤ 200) (hr2 : RdT w w.heap.size B ms) (hm : ms.length = m) (hl2 : m ≤ 200) (hca : n ≤ ca) :
    Calls Try.prog 5 #[.slice A n ca, .slice B m cb] w fun r w' => r = .returned (.bool true) ∧ Below w.heap.size w w' := by
  obtain ⟨K, hK⟩ : ∃ K, (M.prs l ms).length = K := ⟨_, rfl⟩
  have hKn : K ≤ n := by rw [← hK, ← hn]; exact M.prs_len
  have HR := Lib.hid hr
  have HR2 := Lib.hid hr2
  have HN := Lib.hid hn
  have HM := Lib.hid hm
  have HK := Lib.hid hK
  have HCA := Lib.hid hca
  have h1 : (n : Int) ≤ 200 := by omega
  have h2 : (m : Int) ≤ 200 := by omega
  clear hr hr2 hn hm hK hca
  go_enter Try.func5, Try.ntmps5
  go_wp2_with fail
  refine (marks_any B cb m ms w HR2.out HM.out (by omega)).mono ?_
  rintro r w2 ⟨v, rfl, ho2, hb2⟩
  obtain ⟨A2, c2, rfl, hr2, hc2, -, -⟩ := ho2.shape
  rw [HM.out] at hc2 ⊢
  have HX2 := Lib.hid hr2
  have HC2 := Lib.hid hc2
  have HB2 := Lib.hid hb2
  have HL2 := Lib.hid ((HR.out.below hb2).more hb2.size)
  have HM2 := Lib.hid (HR2.out.after hb2)
  clear ho2 hb2 hr2 hc2
  go_wp2_with fail
  refine (cpairs_any A A2 ca c2 n m l ms w2 HL2.out HN.out (by omega) HX2.out HM.out (by omega) HCA.out HC2.out).mono ?_
  rintro r w3 ⟨v, rfl, ho3, hb3⟩
  have HG := Lib.hid (fun h0 : 0 < (M.prs l ms).length => own_some ho3 h0)
  obtain ⟨A3, c3, rfl, hr3, -, -, -⟩ := ho3.shape
  rw [HK.out]
  rw [HK.out] at HG
  have HB3 := Lib.hid (HB2.out.trans (hb3.mono HB2.out.size))
  have HL3 := Lib.hid ((HL2.out.below hb3).more hb3.size)
  have HM3 := Lib.hid (HM2.out.after hb3)
  clear ho3 hb3 hr3
  go_wp2_with fail
  go_loopw [6] (fun v wr => ∃ i : Nat, v = .int .i64 i ∧ i ≤ K ∧ Below w3.heap.size w3 wr) (fun v _ => K - (intOf v).toNat)
  case atStart => exact ⟨0, rfl, Nat.zero_le _, Below.refl _ _⟩
  case round =>
    obtain ⟨i, rfl, hi, hb⟩ := hrel
    rename World => wr
    have HB := Lib.hid hb
    have i00 : (0 : Int) ≤ i := by omega
    by_cases hlt : i < K
    · have i01 : (i : Int) < K := by omega
      obtain ⟨g, cg, hv, hg, hcell⟩ := HG.out (by omega)
      injection hv with hv1 _ hv3
      subst hv1 hv3
      obtain ⟨a, ha⟩ : ∃ a, (M.prs l ms)[i]? = some a := ⟨_, List.getElem?_eq_getElem (by rw [HK.out]; exact hlt)⟩
      obtain ⟨p, q, rfl, hpq, hqn, -, lp, lq, -, id, mp, mq⟩ := M.prs_at ha
      rw [HN.out] at hqn
      have hqm : q < m := by rw [← HM.out]; exact (List.getElem?_eq_some_iff.1 mq).1
      have hat : ∀ (t : Nat) (x : Int × Int), (M.prs l ms)[t]? = some x → wr.cell? ⟨g, t * 2, none⟩ = some (.int .i64 x.1) ∧ wr.cell? ⟨g, t * 2 + 1, none⟩ = some (.int .i64 x.2) := fun t x hx => by
        have hl := (List.getElem?_eq_some_iff.1 hx).1
        rw [HK.out] at hl
        obtain ⟨c0, c1⟩ := cells2_at hx
        exact ⟨(hb.cell (p := ⟨g, t * 2, none⟩) hg).trans ((hcell _ (by omega)).trans c0), (hb.cell (p := ⟨g, t * 2 + 1, none⟩) hg).trans ((hcell _ (by omega)).trans c1)⟩
      obtain ⟨z0, z1⟩ := hat i _ ha
      dsimp only at z0 z1
      have HAT := Lib.hid hat
      have HPR := Lib.hid ha
      obtain ⟨adl, e1, -, cl1⟩ := (HL3.out.below hb) p _ lp
      obtain ⟨adl', e1', -, cl2⟩ := (HL3.out.below hb) q _ lq
      subst e1
      obtain rfl : adl = adl' := by injection e1'
      obtain ⟨adm, e2, -, cm0, cm1⟩ := (HM3.out.below hb) p _ mp
      obtain ⟨adm', e2', -, cm2, cm3⟩ := (HM3.out.below hb) q _ mq
      subst e2
      obtain rfl : adm = adm' := by injection e2'
      dsimp only at cm0 cm1 cm2 cm3
      have p0 : (0 : Int) ≤ p := by omega
      have q0 : (0 : Int) ≤ q := by omega
      have pq : (p : Int) < q := by omega
      have qn : (q : Int) < n := by omega
      have qm : (q : Int) < m := by omega
      have pn : (p : Int) < n := by omega
      have pm : (p : Int) < m := by omega
      have bid : (id != id) = false := by simp
      have cl1' := fun d os => cell_regrown cl1 d os
      have cl2' := fun d os => cell_regrown cl2 d os
      have cm0' := fun d os => cell_regrown cm0 d os
      have cm1' := fun d os => cell_regrown cm1 d os
      have cm2' := fun d os => cell_regrown cm2 d os
      have cm3' := fun d os => cell_regrown cm3 d os
      clear hb ha lp lq mp mq hat e1' e2' hqm hcell hg cl1 cl2 cm0 cm1 cm2 cm3
      by_cases hz : i = 0
      · have iz : ¬ 0 < i := by omega
        have iz2 : decide (0 < i) = false := by rw [decide_eq_false_iff_not]; omega
        clear hz
        go_wp2_with fail
        refine wp_region_quiet_below (by kernel_rfl) (by kernel_rfl) ?_
        repeat (go_big_quiet_step (fail))
        refine wpQuiet_nil ?_
        intro _ hw'
        obtain ⟨⟨dq, osq⟩, hw4⟩ := hw'
        subst hw4
        have hbg := below_regrown wr dq osq
        have HBX := Lib.hid (HB.out.trans (hbg.mono HB.out.size))
        have hat2 : ∀ (t : Nat) (x : Int × Int), (M.prs l ms)[t]? = some x → (Sort.grow (redrawn wr dq) osq).cell? ⟨g, t * 2, none⟩ = some (.int .i64 x.1) ∧ (Sort.grow (redrawn wr dq) osq).cell? ⟨g, t * 2 + 1, none⟩ = some (.int .i64 x.2) := fun t x hx => ⟨cell_regrown (HAT.out t x hx).1 dq osq, cell_regrown (HAT.out t x hx).2 dq osq⟩
        obtain ⟨X, hX⟩ : ∃ Z, Sort.grow (redrawn wr dq) osq = Z := ⟨_, rfl⟩
        rw [hX] at HBX hat2
        have HAT2 := Lib.hid hat2
        dsimp only
        rw [hX]
        clear hX hbg hat2 z0 z1 cl1' cl2' cm0' cm1' cm2' cm3' bid
        go_wp2_with fail
        go_loopw [9] (fun v ws => ∃ k : Nat, v = .int .i64 k ∧ k ≤ i ∧ ws = X) (fun v _ => i - (intOf v).toNat)
        case atStart => exact ⟨0, rfl, Nat.zero_le _, rfl⟩
        case round =>
          obtain ⟨k, rfl, hki, rfl⟩ := hrel
          have k0 : (0 : Int) ≤ k := by omega
          by_cases hk : k < i
          · have k1 : (k : Int) < i := by omega
            have k2 : (k : Int) < K := by omega
            obtain ⟨a', ha'⟩ : ∃ a, (M.prs l ms)[k]? = some a := ⟨_, List.getElem?_eq_getElem (by rw [HK.out]; omega)⟩
            obtain ⟨hn1, hn2⟩ := M.prs_nested ha' HPR.out hk
            obtain ⟨x0, x1⟩ := HAT2.out k _ ha'
            obtain ⟨b1, b2⟩ := a'
            dsimp only at x0 x1 hn1 hn2
            clear ha'
            rcases hn2 with hn2 | hn2
            · go_wp2_with fail
              go_roundw
              case rel => exact ⟨k + 1, by go_num, by omega, trivial⟩
              case measure => simp [intOf]; omega
            · have hn3 : ¬ (q : Int) < b2 := by omega
              go_wp2_with fail
              go_roundw
              case rel => exact ⟨k + 1, by go_num, by omega, trivial⟩
              case measure => simp [intOf]; omega
          · obtain rfl : i = k := by omega
            have k1 : ¬ (i : Int) < (i : Int) := by omega
            go_wp2_with fail
            go_roundw
            case rel => exact ⟨i + 1, by go_num, by omega, HBX.out⟩
            case measure => simp [intOf]; omega
      · obtain ⟨j, hj⟩ : ∃ j, i = j + 1 := ⟨i - 1, by omega⟩
        have iz : 0 < i := by omega
        have iz2 : decide (0 < i) = true := by rw [decide_eq_true_iff]; omega
        have hwj : IntKind.i64.wrap ((i : Int) - 1) = (j : Int) := by rw [IntKind.wrap_i64]; omega
        have j0 : (0 : Int) ≤ j := by omega
        have j1 : (j : Int) < K := by omega
        obtain ⟨a', ha'⟩ : ∃ a, (M.prs l ms)[j]? = some a := ⟨_, List.getElem?_eq_getElem (by rw [HK.out]; omega)⟩
        have hlt2 := (M.prs_nested ha' HPR.out (by omega)).1
        obtain ⟨y0, y1⟩ := HAT.out j _ ha'
        obtain ⟨a1, a2⟩ := a'
        dsimp only at y0 y1 hlt2
        have y0' := fun d os => cell_regrown y0 d os
        have hna : ¬ (p : Int) ≤ a1 := by omega
        clear y0 y1 ha' hz hj
        go_wp2_with fail
        refine wp_region_quiet_below (by kernel_rfl) (by kernel_rfl) ?_
        repeat (go_big_quiet_step (fail))
        refine wpQuiet_nil ?_
        intro _ hw'
        obtain ⟨⟨dq, osq⟩, hw4⟩ := hw'
        subst hw4
        have hbg := below_regrown wr dq osq
        have HBX := Lib.hid (HB.out.trans (hbg.mono HB.out.size))
        have hat2 : ∀ (t : Nat) (x : Int × Int), (M.prs l ms)[t]? = some x → (Sort.grow (redrawn wr dq) osq).cell? ⟨g, t * 2, none⟩ = some (.int .i64 x.1) ∧ (Sort.grow (redrawn wr dq) osq).cell? ⟨g, t * 2 + 1, none⟩ = some (.int .i64 x.2) := fun t x hx => ⟨cell_regrown (HAT.out t x hx).1 dq osq, cell_regrown (HAT.out t x hx).2 dq osq⟩
        obtain ⟨X, hX⟩ : ∃ Z, Sort.grow (redrawn wr dq) osq = Z := ⟨_, rfl⟩
        rw [hX] at HBX hat2
        have HAT2 := Lib.hid hat2
        dsimp only
        rw [hX]
        clear hX hbg hat2 z0 z1 cl1' cl2' cm0' cm1' cm2' cm3' bid y0' hwj
        go_wp2_with fail
        go_loopw [9] (fun v ws => ∃ k : Nat, v = .int .i64 k ∧ k ≤ i ∧ ws = X) (fun v _ => i - (intOf v).toNat)
        case atStart => exact ⟨0, rfl, Nat.zero_le _, rfl⟩
        case round =>
          obtain ⟨k, rfl, hki, rfl⟩ := hrel
          have k0 : (0 : Int) ≤ k := by omega
          by_cases hk : k < i
          · have k1 : (k : Int) < i := by omega
            have k2 : (k : Int) < K := by omega
            obtain ⟨a', ha'⟩ : ∃ a, (M.prs l ms)[k]? = some a := ⟨_, List.getElem?_eq_getElem (by rw [HK.out]; omega)⟩
            obtain ⟨hn1, hn2⟩ := M.prs_nested ha' HPR.out hk
            obtain ⟨x0, x1⟩ := HAT2.out k _ ha'
            obtain ⟨b1, b2⟩ := a'
            dsimp only at x0 x1 hn1 hn2
            clear ha'
            rcases hn2 with hn2 | hn2
            · go_wp2_with fail
              go_roundw
              case rel => exact ⟨k + 1, by go_num, by omega, trivial⟩
              case measure => simp [intOf]; omega
            · have hn3 : ¬ (q : Int) < b2 := by omega
              go_wp2_with fail
              go_roundw
              case rel => exact ⟨k + 1, by go_num, by omega, trivial⟩
              case measure => simp [intOf]; omega
          · obtain rfl : i = k := by omega
            have k1 : ¬ (i : Int) < (i : Int) := by omega
            go_wp2_with fail
            go_roundw
            case rel => exact ⟨i + 1, by go_num, by omega, HBX.out⟩
            case measure => simp [intOf]; omega
    · obtain rfl : K = i := by omega
      have i01 : ¬ (K : Int) < (K : Int) := by omega
      have HB4 := Lib.hid (HB3.out.trans (hb.mono HB3.out.size))
      clear hb
      go_wp2_with fail
      refine (alive_any _).mono ?_
      rintro r w5 ⟨rfl, hb5⟩
      have HB5 := Lib.hid (HB4.out.trans (hb5.mono HB4.out.size))
      clear hb5
      go_wp2_with fail
      go_ret
      exact ⟨rfl, HB5.out⟩
theorem nestedLaw_any (A B : Option Addr) (ca cb n m : Nat) (l : List Int) (ms : List (Int × Int)) (w : World) (hr : RdS .i64 w w.heap.size A l) (hn : l.length = n) (hca : n ≤ ca) (hma : ca ≤ maxLen) (hr2 : RdT w w.heap.size B ms) (hm : ms.length = m) (hcb : m ≤ cb) (hmb : cb ≤ maxLen) :
    Calls Try.prog 5 #[.slice A n ca, .slice B m cb] w fun r w' => r = .returned (.bool true) ∧ Below w.heap.size w w' := by
  by_cases h : n ≤ 200 ∧ m ≤ 200
  · exact nestedShort_any A B ca cb n m l ms w hr hn h.1 hr2 hm h.2 hca
  · exact nestedLong_any A B ca cb n m w (by omega) (by omega) (by omega)
end Go.Proofs.Ytaiojghbknacjaa
