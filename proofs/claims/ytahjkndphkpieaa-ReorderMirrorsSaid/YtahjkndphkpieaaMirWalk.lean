/- The walk of ReorderMirrors: it answers true. Conditions: the slice reads as a list of whole numbers, within its capacity, and takes at most 2^47 bytes. -/
import Derived.Test.YtahjkndphkpieaaAlive
import Derived.Laws.BitsLemmas
namespace Go.Proofs.Ytahjkndphkpieaa
open Go.RowKit
set_option maxRecDepth 100000

theorem M.and127 (x : Int) : 0 ≤ bits BinOp.and IntKind.i64 x 127 ∧ bits BinOp.and IntKind.i64 x 127 ≤ 127 := by
  have h1 : ((BitVec.ofInt 64 x &&& BitVec.ofInt 64 127).toNat) ≤ 127 := by
    rw [BitVec.toNat_and]
    exact Nat.and_le_right
  have h2 : bits BinOp.and IntKind.i64 x 127 = IntKind.i64.wrap ((BitVec.ofInt 64 x &&& BitVec.ofInt 64 127).toNat : Int) := rfl
  rw [h2, IntKind.wrap_i64]
  omega
theorem M.and1 (k : Int) (h0 : 0 ≤ k) (h1 : k ≤ 127) : bits BinOp.and IntKind.i64 k 1 = k % 2 := by
  have := bits_mask .i64 63 (by decide) (fun n h0 h1 => by rw [IntKind.wrap_i64]; omega) 1 (by decide) k h0 (by omega)
  simpa using this
set_option maxHeartbeats 8000000 in
theorem mirOther_any (A : Option Addr) (ca n : Nat) (l : List Int) (q : Int) (w : World) (hr : RdS .i64 w w.heap.size A l) (hn : l.length = n) (hl8 : n * 8 ≤ 140737488351232) (hca : n ≤ ca) (h : 200 < n ∨ ¬ M.ordOk l) :
    Calls Try.prog 7 #[.slice A n ca, .int .i64 q] w fun r w' => r = .returned (.bool true) ∧ Below w.heap.size w w' := by
  have HR := Lib.hid hr
  have HN := Lib.hid hn
  have HL := Lib.hid (And.intro hl8 hca)
  have hl1 : (n : Int) ≤ 17592186043904 := by omega
  obtain ⟨eg, heg⟩ : ∃ e, M.orE 81 (M.ordOk l) = e := ⟨_, rfl⟩
  have hc : (200 : Int) < n ∨ (¬ (200 : Int) < n ∧ (eg != 0) = true) := by
    by_cases h1 : 200 < n
    · exact .inl (by omega)
    · refine .inr ⟨by omega, ?_⟩
      rw [← heg]
      unfold M.orE
      rw [if_neg (h.resolve_left h1)]
      rfl
  clear h hr hn hca hl8
  rcases hc with b1 | ⟨b1, b2⟩
  all_goals
    go_enter Try.func7, Try.ntmps7
    go_wp2_with fail
    refine (capply_any A ca n l false w HR.out HN.out HL.out.1 HL.out.2).mono ?_
    rintro r w1 hout
    obtain ⟨A1, c1, rfl, -, hb1, -⟩ := row_out hout
    rw [heg]
    have HB1 := Lib.hid hb1
    have HR1 := Lib.hid ((HR.out.below hb1).more hb1.size)
    clear hout hb1
    go_wp2_with fail
    refine (capply_any A ca n l true w1 HR1.out HN.out HL.out.1 HL.out.2).mono ?_
    rintro r w2 hout
    obtain ⟨A2, c2, rfl, -, hb2, -⟩ := row_out hout
    rw [heg]
    have HB2 := Lib.hid (HB1.out.trans (hb2.mono HB1.out.size))
    clear hout hb2
    go_wp2_with fail
    refine (alive_any _).mono ?_
    rintro r w6 ⟨rfl, hb6⟩
    have HB6 := Lib.hid (HB2.out.trans (hb6.mono HB2.out.size))
    clear hb6
    go_wp2_with fail
    go_ret
    exact ⟨rfl, HB6.out⟩
set_option maxHeartbeats 16000000 in
theorem mirIn_any (A : Option Addr) (ca n : Nat) (l : List Int) (q : Int) (w : World) (hr : RdS .i64 w w.heap.size A l) (hn : l.length = n) (hl8 : n * 8 ≤ 140737488351232) (hca : n ≤ ca) (hn2 : n ≤ 200) (hok : M.ordOk l) :
    Calls Try.prog 7 #[.slice A n ca, .int .i64 q] w fun r w' => r = .returned (.bool true) ∧ Below w.heap.size w w' := by
  have HR := Lib.hid hr
  have HN := Lib.hid hn
  have HL := Lib.hid (And.intro hl8 hca)
  have HOK := Lib.hid hok
  obtain ⟨X, hX⟩ : ∃ X, M.applied l false = X := ⟨_, rfl⟩
  obtain ⟨Y, hY⟩ : ∃ Y, M.applied l true = Y := ⟨_, rfl⟩
  have hXl : X.length = n := by rw [← hX, M.applied_len, hn]
  have hYl : Y.length = n := by rw [← hY, M.applied_len, hn]
  have hYX : Y = X.reverse := by rw [← hY, ← hX]; rfl
  have HX := Lib.hid (And.intro hX hXl)
  have HY := Lib.hid (And.intro hY (And.intro hYl hYX))
  have n2 : ¬ (200 : Int) < n := by omega
  have n2' : (n : Int) ≤ 200 := by omega
  have bnn : ((n : Int) != (n : Int)) = false := by simp
  obtain ⟨kq, hkq⟩ : ∃ k, bits BinOp.and IntKind.i64 q 127 = k := ⟨_, rfl⟩
  have hk0 := M.and127 q
  rw [hkq] at hk0
  have hk1 := M.and1 kq hk0.1 hk0.2
  have HK := Lib.hid hk0
  clear hr hn hok hX hY hXl hYl hYX hca hl8 hk0
  have HMAIN : ∀ (b1 b2 : Bool) (m : Int), bits BinOp.and IntKind.i64 kq 1 = m → (m == 1) = b1 → (m == 0) = b2 → (decide (kq % 2 = 1) != false) = b1 → (decide (kq % 2 = 1) != true) = b2 → Calls Try.prog 7 #[.slice A n ca, .int .i64 q] w fun r w' => r = .returned (.bool true) ∧ Below w.heap.size w w' := by
    intro b1 b2 m hm e1 e2 m1 m2
    have HM1 := Lib.hid (cmirrors_any kq false)
    have HM2 := Lib.hid (cmirrors_any kq true)
    rw [m1] at HM1
    rw [m2] at HM2
    have bb1 : (b1 == b1) = true := by simp
    have bb2 : (b2 == b2) = true := by simp
    clear m1 m2 hk1
    go_enter Try.func7, Try.ntmps7
    go_wp2_with fail
    refine (capply_any A ca n l false w HR.out HN.out HL.out.1 HL.out.2).mono ?_
    rintro r w1 hout
    obtain ⟨A1, c1, rfl, hr1, hb1, hc1, -, -⟩ := row_ok hout HOK.out
    rw [HX.out.1] at hr1 ⊢
    rw [HX.out.2]
    have HX1 := Lib.hid hr1
    have HB1 := Lib.hid hb1
    have HR1 := Lib.hid ((HR.out.below hb1).more hb1.size)
    clear hout hr1 hb1 hc1
    go_wp2_with fail
    refine (capply_any A ca n l true w1 HR1.out HN.out HL.out.1 HL.out.2).mono ?_
    rintro r w2 hout
    obtain ⟨A2, c2, rfl, hr2, hb2, hc2, -, -⟩ := row_ok hout HOK.out
    rw [HY.out.1] at hr2 ⊢
    rw [HY.out.2.1]
    have HY2 := Lib.hid hr2
    have HB2 := Lib.hid (HB1.out.trans (hb2.mono HB1.out.size))
    have HX2 := Lib.hid ((HX1.out.below hb2).more hb2.size)
    clear hout hr2 hb2 hc2
    go_wp2_with fail
    go_loopw [9] (fun v wr => ∃ k : Nat, v = .int .i64 k ∧ k ≤ n ∧ Below w2.heap.size w2 wr) (fun v _ => n - (intOf v).toNat)
    case atStart => exact ⟨0, rfl, Nat.zero_le _, Below.refl _ _⟩
    case round =>
      obtain ⟨k, rfl, hk, hb⟩ := hrel
      rename World => wr
      have HB := Lib.hid hb
      have k0 : (0 : Int) ≤ k := by omega
      by_cases hlt : k < n
      · have k1 : (k : Int) < n := by omega
        obtain ⟨ad, x, rfl, hcx, hx, -⟩ := rd_at HX2.out hb (by rw [HX.out.2]; exact hlt : k < X.length)
        obtain ⟨ae, y, rfl, hcy, hy, -⟩ := rd_at HY2.out hb (by rw [HY.out.2.1]; omega : n - 1 - k < Y.length)
        have hxy : y = x := by
          rw [HY.out.2.2, List.getElem?_reverse (by rw [HX.out.2]; omega), HX.out.2, show n - 1 - (n - 1 - k) = k by omega, hx] at hy
          injection hy with hy
          exact hy.symm
        subst hxy
        obtain ⟨n1, hn1⟩ : ∃ n1 : Nat, n - 1 = n1 := ⟨_, rfl⟩
        obtain ⟨j, hj⟩ : ∃ j : Nat, n - 1 - k = j := ⟨_, rfl⟩
        rw [hj] at hcy
        have hw1 : IntKind.i64.wrap ((n : Int) - 1) = (n1 : Int) := by rw [IntKind.wrap_i64]; omega
        have hw2 : IntKind.i64.wrap ((n1 : Int) - k) = (j : Int) := by rw [IntKind.wrap_i64]; omega
        have j0 : (0 : Int) ≤ j := by omega
        have j1 : (j : Int) < n := by omega
        have xx : (y != y) = false := by simp
        have cx := fun d os => cell_regrown hcx d os
        have cy := fun d os => cell_regrown hcy d os
        clear hb hx hy hn1 hj
        go_wp2_with fail
        refine wp_region_quiet_below (by kernel_rfl) (by kernel_rfl) ?_
        repeat (go_big_quiet_step (fail))
        refine wpQuiet_nil ?_
        intro _ hw'
        obtain ⟨⟨dq, osq⟩, hw4⟩ := hw'
        subst hw4
        have hbg := below_regrown wr dq osq
        obtain ⟨Z, hZ⟩ : ∃ Z, Sort.grow (redrawn wr dq) osq = Z := ⟨_, rfl⟩
        rw [hZ] at hbg
        have HBX := Lib.hid (HB.out.trans (hbg.mono HB.out.size))
        dsimp only
        rw [hZ]
        clear hZ hbg hw1 hw2
        go_wp2_with fail
        go_roundw
        case rel => exact ⟨k + 1, by go_num, by omega, HBX.out⟩
        case measure => simp [intOf]; omega
      · have k1 : ¬ (k : Int) < n := by omega
        clear hb
        go_wp2_with fail
        refine (alive_any _).mono ?_
        rintro r w6 ⟨rfl, hb6⟩
        have HB6 := Lib.hid ((HB2.out.trans (HB.out.mono HB2.out.size)).trans (hb6.mono (Nat.le_trans HB2.out.size HB.out.size)))
        clear hb6
        go_wp2_with fail
        refine (HM1.out _ HK.out.1 HK.out.2).mono ?_
        rintro r w7 ⟨rfl, rfl⟩
        go_wp2_with fail
        refine (HM2.out _ HK.out.1 HK.out.2).mono ?_
        rintro r w7 ⟨rfl, rfl⟩
        go_wp2_with fail
        go_ret
        exact ⟨rfl, HB6.out⟩
  rcases Int.emod_two_eq kq with h2 | h2
  · rw [h2] at hk1
    exact HMAIN false true 0 hk1 rfl rfl (by rw [h2]; rfl) (by rw [h2]; rfl)
  · rw [h2] at hk1
    exact HMAIN true false 1 hk1 rfl rfl (by rw [h2]; rfl) (by rw [h2]; rfl)
theorem mirLaw_any (A : Option Addr) (ca n : Nat) (l : List Int) (q : Int) (w : World) (hr : RdS .i64 w w.heap.size A l) (hn : l.length = n) (hl8 : n * 8 ≤ 140737488351232) (hca : n ≤ ca) :
    Calls Try.prog 7 #[.slice A n ca, .int .i64 q] w fun r w' => r = .returned (.bool true) ∧ Below w.heap.size w w' := by
  by_cases h : n ≤ 200 ∧ M.ordOk l
  · exact mirIn_any A ca n l q w hr hn hl8 hca h.1 h.2
  · refine mirOther_any A ca n l q w hr hn hl8 hca ?_
    by_cases h1 : 200 < n
    · exact .inl h1
    · exact .inr fun h2 => h ⟨by omega, h2⟩
end Go.Proofs.Ytahjkndphkpieaa
