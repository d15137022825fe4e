/- The walk of WeakSteps: it answers true. Conditions: the slice reads as a list of classes, within its capacity. -/
import Derived.Test.YtanlclmlkpchfaaAlive
import Derived.Test.YtanlclmlkpchfaaAppendRd
namespace Go.Proofs.Ytanlclmlkpchfaa
open Go.RowKit
set_option maxRecDepth 100000

set_option maxHeartbeats 4000000 in
theorem stepsLong_any (A : Option Addr) (ca n : Nat) (nn ot : Int) (w : World) (hn : 150 < n) (hm : n ≤ maxLen) :
    Calls Try.prog 6 #[.slice A n ca, .int .i64 nn, .int .i64 ot] w fun r w' => r = .returned (.bool true) ∧ Below w.heap.size w w' := by
  unfold maxLen at hm
  have h1 : (150 : Int) < n := by omega
  go_enter Try.func6, Try.ntmps6
  go_wp2_with fail
  refine (alive_any _).mono ?_
  rintro r w2 ⟨rfl, hb⟩
  have HB := Lib.hid hb
  clear hb
  go_wp2_with fail
  go_ret
  exact ⟨rfl, HB.out⟩
set_option maxHeartbeats 8000000 in
theorem stepsShort_any (A : Option Addr) (ca n : Nat) (l : List Int) (nn ot : Int) (w : World) (hr : RdS .i64 w w.heap.size A l) (hn : l.length = n) (hl : n ≤ 150) (hca : n ≤ ca) (hA : A = none → ca = 0) :
    Calls Try.prog 6 #[.slice A n ca, .int .i64 nn, .int .i64 ot] w fun r w' => r = .returned (.bool true) ∧ Below w.heap.size w w' := by
  obtain ⟨i0, hi0, hz0, hz1, hz2⟩ := info_parts Try.infoCls
  have HR := Lib.hid hr
  have HN := Lib.hid hn
  have HA := Lib.hid hA
  have HCA := Lib.hid hca
  have hl1 : (n : Int) ≤ 150 := by omega
  have HSD := Lib.hid (fun w => side_any nn w)
  obtain ⟨s, hs⟩ : ∃ s, M.sdn nn = s := ⟨_, rfl⟩
  have hs01 : s = 0 ∨ s = 1 := by rw [← hs]; exact M.sdn_or nn
  rw [hs] at HSD
  have HS := Lib.hid hs01
  obtain ⟨ok, hok⟩ : ∃ ok : Prop, ok = (ot = 0 ∨ ot = 1) := ⟨_, rfl⟩
  have hwl : ∀ w1 : World, RdS .i64 w1 w1.heap.size A l → Calls Try.prog 10 #[.slice A n ca, .int .i64 ot] w1 (RuleOut ok (M.wall ot l) w1) := fun w1 h1 => by
    rw [hok]
    exact call_any A ca n ot l w1 h1 hn (by omega) hca
  have HWL := Lib.hid hwl
  clear hr hn hA hca hs hs01 hwl
  have h3 : (ot = 0 ∧ ok) ∨ (ot = 1 ∧ ok) ∨ ((ot == 0) = false ∧ (ot == 1) = false ∧ ¬ ok) := by
    rw [hok]
    by_cases h0 : ot = 0
    · exact .inl ⟨h0, .inl h0⟩
    · by_cases h1 : ot = 1
      · exact .inr (.inl ⟨h1, .inr h1⟩)
      · exact .inr (.inr ⟨by simp [h0], by simp [h1], by omega⟩)
  clear hok
  rcases h3 with ⟨rfl, hk⟩ | ⟨rfl, hk⟩ | ⟨b0, b1, hk⟩
  · have HK := Lib.hid hk
    clear hk
    go_enter Try.func6, Try.ntmps6
    go_wp2_with (at_builtin; refine wpList_append_rd _ rfl _ _ 22 rfl w.heap.size 23 i0 (.int .i64 0) 8 Try.underlying22 hi0 hz0 hz1 hz2 rfl _ 0 [] rfl (World.ownsRow_lit w #[] 0 (Nat.le_refl _) (Nat.zero_le _) rfl) .i64 w.heap.size A ca l (by rw [HN.out]; rfl) (HR.out.keep (fun p hp => World.cell?_alloc_lt w _ p (by omega))) HA.out (by have := HN.out; unfold maxLen; omega) (by have := HN.out; omega) (by simp) ?_)
    intro v1 w1 ho1 hg1
    have hb1 : Below w.heap.size w w1 := grow_below0 ((Below.refl _ _).alloc (Nat.le_refl _) _) (World.ownsRow_lit w #[] 0 (Nat.le_refl _) (Nat.zero_le _) rfl) hg1 (by simp)
    have ho1' : w1.ownsRow w.heap.size 23 1 v1 l.length (l.map (Value.int .i64)) := by simpa using ho1
    obtain ⟨A1, c1, rfl, hr1, hc1, _, _⟩ := reads_own ho1'
    rw [HN.out] at hc1 ⊢
    have HR1 := Lib.hid hr1
    have HB1 := Lib.hid hb1
    have HC1 := Lib.hid hc1
    clear ho1 hg1 hb1 ho1' hr1 hc1
    go_wp2_with fail
    go_loopw [7, 8] (fun v x wr => ∃ (k : Nat) (A2 : Option Addr) (c2 : Nat), v = .slice A2 n c2 ∧ x = .int .i64 ((k : Int) + 1) ∧ k ≤ 7 ∧ n ≤ c2 ∧ RdS .i64 wr wr.heap.size A2 (M.wto s k l) ∧ Below w.heap.size w wr) (fun _ x _ => (8 - intOf x).toNat)
    case atStart => exact ⟨0, A1, c1, rfl, rfl, by omega, HC1.out, HR1.out, HB1.out⟩
    case round =>
      obtain ⟨k, A2, c2, rfl, rfl, hk, hc2, hrd, hb⟩ := hrel
      have HB := Lib.hid hb
      have hk0 : (0 : Int) ≤ k := by omega
      by_cases hlt : k < 7
      · have hk7 : (k : Int) + 1 ≤ 7 := by omega
        have hmay : M.may ((k : Int) + 1) s := ⟨by omega, HS.out⟩
        have HC := Lib.hid (crule_any A2 c2 n ((k : Int) + 1) s (M.wto s k l) wr hrd (by rw [M.wto_len, HN.out]) (by omega) hc2)
        have HMAY := Lib.hid hmay
        clear hrd hb hmay hc2
        go_wp2_with fail
        refine (HSD.out _).mono ?_
        rintro r w2 ⟨rfl, rfl⟩
        go_wp2_with fail
        refine HC.out.mono ?_
        rintro r w2 hout
        obtain ⟨A3, c3, rfl, hr3, hb3, hc3, -⟩ := rule_ok hout HMAY.out
        have hlen : (M.wrule ((k : Int) + 1) s (M.wto s k l)).length = n := by rw [M.wrule_len, M.wto_len, HN.out]
        rw [hlen] at hc3 ⊢
        have HR3 := Lib.hid hr3
        have HB3 := Lib.hid (HB.out.trans (hb3.mono HB.out.size))
        have HC3 := Lib.hid hc3
        clear hr3 hb3 hout hlen hc3
        go_wp2_with fail
        go_roundw
        case rel => exact ⟨k + 1, A3, c3, rfl, by go_num, by omega, HC3.out, HR3.out, HB3.out⟩
        case measure => simp [intOf]; omega
      · obtain rfl : k = 7 := by omega
        rw [M.wto_all] at hrd
        obtain ⟨X, hX⟩ : ∃ X, M.wall s l = X := ⟨_, rfl⟩
        have hXl : X.length = n := by rw [← hX, M.wall_len, HN.out]
        have hC := call_any A ca n s l wr ((HR.out.below hb).more hb.size) HN.out (by omega) HCA.out
        rw [hX] at hC hrd
        have HRX := Lib.hid hrd
        have HC := Lib.hid hC
        have HXL := Lib.hid hXl
        have HRl := Lib.hid ((HR.out.below hb).more hb.size)
        clear hrd hb hc2 hX hXl hC
        go_wp2_with fail
        refine (HSD.out _).mono ?_
        rintro r w2 ⟨rfl, rfl⟩
        go_wp2_with fail
        refine HC.out.mono ?_
        rintro r w2 hout
        obtain ⟨A3, c3, rfl, hr3, hb3, -, -⟩ := rule_ok hout HS.out
        rw [HXL.out]
        have HR3 := Lib.hid hr3
        have HRl3 := Lib.hid ((HRl.out.below hb3).more hb3.size)
        have HRX3 := Lib.hid ((HRX.out.below hb3).more hb3.size)
        have HB3 := Lib.hid (HB.out.trans (hb3.mono HB.out.size))
        clear hr3 hb3 hout
        go_wp2_with fail
        refine (HWL.out _ HRl3.out).mono ?_
        rintro r w4 hout
        obtain ⟨A4, c4, rfl, -, hb4, -, -⟩ := rule_ok hout HK.out
        have HR34 := Lib.hid ((HR3.out.below hb4).more hb4.size)
        have HRX4 := Lib.hid ((HRX3.out.below hb4).more hb4.size)
        have HB4 := Lib.hid (HB3.out.trans (hb4.mono HB3.out.size))
        clear hb4 hout
        go_wp2_with fail
        refine (alive_any _).mono ?_
        rintro r w5 ⟨rfl, hb5⟩
        have HR35 := Lib.hid ((HR34.out.below hb5).more hb5.size)
        have HRX5 := Lib.hid ((HRX4.out.below hb5).more hb5.size)
        have HB5 := Lib.hid (HB4.out.trans (hb5.mono HB4.out.size))
        clear hb5
        go_wp2_with fail
        refine (same_same A2 A3 c2 c3 n X w5 HRX5.out HR35.out HXL.out (by omega)).mono ?_
        rintro r w6 ⟨rfl, hb6⟩
        have HB6 := Lib.hid (HB5.out.trans (hb6.mono HB5.out.size))
        clear hb6
        go_wp2_with fail
        go_ret
        exact ⟨rfl, HB6.out⟩
  · have HK := Lib.hid hk
    clear hk
    go_enter Try.func6, Try.ntmps6
    go_wp2_with (at_builtin; refine wpList_append_rd _ rfl _ _ 22 rfl w.heap.size 23 i0 (.int .i64 0) 8 Try.underlying22 hi0 hz0 hz1 hz2 rfl _ 0 [] rfl (World.ownsRow_lit w #[] 0 (Nat.le_refl _) (Nat.zero_le _) rfl) .i64 w.heap.size A ca l (by rw [HN.out]; rfl) (HR.out.keep (fun p hp => World.cell?_alloc_lt w _ p (by omega))) HA.out (by have := HN.out; unfold maxLen; omega) (by have := HN.out; omega) (by simp) ?_)
    intro v1 w1 ho1 hg1
    have hb1 : Below w.heap.size w w1 := grow_below0 ((Below.refl _ _).alloc (Nat.le_refl _) _) (World.ownsRow_lit w #[] 0 (Nat.le_refl _) (Nat.zero_le _) rfl) hg1 (by simp)
    have ho1' : w1.ownsRow w.heap.size 23 1 v1 l.length (l.map (Value.int .i64)) := by simpa using ho1
    obtain ⟨A1, c1, rfl, hr1, hc1, _, _⟩ := reads_own ho1'
    rw [HN.out] at hc1 ⊢
    have HR1 := Lib.hid hr1
    have HB1 := Lib.hid hb1
    have HC1 := Lib.hid hc1
    clear ho1 hg1 hb1 ho1' hr1 hc1
    go_wp2_with fail
    go_loopw [7, 8] (fun v x wr => ∃ (k : Nat) (A2 : Option Addr) (c2 : Nat), v = .slice A2 n c2 ∧ x = .int .i64 ((k : Int) + 1) ∧ k ≤ 7 ∧ n ≤ c2 ∧ RdS .i64 wr wr.heap.size A2 (M.wto s k l) ∧ Below w.heap.size w wr) (fun _ x _ => (8 - intOf x).toNat)
    case atStart => exact ⟨0, A1, c1, rfl, rfl, by omega, HC1.out, HR1.out, HB1.out⟩
    case round =>
      obtain ⟨k, A2, c2, rfl, rfl, hk, hc2, hrd, hb⟩ := hrel
      have HB := Lib.hid hb
      have hk0 : (0 : Int) ≤ k := by omega
      by_cases hlt : k < 7
      · have hk7 : (k : Int) + 1 ≤ 7 := by omega
        have hmay : M.may ((k : Int) + 1) s := ⟨by omega, HS.out⟩
        have HC := Lib.hid (crule_any A2 c2 n ((k : Int) + 1) s (M.wto s k l) wr hrd (by rw [M.wto_len, HN.out]) (by omega) hc2)
        have HMAY := Lib.hid hmay
        clear hrd hb hmay hc2
        go_wp2_with fail
        refine (HSD.out _).mono ?_
        rintro r w2 ⟨rfl, rfl⟩
        go_wp2_with fail
        refine HC.out.mono ?_
        rintro r w2 hout
        obtain ⟨A3, c3, rfl, hr3, hb3, hc3, -⟩ := rule_ok hout HMAY.out
        have hlen : (M.wrule ((k : Int) + 1) s (M.wto s k l)).length = n := by rw [M.wrule_len, M.wto_len, HN.out]
        rw [hlen] at hc3 ⊢
        have HR3 := Lib.hid hr3
        have HB3 := Lib.hid (HB.out.trans (hb3.mono HB.out.size))
        have HC3 := Lib.hid hc3
        clear hr3 hb3 hout hlen hc3
        go_wp2_with fail
        go_roundw
        case rel => exact ⟨k + 1, A3, c3, rfl, by go_num, by omega, HC3.out, HR3.out, HB3.out⟩
        case measure => simp [intOf]; omega
      · obtain rfl : k = 7 := by omega
        rw [M.wto_all] at hrd
        obtain ⟨X, hX⟩ : ∃ X, M.wall s l = X := ⟨_, rfl⟩
        have hXl : X.length = n := by rw [← hX, M.wall_len, HN.out]
        have hC := call_any A ca n s l wr ((HR.out.below hb).more hb.size) HN.out (by omega) HCA.out
        rw [hX] at hC hrd
        have HRX := Lib.hid hrd
        have HC := Lib.hid hC
        have HXL := Lib.hid hXl
        have HRl := Lib.hid ((HR.out.below hb).more hb.size)
        clear hrd hb hc2 hX hXl hC
        go_wp2_with fail
        refine (HSD.out _).mono ?_
        rintro r w2 ⟨rfl, rfl⟩
        go_wp2_with fail
        refine HC.out.mono ?_
        rintro r w2 hout
        obtain ⟨A3, c3, rfl, hr3, hb3, -, -⟩ := rule_ok hout HS.out
        rw [HXL.out]
        have HR3 := Lib.hid hr3
        have HRl3 := Lib.hid ((HRl.out.below hb3).more hb3.size)
        have HRX3 := Lib.hid ((HRX.out.below hb3).more hb3.size)
        have HB3 := Lib.hid (HB.out.trans (hb3.mono HB.out.size))
        clear hr3 hb3 hout
        go_wp2_with fail
        refine (HWL.out _ HRl3.out).mono ?_
        rintro r w4 hout
        obtain ⟨A4, c4, rfl, -, hb4, -, -⟩ := rule_ok hout HK.out
        have HR34 := Lib.hid ((HR3.out.below hb4).more hb4.size)
        have HRX4 := Lib.hid ((HRX3.out.below hb4).more hb4.size)
        have HB4 := Lib.hid (HB3.out.trans (hb4.mono HB3.out.size))
        clear hb4 hout
        go_wp2_with fail
        refine (alive_any _).mono ?_
        rintro r w5 ⟨rfl, hb5⟩
        have HR35 := Lib.hid ((HR34.out.below hb5).more hb5.size)
        have HRX5 := Lib.hid ((HRX4.out.below hb5).more hb5.size)
        have HB5 := Lib.hid (HB4.out.trans (hb5.mono HB4.out.size))
        clear hb5
        go_wp2_with fail
        refine (same_same A2 A3 c2 c3 n X w5 HRX5.out HR35.out HXL.out (by omega)).mono ?_
        rintro r w6 ⟨rfl, hb6⟩
        have HB6 := Lib.hid (HB5.out.trans (hb6.mono HB5.out.size))
        clear hb6
        go_wp2_with fail
        go_ret
        exact ⟨rfl, HB6.out⟩
  · have HK := Lib.hid hk
    clear hk
    go_enter Try.func6, Try.ntmps6
    go_wp2_with (at_builtin; refine wpList_append_rd _ rfl _ _ 22 rfl w.heap.size 23 i0 (.int .i64 0) 8 Try.underlying22 hi0 hz0 hz1 hz2 rfl _ 0 [] rfl (World.ownsRow_lit w #[] 0 (Nat.le_refl _) (Nat.zero_le _) rfl) .i64 w.heap.size A ca l (by rw [HN.out]; rfl) (HR.out.keep (fun p hp => World.cell?_alloc_lt w _ p (by omega))) HA.out (by have := HN.out; unfold maxLen; omega) (by have := HN.out; omega) (by simp) ?_)
    intro v1 w1 ho1 hg1
    have hb1 : Below w.heap.size w w1 := grow_below0 ((Below.refl _ _).alloc (Nat.le_refl _) _) (World.ownsRow_lit w #[] 0 (Nat.le_refl _) (Nat.zero_le _) rfl) hg1 (by simp)
    have ho1' : w1.ownsRow w.heap.size 23 1 v1 l.length (l.map (Value.int .i64)) := by simpa using ho1
    obtain ⟨A1, c1, rfl, hr1, hc1, _, _⟩ := reads_own ho1'
    rw [HN.out] at hc1 ⊢
    have HR1 := Lib.hid hr1
    have HB1 := Lib.hid hb1
    have HC1 := Lib.hid hc1
    clear ho1 hg1 hb1 ho1' hr1 hc1
    go_wp2_with fail
    go_loopw [7, 8] (fun v x wr => ∃ (k : Nat) (A2 : Option Addr) (c2 : Nat), v = .slice A2 n c2 ∧ x = .int .i64 ((k : Int) + 1) ∧ k ≤ 7 ∧ n ≤ c2 ∧ RdS .i64 wr wr.heap.size A2 (M.wto s k l) ∧ Below w.heap.size w wr) (fun _ x _ => (8 - intOf x).toNat)
    case atStart => exact ⟨0, A1, c1, rfl, rfl, by omega, HC1.out, HR1.out, HB1.out⟩
    case round =>
      obtain ⟨k, A2, c2, rfl, rfl, hk, hc2, hrd, hb⟩ := hrel
      have HB := Lib.hid hb
      have hk0 : (0 : Int) ≤ k := by omega
      by_cases hlt : k < 7
      · have hk7 : (k : Int) + 1 ≤ 7 := by omega
        have hmay : M.may ((k : Int) + 1) s := ⟨by omega, HS.out⟩
        have HC := Lib.hid (crule_any A2 c2 n ((k : Int) + 1) s (M.wto s k l) wr hrd (by rw [M.wto_len, HN.out]) (by omega) hc2)
        have HMAY := Lib.hid hmay
        clear hrd hb hmay hc2
        go_wp2_with fail
        refine (HSD.out _).mono ?_
        rintro r w2 ⟨rfl, rfl⟩
        go_wp2_with fail
        refine HC.out.mono ?_
        rintro r w2 hout
        obtain ⟨A3, c3, rfl, hr3, hb3, hc3, -⟩ := rule_ok hout HMAY.out
        have hlen : (M.wrule ((k : Int) + 1) s (M.wto s k l)).length = n := by rw [M.wrule_len, M.wto_len, HN.out]
        rw [hlen] at hc3 ⊢
        have HR3 := Lib.hid hr3
        have HB3 := Lib.hid (HB.out.trans (hb3.mono HB.out.size))
        have HC3 := Lib.hid hc3
        clear hr3 hb3 hout hlen hc3
        go_wp2_with fail
        go_roundw
        case rel => exact ⟨k + 1, A3, c3, rfl, by go_num, by omega, HC3.out, HR3.out, HB3.out⟩
        case measure => simp [intOf]; omega
      · obtain rfl : k = 7 := by omega
        rw [M.wto_all] at hrd
        obtain ⟨X, hX⟩ : ∃ X, M.wall s l = X := ⟨_, rfl⟩
        have hXl : X.length = n := by rw [← hX, M.wall_len, HN.out]
        have hC := call_any A ca n s l wr ((HR.out.below hb).more hb.size) HN.out (by omega) HCA.out
        rw [hX] at hC hrd
        have HRX := Lib.hid hrd
        have HC := Lib.hid hC
        have HXL := Lib.hid hXl
        have HRl := Lib.hid ((HR.out.below hb).more hb.size)
        clear hrd hb hc2 hX hXl hC
        go_wp2_with fail
        refine (HSD.out _).mono ?_
        rintro r w2 ⟨rfl, rfl⟩
        go_wp2_with fail
        refine HC.out.mono ?_
        rintro r w2 hout
        obtain ⟨A3, c3, rfl, hr3, hb3, -, -⟩ := rule_ok hout HS.out
        rw [HXL.out]
        have HR3 := Lib.hid hr3
        have HRl3 := Lib.hid ((HRl.out.below hb3).more hb3.size)
        have HRX3 := Lib.hid ((HRX.out.below hb3).more hb3.size)
        have HB3 := Lib.hid (HB.out.trans (hb3.mono HB.out.size))
        clear hr3 hb3 hout
        go_wp2_with fail
        refine (HWL.out _ HRl3.out).mono ?_
        rintro r w4 hout
        obtain ⟨hb4, -, hno⟩ := hout
        obtain rfl := hno HK.out
        have HR34 := Lib.hid ((HR3.out.below hb4).more hb4.size)
        have HRX4 := Lib.hid ((HRX3.out.below hb4).more hb4.size)
        have HB4 := Lib.hid (HB3.out.trans (hb4.mono HB3.out.size))
        clear hb4 hno
        go_wp2_with fail
        refine (alive_any _).mono ?_
        rintro r w5 ⟨rfl, hb5⟩
        have HR35 := Lib.hid ((HR34.out.below hb5).more hb5.size)
        have HRX5 := Lib.hid ((HRX4.out.below hb5).more hb5.size)
        have HB5 := Lib.hid (HB4.out.trans (hb5.mono HB4.out.size))
        clear hb5
        go_wp2_with fail
        refine (same_same A2 A3 c2 c3 n X w5 HRX5.out HR35.out HXL.out (by omega)).mono ?_
        rintro r w6 ⟨rfl, hb6⟩
        have HB6 := Lib.hid (HB5.out.trans (hb6.mono HB5.out.size))
        clear hb6
        go_wp2_with fail
        go_ret
        exact ⟨rfl, HB6.out⟩
theorem stepsLaw_any (A : Option Addr) (ca n : Nat) (l : List Int) (nn ot : Int) (w : World) (hr : RdS .i64 w w.heap.size A l) (hn : l.length = n) (hca : n ≤ ca) (hm : ca ≤ maxLen) (hA : A = none → ca = 0) :
    Calls Try.prog 6 #[.slice A n ca, .int .i64 nn, .int .i64 ot] w fun r w' => r = .returned (.bool true) ∧ Below w.heap.size w w' := by
  by_cases h : n ≤ 150
  · exact stepsShort_any A ca n l nn ot w hr hn h hca hA
  · exact stepsLong_any A ca n nn ot w (by omega) (by omega)
end Go.Proofs.Ytanlclmlkpchfaa
