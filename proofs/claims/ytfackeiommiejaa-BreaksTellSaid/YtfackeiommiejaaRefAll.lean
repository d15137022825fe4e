/- The document's own At, All and Next over the translation. Conditions: the slice reads as a list of kinds, at most a thousand long. -/
import Derived.Test.YtfackeiommiejaaRefAt
import Derived.Test.YtfackeiommiejaaNextOf
namespace Go.Proofs.Ytfackeiommiejaa
open Go.RowKit

set_option maxHeartbeats 2000000 in
theorem refAt_any (A : Option Addr) (ca n : Nat) (i : Int) (l : List Int) (w : World) (hr : RdS .i64 w w.heap.size A l) (hn : l.length = n) (hl : n ≤ 1000) :
    Calls Try.prog 15 #[.slice A n ca, .int .i64 i] w fun r w' => r = .returned (.int .i64 (M.atI l i)) ∧ Below w.heap.size w w' := by
  unfold M.atI
  have l1 : (n : Int) ≤ 1000 := by omega
  rcases (show i ≤ 0 ∨ (n : Int) < i ∨ (0 < i ∧ i = n) ∨ (0 < i ∧ i < n) by omega) with h | h | ⟨h, h2⟩ | ⟨h, h2⟩
  · rw [if_pos h]
    clear hr hn
    go_enter Try.func15, Try.ntmps15
    go_wp2
    go_ret
    exact ⟨rfl, Below.refl _ _⟩
  · have h0 : ¬ i ≤ 0 := by omega
    have h1 : M.how l i.toNat = 0 := by unfold M.how; rw [if_pos (.inr (by omega))]
    rw [if_neg h0, h1]
    clear hr hn h1
    go_enter Try.func15, Try.ntmps15
    go_wp2
    go_ret
    exact ⟨rfl, Below.refl _ _⟩
  · have h0 : ¬ i ≤ 0 := by omega
    have h1 : M.how l i.toNat = 2 := by
      rw [show i.toNat = l.length by omega]
      exact M.how_len (by omega)
    rw [if_neg h0, h1]
    obtain rfl := h2
    have h3 : ¬ (n : Int) < n := by omega
    clear hr hn h1
    go_enter Try.func15, Try.ntmps15
    go_wp2
    go_ret
    exact ⟨rfl, Below.refl _ _⟩
  · obtain ⟨k, rfl⟩ := Int.eq_ofNat_of_zero_le (show 0 ≤ i by omega)
    rw [if_neg (by omega), Int.toNat_natCast]
    exact refAtIn_any A ca n k l w hr hn hl (by omega) (by omega)

set_option maxHeartbeats 4000000 in
theorem refAll_any (A : Option Addr) (ca n : Nat) (l : List Int) (w : World) (hr : RdS .i64 w w.heap.size A l) (hn : l.length = n) (hl : n ≤ 1000) :
    Calls Try.prog 10 #[.slice A n ca] w (ListOut (M.all l) w) := by
  obtain ⟨i0, hi, hz0, hz1, hz2⟩ := info_parts Try.infoInt
  have HR := Lib.hid hr
  have HN := Lib.hid hn
  have hl1 : (n : Int) ≤ 1000 := by omega
  clear hr hn
  go_enter Try.func10, Try.ntmps10
  go_wp2_with fail
  go_loopw [3, 4] (fun o v wr => ∃ k : Nat, v = .int .i64 ((k : Int) + 1) ∧ k ≤ n ∧ wr.ownsRow w.heap.size 3 1 o (M.allTo l k).length ((M.allTo l k).map (Value.int .i64)) ∧ Below w.heap.size w wr) (fun _ v _ => (n : Int) + 1 - intOf v |>.toNat)
  case atStart => exact ⟨0, rfl, Nat.zero_le _, ⟨rfl, .inl ⟨rfl, rfl⟩⟩, Below.refl _ _⟩
  case round =>
    obtain ⟨k, rfl, hk, ho, hb⟩ := hrel
    rename Value => o
    have hn := HN.out
    have HB := Lib.hid hb
    have HO := Lib.hid ho
    have k0 : (0 : Int) ≤ k := by omega
    by_cases hlt : k < n
    · have k1 : (k : Int) + 1 ≤ n := by omega
      obtain ⟨x, hx⟩ : ∃ x, M.how l (k + 1) = x := ⟨_, rfl⟩
      have HC := Lib.hid (by
        have := refAt_any A ca n ((k : Int) + 1) l wr ((HR.out.below hb).more hb.size) hn hl
        unfold M.atI at this
        rw [if_neg (by omega), show ((k : Int) + 1).toNat = k + 1 by omega, hx] at this
        exact this)
      have HNX := Lib.hid (show M.allTo l k ++ [x] = M.allTo l (k + 1) by rw [M.allTo_succ, hx])
      clear hb ho hn hx
      go_wp2_with fail
      refine HC.out.mono ?_
      rintro r w2 ⟨rfl, hb2⟩
      have HB2 := Lib.hid (HB.out.trans (hb2.mono HB.out.size))
      have HO2 := Lib.hid (own_below HO.out hb2)
      have hbs := HB2.out.size
      clear hb2
      go_wp2_with (at_builtin; refine wpList_append_own _ rfl _ _ 25 rfl w.heap.size 3 i0 (.int .i64 0) 1 8 Try.underlying25 hi hz0 hz1 hz2 rfl (by decide) _ _ _ rfl (World.ownsRow.alloc HO2.out _) ⟨w2.heap.size, 0, none⟩ 1 1 [.int .i64 x] rfl rfl (one_new _ _ _) one_cell (by rw [M.allTo_len]; unfold maxLen; omega) (by rw [M.allTo_len]; omega) (by simp; omega) ?_)
      intro v4 w4 ho4 hg4 _
      have hb4 : Below w.heap.size w w4 := grow_below0 (HB2.out.alloc hbs _) (World.ownsRow.alloc HO2.out _) hg4 (by simp; omega)
      have HB4 := Lib.hid hb4
      have hlen : (M.allTo l k).length + 1 = (M.allTo l (k + 1)).length := by rw [M.allTo_len, M.allTo_len]
      have hmap : (M.allTo l k).map (Value.int .i64) ++ [Value.int .i64 x] = (M.allTo l (k + 1)).map (Value.int .i64) := by rw [← HNX.out, List.map_append]; rfl
      rw [hlen, hmap] at ho4
      have HO4 := Lib.hid ho4
      clear ho4 hg4 hb4 hlen hmap
      go_wp2_with fail
      go_roundw
      case rel => exact ⟨k + 1, by go_num, by omega, HO4.out, HB4.out⟩
      case measure => simp [intOf]; omega
    · obtain rfl : k = n := by omega
      obtain ⟨A', c', rfl, hr', hc', hm', hnn⟩ := reads_own ho
      have hcn : M.allTo l k = M.all l := by unfold M.all; rw [hn]
      rw [hcn] at hr' hc' ⊢
      have HF := Lib.hid (show RdS .i64 wr wr.heap.size A' (M.all l) ∧ (M.all l).length ≤ c' ∧ c' ≤ maxLen ∧ (A' = none → c' = 0) from ⟨hr', hc', hm', hnn⟩)
      have k1 : ¬ (k : Int) + 1 ≤ k := by omega
      clear hb ho hn hr' hc' hm' hnn HO hcn
      go_wp2_with fail
      go_ret
      obtain ⟨f2, f3, f4, f5⟩ := HF.out
      exact ⟨A', c', rfl, f2, f3, f4, f5, HB.out⟩

/-- From a place on: the first at which a line may end, or the length. -/
theorem M.nextN_step {l : List Int} {f k : Nat} (hfk : f < k) (hk : k < l.length) (hz : ∀ j, f < j → j < k → M.how l j = 0) (h : M.how l k ≠ 0) : M.nextN l f = k := by
  unfold M.nextN
  rw [if_neg (by omega), M.nextFrom_skip (m := k - (f + 1)) (by omega) (fun j hj => hz _ (by omega) (by omega)), show f + 1 + (k - (f + 1)) = k by omega, M.nextFrom_hit h]
theorem M.nextN_end {l : List Int} {f : Nat} (hz : ∀ j, f < j → j < l.length → M.how l j = 0) : M.nextN l f = l.length := by
  unfold M.nextN
  split
  · rfl
  · rw [M.nextFrom_skip (m := l.length - (f + 1)) (Nat.le_refl _) (fun j hj => hz _ (by omega) (by omega)), Nat.sub_self]
    show f + 1 + (l.length - (f + 1)) = l.length
    omega
theorem M.how_nonneg (l : List Int) (i : Nat) : 0 ≤ M.how l i := by
  have hs : ∀ p, 0 ≤ M.say p := fun p => by rw [M.say_eq]; repeat' split
                                            all_goals decide
  unfold M.how
  split
  · decide
  · split
    · decide
    · exact hs _

set_option maxHeartbeats 4000000 in
theorem refNextUp_any (A : Option Addr) (ca n f : Nat) (l : List Int) (w : World) (hr : RdS .i64 w w.heap.size A l) (hn : l.length = n) (hl : n ≤ 1000) :
    Calls Try.prog 17 #[.slice A n ca, .int .i64 f] w fun r w' => r = .returned (.int .i64 (M.nextN l f)) ∧ Below w.heap.size w w' := by
  have HR := Lib.hid hr
  have HN := Lib.hid hn
  have hl1 : (n : Int) ≤ 1000 := by omega
  obtain ⟨ans, hans⟩ : ∃ v, M.nextN l f = v := ⟨_, rfl⟩
  rw [hans]
  have HANS := Lib.hid hans
  have f0 : ¬ (f : Int) < 0 := by omega
  clear hr hn hans
  go_enter Try.func17, Try.ntmps17
  go_wp2_with fail
  go_loopw [5] (fun v wr => ∃ k : Nat, v = .int .i64 k ∧ 1 ≤ k ∧ (k ≤ n ∨ n = 0 ∧ k = 1) ∧ (∀ j, f < j → j < k → M.how l j = 0) ∧ Below w.heap.size w wr) (fun v _ => n - (intOf v).toNat)
  case atStart => exact ⟨1, rfl, Nat.le_refl _, by omega, fun j h1 h2 => by omega, Below.refl _ _⟩
  case round =>
    obtain ⟨k, rfl, hk1, hk, hz, hb⟩ := hrel
    have hn := HN.out
    have HB := Lib.hid hb
    have HZ := Lib.hid hz
    have k0 : (0 : Int) ≤ k := by omega
    by_cases hlt : k < n
    · have k1 : (k : Int) < n := by omega
      by_cases hfk : f < k
      · have k2 : (f : Int) < k := by omega
        obtain ⟨x, hx⟩ : ∃ x, M.how l k = x := ⟨_, rfl⟩
        have hx0 : 0 ≤ x := by rw [← hx]; exact M.how_nonneg l k
        have HC := Lib.hid (by
          have := refAt_any A ca n k l wr ((HR.out.below hb).more hb.size) hn hl
          unfold M.atI at this
          rw [if_neg (by omega), Int.toNat_natCast, hx] at this
          exact this)
        by_cases h0 : x = 0
        · have HZ2 := Lib.hid (show ∀ j, f < j → j < k + 1 → M.how l j = 0 from fun j h1 h2 => by
            rcases Nat.lt_or_ge j k with h | h
            · exact hz j h1 h
            · obtain rfl : j = k := by omega
              rw [hx]; exact h0)
          subst h0
          clear hb hz hn hx
          go_wp2_with fail
          refine HC.out.mono ?_
          rintro r w2 ⟨rfl, hb2⟩
          have HB2 := Lib.hid (HB.out.trans (hb2.mono HB.out.size))
          clear hb2
          go_wp2_with fail
          go_roundw
          case rel => exact ⟨k + 1, by go_num, by omega, by omega, HZ2.out, HB2.out⟩
          case measure => simp [intOf]; omega
        · have HF := Lib.hid (show ans = k by rw [← HANS.out]; exact M.nextN_step hfk (by omega) hz (by rw [hx]; exact h0))
          have hx1 : 0 < x := by omega
          clear hb hz hn hx h0 hx0
          go_wp2_with fail
          refine HC.out.mono ?_
          rintro r w2 ⟨rfl, hb2⟩
          have HB2 := Lib.hid (HB.out.trans (hb2.mono HB.out.size))
          clear hb2
          go_wp2_with fail
          go_ret
          exact ⟨by rw [HF.out]; rfl, HB2.out⟩
      · have k2 : ¬ (f : Int) < k := by omega
        have HZ2 := Lib.hid (show ∀ j, f < j → j < k + 1 → M.how l j = 0 from fun j h1 h2 => by omega)
        clear hb hz hn hfk
        go_wp2_with fail
        go_roundw
        case rel => exact ⟨k + 1, by go_num, by omega, by omega, HZ2.out, HB.out⟩
        case measure => simp [intOf]; omega
    · have HF := Lib.hid (show ans = n by
        rw [← HANS.out, ← hn]
        exact M.nextN_end fun j h1 h2 => hz j h1 (by omega))
      have k1 : ¬ (k : Int) < n := by omega
      clear hb hz hn
      go_wp2_with fail
      go_ret
      exact ⟨by rw [HF.out]; rfl, HB.out⟩

set_option maxHeartbeats 4000000 in
theorem refNextNeg_any (A : Option Addr) (ca n : Nat) (i : Int) (l : List Int) (w : World) (hr : RdS .i64 w w.heap.size A l) (hn : l.length = n) (hl : n ≤ 1000) (hi : i < 0) :
    Calls Try.prog 17 #[.slice A n ca, .int .i64 i] w fun r w' => r = .returned (.int .i64 (M.nextN l 0)) ∧ Below w.heap.size w w' := by
  have HR := Lib.hid hr
  have HN := Lib.hid hn
  have hl1 : (n : Int) ≤ 1000 := by omega
  obtain ⟨ans, hans⟩ : ∃ v, M.nextN l 0 = v := ⟨_, rfl⟩
  rw [hans]
  have HANS := Lib.hid hans
  clear hr hn hans
  go_enter Try.func17, Try.ntmps17
  go_wp2_with fail
  go_loopw [5] (fun v wr => ∃ k : Nat, v = .int .i64 k ∧ 1 ≤ k ∧ (k ≤ n ∨ n = 0 ∧ k = 1) ∧ (∀ j, 0 < j → j < k → M.how l j = 0) ∧ Below w.heap.size w wr) (fun v _ => n - (intOf v).toNat)
  case atStart => exact ⟨1, rfl, Nat.le_refl _, by omega, fun j h1 h2 => by omega, Below.refl _ _⟩
  case round =>
    obtain ⟨k, rfl, hk1, hk, hz, hb⟩ := hrel
    have hn := HN.out
    have HB := Lib.hid hb
    have HZ := Lib.hid hz
    have k0 : (0 : Int) < k := by omega
    by_cases hlt : k < n
    · have k1 : (k : Int) < n := by omega
      obtain ⟨x, hx⟩ : ∃ x, M.how l k = x := ⟨_, rfl⟩
      have hx0 : 0 ≤ x := by rw [← hx]; exact M.how_nonneg l k
      have HC := Lib.hid (by
        have := refAt_any A ca n k l wr ((HR.out.below hb).more hb.size) hn hl
        unfold M.atI at this
        rw [if_neg (by omega), Int.toNat_natCast, hx] at this
        exact this)
      by_cases h0 : x = 0
      · have HZ2 := Lib.hid (show ∀ j, 0 < j → j < k + 1 → M.how l j = 0 from fun j h1 h2 => by
          rcases Nat.lt_or_ge j k with h | h
          · exact hz j h1 h
          · obtain rfl : j = k := by omega
            rw [hx]; exact h0)
        subst h0
        clear hb hz hn hx
        go_wp2_with fail
        refine HC.out.mono ?_
        rintro r w2 ⟨rfl, hb2⟩
        have HB2 := Lib.hid (HB.out.trans (hb2.mono HB.out.size))
        clear hb2
        go_wp2_with fail
        go_roundw
        case rel => exact ⟨k + 1, by go_num, by omega, by omega, HZ2.out, HB2.out⟩
        case measure => simp [intOf]; omega
      · have HF := Lib.hid (show ans = k by rw [← HANS.out]; exact M.nextN_step hk1 (by omega) hz (by rw [hx]; exact h0))
        have hx1 : 0 < x := by omega
        clear hb hz hn hx h0 hx0
        go_wp2_with fail
        refine HC.out.mono ?_
        rintro r w2 ⟨rfl, hb2⟩
        have HB2 := Lib.hid (HB.out.trans (hb2.mono HB.out.size))
        clear hb2
        go_wp2_with fail
        go_ret
        exact ⟨by rw [HF.out]; rfl, HB2.out⟩
    · have HF := Lib.hid (show ans = n by
        rw [← HANS.out, ← hn]
        exact M.nextN_end fun j h1 h2 => hz j h1 (by omega))
      have k1 : ¬ (k : Int) < n := by omega
      clear hb hz hn
      go_wp2_with fail
      go_ret
      exact ⟨by rw [HF.out]; rfl, HB.out⟩

theorem refNext_any (A : Option Addr) (ca n : Nat) (i : Int) (l : List Int) (w : World) (hr : RdS .i64 w w.heap.size A l) (hn : l.length = n) (hl : n ≤ 1000) :
    Calls Try.prog 17 #[.slice A n ca, .int .i64 i] w fun r w' => r = .returned (.int .i64 (M.nextI l i)) ∧ Below w.heap.size w w' := by
  unfold M.nextI
  rcases Int.lt_or_le i 0 with h | h
  · rw [show i.toNat = 0 by omega]; exact refNextNeg_any A ca n i l w hr hn hl h
  · obtain ⟨f, rfl⟩ := Int.eq_ofNat_of_zero_le h
    exact refNextUp_any A ca n f l w hr hn hl
end Go.Proofs.Ytfackeiommiejaa
