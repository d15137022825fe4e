/- The walk of ExplicitLevels: it answers true. Conditions: the slice reads as a list of classes, within its capacity. -/
import Derived.Test.YtdipaiflfhdpoaaAlive
import Derived.Test.YtdipaiflfhdpoaaAppendRd
namespace Go.Proofs.Ytdipaiflfhdpoaa
open Go.RowKit

set_option maxHeartbeats 4000000 in
theorem levLong_any (A : Option Addr) (ca n : Nat) (base : Int) (w : World) (hn : 400 < n) (hm : n ≤ maxLen) :
    Calls Try.prog 4 #[.slice A n ca, .int .i64 base] w fun r w' => r = .returned (.bool true) ∧ Below w.heap.size w w' := by
  unfold maxLen at hm
  have h1 : (400 : Int) < n := by omega
  go_enter Try.func4, Try.ntmps4
  go_wp2_with fail
  refine (alive_any _).mono ?_
  rintro r w2 ⟨rfl, hb⟩
  have HB := Lib.hid hb
  clear hb
  go_wp2_with fail
  go_ret
  exact ⟨rfl, HB.out⟩
def errOf (o : Option (List (Int × Int))) : Int := match o with | some _ => 0 | none => 81
/-- What a levels' answer looks like, whichever it is. -/
theorem lev_out {o : Option (List (Int × Int))} {w : World} {r : Ending} {w' : World} (h : LevOut o w r w') : ∃ A c A2 c2 e, r = .returned (.tuple #[.slice A (o.getD []).length c, .slice A2 (o.getD []).length c2, .int .i64 e]) ∧ RdS .i64 w' w'.heap.size A ((o.getD []).map Prod.fst) ∧ RdS .i64 w' w'.heap.size A2 ((o.getD []).map Prod.snd) ∧ Below w.heap.size w w' ∧ e = errOf o := by
  cases o with
  | none =>
    obtain ⟨hr, hb⟩ := h
    exact ⟨none, 0, none, 0, 81, hr, RdS.nil, RdS.nil, hb, rfl⟩
  | some ps =>
    obtain ⟨A, c, A2, c2, hr, h1, h2, _, _, _, _, hb, _, _⟩ := lev_rows h
    exact ⟨A, c, A2, c2, 0, hr, h1, h2, hb, rfl⟩
theorem levels_len {l : List Int} {base : Int} : ((M.levels l base).getD []).length ≤ l.length := by
  unfold M.levels
  split
  · exact Nat.zero_le _
  · rw [Option.getD_some, M.run_len]
    exact Nat.le_refl _
set_option maxRecDepth 100000 in
set_option maxHeartbeats 4000000 in
theorem levShort_any (A : Option Addr) (ca n : Nat) (l : List Int) (base : Int) (w : World) (hr : RdS .i64 w w.heap.size A l) (hn : l.length = n) (hl : n ≤ 400) (hca : n ≤ ca) (hA : A = none → ca = 0) :
    Calls Try.prog 4 #[.slice A n ca, .int .i64 base] w fun r w' => r = .returned (.bool true) ∧ Below w.heap.size w w' := by
  obtain ⟨i0, hi0, hz0, hz1, hz2⟩ := info_parts Try.infoCls
  have HR := Lib.hid hr
  have HN := Lib.hid hn
  have HA := Lib.hid hA
  have hl1 : (n : Int) ≤ 400 := by omega
  obtain ⟨ps, hps⟩ : ∃ ps, (M.levels l base).getD [] = ps := ⟨_, rfl⟩
  obtain ⟨e, he⟩ : ∃ e, errOf (M.levels l base) = e := ⟨_, rfl⟩
  obtain ⟨p, hp⟩ : ∃ p, ps.length = p := ⟨_, rfl⟩
  have hpn : p ≤ n := by rw [← hp, ← hps, ← hn]; exact levels_len
  have HPS := Lib.hid hps
  have HE := Lib.hid he
  have HP := Lib.hid hp
  have HCA := Lib.hid hca
  clear hr hn hA hps he hp hca
  go_enter Try.func4, Try.ntmps4
  go_wp2_with (at_builtin; refine wpList_append_rd _ rfl _ _ 22 rfl w.heap.size 34 i0 (.int .i64 0) 8 Try.underlying22 hi0 hz0 hz1 hz2 rfl _ 0 [] rfl (World.ownsRow_lit w #[] 0 (Nat.le_refl _) (Nat.zero_le _) rfl) .i64 w.heap.size A ca l (by rw [HN.out]; rfl) (HR.out.keep (fun p hp => World.cell?_alloc_lt w _ p (by omega))) HA.out (by have := HN.out; unfold maxLen; omega) (by have := HN.out; omega) (by simp) ?_)
  intro v1 w1 ho1 hg1
  have hb1 : Below w.heap.size w w1 := grow_below0 ((Below.refl _ _).alloc (Nat.le_refl _) _) (World.ownsRow_lit w #[] 0 (Nat.le_refl _) (Nat.zero_le _) rfl) hg1 (by simp)
  have ho1' : w1.ownsRow w.heap.size 34 1 v1 l.length (l.map (Value.int .i64)) := by simpa using ho1
  obtain ⟨A1, c1, rfl, hr1, _, _, _⟩ := reads_own ho1'
  rw [HN.out]
  have HR1 := Lib.hid hr1
  have HB1 := Lib.hid hb1
  have HRl1 := Lib.hid ((HR.out.below hb1).more hb1.size)
  clear ho1 hg1 hb1 ho1' hr1
  go_wp2_with fail
  refine (clevels_any A ca n l base w1 HRl1.out HN.out (by omega)).mono ?_
  rintro r w2 hout
  obtain ⟨A2, c2, A3, c3, e2, rfl, hr2, hr3, hb2, he2⟩ := lev_out hout
  rw [HE.out] at he2
  subst he2
  rw [HPS.out] at hr2 hr3 ⊢
  rw [HP.out]
  have HR2 := Lib.hid hr2
  have HR3 := Lib.hid hr3
  have HRl2 := Lib.hid ((HRl1.out.below hb2).more hb2.size)
  have HR12 := Lib.hid ((HR1.out.below hb2).more hb2.size)
  have HB2 := Lib.hid (HB1.out.trans (hb2.mono HB1.out.size))
  clear hr2 hr3 hb2 hout
  go_wp2_with fail
  refine (lev_any A ca n l base w2 HRl2.out HN.out (by omega) HCA.out).mono ?_
  rintro r w3 hout
  obtain ⟨A4, c4, A5, c5, e2, rfl, hr4, hr5, hb3, he2⟩ := lev_out hout
  rw [HE.out] at he2
  subst he2
  rw [HPS.out] at hr4 hr5 ⊢
  rw [HP.out]
  have HR4 := Lib.hid hr4
  have HR5 := Lib.hid hr5
  have HR23 := Lib.hid ((HR2.out.below hb3).more hb3.size)
  have HR33 := Lib.hid ((HR3.out.below hb3).more hb3.size)
  have HRl3 := Lib.hid ((HRl2.out.below hb3).more hb3.size)
  have HR13 := Lib.hid ((HR12.out.below hb3).more hb3.size)
  have HB3 := Lib.hid (HB2.out.trans (hb3.mono HB2.out.size))
  clear hr4 hr5 hb3 hout
  go_wp2_with fail
  refine (same_same A3 A5 c3 c5 p _ w3 HR33.out HR5.out (by rw [List.length_map, HP.out]) (by omega)).mono ?_
  rintro r w4 ⟨rfl, hb4⟩
  have HRl4 := Lib.hid ((HRl3.out.below hb4).more hb4.size)
  have HR14 := Lib.hid ((HR13.out.below hb4).more hb4.size)
  have HR24 := Lib.hid ((HR23.out.below hb4).more hb4.size)
  have HR44 := Lib.hid ((HR4.out.below hb4).more hb4.size)
  have HB4 := Lib.hid (HB3.out.trans (hb4.mono HB3.out.size))
  clear hb4
  go_wp2_with fail
  refine (same_same A A1 ca c1 n l w4 HRl4.out HR14.out HN.out (by omega)).mono ?_
  rintro r w5 ⟨rfl, hb5⟩
  have HR25 := Lib.hid ((HR24.out.below hb5).more hb5.size)
  have HR45 := Lib.hid ((HR44.out.below hb5).more hb5.size)
  have HB5 := Lib.hid (HB4.out.trans (hb5.mono HB4.out.size))
  clear hb5
  go_wp2_with fail
  refine (alive_any _).mono ?_
  rintro r w6 ⟨rfl, hb6⟩
  have HR26 := Lib.hid ((HR25.out.below hb6).more hb6.size)
  have HR46 := Lib.hid ((HR45.out.below hb6).more hb6.size)
  have HB6 := Lib.hid (HB5.out.trans (hb6.mono HB5.out.size))
  clear hb6
  go_wp2_with fail
  refine (ints_same A2 A4 c2 c4 p _ w6 HR26.out HR46.out (by rw [List.length_map, HP.out]) (by omega)).mono ?_
  rintro r w7 ⟨rfl, hb7⟩
  have HB7 := Lib.hid (HB6.out.trans (hb7.mono HB6.out.size))
  clear hb7
  go_wp2_with fail
  go_ret
  exact ⟨rfl, HB7.out⟩
theorem levLaw_any (A : Option Addr) (ca n : Nat) (l : List Int) (base : Int) (w : World) (hr : RdS .i64 w w.heap.size A l) (hn : l.length = n) (hca : n ≤ ca) (hm : ca ≤ maxLen) (hA : A = none → ca = 0) :
    Calls Try.prog 4 #[.slice A n ca, .int .i64 base] w fun r w' => r = .returned (.bool true) ∧ Below w.heap.size w w' := by
  by_cases h : n ≤ 400
  · exact levShort_any A ca n l base w hr hn h hca hA
  · exact levLong_any A ca n base w (by omega) (by omega)
end Go.Proofs.Ytdipaiflfhdpoaa
