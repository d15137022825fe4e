/- The walk of RunsSplit: it answers true. Conditions: both slices read as lists, within their capacities. -/
import Derived.Test.YticiofpbijahbaaGJ6
import Derived.Test.YticiofpbijahbaaGV
import Derived.Test.YticiofpbijahbaaGJ0
section
namespace Go.Proofs.Yticiofpbijahbaa
open Go.RowKit
set_option maxRecDepth 100000

set_option maxHeartbeats 4000000 in
theorem splitLong_any (A B : Option Addr) (ca cb n m : Nat) (b : Int) (w : World) (hn : n ≤ maxLen) (hm : m ≤ maxLen) (h : 150 < n ∨ 150 < m) :
    Calls Try.prog 3 #[.slice A n ca, .slice B m cb, .int .i64 b] w fun r w' => r = .returned (.bool true) ∧ Below w.heap.size w w' := by
  unfold maxLen at hn hm
  by_cases h1 : 150 < n
  · have h2 : (150 : Int) < n := by omega
    go_enter Try.func3, Try.ntmps3
    go_wp2_with fail
    refine (live_any _).mono ?_
    rintro r w2 ⟨rfl, hb⟩
    have HB := Lib.hid hb
    clear hb
    go_wp2_with fail
    go_ret
    exact ⟨rfl, HB.out⟩
  · have h2 : ¬ (150 : Int) < n := by omega
    have h3 : (150 : Int) < m := by omega
    go_enter Try.func3, Try.ntmps3
    go_wp2_with fail
    refine (live_any _).mono ?_
    rintro r w2 ⟨rfl, hb⟩
    have HB := Lib.hid hb
    clear hb
    go_wp2_with fail
    go_ret
    exact ⟨rfl, HB.out⟩
/-- What Split hands back, whether it fits or not. -/
noncomputable def M.seqsOr (l lv : List Int) (b : Int) : List M.Sq := open Classical in if M.Fits l lv b then M.seqs l lv b else []
noncomputable def M.errOr (l lv : List Int) (b : Int) : Int := open Classical in if M.Fits l lv b then 0 else 81
theorem split_out {l lv : List Int} {b : Int} {w : World} {r : Ending} {w' : World} (h : SplitOut l lv b w r w') :
    ∃ A c, r = .returned (.tuple #[.slice A (M.seqsOr l lv b).length c, .int .i64 (M.errOr l lv b)]) ∧ RdQ w' w'.heap.size A (M.seqsOr l lv b) ∧ Below w.heap.size w w' := by
  obtain ⟨hb, hy, hn⟩ := h
  unfold M.seqsOr M.errOr
  by_cases hf : M.Fits l lv b
  · obtain ⟨A, c, hr, hq, -⟩ := hy hf
    rw [if_pos hf, if_pos hf]
    exact ⟨A, c, hr, hq, hb⟩
  · rw [if_neg hf, if_neg hf]
    exact ⟨none, 0, hn hf, fun k s hs => by simp at hs, hb⟩
theorem M.seqsOr_len (l lv : List Int) (b : Int) : (M.seqsOr l lv b).length ≤ lv.length := by
  unfold M.seqsOr
  split
  · unfold M.seqs
    have h1 := M.sqs_len l b (M.runs lv b) (M.runs lv b).length
    have h2 := M.runs_len lv b
    omega
  · exact Nat.zero_le _
theorem M.seqsOr_pl {l lv : List Int} {b : Int} {s : M.Sq} (h : s ∈ M.seqsOr l lv b) : s.pl.length ≤ lv.length := by
  unfold M.seqsOr at h
  split at h
  · obtain ⟨k, hk⟩ := List.mem_iff_getElem?.1 h
    exact M.sq_len (Nat.le_refl _) hk
  · cases h
set_option maxHeartbeats 4000000 in
theorem splitShort_any (A B : Option Addr) (ca cb n m : Nat) (l lv : List Int) (b : Int) (w : World) (hr : RdS .i64 w w.heap.size A l) (hn : l.length = n) (hl : n ≤ 150) (hr2 : RdS .i64 w w.heap.size B lv) (hm : lv.length = m) (hl2 : m ≤ 150) (hcb : m ≤ cb) (hB : B = none → cb = 0) :
    Calls Try.prog 3 #[.slice A n ca, .slice B m cb, .int .i64 b] w fun r w' => r = .returned (.bool true) ∧ Below w.heap.size w w' := by
  obtain ⟨i0, hi0, hz0, hz1, hz2⟩ := info_parts Try.infoInt
  obtain ⟨ss, hss⟩ : ∃ ss, M.seqsOr l lv b = ss := ⟨_, rfl⟩
  obtain ⟨e, he⟩ : ∃ e, M.errOr l lv b = e := ⟨_, rfl⟩
  obtain ⟨K, hK⟩ : ∃ K, ss.length = K := ⟨_, rfl⟩
  have hK1 : K ≤ 1000 := by
    have := M.seqsOr_len l lv b
    rw [hss, hK] at this
    omega
  have HPL := Lib.hid (show ∀ s ∈ ss, s.pl.length ≤ 1000 from fun s hs => by
    rw [← hss] at hs
    have := M.seqsOr_pl hs
    omega)
  have HR := Lib.hid hr
  have HN := Lib.hid hn
  have HR2 := Lib.hid hr2
  have HM := Lib.hid hm
  have HB := Lib.hid hB
  have HCB := Lib.hid hcb
  have HSS := Lib.hid hss
  have HE := Lib.hid he
  have HK := Lib.hid hK
  have hl1 : (n : Int) ≤ 150 := by omega
  have hl3 : (m : Int) ≤ 150 := by omega
  clear hr hn hr2 hm hB hcb hss he hK
  go_enter Try.func3, Try.ntmps3
  go_wp2_with (at_builtin; refine wpList_append_rd _ rfl _ _ 23 rfl w.heap.size 3 i0 (.int .i64 0) 8 Try.underlying23 hi0 hz0 hz1 hz2 rfl _ 0 [] rfl (World.ownsRow_lit w #[] 0 (Nat.le_refl _) (Nat.zero_le _) rfl) .i64 w.heap.size B cb lv (by rw [HM.out]; rfl) (HR2.out.keep (fun p hp => World.cell?_alloc_lt w _ p (by omega))) HB.out (by have := HM.out; unfold maxLen; omega) (by have := HM.out; omega) (by simp) ?_)
  intro v1 w1 ho1 hg1
  have hb1 : Below w.heap.size w w1 := grow_below0 ((Below.refl _ _).alloc (Nat.le_refl _) _) (World.ownsRow_lit w #[] 0 (Nat.le_refl _) (Nat.zero_le _) rfl) hg1 (by simp)
  have ho1' : w1.ownsRow w.heap.size 3 1 v1 lv.length (lv.map (Value.int .i64)) := by simpa using ho1
  obtain ⟨A1, c1, rfl, hr1, _, _, _⟩ := reads_own ho1'
  rw [HM.out]
  have HR1 := Lib.hid hr1
  have HB1 := Lib.hid hb1
  have HRl1 := Lib.hid ((HR.out.below hb1).more hb1.size)
  have HRm1 := Lib.hid ((HR2.out.below hb1).more hb1.size)
  clear ho1 hg1 hb1 ho1' hr1
  go_wp2_with fail
  refine (csplit_any A B ca cb n m l lv b w1 HRl1.out HN.out (by omega) HRm1.out HM.out (by omega) HCB.out).mono ?_
  rintro r w2 hout
  obtain ⟨A2, c2, rfl, hr2, hb2⟩ := split_out hout
  rw [HSS.out] at hr2 ⊢
  rw [HE.out, HK.out]
  have HR3 := Lib.hid hr2
  have HRl2 := Lib.hid ((HRl1.out.below hb2).more hb2.size)
  have HRm2 := Lib.hid ((HRm1.out.below hb2).more hb2.size)
  have HR12 := Lib.hid ((HR1.out.below hb2).more hb2.size)
  have HB2 := Lib.hid (HB1.out.trans (hb2.mono HB1.out.size))
  clear hr2 hb2 hout
  go_wp2_with fail
  refine (refSplit_any A B ca cb n m l lv b w2 HRl2.out HN.out (by omega) HRm2.out HM.out (by omega)).mono ?_
  rintro r w3 hout
  obtain ⟨A3, c3, rfl, hr3, hb3⟩ := split_out hout
  rw [HSS.out] at hr3 ⊢
  rw [HE.out, HK.out]
  have HR4 := Lib.hid hr3
  have HR34 := Lib.hid ((HR3.out.below hb3).more hb3.size)
  have HRm3 := Lib.hid ((HRm2.out.below hb3).more hb3.size)
  have HR13 := Lib.hid ((HR12.out.below hb3).more hb3.size)
  have HB3 := Lib.hid (HB2.out.trans (hb3.mono HB2.out.size))
  clear hr3 hb3 hout
  go_wp2_with fail
  refine (same_any A2 A3 c2 c3 K ss w3 HR34.out HR4.out HK.out hK1 HPL.out).mono ?_
  rintro r w4 ⟨rfl, hb4⟩
  have HRm4 := Lib.hid ((HRm3.out.below hb4).more hb4.size)
  have HR14 := Lib.hid ((HR13.out.below hb4).more hb4.size)
  have HB4 := Lib.hid (HB3.out.trans (hb4.mono HB3.out.size))
  clear hb4
  go_wp2_with fail
  refine (live_any _).mono ?_
  rintro r w5 ⟨rfl, hb5⟩
  have HRm5 := Lib.hid ((HRm4.out.below hb5).more hb5.size)
  have HR15 := Lib.hid ((HR14.out.below hb5).more hb5.size)
  have HB5 := Lib.hid (HB4.out.trans (hb5.mono HB4.out.size))
  clear hb5
  go_wp2_with fail
  refine (ints_same A1 B c1 cb m lv w5 HR15.out HRm5.out HM.out (by omega)).mono ?_
  rintro r w6 ⟨rfl, hb6⟩
  have HB6 := Lib.hid (HB5.out.trans (hb6.mono HB5.out.size))
  clear hb6
  go_wp2_with fail
  go_ret
  exact ⟨rfl, HB6.out⟩
theorem splitLaw_any (A B : Option Addr) (ca cb n m : Nat) (l lv : List Int) (b : Int) (w : World) (hr : RdS .i64 w w.heap.size A l) (hn : l.length = n) (hca : n ≤ ca) (hma : ca ≤ maxLen) (hr2 : RdS .i64 w w.heap.size B lv) (hm : lv.length = m) (hcb : m ≤ cb) (hmb : cb ≤ maxLen) (hB : B = none → cb = 0) :
    Calls Try.prog 3 #[.slice A n ca, .slice B m cb, .int .i64 b] w fun r w' => r = .returned (.bool true) ∧ Below w.heap.size w w' := by
  by_cases h : n ≤ 150 ∧ m ≤ 150
  · exact splitShort_any A B ca cb n m l lv b w hr hn h.1 hr2 hm h.2 hcb hB
  · exact splitLong_any A B ca cb n m b w (by omega) (by omega) (by omega)
end Go.Proofs.Yticiofpbijahbaa
end
