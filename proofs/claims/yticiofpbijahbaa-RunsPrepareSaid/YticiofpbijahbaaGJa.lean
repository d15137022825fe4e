/- The walk of RunsPrepare: it answers true. Conditions: the slice reads as a list of classes, within its capacity. -/
import Derived.Test.YticiofpbijahbaaGJ9
import Derived.Test.YticiofpbijahbaaGV
section
namespace Go.Proofs.Yticiofpbijahbaa
open Go.RowKit
set_option maxRecDepth 100000

set_option maxHeartbeats 4000000 in
theorem prepLong_any (A : Option Addr) (ca n : Nat) (b : Int) (w : World) (hn : 150 < n) (hm : n ≤ maxLen) :
    Calls Try.prog 4 #[.slice A n ca, .int .i64 b] w fun r w' => r = .returned (.bool true) ∧ Below w.heap.size w w' := by
  unfold maxLen at hm
  have h1 : (150 : Int) < n := by omega
  go_enter Try.func4, Try.ntmps4
  go_wp2_with fail
  refine (live_any _).mono ?_
  rintro r w2 ⟨rfl, hb⟩
  have HB := Lib.hid hb
  clear hb
  go_wp2_with fail
  go_ret
  exact ⟨rfl, HB.out⟩
/-- What Prepare hands back, whichever it is. -/
def M.prepS (l : List Int) (b : Int) : List M.Sq := if b = 0 ∨ b = 1 then M.seqs l (M.levs l b) b else []
def M.prepC (l : List Int) (b : Int) : List Int := if b = 0 ∨ b = 1 then M.clss l b else []
def M.prepE (b : Int) : Int := if b = 0 ∨ b = 1 then 0 else 81
theorem prep_out {l : List Int} {b : Int} {w : World} {r : Ending} {w' : World} (h : PrepOut l b w r w') :
    ∃ A c A2 c2, r = .returned (.tuple #[.slice A (M.prepS l b).length c, .slice A2 (M.prepC l b).length c2, .int .i64 (M.prepE b)]) ∧ RdQ w' w'.heap.size A (M.prepS l b) ∧ RdS .i64 w' w'.heap.size A2 (M.prepC l b) ∧ Below w.heap.size w w' := by
  obtain ⟨hb, hy, hn⟩ := h
  unfold M.prepS M.prepC M.prepE
  by_cases hf : b = 0 ∨ b = 1
  · obtain ⟨A, c, A2, c2, hr, hq, hd⟩ := hy hf
    rw [if_pos hf, if_pos hf, if_pos hf, M.clss_len]
    exact ⟨A, c, A2, c2, hr, hq, hd, hb⟩
  · rw [if_neg hf, if_neg hf, if_neg hf]
    exact ⟨none, 0, none, 0, hn hf, fun k s hs => by simp at hs, RdS.nil, hb⟩
theorem M.prepS_len (l : List Int) (b : Int) : (M.prepS l b).length ≤ l.length := by
  unfold M.prepS
  split
  · unfold M.seqs
    have h1 := M.sqs_len l b (M.runs (M.levs l b) b) (M.runs (M.levs l b) b).length
    have h2 := M.runs_len (M.levs l b) b
    rw [M.levs_len] at h2
    omega
  · exact Nat.zero_le _
theorem M.prepC_len (l : List Int) (b : Int) : (M.prepC l b).length ≤ l.length := by
  unfold M.prepC
  split
  · rw [M.clss_len]
    exact Nat.le_refl _
  · exact Nat.zero_le _
theorem M.prepS_pl {l : List Int} {b : Int} {s : M.Sq} (h : s ∈ M.prepS l b) : s.pl.length ≤ l.length := by
  unfold M.prepS at h
  split at h
  · obtain ⟨k, hk⟩ := List.mem_iff_getElem?.1 h
    have := M.sq_len (Nat.le_refl _) hk
    rwa [M.levs_len] at this
  · cases h
set_option maxHeartbeats 4000000 in
theorem prepShort_any (A : Option Addr) (ca n : Nat) (l : List Int) (b : Int) (w : World) (hr : RdS .i64 w w.heap.size A l) (hn : l.length = n) (hl : n ≤ 150) (hca : n ≤ ca) :
    Calls Try.prog 4 #[.slice A n ca, .int .i64 b] w fun r w' => r = .returned (.bool true) ∧ Below w.heap.size w w' := by
  obtain ⟨ss, hss⟩ : ∃ ss, M.prepS l b = ss := ⟨_, rfl⟩
  obtain ⟨cs, hcs⟩ : ∃ cs, M.prepC l b = cs := ⟨_, rfl⟩
  obtain ⟨e, he⟩ : ∃ e, M.prepE b = e := ⟨_, rfl⟩
  obtain ⟨K, hK⟩ : ∃ K, ss.length = K := ⟨_, rfl⟩
  obtain ⟨p, hp⟩ : ∃ p, cs.length = p := ⟨_, rfl⟩
  have hK1 : K ≤ 1000 := by
    have := M.prepS_len l b
    rw [hss, hK] at this
    omega
  have hp1 : p ≤ 1000 := by
    have := M.prepC_len l b
    rw [hcs, hp] at this
    omega
  have HPL := Lib.hid (show ∀ s ∈ ss, s.pl.length ≤ 1000 from fun s hs => by
    rw [← hss] at hs
    have := M.prepS_pl hs
    omega)
  have HR := Lib.hid hr
  have HN := Lib.hid hn
  have HCA := Lib.hid hca
  have HSS := Lib.hid hss
  have HCS := Lib.hid hcs
  have HE := Lib.hid he
  have HK := Lib.hid hK
  have HP := Lib.hid hp
  have hl1 : (n : Int) ≤ 150 := by omega
  clear hr hn hca hss hcs he hK hp
  go_enter Try.func4, Try.ntmps4
  go_wp2_with fail
  refine (cprep_any A ca n l b w HR.out HN.out (by omega)).mono ?_
  rintro r w1 hout
  obtain ⟨A1, c1, A2, c2, rfl, hq1, hr1, hb1⟩ := prep_out hout
  rw [HSS.out] at hq1 ⊢
  rw [HCS.out] at hr1 ⊢
  rw [HE.out, HK.out, HP.out]
  have HQ1 := Lib.hid hq1
  have HR1 := Lib.hid hr1
  have HRl1 := Lib.hid ((HR.out.below hb1).more hb1.size)
  have HB1 := Lib.hid hb1
  clear hq1 hr1 hb1 hout
  go_wp2_with fail
  refine (refPrep_any A ca n l b w1 HRl1.out HN.out (by omega) HCA.out).mono ?_
  rintro r w2 hout
  obtain ⟨A3, c3, A4, c4, rfl, hq2, hr2, hb2⟩ := prep_out hout
  rw [HSS.out] at hq2 ⊢
  rw [HCS.out] at hr2 ⊢
  rw [HE.out, HK.out, HP.out]
  have HQ2 := Lib.hid hq2
  have HR2 := Lib.hid hr2
  have HQ12 := Lib.hid ((HQ1.out.below hb2).more hb2.size)
  have HR12 := Lib.hid ((HR1.out.below hb2).more hb2.size)
  have HB2 := Lib.hid (HB1.out.trans (hb2.mono HB1.out.size))
  clear hq2 hr2 hb2 hout
  go_wp2_with fail
  refine (same_any A1 A3 c1 c3 K ss w2 HQ12.out HQ2.out HK.out hK1 HPL.out).mono ?_
  rintro r w3 ⟨rfl, hb3⟩
  have HR13 := Lib.hid ((HR12.out.below hb3).more hb3.size)
  have HR23 := Lib.hid ((HR2.out.below hb3).more hb3.size)
  have HB3 := Lib.hid (HB2.out.trans (hb3.mono HB2.out.size))
  clear hb3
  go_wp2_with fail
  refine (same_same A2 A4 c2 c4 p cs w3 HR13.out HR23.out HP.out hp1).mono ?_
  rintro r w4 ⟨rfl, hb4⟩
  have HB4 := Lib.hid (HB3.out.trans (hb4.mono HB3.out.size))
  clear hb4
  go_wp2_with fail
  refine (live_any _).mono ?_
  rintro r w5 ⟨rfl, hb5⟩
  have HB5 := Lib.hid (HB4.out.trans (hb5.mono HB4.out.size))
  clear hb5
  go_wp2_with fail
  go_ret
  exact ⟨rfl, HB5.out⟩
theorem prepLaw_any (A : Option Addr) (ca n : Nat) (l : List Int) (b : Int) (w : World) (hr : RdS .i64 w w.heap.size A l) (hn : l.length = n) (hca : n ≤ ca) (hm : ca ≤ maxLen) :
    Calls Try.prog 4 #[.slice A n ca, .int .i64 b] w fun r w' => r = .returned (.bool true) ∧ Below w.heap.size w w' := by
  by_cases h : n ≤ 150
  · exact prepShort_any A ca n l b w hr hn h hca
  · exact prepLong_any A ca n b w (by omega) (by omega)
end Go.Proofs.Yticiofpbijahbaa
end
