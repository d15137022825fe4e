/- The Go function UcdBack answers true, over the translation. Conditions: the two slices read as lists of entries; the variable MaxLen of the library holds some number, and its table deBruijn64tab is as the program's text lays it. -/
import Derived.Test.YtjkhkhanjeeniaaGreatDoorSame
import Derived.Test.YtjkhkhanjeeniaaGreatDoorMathB
import Derived.Lib.QuietBelow
namespace Go.Proofs.YtjkhkhanjeeniaaGreatDoor
open Go.RowKit

/-- Text's second answer. -/
def M.terr (l : List M.E) : Int := if (M.text l).isSome then 0 else 21
/-- Right sizes of the strings of entries. -/
def Sized (l : List M.E) : Prop := ∀ e ∈ l, e.v.size ≤ maxLen ∧ e.x.size ≤ maxLen
theorem text_gen (A : Option Addr) (cap : Nat) (l : List M.E) (w : World) (hr : RdE w w.heap.size A l) (hz : Sized l) (ht : TabOk w) (hm : cap ≤ maxLen) (hc : l.length ≤ cap) :
    Calls Tryz.prog 17 #[.slice A l.length cap] w fun e w' => ∃ A' k c', e = .returned (.tuple #[.slice A' k c', .int .i64 (M.terr l)]) ∧ Below w.heap.size w w' := by
  unfold M.terr
  cases h : M.text l with
  | some b =>
    refine (text_some A cap w l b hr hz ht hm hc h).mono ?_
    rintro e w' ⟨A', c', rfl, _, _, _, _, hb⟩
    exact ⟨A', _, c', rfl, hb⟩
  | none =>
    refine (text_none A cap w l hr hz ht hm hc h).mono ?_
    rintro e w' ⟨rfl, hb⟩
    exact ⟨none, 0, 0, rfl, hb⟩

section
variable (A B : Option Addr) (ca cb : Nat) (l m : List M.E) (w : World)

set_option maxHeartbeats 4000000 in
theorem back_bad (hl : RdE w w.heap.size A l) (hm : RdE w w.heap.size B m) (zl : Sized l) (zm : Sized m) (hla : l.length ≤ ca) (hma : m.length ≤ cb) (hca : ca ≤ maxLen) (hcb : cb ≤ maxLen) (hx : MaxOk w) (ht : TabOk w)
    (hbad : M.fits l = false ∨ M.fits l = true ∧ (M.fits m = false ∨ M.fits m = true ∧ (M.text l = none ∨ (M.text l).isSome = true ∧ M.text m = none))) :
    Calls Tryz.prog 5 #[.slice A l.length ca, .slice B m.length cb] w fun e w' => e = .returned (.bool true) ∧ Below w.heap.size w w' := by
  have HL := Lib.hid hl
  have HM := Lib.hid hm
  have HZL := Lib.hid zl
  have HZM := Lib.hid zm
  have HX := Lib.hid hx
  have HT := Lib.hid ht
  have HCA := Lib.hid hca
  have HCB := Lib.hid hcb
  obtain ⟨tl, htl⟩ : ∃ t, M.terr l = t := ⟨_, rfl⟩
  obtain ⟨tm, htm⟩ : ∃ t, M.terr m = t := ⟨_, rfl⟩
  have HTL := Lib.hid htl
  have HTM := Lib.hid htm
  clear hl hm zl zm hx ht hca hcb
  rcases hbad with hf | ⟨hf, hg | ⟨hg, h1 | ⟨h1, h2⟩⟩⟩
  · have HF := Lib.hid hf
    clear hf htl htm
    cases hg : M.fits m
    all_goals
      have HG := Lib.hid hg
      clear hg
      go_enter Tryz.func5, Tryz.ntmps5
      go_wp2_with fail
      refine (fits_any A ca l w HL.out (Nat.le_trans hla HCA.out) HZL.out).mono ?_
      rintro e w1 ⟨rfl, rfl⟩
      rw [HF.out]
      go_wp2_with fail
      refine (fits_any B cb m w HM.out (Nat.le_trans hma HCB.out) HZM.out).mono ?_
      rintro e w1 ⟨rfl, rfl⟩
      rw [HG.out]
      go_wp2_with fail
      refine (text_gen A ca l w HL.out HZL.out HT.out HCA.out hla).mono ?_
      rintro e w1 ⟨A1, k1, c1, rfl, hb1⟩
      rw [HTL.out]
      have HB1 := Lib.hid hb1
      clear hb1
      go_wp2_with fail
      refine (text_gen B cb m w1 ((HM.out.below HB1.out).more HB1.out.size) HZM.out (HT.out.next HB1.out) HCB.out hma).mono ?_
      rintro e w2 ⟨A2, k2, c2, rfl, hb2⟩
      rw [HTM.out]
      have HB2 := Lib.hid (HB1.out.trans (hb2.mono HB1.out.size))
      clear hb2
      go_wp2_with fail
      refine (alive_true w2 (HX.out.next HB2.out) (HT.out.next HB2.out)).mono ?_
      rintro e w3 ⟨rfl, hb3⟩
      have hbb := HB2.out.trans (hb3.mono HB2.out.size)
      clear hb3
      go_wp2
      go_ret
      exact ⟨rfl, hbb⟩
  · have HF := Lib.hid hf
    have HG := Lib.hid hg
    clear hf hg htl htm
    go_enter Tryz.func5, Tryz.ntmps5
    go_wp2_with fail
    refine (fits_any A ca l w HL.out (Nat.le_trans hla HCA.out) HZL.out).mono ?_
    rintro e w1 ⟨rfl, rfl⟩
    rw [HF.out]
    go_wp2_with fail
    refine (fits_any B cb m w HM.out (Nat.le_trans hma HCB.out) HZM.out).mono ?_
    rintro e w1 ⟨rfl, rfl⟩
    rw [HG.out]
    go_wp2_with fail
    refine (text_gen A ca l w HL.out HZL.out HT.out HCA.out hla).mono ?_
    rintro e w1 ⟨A1, k1, c1, rfl, hb1⟩
    rw [HTL.out]
    have HB1 := Lib.hid hb1
    clear hb1
    go_wp2_with fail
    refine (text_gen B cb m w1 ((HM.out.below HB1.out).more HB1.out.size) HZM.out (HT.out.next HB1.out) HCB.out hma).mono ?_
    rintro e w2 ⟨A2, k2, c2, rfl, hb2⟩
    rw [HTM.out]
    have HB2 := Lib.hid (HB1.out.trans (hb2.mono HB1.out.size))
    clear hb2
    go_wp2_with fail
    refine (alive_true w2 (HX.out.next HB2.out) (HT.out.next HB2.out)).mono ?_
    rintro e w3 ⟨rfl, hb3⟩
    have hbb := HB2.out.trans (hb3.mono HB2.out.size)
    clear hb3
    go_wp2
    go_ret
    exact ⟨rfl, hbb⟩
  · obtain rfl : tl = 21 := by rw [← htl]; unfold M.terr; rw [h1]; rfl
    have HF := Lib.hid hf
    have HG := Lib.hid hg
    clear hf hg htl htm h1
    go_enter Tryz.func5, Tryz.ntmps5
    go_wp2_with fail
    refine (fits_any A ca l w HL.out (Nat.le_trans hla HCA.out) HZL.out).mono ?_
    rintro e w1 ⟨rfl, rfl⟩
    rw [HF.out]
    go_wp2_with fail
    refine (fits_any B cb m w HM.out (Nat.le_trans hma HCB.out) HZM.out).mono ?_
    rintro e w1 ⟨rfl, rfl⟩
    rw [HG.out]
    go_wp2_with fail
    refine (text_gen A ca l w HL.out HZL.out HT.out HCA.out hla).mono ?_
    rintro e w1 ⟨A1, k1, c1, rfl, hb1⟩
    rw [HTL.out]
    have HB1 := Lib.hid hb1
    clear hb1
    go_wp2_with fail
    refine (text_gen B cb m w1 ((HM.out.below HB1.out).more HB1.out.size) HZM.out (HT.out.next HB1.out) HCB.out hma).mono ?_
    rintro e w2 ⟨A2, k2, c2, rfl, hb2⟩
    rw [HTM.out]
    have HB2 := Lib.hid (HB1.out.trans (hb2.mono HB1.out.size))
    clear hb2
    go_wp2_with fail
    refine (alive_true w2 (HX.out.next HB2.out) (HT.out.next HB2.out)).mono ?_
    rintro e w3 ⟨rfl, hb3⟩
    have hbb := HB2.out.trans (hb3.mono HB2.out.size)
    clear hb3
    go_wp2
    go_ret
    exact ⟨rfl, hbb⟩
  · obtain rfl : tl = 0 := by rw [← htl]; unfold M.terr; rw [if_pos h1]
    obtain rfl : tm = 21 := by rw [← htm]; unfold M.terr; rw [h2]; rfl
    have HF := Lib.hid hf
    have HG := Lib.hid hg
    clear hf hg htl htm h1 h2
    go_enter Tryz.func5, Tryz.ntmps5
    go_wp2_with fail
    refine (fits_any A ca l w HL.out (Nat.le_trans hla HCA.out) HZL.out).mono ?_
    rintro e w1 ⟨rfl, rfl⟩
    rw [HF.out]
    go_wp2_with fail
    refine (fits_any B cb m w HM.out (Nat.le_trans hma HCB.out) HZM.out).mono ?_
    rintro e w1 ⟨rfl, rfl⟩
    rw [HG.out]
    go_wp2_with fail
    refine (text_gen A ca l w HL.out HZL.out HT.out HCA.out hla).mono ?_
    rintro e w1 ⟨A1, k1, c1, rfl, hb1⟩
    rw [HTL.out]
    have HB1 := Lib.hid hb1
    clear hb1
    go_wp2_with fail
    refine (text_gen B cb m w1 ((HM.out.below HB1.out).more HB1.out.size) HZM.out (HT.out.next HB1.out) HCB.out hma).mono ?_
    rintro e w2 ⟨A2, k2, c2, rfl, hb2⟩
    rw [HTM.out]
    have HB2 := Lib.hid (HB1.out.trans (hb2.mono HB1.out.size))
    clear hb2
    go_wp2_with fail
    refine (alive_true w2 (HX.out.next HB2.out) (HT.out.next HB2.out)).mono ?_
    rintro e w3 ⟨rfl, hb3⟩
    have hbb := HB2.out.trans (hb3.mono HB2.out.size)
    clear hb3
    go_wp2
    go_ret
    exact ⟨rfl, hbb⟩

set_option maxHeartbeats 4000000 in
theorem back_good (b c : List UInt8) (hl : RdE w w.heap.size A l) (hm : RdE w w.heap.size B m) (zl : Sized l) (zm : Sized m) (hla : l.length ≤ ca) (hma : m.length ≤ cb) (hca : ca ≤ maxLen) (hcb : cb ≤ maxLen) (hx : MaxOk w) (ht : TabOk w)
    (hf : M.fits l = true) (hg : M.fits m = true) (h1 : M.text l = some b) (h2 : M.text m = some c) (hbl : b.length < 4294967281) :
    Calls Tryz.prog 5 #[.slice A l.length ca, .slice B m.length cb] w fun e w' => e = .returned (.bool true) ∧ Below w.heap.size w w' := by
  have HL := Lib.hid hl
  have HM := Lib.hid hm
  have HZL := Lib.hid zl
  have HZM := Lib.hid zm
  have HX := Lib.hid hx
  have HT := Lib.hid ht
  have HCA := Lib.hid hca
  have HCB := Lib.hid hcb
  have HF := Lib.hid hf
  have HG := Lib.hid hg
  have H1 := Lib.hid h1
  have H2 := Lib.hid h2
  have hiff : M.same l m = ((M.bytes b).toList == (M.bytes c).toList) := by
    rw [Bool.eq_iff_iff, M.same_iff, beq_iff_eq, ByteArray.toList_eq, ByteArray.toList_eq, M.bytes_list, M.bytes_list, M.text_inj h1 h2]
  obtain ⟨S, hS⟩ : ∃ S, M.bytes b = S := ⟨_, rfl⟩
  obtain ⟨T, hT⟩ : ∃ T, M.bytes c = T := ⟨_, rfl⟩
  rw [hS, hT] at hiff
  have HS := Lib.hid hS
  have HTT := Lib.hid hT
  obtain ⟨q, hq⟩ : ∃ q, M.same l m = q := ⟨_, rfl⟩
  have HQ := Lib.hid hq
  have hst : (S.toList == T.toList) = q := by rw [← hiff, hq]
  clear hl hm zl zm hx ht hca hcb hf hg h1 h2 hiff hS hT hq
  cases q
  all_goals
    go_enter Tryz.func5, Tryz.ntmps5
    go_wp2_with fail
    refine (fits_any A ca l w HL.out (Nat.le_trans hla HCA.out) HZL.out).mono ?_
    rintro e w1 ⟨rfl, rfl⟩
    rw [HF.out]
    go_wp2_with fail
    refine (fits_any B cb m w HM.out (Nat.le_trans hma HCB.out) HZM.out).mono ?_
    rintro e w1 ⟨rfl, rfl⟩
    rw [HG.out]
    go_wp2_with fail
    refine (text_some A ca w l b HL.out HZL.out HT.out HCA.out hla H1.out).mono ?_
    rintro e w1 ⟨A1, c1, rfl, hr1, hc1, hm1, hn1, hb1⟩
    have HR1 := Lib.hid hr1
    have HN1 := Lib.hid hn1
    have HM1 := Lib.hid hm1
    have HB1 := Lib.hid hb1
    clear hb1 hr1 hn1 hm1
    go_wp2_with fail
    refine (text_some B cb w1 m c ((HM.out.below HB1.out).more HB1.out.size) HZM.out (HT.out.next HB1.out) HCB.out hma H2.out).mono ?_
    rintro e w2 ⟨A2, c2, rfl, hr2, hc2, hm2, hn2, hb2⟩
    have HR2 := Lib.hid hr2
    have HB2 := Lib.hid (HB1.out.trans (hb2.mono HB1.out.size))
    have HR1' := Lib.hid ((HR1.out.below hb2).more hb2.size)
    clear hb2 hr2 hn2 hm2
    go_wp2_with fail
    refine (parse_some A1 c1 w2 b l HR1'.out (HX.out.next HB2.out) hc1 HM1.out HN1.out hbl (M.parse_text H1.out)).mono ?_
    rintro e w3 ⟨A3, c3, rfl, hr3, hc3, hm3, _, hb3⟩
    have HB3 := Lib.hid (HB2.out.trans (hb3.mono HB2.out.size))
    have HR1'' := Lib.hid ((HR1'.out.below hb3).more hb3.size)
    have HR2'' := Lib.hid ((HR2.out.below hb3).more hb3.size)
    have HR3 := Lib.hid hr3
    have HL3 := Lib.hid ((HL.out.below HB3.out).more HB3.out.size)
    have HM3 := Lib.hid ((HM.out.below HB3.out).more HB3.out.size)
    clear hb3 hr3 hm3
    go_wp2_with fail
    have r1 := fun d os => (HR1''.out.below (below_regrown w3 d os)).run_str (n := b.length) (cap := c1) rfl
    have r2 := fun d os => (HR2''.out.below (below_regrown w3 d os)).run_str (n := c.length) (cap := c2) rfl
    rw [HS.out] at r1
    rw [HTT.out] at r2
    have CA := Lib.hid (fun d os => Calls.regrown_of (alive_true (Sort.grow (redrawn w3 d) os) ((HX.out.next HB3.out).next (below_regrown w3 d os)) ((HT.out.next HB3.out).next (below_regrown w3 d os))))
    have CS := Lib.hid (fun d os => Calls.regrown_of (same_any A3 A c3 ca l l (Sort.grow (redrawn w3 d) os) ((HR3.out.below (below_regrown w3 d os)).more (below_regrown w3 d os).size) ((HL3.out.below (below_regrown w3 d os)).more (below_regrown w3 d os).size) (Nat.le_trans hla HCA.out)))
    have CT := Lib.hid (fun d os => Calls.regrown_of (same_any A B ca cb l m (Sort.grow (redrawn w3 d) os) ((HL3.out.below (below_regrown w3 d os)).more (below_regrown w3 d os).size) ((HM3.out.below (below_regrown w3 d os)).more (below_regrown w3 d os).size) (Nat.le_trans hla HCA.out)))
    rw [M.same_self] at CS
    rw [HQ.out] at CT
    refine wp_region_quiet_below (by kernel_rfl) (by kernel_rfl) ?_
    repeat (quiet_step (first | (with_reducible exact CA.out _ _) | (with_reducible exact CS.out _ _) | (with_reducible exact CT.out _ _)))
    refine wpQuiet_nil ?_
    intro _ hw'
    obtain ⟨⟨dq, osq⟩, hw4⟩ := hw'
    subst hw4
    go_wp2
    go_ret
    exact ⟨rfl, HB3.out.trans ((below_regrown w3 dq osq).mono HB3.out.size)⟩
end

theorem M.lines_le {l : List M.E} (h : l.all M.right = true) : (M.lines l).length ≤ 61 * l.length := by
  induction l with
  | nil => simp [M.lines]
  | cons e r ih =>
    simp only [List.all_cons, Bool.and_eq_true] at h
    have := ih h.2
    have e1 : M.lines (e :: r) = M.line e ++ 10 :: M.lines r := by simp [M.lines]
    have := M.line_le h.1
    rw [e1, List.length_append, List.length_cons, List.length_cons]
    omega
theorem M.text_le {l : List M.E} {b : List UInt8} (h : M.text l = some b) : b.length ≤ 36600 := by
  rw [M.text_eq] at h
  split at h
  · rename_i hk
    obtain rfl : M.lines l = b := by injection h
    exact Nat.le_trans (M.lines_le hk.2) (Nat.le_trans (Nat.mul_le_mul_left 61 hk.1) (by decide))
  · cases h

theorem back_any (A B : Option Addr) (ca cb : Nat) (l m : List M.E) (w : World) (hl : RdE w w.heap.size A l) (hm : RdE w w.heap.size B m) (zl : Sized l) (zm : Sized m) (hla : l.length ≤ ca) (hma : m.length ≤ cb) (hca : ca ≤ maxLen) (hcb : cb ≤ maxLen) (hx : MaxOk w) (ht : TabOk w) :
    Calls Tryz.prog 5 #[.slice A l.length ca, .slice B m.length cb] w fun e w' => e = .returned (.bool true) ∧ Below w.heap.size w w' := by
  cases hf : M.fits l with
  | false => exact back_bad A B ca cb l m w hl hm zl zm hla hma hca hcb hx ht (.inl hf)
  | true =>
    cases hg : M.fits m with
    | false => exact back_bad A B ca cb l m w hl hm zl zm hla hma hca hcb hx ht (.inr ⟨hf, .inl hg⟩)
    | true =>
      cases h1 : M.text l with
      | none => exact back_bad A B ca cb l m w hl hm zl zm hla hma hca hcb hx ht (.inr ⟨hf, .inr ⟨hg, .inl h1⟩⟩)
      | some b =>
        cases h2 : M.text m with
        | none => exact back_bad A B ca cb l m w hl hm zl zm hla hma hca hcb hx ht (.inr ⟨hf, .inr ⟨hg, .inr ⟨by rw [h1]; rfl, h2⟩⟩⟩)
        | some c => exact back_good A B ca cb l m w b c hl hm zl zm hla hma hca hcb hx ht hf hg h1 h2 (Nat.lt_of_le_of_lt (M.text_le h1) (by decide))
end Go.Proofs.YtjkhkhanjeeniaaGreatDoor
