/- The walk of BracketResolves: it answers true. Conditions: the slices read as lists of classes and of marks, within their capacities. -/
import Derived.Test.YtaiojghbknacjaaAlive
import Derived.Deep.RegionHeld3
namespace Go.Proofs.Ytaiojghbknacjaa
open Go.RowKit
set_option maxRecDepth 100000

/-- A struct of two slices and two numbers in a new block, under a name. -/
theorem new_four (w : World) (a b c d : Value) (t : TypeId) : ∃ W : World, w.alloc (.cells #[a, b, c, d] t) = W ∧ Below w.heap.size w W ∧ (W.cell? ⟨w.heap.size, 0, none⟩ = some a ∧ W.cell? ⟨w.heap.size, 1, none⟩ = some b ∧ W.cell? ⟨w.heap.size, 2, none⟩ = some c ∧ W.cell? ⟨w.heap.size, 3, none⟩ = some d) ∧ w.heap.size < W.heap.size :=
  ⟨_, rfl, (Below.refl _ _).alloc (Nat.le_refl _) _, ⟨by simp [go_sem], by simp [go_sem], by simp [go_sem], by simp [go_sem]⟩, by simp⟩
/-- The four cells. -/
def Four (w : World) (g : Nat) (a b c d : Value) : Prop := w.cell? ⟨g, 0, none⟩ = some a ∧ w.cell? ⟨g, 1, none⟩ = some b ∧ w.cell? ⟨g, 2, none⟩ = some c ∧ w.cell? ⟨g, 3, none⟩ = some d
theorem Four.later {w w' : World} {g n : Nat} {a b c d : Value} (h : Four w g a b c d) (hb : Below n w w') (hg : g < n) : Four w' g a b c d :=
  ⟨(hb.cell (p := ⟨g, 0, none⟩) hg).trans h.1, (hb.cell (p := ⟨g, 1, none⟩) hg).trans h.2.1, (hb.cell (p := ⟨g, 2, none⟩) hg).trans h.2.2.1, (hb.cell (p := ⟨g, 3, none⟩) hg).trans h.2.2.2⟩
set_option maxHeartbeats 4000000 in
theorem resLong_any (A B C : Option Addr) (ca cb cc n m k : Nat) (lv f : Int) (w : World) (hn : n ≤ maxLen) (hm : m ≤ maxLen) (hk : k ≤ maxLen) (h : 200 < m ∨ 200 < n ∨ 200 < k) :
    Calls Try.prog 4 #[.agg #[.slice A n ca, .slice B m cb, .int .i64 lv, .int .i64 f], .slice C k cc] w fun r w' => r = .returned (.bool true) ∧ Below w.heap.size w w' := by
  unfold maxLen at hn hm hk
  obtain ⟨W1, hW1, hbw1, ⟨e0, e1, e2, e3⟩, hgt⟩ := new_four w (.slice A n ca) (.slice B m cb) (.int .i64 lv) (.int .i64 f) 34
  have HBW := Lib.hid hbw1
  clear hbw1 hgt
  by_cases h1 : 200 < m
  · have h2 : (200 : Int) < m := by omega
    clear h h1
    go_enter Try.func4, Try.ntmps4
    go_wp2_with fail
    refine (alive_any _).mono ?_
    rintro r w2 ⟨rfl, hb⟩
    have HB := Lib.hid (HBW.out.trans (hb.mono HBW.out.size))
    clear hb
    go_wp2_with fail
    go_ret
    exact ⟨rfl, HB.out⟩
  · by_cases h3 : 200 < n
    · have h2 : ¬ (200 : Int) < m := by omega
      have h4 : (200 : Int) < n := by omega
      clear h h1 h3
      go_enter Try.func4, Try.ntmps4
      go_wp2_with fail
      refine (alive_any _).mono ?_
      rintro r w2 ⟨rfl, hb⟩
      have HB := Lib.hid (HBW.out.trans (hb.mono HBW.out.size))
      clear hb
      go_wp2_with fail
      go_ret
      exact ⟨rfl, HB.out⟩
    · have h2 : ¬ (200 : Int) < m := by omega
      have h4 : ¬ (200 : Int) < n := by omega
      have h5 : (200 : Int) < k := by omega
      clear h h1 h3
      go_enter Try.func4, Try.ntmps4
      go_wp2_with fail
      refine (alive_any _).mono ?_
      rintro r w2 ⟨rfl, hb⟩
      have HB := Lib.hid (HBW.out.trans (hb.mono HBW.out.size))
      clear hb
      go_wp2_with fail
      go_ret
      exact ⟨rfl, HB.out⟩
set_option maxHeartbeats 8000000 in
theorem resShort_any (A B C : Option Addr) (ca cb cc n m k : Nat) (came l : List Int) (ms : List (Int × Int)) (lv f : Int) (w : World) (hr : RdS .i64 w w.heap.size A came) (hr2 : RdS .i64 w w.heap.size B l) (hr3 : RdT w w.heap.size C ms) (hn : came.length = n) (hm : l.length = m) (hk : ms.length = k) (hl : n ≤ 200) (hl2 : m ≤ 200) (hl3 : k ≤ 200) (hca : n ≤ ca) (hcb : m ≤ cb) (hA : A = none → ca = 0) (hB : B = none → cb = 0) :
    Calls Try.prog 4 #[.agg #[.slice A n ca, .slice B m cb, .int .i64 lv, .int .i64 f], .slice C k cc] w fun r w' => r = .returned (.bool true) ∧ Below w.heap.size w w' := by
  obtain ⟨i0, hi0, hz0, hz1, hz2⟩ := info_parts Try.infoCls2
  obtain ⟨W1, hW1, hbw1, hf4, hgt⟩ := new_four w (.slice A n ca) (.slice B m cb) (.int .i64 lv) (.int .i64 f) 34
  obtain ⟨xs, hxs⟩ : ∃ xs, M.orNil (M.resOk came l lv f) (M.res came l ms lv f) = xs := ⟨_, rfl⟩
  obtain ⟨e, he⟩ : ∃ e, M.orArg (M.resOk came l lv f) = e := ⟨_, rfl⟩
  obtain ⟨p, hp⟩ : ∃ p, xs.length = p := ⟨_, rfl⟩
  have hp1 : p ≤ 1000 := by
    have := M.orNil_len (ok := M.resOk came l lv f) (t := M.res came l ms lv f)
    rw [hxs, hp, M.res_len] at this
    omega
  have HXS := Lib.hid hxs
  have HE := Lib.hid he
  have HP := Lib.hid hp
  have HF := Lib.hid (show Four W1 w.heap.size (.slice A n ca) (.slice B m cb) (.int .i64 lv) (.int .i64 f) from hf4)
  have HR := Lib.hid ((hr.below hbw1).more hbw1.size)
  have HR2 := Lib.hid ((hr2.below hbw1).more hbw1.size)
  have HR3 := Lib.hid (hr3.after hbw1)
  have HBW := Lib.hid hbw1
  have HGT := Lib.hid hgt
  have HN := Lib.hid hn
  have HM := Lib.hid hm
  have HK := Lib.hid hk
  have HCA := Lib.hid (And.intro hca hcb)
  have HA := Lib.hid (And.intro hA hB)
  have h1 : (n : Int) ≤ 200 := by omega
  have h2 : (m : Int) ≤ 200 := by omega
  have h3 : (k : Int) ≤ 200 := by omega
  obtain ⟨e0, e1, e2, e3⟩ := hf4
  clear hr hr2 hr3 hn hm hk hca hcb hA hB hbw1 hxs he hp
  go_enter Try.func4, Try.ntmps4
  go_wp2_with (at_builtin; refine wpList_append_rd _ rfl _ _ 22 rfl W1.heap.size 32 i0 (.int .i64 0) 8 Try.underlying22 hi0 hz0 hz1 hz2 rfl _ 0 [] rfl (World.ownsRow_lit W1 #[] 0 (Nat.le_refl _) (Nat.zero_le _) rfl) .i64 W1.heap.size B cb l (by rw [HM.out]; rfl) (HR2.out.keep (fun p hp => World.cell?_alloc_lt W1 _ p (by omega))) HA.out.2 (by have := HM.out; unfold maxLen; omega) (by have := HM.out; omega) (by simp) ?_)
  intro v2 w2 ho2 hg2
  have hb2 : Below W1.heap.size W1 w2 := grow_below0 ((Below.refl _ _).alloc (Nat.le_refl _) _) (World.ownsRow_lit W1 #[] 0 (Nat.le_refl _) (Nat.zero_le _) rfl) hg2 (by simp)
  have ho2' : w2.ownsRow W1.heap.size 32 1 v2 l.length (l.map (Value.int .i64)) := by simpa using ho2
  obtain ⟨A2, c2, rfl, hr2, _, _, _⟩ := reads_own ho2'
  rw [HM.out]
  obtain ⟨d0, d1, d2, d3⟩ := HF.out.later hb2 HGT.out
  have HF2 := Lib.hid (HF.out.later hb2 HGT.out)
  have HX2 := Lib.hid hr2
  have HB2 := Lib.hid (HBW.out.trans (hb2.mono HBW.out.size))
  have HC2 := Lib.hid ((HR.out.below hb2).more hb2.size)
  have HL2 := Lib.hid ((HR2.out.below hb2).more hb2.size)
  have HM2 := Lib.hid (HR3.out.after hb2)
  have HG2 := Lib.hid (Nat.lt_of_lt_of_le HGT.out hb2.size)
  have hgt2 := HG2.out
  clear ho2 hg2 hb2 ho2' hr2 e0 e1 e2 e3 hgt
  go_wp2_with (at_builtin; refine wpList_append_rd _ rfl _ _ 22 rfl w2.heap.size 32 i0 (.int .i64 0) 8 Try.underlying22 hi0 hz0 hz1 hz2 rfl _ 0 [] rfl (World.ownsRow_lit w2 #[] 0 (Nat.le_refl _) (Nat.zero_le _) rfl) .i64 w2.heap.size A ca came (by rw [HN.out]; rfl) (HC2.out.keep (fun p hp => World.cell?_alloc_lt w2 _ p (by omega))) HA.out.1 (by have := HN.out; unfold maxLen; omega) (by have := HN.out; omega) (by simp) ?_)
  intro v3 w3 ho3 hg3
  have hb3 : Below w2.heap.size w2 w3 := grow_below0 ((Below.refl _ _).alloc (Nat.le_refl _) _) (World.ownsRow_lit w2 #[] 0 (Nat.le_refl _) (Nat.zero_le _) rfl) hg3 (by simp)
  have ho3' : w3.ownsRow w2.heap.size 32 1 v3 came.length (came.map (Value.int .i64)) := by simpa using ho3
  obtain ⟨A3, c3, rfl, hr3, _, _, _⟩ := reads_own ho3'
  rw [HN.out]
  have HF3 := Lib.hid (HF2.out.later hb3 HG2.out)
  have HX3 := Lib.hid hr3
  have HX23 := Lib.hid ((HX2.out.below hb3).more hb3.size)
  have HB3 := Lib.hid (HB2.out.trans (hb3.mono HB2.out.size))
  have HC3 := Lib.hid ((HC2.out.below hb3).more hb3.size)
  have HL3 := Lib.hid ((HL2.out.below hb3).more hb3.size)
  have HM3 := Lib.hid (HM2.out.after hb3)
  have HG3 := Lib.hid (Nat.lt_of_lt_of_le HG2.out hb3.size)
  clear ho3 hg3 hb3 ho3' hr3 d0 d1 d2 d3
  obtain ⟨d0, d1, d2, d3⟩ := HF3.out
  go_wp2_with fail
  go_region_held3 (fun w' => w'.cell? ⟨w.heap.size, 0, none⟩ = some (.slice A n ca) ∧ w'.cell? ⟨w.heap.size, 1, none⟩ = some (.slice B m cb) ∧ w'.cell? ⟨w.heap.size, 2, none⟩ = some (.int .i64 lv) ∧ w'.cell? ⟨w.heap.size, 3, none⟩ = some (.int .i64 f))
    (first | go_keep | exact HF4.out | exact HF5.out)
    (first
      | (go_at_call 11; (refine (marks_any C cc k ms _ (by exact HM3.out) HK.out (by omega)).mono ?_); rintro r w4 ⟨v4, rfl, ho4, hb4⟩; obtain ⟨A4, c4, rfl, hr4, hc4, -, -⟩ := ho4.shape; rw [HK.out] at hc4 ⊢; have hg4 : Below w3.heap.size w3 w4 := ⟨hb4.os, hb4.tape, hb4.output, hb4.size, hb4.block⟩; have HGG4 := Lib.hid hg4; have HF4 := Lib.hid (HF3.out.later hg4 HG3.out); have HX4 := Lib.hid hr4; have HCC4 := Lib.hid hc4; have HC4 := Lib.hid ((HC3.out.below hg4).more hg4.size); have HL4 := Lib.hid ((HL3.out.below hg4).more hg4.size); have HM4 := Lib.hid (HM3.out.after hg4); have HG4 := Lib.hid (Nat.lt_of_lt_of_le HG3.out hg4.size); clear ho4 hb4 hr4 hc4 hg4)
      | (go_at_call 13; (refine (cres_any A B A4 ca cb c4 n m k came l ms lv f _ (by exact HC4.out) (by exact HL4.out) (by exact HX4.out) HN.out HM.out HK.out (by omega) (by omega) (by omega) HCA.out.1 HCA.out.2 HCC4.out HA.out.1 HA.out.2).mono ?_); rintro r w5 hout; obtain ⟨A5, c5, rfl, hr5, hb5, -⟩ := res_out hout; rw [HXS.out] at hr5 ⊢; rw [HE.out, HP.out]; have hg5 : Below w4.heap.size w4 w5 := ⟨hb5.os, hb5.tape, hb5.output, hb5.size, hb5.block⟩; have HGG5 := Lib.hid hg5; have HF5 := Lib.hid (HF4.out.later hg5 HG4.out); have HX5 := Lib.hid hr5; clear hout hr5 hb5 hg5))
  have HC5 := Lib.hid ((HC4.out.below HGG5.out).more HGG5.out.size)
  have HL5 := Lib.hid ((HL4.out.below HGG5.out).more HGG5.out.size)
  have HM5 := Lib.hid (HM4.out.after HGG5.out)
  have HG5 := Lib.hid (Nat.lt_of_lt_of_le HG4.out HGG5.out.size)
  have HG35 := Lib.hid (HGG4.out.trans (HGG5.out.mono HGG4.out.size))
  have HB5 := Lib.hid (HB3.out.trans (HG35.out.mono HB3.out.size))
  have HX25 := Lib.hid ((HX23.out.below HG35.out).more HG35.out.size)
  have HX35 := Lib.hid ((HX3.out.below HG35.out).more HG35.out.size)
  clear d0 d1 d2 d3
  obtain ⟨d0, d1, d2, d3⟩ := HF5.out
  go_wp2_with fail
  refine (refRes_any A B C ca cb cc n m k came l ms lv f w5 HC5.out HL5.out HM5.out HN.out HM.out HK.out (by omega) (by omega) (by omega) HA.out.2).mono ?_
  rintro r w6 hout
  obtain ⟨A6, c6, rfl, hr6, hb6, -⟩ := res_out hout
  rw [HXS.out] at hr6 ⊢
  rw [HE.out, HP.out]
  have HF6 := Lib.hid (HF5.out.later hb6 HG5.out)
  have HX6 := Lib.hid hr6
  have HX56 := Lib.hid ((HX5.out.below hb6).more hb6.size)
  have HX26 := Lib.hid ((HX25.out.below hb6).more hb6.size)
  have HX36 := Lib.hid ((HX35.out.below hb6).more hb6.size)
  have HC6 := Lib.hid ((HC5.out.below hb6).more hb6.size)
  have HL6 := Lib.hid ((HL5.out.below hb6).more hb6.size)
  have HG6 := Lib.hid (Nat.lt_of_lt_of_le HG5.out hb6.size)
  have HB6 := Lib.hid (HB5.out.trans (hb6.mono HB5.out.size))
  clear hout hr6 hb6 d0 d1 d2 d3
  go_wp2_with fail
  refine (same_same A5 A6 c5 c6 p xs w6 HX56.out HX6.out HP.out hp1).mono ?_
  rintro r w7 ⟨rfl, hb7⟩
  have HF7 := Lib.hid (HF6.out.later hb7 HG6.out)
  have HX27 := Lib.hid ((HX26.out.below hb7).more hb7.size)
  have HX37 := Lib.hid ((HX36.out.below hb7).more hb7.size)
  have HC7 := Lib.hid ((HC6.out.below hb7).more hb7.size)
  have HL7 := Lib.hid ((HL6.out.below hb7).more hb7.size)
  have HG7 := Lib.hid (Nat.lt_of_lt_of_le HG6.out hb7.size)
  have HB7 := Lib.hid (HB6.out.trans (hb7.mono HB6.out.size))
  clear hb7
  obtain ⟨d0, d1, d2, d3⟩ := HF7.out
  go_wp2_with fail
  refine (same_same B A2 cb c2 m l w7 HL7.out HX27.out HM.out (by omega)).mono ?_
  rintro r w8 ⟨rfl, hb8⟩
  have HF8 := Lib.hid (HF7.out.later hb8 HG7.out)
  have HX38 := Lib.hid ((HX37.out.below hb8).more hb8.size)
  have HC8 := Lib.hid ((HC7.out.below hb8).more hb8.size)
  have HB8 := Lib.hid (HB7.out.trans (hb8.mono HB7.out.size))
  clear hb8 d0 d1 d2 d3
  obtain ⟨d0, d1, d2, d3⟩ := HF8.out
  go_wp2_with fail
  refine (same_same A A3 ca c3 n came w8 HC8.out HX38.out HN.out (by omega)).mono ?_
  rintro r w9 ⟨rfl, hb9⟩
  have HB9 := Lib.hid (HB8.out.trans (hb9.mono HB8.out.size))
  clear hb9 d0 d1 d2 d3
  go_wp2_with fail
  refine (alive_any _).mono ?_
  rintro r w10 ⟨rfl, hb10⟩
  have HB10 := Lib.hid (HB9.out.trans (hb10.mono HB9.out.size))
  clear hb10
  go_wp2_with fail
  go_ret
  exact ⟨rfl, HB10.out⟩
theorem resLaw_any (A B C : Option Addr) (ca cb cc n m k : Nat) (came l : List Int) (ms : List (Int × Int)) (lv f : Int) (w : World) (hr : RdS .i64 w w.heap.size A came) (hr2 : RdS .i64 w w.heap.size B l) (hr3 : RdT w w.heap.size C ms) (hn : came.length = n) (hm : l.length = m) (hk : ms.length = k) (hca : n ≤ ca) (hcb : m ≤ cb) (hcc : k ≤ cc) (hma : ca ≤ maxLen) (hmb : cb ≤ maxLen) (hmc : cc ≤ maxLen) (hA : A = none → ca = 0) (hB : B = none → cb = 0) :
    Calls Try.prog 4 #[.agg #[.slice A n ca, .slice B m cb, .int .i64 lv, .int .i64 f], .slice C k cc] w fun r w' => r = .returned (.bool true) ∧ Below w.heap.size w w' := by
  by_cases h : n ≤ 200 ∧ m ≤ 200 ∧ k ≤ 200
  · exact resShort_any A B C ca cb cc n m k came l ms lv f w hr hr2 hr3 hn hm hk h.1 h.2.1 h.2.2 hca hcb hA hB
  · exact resLong_any A B C ca cb cc n m k lv f w (by omega) (by omega) (by omega) (by omega)
end Go.Proofs.Ytaiojghbknacjaa
