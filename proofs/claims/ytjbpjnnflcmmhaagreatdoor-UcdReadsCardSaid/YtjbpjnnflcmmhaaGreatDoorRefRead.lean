/- The document's own reading of a line. Condition: the string has at most 100000 bytes. -/
import Derived.Test.YtjbpjnnflcmmhaaGreatDoorRefParts
import Derived.Test.YtjbpjnnflcmmhaaGreatDoorRefFirst
namespace Go.Proofs.YtjbpjnnflcmmhaaGreatDoor
open Go.RowKit

theorem M.parts_head (c : UInt8) (l : List UInt8) : ∃ t, M.parts c l = l.takeWhile (· != c) :: t := by
  induction l with
  | nil => exact ⟨[], rfl⟩
  | cons x r ih =>
    obtain ⟨t, ht⟩ := ih
    unfold M.parts
    by_cases hx : x = c
    · rw [if_pos hx]
      subst hx
      exact ⟨M.parts x r, by simp [ht]⟩
    · rw [if_neg hx, ht]
      exact ⟨t, by simp [hx]⟩

/-- What a line is: its entry, and 1; nothing, and 0; wrong, and 2. -/
def M.zeroOf : M.E := ⟨0, 0, ⟨#[]⟩, ⟨#[]⟩⟩
def M.lineOf (s : List UInt8) : M.E × Int := if M.counted s = [] then (M.zeroOf, 0) else match M.entry (M.counted s) with
  | some e => (e, 1)
  | none => (M.zeroOf, 2)
theorem M.line_blank {s : List UInt8} (h : M.counted s = []) : M.lineOf s = (M.zeroOf, 0) := by unfold M.lineOf; rw [if_pos h]
theorem M.line_wrong {s : List UInt8} (h : M.counted s ≠ []) (he : M.entry (M.counted s) = none) : M.lineOf s = (M.zeroOf, 2) := by unfold M.lineOf; rw [if_neg h, he]
theorem M.line_right {s : List UInt8} {e : M.E} (h : M.counted s ≠ []) (he : M.entry (M.counted s) = some e) : M.lineOf s = (e, 1) := by unfold M.lineOf; rw [if_neg h, he]
theorem M.word_nil : M.word [] = false := rfl
theorem M.part_le (c : UInt8) (l : List UInt8) : ∀ p ∈ M.parts c l, p.length ≤ l.length := by
  induction l with
  | nil => intro p hp; simp [M.parts] at hp; subst hp; exact Nat.le_refl _
  | cons x r ih =>
    unfold M.parts
    by_cases hx : x = c
    · rw [if_pos hx]
      intro p hp
      rcases List.mem_cons.1 hp with rfl | hp
      · simp
      · have := ih p hp; simp; omega
    · rw [if_neg hx]
      cases hr : M.parts c r with
      | nil => exact absurd hr (M.parts_ne c r)
      | cons h t =>
        rw [hr] at ih
        intro p hp
        rcases List.mem_cons.1 hp with rfl | hp
        · have := ih h (by simp); simp; omega
        · have := ih p (by simp [hp]); simp; omega
theorem M.counted_le (s : List UInt8) : (M.counted s).length ≤ s.length := by
  unfold M.counted
  exact Nat.le_trans (trim_le _) (List.takeWhile_sublist _).length_le

/-- What the document's first says of a first field. -/
def M.FirstIs (s : List UInt8) (a b : Int) (ok : Bool) : Prop := (∀ x y, M.ends s = some (x, y) → a = x ∧ b = y ∧ ok = true) ∧ (M.ends s = none → ok = false)
theorem M.FirstIs.cases {s : List UInt8} {a b : Int} {ok : Bool} (h : M.FirstIs s a b ok) : (∃ x y : Nat, M.ends s = some (x, y) ∧ a = x ∧ b = y ∧ ok = true ∧ M.rising a b = true) ∨ (M.ends s = none ∧ ok = false) := by
  cases he : M.ends s with
  | none => exact .inr ⟨rfl, h.2 he⟩
  | some p =>
    obtain ⟨x, y⟩ := p
    obtain ⟨h1, h2, h3⟩ := h.1 x y he
    have := M.ends_le he
    refine .inl ⟨x, y, rfl, h1, h2, h3, ?_⟩
    unfold M.rising
    rw [decide_eq_true_iff]
    omega
theorem M.make_two {f g : List UInt8} {a b : Int} {ok : Bool} (h : M.FirstIs (M.trim f) a b ok) : M.make [f, g] = if ok && M.right ⟨a, b, M.bytes (M.trim g), ⟨#[]⟩⟩ then some ⟨a, b, M.bytes (M.trim g), ⟨#[]⟩⟩ else none := by
  rcases h.cases with ⟨x, y, he, rfl, rfl, rfl, hr⟩ | ⟨he, rfl⟩
  · unfold M.make
    simp only [he, M.right, hr, M.bytes_list]
    by_cases hw : M.word (M.trim g) = true
    · simp [hw]; rfl
    · simp [hw]
  · unfold M.make
    simp [he]
theorem M.make_three {f g k : List UInt8} {a b : Int} {ok : Bool} (h : M.FirstIs (M.trim f) a b ok) : M.make [f, g, k] = if ok && !decide (M.trim k = []) && M.right ⟨a, b, M.bytes (M.trim g), M.bytes (M.trim k)⟩ then some ⟨a, b, M.bytes (M.trim g), M.bytes (M.trim k)⟩ else none := by
  rcases h.cases with ⟨x, y, he, rfl, rfl, rfl, hr⟩ | ⟨he, rfl⟩
  · unfold M.make
    simp only [he, M.right, hr, M.bytes_list]
    by_cases hk : M.trim k = []
    · simp [hk, M.word_nil]
    · by_cases hw : M.word (M.trim g) = true
      · by_cases hx : M.word (M.trim k) = true
        · simp [hw, hx, hk]
        · simp [hw, hx, hk]
      · simp [hw]
  · unfold M.make
    simp [he]

section
set_option maxRecDepth 100000 in
set_option maxHeartbeats 8000000 in
theorem refLineOf_any (s : ByteArray) (w : World) (hm : s.size ≤ 100000) :
    Calls Tryz.prog 15 #[.string s] w fun r w' => r = .returned (.tuple #[(M.lineOf s.data.toList).1.val, .int .i64 (M.lineOf s.data.toList).2]) ∧ Below w.heap.size w w' := by
  have HL := Lib.hid (show s.data.toList.length = s.size by simp)
  -- the line without its remark, and what counts of it
  obtain ⟨t1, ht1⟩ := M.parts_head 35 s.data.toList
  obtain ⟨H, hH⟩ : ∃ H, M.bytes (s.data.toList.takeWhile (· != 35)) = H := ⟨_, rfl⟩
  have hHl : H.data.toList = s.data.toList.takeWhile (· != 35) := by rw [← hH, M.bytes_list]
  have hHs : H.size ≤ 100000 := by
    have h1 : H.data.toList.length = H.size := by simp
    have h2 := (List.takeWhile_sublist (· != 35) (l := s.data.toList)).length_le
    rw [← hHl, HL.out] at h2
    omega
  obtain ⟨C, hC⟩ : ∃ C, M.bytes (M.trim H.data.toList) = C := ⟨_, rfl⟩
  have hCl : C.data.toList = M.counted s.data.toList := by rw [← hC, M.bytes_list, hHl]; rfl
  have hCs : C.size ≤ 100000 := by
    have h1 : C.data.toList.length = C.size := by simp
    have h2 := M.counted_le s.data.toList
    rw [← hCl, HL.out] at h2
    omega
  have HH := Lib.hid hH
  have HCC := Lib.hid hC
  have HC := Lib.hid hCl
  have HT1 := Lib.hid ht1
  obtain ⟨p1, hp1⟩ : ∃ p, (M.parts 35 s.data.toList).length = p := ⟨_, rfl⟩
  have hp1' : 0 < p1 := by rw [← hp1, ht1]; simp
  have HP1 := Lib.hid hp1
  have hb0 : Below w.heap.size w (w.alloc zeroE) := (Below.refl _ _).alloc (Nat.le_refl _) _
  have H4 := Lib.hid (Four.new w (.int .i64 0) (.int .i64 0) (.string ⟨#[]⟩) (.string ⟨#[]⟩) 35)
  have hz0 : w.heap.size < (w.alloc zeroE).heap.size := by simp
  have HB0 := Lib.hid hb0
  clear hH hC hCl hHl ht1 hp1 hb0
  go_enter Tryz.func15, Tryz.ntmps15
  go_wp2_with fail
  refine (refParts_any s 35 (w.alloc zeroE) hm).mono ?_
  rintro r w1 ⟨g1, cap1, rfl, hg1, hcell1, hpc1, hcm1, hb1⟩
  have c1 := hcell1 0 (s.data.toList.takeWhile (· != 35)) (by rw [HT1.out]; rfl)
  rw [HH.out] at c1
  rw [HP1.out]
  have HB1 := Lib.hid (HB0.out.trans (hb1.mono HB0.out.size))
  have HF1 := Lib.hid (H4.out.below hb1 hz0)
  have hs1 : w.heap.size < w1.heap.size := Nat.lt_of_lt_of_le hz0 hb1.size
  have hi1 : (0 : Int) < (p1 : Int) := by omega
  clear hb1 hcell1 hpc1 hcm1
  go_wp2_with fail
  refine (refTrim_any H w1 (by unfold maxLen; omega)).mono ?_
  rintro r w2 ⟨rfl, rfl⟩
  rw [HCC.out]
  by_cases hCe : C.data.toList = []
  · obtain rfl : C = ByteArray.empty := by rw [← M.bytes_self C, hCe]; rfl
    have HV := Lib.hid (M.line_blank (s := s.data.toList) (by rw [← HC.out]; exact hCe))
    obtain ⟨k0, k1, k2, k3, f0, f1, f2, f3⟩ := HF1.out
    clear hCe
    go_wp2
    refine bodyPost_ret (v := .tuple #[M.zeroOf.val, .int .i64 0]) (by simp [results, Tryz.results15, go_sem, M.zeroOf, M.E.val, k0, k1, k2, k3]) rfl ⟨by rw [HV.out], ?_⟩
    exact (((HB1.out.setCell (p := ⟨w.heap.size, 0, none⟩) (Nat.le_refl _) _).setCell (p := ⟨w.heap.size, 1, none⟩) (Nat.le_refl _) _).setCell (p := ⟨w.heap.size, 2, none⟩) (Nat.le_refl _) _).setCell (p := ⟨w.heap.size, 3, none⟩) (Nat.le_refl _) _
  · have hl0 : ¬ C.toList = [] := by rw [toList_nil]; exact hCe
    have hl1 : C.toList.isEmpty = false := by rw [List.isEmpty_eq_false_iff]; exact hl0
    have HNE := Lib.hid (show M.counted s.data.toList ≠ [] by rw [← HC.out]; exact hCe)
    clear hCe
    go_wp2_with fail
    refine (refParts_any C 59 w1 hCs).mono ?_
    rintro r w3 ⟨g2, cap2, rfl, hg2, hcell2, hpc2, hcm2, hb2⟩
    have HB2 := Lib.hid (HB1.out.trans (hb2.mono HB1.out.size))
    have HF2 := Lib.hid (HF1.out.below hb2 hs1)
    have hs2 : w.heap.size < w3.heap.size := Nat.lt_of_lt_of_le hs1 hb2.size
    have HCELL := Lib.hid hcell2
    have HPL := Lib.hid (M.part_le 59 C.data.toList)
    obtain ⟨ps, hps⟩ : ∃ ps, M.parts 59 C.data.toList = ps := ⟨_, rfl⟩
    rw [hps] at HCELL HPL ⊢
    have HPS := Lib.hid hps
    clear hb2 hcell2 hpc2 hcm2 hps c1
    have hpos : 0 < ps.length := by
      have := M.parts_length_pos 59 C.data.toList
      rw [HPS.out] at this
      omega
    by_cases h2 : ps.length < 2
    · have hd : ps.length = 1 := by omega
      have HV := Lib.hid (M.line_wrong HNE.out (show M.entry (M.counted s.data.toList) = none by
        rw [← HC.out, ← M.make_eq, HPS.out]
        match ps, hd with
        | [x], _ => rfl))
      rw [hd]
      clear h2 hpos hd
      obtain ⟨k0, k1, k2, k3, f0, f1, f2, f3⟩ := HF2.out
      go_wp2
      refine bodyPost_ret (v := .tuple #[M.zeroOf.val, .int .i64 2]) (by simp [results, Tryz.results15, go_sem, M.zeroOf, M.E.val, k0, k1, k2, k3]) rfl ⟨by rw [HV.out], ?_⟩
      exact (((HB2.out.setCell (p := ⟨w.heap.size, 0, none⟩) (Nat.le_refl _) _).setCell (p := ⟨w.heap.size, 1, none⟩) (Nat.le_refl _) _).setCell (p := ⟨w.heap.size, 2, none⟩) (Nat.le_refl _) _).setCell (p := ⟨w.heap.size, 3, none⟩) (Nat.le_refl _) _
    · by_cases h3 : 3 < ps.length
      · obtain ⟨n, hn⟩ : ∃ n, ps.length = n := ⟨_, rfl⟩
        have HV := Lib.hid (M.line_wrong HNE.out (show M.entry (M.counted s.data.toList) = none by
          rw [← HC.out, ← M.make_eq, HPS.out]
          match ps, h3 with
          | x :: y :: z :: u :: r, _ => rfl))
        have hd1 : decide ((n : Int) < 2) = false := by rw [decide_eq_false_iff_not]; omega
        have hd2 : decide ((3 : Int) < (n : Int)) = true := by rw [decide_eq_true_iff]; omega
        rw [hn]
        clear h2 h3 hpos hn
        obtain ⟨k0, k1, k2, k3, f0, f1, f2, f3⟩ := HF2.out
        go_wp2
        refine bodyPost_ret (v := .tuple #[M.zeroOf.val, .int .i64 2]) (by simp [results, Tryz.results15, go_sem, M.zeroOf, M.E.val, k0, k1, k2, k3]) rfl ⟨by rw [HV.out], ?_⟩
        exact (((HB2.out.setCell (p := ⟨w.heap.size, 0, none⟩) (Nat.le_refl _) _).setCell (p := ⟨w.heap.size, 1, none⟩) (Nat.le_refl _) _).setCell (p := ⟨w.heap.size, 2, none⟩) (Nat.le_refl _) _).setCell (p := ⟨w.heap.size, 3, none⟩) (Nat.le_refl _) _
      · by_cases hl2 : ps.length = 2
        · obtain ⟨f, g, rfl⟩ : ∃ f g, ps = [f, g] := by
            match ps, hl2 with
            | [x, y], _ => exact ⟨x, y, rfl⟩
          clear h2 h3 hpos hl2
          have c0 := HCELL.out 0 f rfl
          have c1 := HCELL.out 1 g rfl
          obtain ⟨F, hF⟩ : ∃ F, M.bytes f = F := ⟨_, rfl⟩
          obtain ⟨G, hG⟩ : ∃ G, M.bytes g = G := ⟨_, rfl⟩
          have hFl : F.data.toList = f := by rw [← hF, M.bytes_list]
          have hGl : G.data.toList = g := by rw [← hG, M.bytes_list]
          have hFs : F.size ≤ maxLen := by have := HPL.out f (by simp); rw [← hFl] at this; simp at this; unfold maxLen; omega
          have hGs : G.size ≤ maxLen := by have := HPL.out g (by simp); rw [← hGl] at this; simp at this; unfold maxLen; omega
          rw [hF] at c0
          rw [hG] at c1
          obtain ⟨TF, hTF⟩ : ∃ T, M.bytes (M.trim F.data.toList) = T := ⟨_, rfl⟩
          obtain ⟨TG, hTG⟩ : ∃ T, M.bytes (M.trim G.data.toList) = T := ⟨_, rfl⟩
          have HTF := Lib.hid hTF
          have HTG := Lib.hid hTG
          have hTFs : TF.size ≤ maxLen := by rw [← hTF, bytes_size]; exact Nat.le_trans (trim_le _) (by simpa using hFs)
          have hTGs : TG.size ≤ maxLen := by rw [← hTG, bytes_size]; exact Nat.le_trans (trim_le _) (by simpa using hGs)
          have HTFL := Lib.hid (show TF.data.toList = M.trim f by rw [← hTF, M.bytes_list, hFl])
          have HTGL := Lib.hid (show TG = M.bytes (M.trim g) by rw [← hTG, hGl])
          rw [show ([f, g] : List (List UInt8)).length = 2 from rfl]
          clear hF hG hFl hGl hTF hTG
          go_wp2_with fail
          refine (refTrim_any F w3 hFs).mono ?_
          rintro r w4 ⟨rfl, rfl⟩
          rw [HTF.out]
          go_wp2_with fail
          refine (refFirst_any TF w3 hTFs).mono ?_
          rintro r w4 ⟨⟨a, b, ok, rfl, hf1, hf2⟩, rfl⟩
          have HFI := Lib.hid (show M.FirstIs (M.trim f) a b ok by rw [← HTFL.out]; exact ⟨hf1, hf2⟩)
          clear hf1 hf2
          go_wp2_with fail
          refine (refTrim_any G w3 hGs).mono ?_
          rintro r w4 ⟨rfl, rfl⟩
          rw [HTG.out]
          obtain ⟨W5, hW5⟩ : ∃ W, w3.alloc (.cells #[.int .i64 a, .int .i64 b, .string TG, .string ⟨#[]⟩] 35) = W := ⟨_, rfl⟩
          have hb5 : Below w3.heap.size w3 W5 := by rw [← hW5]; exact (Below.refl _ _).alloc (Nat.le_refl _) _
          have h45 := Four.new w3 (.int .i64 a) (.int .i64 b) (.string TG) (.string ⟨#[]⟩) 35
          rw [hW5] at h45
          have hz5 : w3.heap.size < W5.heap.size := by rw [← hW5]; simp
          have HB5 := Lib.hid (HB2.out.trans (hb5.mono HB2.out.size))
          have HF5 := Lib.hid (HF2.out.below hb5 hs2)
          have H45 := Lib.hid h45
          have hs5 : w.heap.size < W5.heap.size := by omega
          obtain ⟨q0, q1, q2, q3, _, _, _, _⟩ := h45
          obtain ⟨q, hq⟩ : ∃ q, M.right ⟨a, b, TG, ⟨#[]⟩⟩ = q := ⟨_, rfl⟩
          have HQ := Lib.hid hq
          have HMK := Lib.hid (show M.entry (M.counted s.data.toList) = if ok && q then some ⟨a, b, TG, ⟨#[]⟩⟩ else none by
            rw [← HC.out, ← M.make_eq, HPS.out, M.make_two HFI.out, ← HTGL.out, hq])
          have HW5 := Lib.hid hW5
          clear hb5 hq c0 c1 hW5
          go_wp2_with fail
          rw [HW5.out]
          refine (refRight_any ⟨a, b, TG, ⟨#[]⟩⟩ W5 hTGs (Nat.zero_le _)).mono ?_
          rintro r w6 ⟨rfl, hb6⟩
          rw [HQ.out]
          have HB6 := Lib.hid (HB5.out.trans (hb6.mono HB5.out.size))
          have HF6 := Lib.hid (HF5.out.below hb6 hs5)
          obtain ⟨e0, e1, e2, e3, _, _, _, _⟩ := H45.out.below hb6 hz5
          have hne : w3.heap.size ≠ w.heap.size := by omega
          clear hb6 q0 q1 q2 q3
          cases ok
          · have HV := Lib.hid (M.line_wrong HNE.out (by rw [HMK.out]; rfl))
            cases q
            all_goals
              obtain ⟨k0, k1, k2, k3, f0, f1, f2, f3⟩ := HF6.out
              go_wp2
              refine bodyPost_ret (v := .tuple #[M.zeroOf.val, .int .i64 2]) (by simp [results, Tryz.results15, go_sem, M.zeroOf, M.E.val, k0, k1, k2, k3]) rfl ⟨by rw [HV.out], ?_⟩
              exact (((HB6.out.setCell (p := ⟨w.heap.size, 0, none⟩) (Nat.le_refl _) _).setCell (p := ⟨w.heap.size, 1, none⟩) (Nat.le_refl _) _).setCell (p := ⟨w.heap.size, 2, none⟩) (Nat.le_refl _) _).setCell (p := ⟨w.heap.size, 3, none⟩) (Nat.le_refl _) _
          · cases q
            · have HV := Lib.hid (M.line_wrong HNE.out (by rw [HMK.out]; rfl))
              obtain ⟨k0, k1, k2, k3, f0, f1, f2, f3⟩ := HF6.out
              go_wp2
              refine bodyPost_ret (v := .tuple #[M.zeroOf.val, .int .i64 2]) (by simp [results, Tryz.results15, go_sem, M.zeroOf, M.E.val, k0, k1, k2, k3]) rfl ⟨by rw [HV.out], ?_⟩
              exact (((HB6.out.setCell (p := ⟨w.heap.size, 0, none⟩) (Nat.le_refl _) _).setCell (p := ⟨w.heap.size, 1, none⟩) (Nat.le_refl _) _).setCell (p := ⟨w.heap.size, 2, none⟩) (Nat.le_refl _) _).setCell (p := ⟨w.heap.size, 3, none⟩) (Nat.le_refl _) _
            · have HV := Lib.hid (M.line_right HNE.out (by rw [HMK.out]; rfl))
              obtain ⟨k0, k1, k2, k3, f0, f1, f2, f3⟩ := HF6.out
              go_wp2
              refine bodyPost_ret (v := .tuple #[M.E.val ⟨a, b, TG, ⟨#[]⟩⟩, .int .i64 1]) (by simp [results, Tryz.results15, go_sem, M.E.val, k0, k1, k2, k3]) rfl ⟨by rw [HV.out], ?_⟩
              exact (((HB6.out.setCell (p := ⟨w.heap.size, 0, none⟩) (Nat.le_refl _) _).setCell (p := ⟨w.heap.size, 1, none⟩) (Nat.le_refl _) _).setCell (p := ⟨w.heap.size, 2, none⟩) (Nat.le_refl _) _).setCell (p := ⟨w.heap.size, 3, none⟩) (Nat.le_refl _) _
        · have hl3 : ps.length = 3 := by omega
          obtain ⟨f, g, k, rfl⟩ : ∃ f g k, ps = [f, g, k] := by
            match ps, hl3 with
            | [x, y, z], _ => exact ⟨x, y, z, rfl⟩
          clear h2 h3 hpos hl2 hl3
          have c0 := HCELL.out 0 f rfl
          have c1 := HCELL.out 1 g rfl
          have c2 := HCELL.out 2 k rfl
          obtain ⟨K, hK⟩ : ∃ K, M.bytes k = K := ⟨_, rfl⟩
          have hKl : K.data.toList = k := by rw [← hK, M.bytes_list]
          have hKs : K.size ≤ maxLen := by have := HPL.out k (by simp); rw [← hKl] at this; simp at this; unfold maxLen; omega
          rw [hK] at c2
          obtain ⟨TK, hTK⟩ : ∃ T, M.bytes (M.trim K.data.toList) = T := ⟨_, rfl⟩
          have HTK := Lib.hid hTK
          have hTKs : TK.size ≤ maxLen := by rw [← hTK, bytes_size]; exact Nat.le_trans (trim_le _) (by simpa using hKs)
          have HTKL := Lib.hid (show TK = M.bytes (M.trim k) by rw [← hTK, hKl])
          have HTKE := Lib.hid (show TK.data.toList = M.trim k by rw [← hTK, M.bytes_list, hKl])
          clear hK hKl hTK
          obtain ⟨F, hF⟩ : ∃ F, M.bytes f = F := ⟨_, rfl⟩
          obtain ⟨G, hG⟩ : ∃ G, M.bytes g = G := ⟨_, rfl⟩
          have hFl : F.data.toList = f := by rw [← hF, M.bytes_list]
          have hGl : G.data.toList = g := by rw [← hG, M.bytes_list]
          have hFs : F.size ≤ maxLen := by have := HPL.out f (by simp); rw [← hFl] at this; simp at this; unfold maxLen; omega
          have hGs : G.size ≤ maxLen := by have := HPL.out g (by simp); rw [← hGl] at this; simp at this; unfold maxLen; omega
          rw [hF] at c0
          rw [hG] at c1
          obtain ⟨TF, hTF⟩ : ∃ T, M.bytes (M.trim F.data.toList) = T := ⟨_, rfl⟩
          obtain ⟨TG, hTG⟩ : ∃ T, M.bytes (M.trim G.data.toList) = T := ⟨_, rfl⟩
          have HTF := Lib.hid hTF
          have HTG := Lib.hid hTG
          have hTFs : TF.size ≤ maxLen := by rw [← hTF, bytes_size]; exact Nat.le_trans (trim_le _) (by simpa using hFs)
          have hTGs : TG.size ≤ maxLen := by rw [← hTG, bytes_size]; exact Nat.le_trans (trim_le _) (by simpa using hGs)
          have HTFL := Lib.hid (show TF.data.toList = M.trim f by rw [← hTF, M.bytes_list, hFl])
          have HTGL := Lib.hid (show TG = M.bytes (M.trim g) by rw [← hTG, hGl])
          rw [show ([f, g, k] : List (List UInt8)).length = 3 from rfl]
          clear hF hG hFl hGl hTF hTG
          go_wp2_with fail
          refine (refTrim_any F w3 hFs).mono ?_
          rintro r w4 ⟨rfl, rfl⟩
          rw [HTF.out]
          go_wp2_with fail
          refine (refFirst_any TF w3 hTFs).mono ?_
          rintro r w4 ⟨⟨a, b, ok, rfl, hf1, hf2⟩, rfl⟩
          have HFI := Lib.hid (show M.FirstIs (M.trim f) a b ok by rw [← HTFL.out]; exact ⟨hf1, hf2⟩)
          clear hf1 hf2
          go_wp2_with fail
          refine (refTrim_any G w3 hGs).mono ?_
          rintro r w4 ⟨rfl, rfl⟩
          rw [HTG.out]
          obtain ⟨W5, hW5⟩ : ∃ W, w3.alloc (.cells #[.int .i64 a, .int .i64 b, .string TG, .string ⟨#[]⟩] 35) = W := ⟨_, rfl⟩
          have hb5 : Below w3.heap.size w3 W5 := by rw [← hW5]; exact (Below.refl _ _).alloc (Nat.le_refl _) _
          have h45 := Four.new w3 (.int .i64 a) (.int .i64 b) (.string TG) (.string ⟨#[]⟩) 35
          rw [hW5] at h45
          have hz5 : w3.heap.size < W5.heap.size := by rw [← hW5]; simp
          have HB5 := Lib.hid (HB2.out.trans (hb5.mono HB2.out.size))
          have HF5 := Lib.hid (HF2.out.below hb5 hs2)
          have H45 := Lib.hid h45
          have hs5 : w.heap.size < W5.heap.size := by omega
          have d2 := (hb5.cell (p := ⟨g2, 2, none⟩) hg2).trans c2
          have HW5 := Lib.hid hW5
          clear hb5 hW5 c0 h45
          go_wp2_with fail
          rw [HW5.out]
          refine (refTrim_any K W5 hKs).mono ?_
          rintro r w4 ⟨rfl, rfl⟩
          rw [HTK.out]
          obtain ⟨z0, z1, z2, z3, y0, y1, y2, y3⟩ := H45.out
          obtain ⟨W6, hW6⟩ : ∃ W, W5.setCell ⟨w3.heap.size, 3, none⟩ (.string TK) = W := ⟨_, rfl⟩
          have h46 := H45.out.set3 (.string TK)
          have hf6 := HF5.out.set3_other (show w.heap.size ≠ w3.heap.size by omega) (.string TK)
          have hb6' := HB5.out.setCell (p := ⟨w3.heap.size, 3, none⟩) (Nat.le_of_lt hs2) (.string TK)
          have hz6 : w3.heap.size < W6.heap.size := by rw [← hW6]; simpa using hz5
          rw [hW6] at h46 hf6 hb6'
          have H46 := Lib.hid h46
          have HF6' := Lib.hid hf6
          have HB6' := Lib.hid hb6'
          have hs6 : w.heap.size < W6.heap.size := by omega
          obtain ⟨q0, q1, q2, q3, _, _, _, _⟩ := h46
          obtain ⟨q, hq⟩ : ∃ q, M.right ⟨a, b, TG, TK⟩ = q := ⟨_, rfl⟩
          have HQ := Lib.hid hq
          have HMK := Lib.hid (show M.entry (M.counted s.data.toList) = if ok && !decide (TK.data.toList = []) && q then some ⟨a, b, TG, TK⟩ else none by
            rw [← HC.out, ← M.make_eq, HPS.out, M.make_three HFI.out, ← HTGL.out, ← HTKL.out, hq, HTKE.out])
          have HW6 := Lib.hid hW6
          clear hq hf6 hb6' hW6 d2 c1 c2
          by_cases hke : TK.data.toList = []
          · have HV := Lib.hid (M.line_wrong HNE.out (by rw [HMK.out]; simp [hke]))
            have hTK0 : TK.toList = [] := by rw [toList_nil]; exact hke
            have hTK1 : TK.toList.isEmpty = true := by rw [hTK0]; rfl
            clear hke
            cases ok
            all_goals
              go_wp2_with fail
              rw [HW6.out]
              refine (refRight_any ⟨a, b, TG, TK⟩ W6 hTGs hTKs).mono ?_
              rintro r w6 ⟨rfl, hb6⟩
              rw [HQ.out]
              have HB6 := Lib.hid (HB6'.out.trans (hb6.mono HB6'.out.size))
              have HF6 := Lib.hid (HF6'.out.below hb6 hs6)
              obtain ⟨e0, e1, e2, e3, _, _, _, _⟩ := H46.out.below hb6 hz6
              clear hb6 q0 q1 q2 q3 z0 z1 z2 z3 y0 y1 y2 y3
              cases q
              all_goals
                obtain ⟨k0, k1, k2, k3, f0, f1, f2, f3⟩ := HF6.out
                go_wp2
                refine bodyPost_ret (v := .tuple #[M.zeroOf.val, .int .i64 2]) (by simp [results, Tryz.results15, go_sem, M.zeroOf, M.E.val, k0, k1, k2, k3]) rfl ⟨by rw [HV.out], ?_⟩
                exact (((HB6.out.setCell (p := ⟨w.heap.size, 0, none⟩) (Nat.le_refl _) _).setCell (p := ⟨w.heap.size, 1, none⟩) (Nat.le_refl _) _).setCell (p := ⟨w.heap.size, 2, none⟩) (Nat.le_refl _) _).setCell (p := ⟨w.heap.size, 3, none⟩) (Nat.le_refl _) _
          · have hTK0 : ¬ TK.toList = [] := by rw [toList_nil]; exact hke
            have hTK1 : TK.toList.isEmpty = false := by rw [List.isEmpty_eq_false_iff]; exact hTK0
            have HKE := Lib.hid hke
            clear hke
            cases ok
            · have HV := Lib.hid (M.line_wrong HNE.out (by rw [HMK.out]; rfl))
              go_wp2_with fail
              rw [HW6.out]
              refine (refRight_any ⟨a, b, TG, TK⟩ W6 hTGs hTKs).mono ?_
              rintro r w6 ⟨rfl, hb6⟩
              rw [HQ.out]
              have HB6 := Lib.hid (HB6'.out.trans (hb6.mono HB6'.out.size))
              have HF6 := Lib.hid (HF6'.out.below hb6 hs6)
              obtain ⟨e0, e1, e2, e3, _, _, _, _⟩ := H46.out.below hb6 hz6
              clear hb6 q0 q1 q2 q3 z0 z1 z2 z3 y0 y1 y2 y3
              cases q
              all_goals
                obtain ⟨k0, k1, k2, k3, f0, f1, f2, f3⟩ := HF6.out
                go_wp2
                refine bodyPost_ret (v := .tuple #[M.zeroOf.val, .int .i64 2]) (by simp [results, Tryz.results15, go_sem, M.zeroOf, M.E.val, k0, k1, k2, k3]) rfl ⟨by rw [HV.out], ?_⟩
                exact (((HB6.out.setCell (p := ⟨w.heap.size, 0, none⟩) (Nat.le_refl _) _).setCell (p := ⟨w.heap.size, 1, none⟩) (Nat.le_refl _) _).setCell (p := ⟨w.heap.size, 2, none⟩) (Nat.le_refl _) _).setCell (p := ⟨w.heap.size, 3, none⟩) (Nat.le_refl _) _
            · go_wp2_with fail
              rw [HW6.out]
              refine (refRight_any ⟨a, b, TG, TK⟩ W6 hTGs hTKs).mono ?_
              rintro r w6 ⟨rfl, hb6⟩
              rw [HQ.out]
              have HB6 := Lib.hid (HB6'.out.trans (hb6.mono HB6'.out.size))
              have HF6 := Lib.hid (HF6'.out.below hb6 hs6)
              obtain ⟨e0, e1, e2, e3, _, _, _, _⟩ := H46.out.below hb6 hz6
              clear hb6 q0 q1 q2 q3 z0 z1 z2 z3 y0 y1 y2 y3
              cases q
              · have HV := Lib.hid (M.line_wrong HNE.out (by rw [HMK.out]; simp))
                obtain ⟨k0, k1, k2, k3, f0, f1, f2, f3⟩ := HF6.out
                go_wp2
                refine bodyPost_ret (v := .tuple #[M.zeroOf.val, .int .i64 2]) (by simp [results, Tryz.results15, go_sem, M.zeroOf, M.E.val, k0, k1, k2, k3]) rfl ⟨by rw [HV.out], ?_⟩
                exact (((HB6.out.setCell (p := ⟨w.heap.size, 0, none⟩) (Nat.le_refl _) _).setCell (p := ⟨w.heap.size, 1, none⟩) (Nat.le_refl _) _).setCell (p := ⟨w.heap.size, 2, none⟩) (Nat.le_refl _) _).setCell (p := ⟨w.heap.size, 3, none⟩) (Nat.le_refl _) _
              · have HV := Lib.hid (M.line_right HNE.out (show M.entry (M.counted s.data.toList) = some ⟨a, b, TG, TK⟩ by rw [HMK.out]; simp [HKE.out]))
                obtain ⟨k0, k1, k2, k3, f0, f1, f2, f3⟩ := HF6.out
                go_wp2
                refine bodyPost_ret (v := .tuple #[M.E.val ⟨a, b, TG, TK⟩, .int .i64 1]) (by simp [results, Tryz.results15, go_sem, M.E.val, k0, k1, k2, k3]) rfl ⟨by rw [HV.out], ?_⟩
                exact (((HB6.out.setCell (p := ⟨w.heap.size, 0, none⟩) (Nat.le_refl _) _).setCell (p := ⟨w.heap.size, 1, none⟩) (Nat.le_refl _) _).setCell (p := ⟨w.heap.size, 2, none⟩) (Nat.le_refl _) _).setCell (p := ⟨w.heap.size, 3, none⟩) (Nat.le_refl _) _
end
end Go.Proofs.YtjbpjnnflcmmhaaGreatDoor
