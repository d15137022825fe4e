/- The walk of package runs' Split, where the levels may be. Conditions: both slices read as lists, at most a thousand long, within their capacity. -/
import Derived.Test.YticiofpbijahbaaGM
section
namespace Go.Proofs.Yticiofpbijahbaa
open Go.RowKit Go.Shelf
attribute [local go_sem] Oper.semAt_some
set_option maxRecDepth 100000

/-- Cells are as they were where another block, that holds none, is turned. -/
theorem put_cell {W : World} {D : Nat} {o o' : Obj} (hD : W.heap[D]? = some o) (ho : o.isCells = false) {p : Addr} {v : Value} (h : W.cell? p = some v) : (W.putObj D o').cell? p = some v := by
  have hne : p.block ≠ D := fun e => by
    unfold World.cell? at h
    rw [e, hD] at h
    cases o <;> simp [Obj.isCells] at ho h
  rw [← h]
  exact World.cell?_of_block (World.putObj_heap_other hne)
theorem RdQ.keep {w w' : World} {B B' : Nat} {A : Option Addr} {ss : List M.Sq} (h : RdQ w B A ss) (hk : ∀ p v, w.cell? p = some v → w'.cell? p = some v) (hB : B ≤ B') : RdQ w' B' A ss := fun k s hs => by
  obtain ⟨g, Ap, cp, hA, hg, c0, c1, c2, c3, hr, h1, h2, h3⟩ := h k s hs
  exact ⟨g, Ap, cp, hA, Nat.lt_of_lt_of_le hg hB, hk _ _ c0, hk _ _ c1, hk _ _ c2, hk _ _ c3, fun j x hx => (by obtain ⟨ad, e1, e2, e3⟩ := hr j x hx; exact ⟨ad, e1, Nat.lt_of_lt_of_le e2 hB, hk _ _ e3⟩), h1, h2, h3⟩
theorem M.matchI_len (l : List Int) : (M.matchI l).length = l.length := M.matchTo_len _ _
set_option maxHeartbeats 8000000 in
theorem csplit_ok (A B : Option Addr) (ca cb n m : Nat) (l lv : List Int) (b : Int) (w : World) (hr : RdS .i64 w w.heap.size A l) (hn : l.length = n) (hl : n ≤ 1000) (hr2 : RdS .i64 w w.heap.size B lv) (hm : lv.length = m) (hl2 : m ≤ 1000) (hcb : m ≤ cb) (hf : M.Fits l lv b) :
    Calls Try.prog 8 #[.slice A n ca, .slice B m cb, .int .i64 b] w (SplitOut l lv b w) := by
  refine (callsIn_wide (n := 5)).1 ?_
  obtain ⟨W1, hW1⟩ : ∃ X, (w.alloc (.cells #[.slice A n ca] 22)).alloc (.cells #[.int .i64 b] 3) = X := ⟨_, rfl⟩
  have hb1 : Below w.heap.size w W1 := by rw [← hW1]; exact ((Below.refl _ _).alloc (Nat.le_refl _) _).alloc (by simp) _
  have hs1 : W1.heap.size = w.heap.size + 2 := by rw [← hW1]; simp
  have bL : Boxed W1 w.heap.size 22 (.slice A n ca) := by rw [← hW1]; exact (Boxed.new w 22 (.slice A n ca)).alloc _
  have bB : Boxed W1 (w.heap.size + 1) 3 (.int .i64 b) := by
    have := Boxed.new (w.alloc (.cells #[.slice A n ca] 22)) 3 (.int .i64 b)
    rw [hW1] at this
    simpa using this
  obtain ⟨W2, hW2⟩ : ∃ X, W1.alloc (.cells #[.slice none 0 0] 25) = X := ⟨_, rfl⟩
  have hb2 : Below W1.heap.size W1 W2 := by rw [← hW2]; exact (Below.refl _ _).alloc (Nat.le_refl _) _
  have hs2 : W2.heap.size = w.heap.size + 3 := by rw [← hW2]; simp; omega
  have bA : Boxed W2 (w.heap.size + 2) 25 (.slice none 0 0) := by rw [← hW2, ← hs1]; exact Boxed.new _ _ _
  have hb12 : Below w.heap.size w W2 := hb1.trans (hb2.mono (by omega))
  have HIB := Lib.hid (isBase_any b W1)
  rw [show (decide (b = 0) || decide (b = 1)) = true by simp; exact hf.base] at HIB
  have HFT := Lib.hid (fit_any A B ca cb n m l lv W1 ((hr.below hb1).more hb1.size) hn hl ((hr2.below hb1).more hb1.size) hm hl2)
  have HMA := Lib.hid (cmatch_any A ca n l W2 ((hr.below hb12).more hb12.size) hn hl)
  have HF := Lib.hid hf
  have HR := Lib.hid hr
  have HR2 := Lib.hid hr2
  have HN := Lib.hid hn
  have HM := Lib.hid hm
  have HBL := Lib.hid bL
  have HBB := Lib.hid bB
  have HBA := Lib.hid bA
  have HW1 := Lib.hid hW1
  have HW2 := Lib.hid hW2
  have HB1 := Lib.hid hb1
  have HB2 := Lib.hid hb2
  have HB12 := Lib.hid hb12
  have HS := Lib.hid (show W1.heap.size = w.heap.size + 2 ∧ W2.heap.size = w.heap.size + 3 from ⟨hs1, hs2⟩)
  have cL := bL.cell
  have cB := bB.cell
  clear hr hr2 hn hm hf hW1 hW2 hb1 hb2 hb12 bL bB bA hs2
  refine callsIn_of_wp_marks Try.func8 rfl trivial ?_ rfl
  simp only [Try.ntmps8, List.size_toArray, List.length_cons, List.length_nil, Nat.reduceAdd, Nat.reduceSub, Array.replicate_succ, Array.replicate_zero, List.push_toArray, List.append_toArray, List.nil_append, List.cons_append]
  gi_wp2_with fail
  rw [HW1.out]
  refine ⟨trivial, ?_⟩
  refine (callsIn_wide.2 HIB.out).mono ?_
  rintro r w1 ⟨rfl, rfl⟩
  gi_wp2_with fail
  refine ⟨trivial, ?_⟩
  refine (callsIn_wide.2 HFT.out).mono ?_
  rintro r w1 ⟨t, rfl, ht, rfl⟩
  obtain rfl : t = true := ht.2 (M.fits_iff.1 HF.out).2
  clear ht
  gi_wp2_with fail
  rw [HW2.out]
  refine ⟨trivial, ?_⟩
  refine (callsIn_wide.2 HMA.out).mono ?_
  rintro r w3 ⟨v, rfl, hoE, hb3⟩
  obtain ⟨AE, cE, rfl, hrE, hcE, -, -⟩ := reads_own hoE
  rw [M.matchI_len, HN.out] at hcE hoE
  rw [M.matchI_len, HN.out]
  have hs3 := hb3.size
  obtain ⟨W4, hW4⟩ : ∃ X, w3.alloc (.cells #[.slice AE n cE] 23) = X := ⟨_, rfl⟩
  obtain ⟨W5, hW5⟩ : ∃ X, W4.alloc (.map #[] 0) = X := ⟨_, rfl⟩
  obtain ⟨W6, hW6⟩ : ∃ X, W5.alloc (.cells #[.map (some (w3.heap.size + 1))] 50) = X := ⟨_, rfl⟩
  have hs4 : W4.heap.size = w3.heap.size + 1 := by rw [← hW4]; simp
  have hs5 : W5.heap.size = w3.heap.size + 2 := by rw [← hW5]; simp; omega
  have hs6 : W6.heap.size = w3.heap.size + 3 := by rw [← hW6]; simp; omega
  have hb4 : Below w3.heap.size w3 W4 := by rw [← hW4]; exact (Below.refl _ _).alloc (Nat.le_refl _) _
  have hb5 : Below W4.heap.size W4 W5 := by rw [← hW5]; exact (Below.refl _ _).alloc (Nat.le_refl _) _
  have hb6 : Below W5.heap.size W5 W6 := by rw [← hW6]; exact (Below.refl _ _).alloc (Nat.le_refl _) _
  have bE : Boxed W4 w3.heap.size 23 (.slice AE n cE) := by rw [← hW4]; exact Boxed.new _ _ _
  have bM : Boxed W6 (w3.heap.size + 2) 50 (.map (some (w3.heap.size + 1))) := by rw [← hW6, ← hs5]; exact Boxed.new _ _ _
  have hm5 : MapI W5 (w3.heap.size + 1) 0 (fun _ => none) := by
    refine ⟨0, .map [], ?_, Nat.le_refl _, MapIs.nil⟩
    rw [← hW5, ← hs4]
    exact World.ownsMap_made _ _ _ _
  have hmm := @run_makeMap Try.prog
  have HS3 := Lib.hid hs3
  have HB3 := Lib.hid hb3
  have HRE := Lib.hid hrE
  have HOE := Lib.hid hoE
  have HCE := Lib.hid hcE
  have HW4 := Lib.hid hW4
  have HW5 := Lib.hid hW5
  have HW6 := Lib.hid hW6
  have HB4 := Lib.hid hb4
  have HB5 := Lib.hid hb5
  have HB6 := Lib.hid hb6
  have HBE := Lib.hid bE
  have HBM := Lib.hid bM
  have HM5 := Lib.hid hm5
  have HSS := Lib.hid (show W4.heap.size = w3.heap.size + 1 ∧ W5.heap.size = w3.heap.size + 2 ∧ W6.heap.size = w3.heap.size + 3 from ⟨hs4, hs5, hs6⟩)
  have cB3 : w3.cell? ⟨w.heap.size + 1, 0, none⟩ = some (.int .i64 b) := (hb3.cell (p := ⟨w.heap.size + 1, 0, none⟩) (by have := HS.out; show w.heap.size + 1 < _; omega)).trans ((HB2.out.cell (p := ⟨w.heap.size + 1, 0, none⟩) (by have := HS.out; show w.heap.size + 1 < _; omega)).trans HBB.out.cell)
  have lB3 : w.heap.size + 1 < w3.heap.size := by have := HS.out; omega
  have lB4 : w.heap.size < w3.heap.size := by omega
  have lB5 : w.heap.size < w3.heap.size + 1 := by omega
  clear hs3 hb3 hrE hcE hoE hW4 hW5 hW6 hs4 hs5 hs6 hb4 hb5 hb6 bE bM hm5 cL cB hs1
  gi_wp2_with fail
  rw [HW4.out, HW5.out, HW6.out]
  refine ⟨trivial, ?_⟩
  refine (callsIn_wide.2 (levelRuns_any B cb m b W6)).mono ?_
  rintro r w8 ⟨rfl, rfl⟩
  obtain ⟨W8, hW8⟩ : ∃ X, (W6.alloc (.cells #[.slice B m cb] 23)).alloc (.cells #[.int .i64 b] 3) = X := ⟨_, rfl⟩
  rw [hW8]
  clear hmm cB3 lB3 lB4 lB5
  gi_wp2_with fail
  have hs8 : W8.heap.size = w3.heap.size + 5 := by rw [← hW8]; simp; have := HSS.out; omega
  have hb68 : Below W6.heap.size W6 W8 := by rw [← hW8]; exact ((Below.refl _ _).alloc (Nat.le_refl _) _).alloc (by simp) _
  have bS : Boxed W8 W6.heap.size 23 (.slice B m cb) := by rw [← hW8]; exact (Boxed.new W6 23 (.slice B m cb)).alloc _
  have bB8 : Boxed W8 (W6.heap.size + 1) 3 (.int .i64 b) := by
    have := Boxed.new (W6.alloc (.cells #[.slice B m cb] 23)) 3 (.int .i64 b)
    rw [hW8] at this
    simpa using this
  obtain ⟨hz1, hz2⟩ := HS.out
  obtain ⟨hz4, hz5, hz6⟩ := HSS.out
  have hz3 := HS3.out
  have hlie : SpLie w.heap.size (w.heap.size + 1) (w.heap.size + 2) w3.heap.size (w3.heap.size + 1 + 1) (w3.heap.size + 1) W8.heap.size w := by
    refine ⟨?_, ?_, ?_, ?_, ?_, ?_, ?_⟩ <;> first | (refine ⟨?_, ?_, ?_⟩ <;> omega) | omega
  have h38 : Below w3.heap.size w3 W8 := HB4.out.trans ((HB5.out.mono (by omega)).trans ((HB6.out.mono (by omega)).trans (hb68.mono (by omega))))
  have h28 : Below W2.heap.size W2 W8 := HB3.out.trans (h38.mono hz3)
  have h18 : Below W1.heap.size W1 W8 := HB2.out.trans (h28.mono (by omega))
  have h08 : Below w.heap.size w W8 := HB1.out.trans (h18.mono (by omega))
  have hfix : SpFix w.heap.size (w.heap.size + 1) (w.heap.size + 2) w3.heap.size (w3.heap.size + 1 + 1) (w3.heap.size + 1) W8.heap.size A ca n AE cE l b w W8 := by
    refine ⟨(h18.block _ (by omega)).trans HBL.out, (h18.block _ (by omega)).trans HBB.out, ?_, ?_, ?_, ?_, h08, Nat.le_refl _⟩
    · exact (hb68.block w3.heap.size (by omega)).trans ((HB6.out.block w3.heap.size (by omega)).trans ((HB5.out.block w3.heap.size (by omega)).trans HBE.out))
    · exact (hb68.block _ (by omega)).trans HBM.out
    · have h1 := own_below HOE.out h38
      rw [hz2] at h1
      exact h1
    · intro g hg
      have := (World.ownsRow.lt HOE.out g hg).2
      omega
  have hsq0 : SpSq W8.heap.size (w.heap.size + 2) W8 (M.sqs l b (M.runs lv b) 0) [] (.slice none 0 0) :=
    ⟨(h28.block _ (by omega)).trans HBA.out, World.ownsRow_nil _ _ _ _, Rws.nil _ _⟩
  have hmap0 : MapI W8 (w3.heap.size + 1) 0 (M.mp l (M.runs lv b) 0) := by
    refine HM5.out.keep ?_
    rw [hb68.block _ (by omega), HB6.out.block _ (by omega)]
  have HLIE := Lib.hid hlie
  have HS8 := Lib.hid hs8
  have HZ := Lib.hid (show W1.heap.size = w.heap.size + 2 ∧ W2.heap.size = w.heap.size + 3 ∧ W2.heap.size ≤ w3.heap.size ∧ W6.heap.size = w3.heap.size + 3 ∧ W8.heap.size = w3.heap.size + 5 from ⟨hz1, hz2, hz3, hz6, hs8⟩)
  refine range_mine (by omega) (gf := 39) (lb := #[.pointer (some ⟨W6.heap.size + 1, 0, none⟩), .pointer (some ⟨W6.heap.size, 0, none⟩)]) rfl (enters_of Try.func39 (by kernel_rfl) rfl) mineR_not
    (runs_gives 4 W6.heap.size (W6.heap.size + 1) w.heap.size B cb m b lv W8 (by omega) bS bB8 (HR2.out.below h08) HM.out hl2 hcb (by omega)) KeepsR.trans (keepsR_put (by omega) (by omega) (by omega)) (fun _ => rfl)
    (SpInv w.heap.size (w.heap.size + 1) (w.heap.size + 2) w3.heap.size (w3.heap.size + 1 + 1) (w3.heap.size + 1) W8.heap.size A ca n AE cE l b lv w) (fun _ _ _ => False)
    (fun _ _ _ h hs => h.still hlie hs) (fun _ _ _ _ h _ => h)
    ⟨_, _, hfix, hsq0, hmap0⟩
    (SpRound w.heap.size (w.heap.size + 1) (w.heap.size + 2) w3.heap.size (w3.heap.size + 1 + 1) (w3.heap.size + 1) W8.heap.size A ca n AE cE l b lv w (splitTm A B ca cb n m b AE cE w.heap.size w3.heap.size W6.heap.size))
    (fun pre x a₁ X k o o' h hk hX hc => h.put hlie hk hX hc)
    (fun X Y hX hXY => ⟨hXY.mono (by omega), fun o ho => (hXY.block _ (Array.getElem?_eq_some_iff.1 ho).1).trans ho, fun o ho => (hXY.block _ (Array.getElem?_eq_some_iff.1 ho).1).trans ho, fun k cs t hk => (hXY.block _ (Array.getElem?_eq_some_iff.1 hk).1).trans hk⟩)
    ?assign ?body ?done ?stop
  case assign =>
    rintro k pre ⟨⟨pl, x0, a0, e0⟩, A2, c2⟩ W K hi hel hK
    have hsz : W8.heap.size ≤ W.heap.size := by obtain ⟨_, _, hfx, _⟩ := hi; exact hfx.size
    obtain ⟨V, hV⟩ : ∃ X, W.alloc (.cells #[.slice A2 pl.length c2, .int .i64 x0, .int .i64 a0, .int .i64 e0] 55) = X := ⟨_, rfl⟩
    have hbV : Below W.heap.size W V := by rw [← hV]; exact (Below.refl _ _).alloc (Nat.le_refl _) _
    have hrun : RunAt V W.heap.size #[.slice A2 pl.length c2, .int .i64 x0, .int .i64 a0, .int .i64 e0] := by rw [← hV]; exact World.alloc_heap_new _ _
    have HK := Lib.hid (hK _ V hbV ⟨hi.still hlie (Still.of_below hbV hsz), ⟨hel.1, own_below hel.2 hbV⟩, W.heap.size, hsz, hrun, rfl⟩)
    have HV := Lib.hid hV
    clear hi hel hK hbV hrun hV hz1 hz2 hz3 hz4 hz5 hz6 hs8
    simp only [Yi.enc, Yi.slice, splitTm] at HK ⊢
    gi_wp2
    rw [HV.out]
    exact HK.out
  case body =>
    intro k pre x a₁ W hround hlen
    exact body_any rfl k _ pre x a₁ W w A B ca cb n m l lv b AE cE _ _ _ _ rfl hz6 hs8 (by omega) HR.out HN.out hl HM.out HF.out hround hlen
  case done =>
    rintro D ys W hD hys ⟨vs, va, hfx, hsq, hmp⟩ hK
    have hlen : ys.length = (M.runs lv b).length := by rw [← hys, List.length_map]
    rw [hlen] at hsq
    have ca0 := hsq.box.cell
    obtain ⟨A5, c5, hva, hrd, hc5, hm5, hn5⟩ := rdQ_own hsq.row hsq.rws
    subst hva
    obtain ⟨KK, hKK⟩ : ∃ k, (M.sqs l b (M.runs lv b) (M.runs lv b).length).length = k := ⟨_, rfl⟩
    rw [hKK] at ca0 hc5
    have HRD := Lib.hid hrd
    have HKK := Lib.hid hKK
    have HFX := Lib.hid hfx
    have HC5 := Lib.hid (And.intro hc5 (And.intro hm5 hn5))
    clear hz1 hz2 hz3 hz4 hz5 hz6 hs8 hfx hsq hmp hrd hKK hc5 hm5 hn5 hys
    gi_wp2
    refine ⟨by simp, .inl ⟨_, _, rfl, run_takeDeferred hK, ?_⟩⟩
    have hb2 : Below w.heap.size w (W.putObj D (.deferred none)) := HFX.out.below.trans (belowK_b (w := W8) (by have := h08.size; omega) W D _ _ hD hK rfl rfl)
    have hrd2 := HRD.out.keep (w' := W.putObj D (.deferred none)) (B' := (W.putObj D (.deferred none)).heap.size) (fun p v h => put_cell hK rfl h) (by simp)
    refine ⟨_, results_tmp2 rfl _ _ _, hb2, fun _ => ⟨A5, c5, ?_, hrd2, ?_, HC5.out.2⟩, fun h => absurd HF.out h⟩
    · unfold M.seqs
      rw [HKK.out]
      rfl
    · unfold M.seqs
      rw [HKK.out]
      exact HC5.out.1
  case stop =>
    rintro D c pre W _ _ h _
    exact h.elim

theorem csplit_any (A B : Option Addr) (ca cb n m : Nat) (l lv : List Int) (b : Int) (w : World) (hr : RdS .i64 w w.heap.size A l) (hn : l.length = n) (hl : n ≤ 1000) (hr2 : RdS .i64 w w.heap.size B lv) (hm : lv.length = m) (hl2 : m ≤ 1000) (hcb : m ≤ cb) :
    Calls Try.prog 8 #[.slice A n ca, .slice B m cb, .int .i64 b] w (SplitOut l lv b w) := by
  by_cases hb : b = 0 ∨ b = 1
  · by_cases hf : M.FitL l lv
    · exact csplit_ok A B ca cb n m l lv b w hr hn hl hr2 hm hl2 hcb (M.fits_iff.2 ⟨hb, hf⟩)
    · exact csplit_fit A B ca cb n m l lv b w hr hn hl hr2 hm hl2 hb hf
  · exact csplit_base A B ca cb n m l lv b w hb
end Go.Proofs.Yticiofpbijahbaa
end
