/- The contract of package neutral's Settle. Condition: the slice reads as a list of classes, that takes at most 2^47 bytes. -/
import Derived.Test.YtjlfgojblimobaaGreatA32
import Derived.StillTailTactics
import Derived.WalkMore
section
namespace Go.Proofs.YtjlfgojblimobaaGreat.S12
open Go.RowKit Go.Shelf
attribute [local go_sem] Oper.semAt_some
set_option maxRecDepth 100000

theorem wpIn_scope_wide {n : Nat} {P : Program} {c : Code} {Q : Exit → Act → World → Prop} {a : Act} {w : World} (h : c.wpIn Fence.wide n P (Exit.noGoto Q) a w) : (Code.scope c).wpIn Fence.wide n P Q a w :=
  wpIn_wide.2 (wp_scope_straight (wpIn_wide.1 h))
theorem new_slice (w : World) (v : Value) (t : TypeId) : ∃ W : World, w.alloc (.cells #[v] t) = W ∧ Below w.heap.size w W ∧ W.cell? ⟨w.heap.size, 0, none⟩ = some v ∧ W.heap.size = w.heap.size + 1 :=
  ⟨_, rfl, (Below.refl _ _).alloc (Nat.le_refl _) _, by simp [go_sem], by simp⟩
theorem new_three' (w : World) (a b c : Int) (t : TypeId) : ∃ W : World, w.alloc (.cells #[.int .i64 a, .int .i64 b, .int .i64 c] t) = W ∧ Below w.heap.size w W ∧ W.cell? ⟨w.heap.size, 0, none⟩ = some (.int .i64 a) ∧ W.cell? ⟨w.heap.size, 1, none⟩ = some (.int .i64 b) ∧ W.cell? ⟨w.heap.size, 2, none⟩ = some (.int .i64 c) ∧ W.heap.size = w.heap.size + 1 :=
  ⟨_, rfl, (Below.refl _ _).alloc (Nat.le_refl _) _, by simp [go_sem], by simp [go_sem], by simp [go_sem], by simp⟩
theorem kpg_put {G N : Nat} {w : World} (hn : N ≤ w.heap.size) (W : World) (l : Nat) (o o' : Obj) (hl : w.heap.size ≤ l) (h : W.heap[l]? = some o) (ho : o.isCells = false) : KpG N G W (W.putObj l o') :=
  .of_below (still_put (mine := mineN) (B := N) o' h ho (by omega)).below (Nat.le_refl _)
def SInv (lv f g : Int) (l : List Int) (G : Nat) (W6 : World) (pre : List (Nat × Nat)) (W : World) : Prop :=
  (∃ X, M.SetTo lv f g l (M.lastTo pre) X ∧ BlockAt W G 39 X) ∧ KpG W6.heap.size G W6 W
theorem SInv.still {lv f g : Int} {l : List Int} {G : Nat} {W6 A B : World} {pre : List (Nat × Nat)} (h : SInv lv f g l G W6 pre A) (hs : Still (ours mineN) W6.heap.size A B) (hG : G < W6.heap.size) : SInv lv f g l G W6 pre B := by
  obtain ⟨⟨X, h1, h2⟩, h3⟩ := h
  exact ⟨⟨X, h1, h2.below hs.below hG⟩, h3.trans (.of_below hs.below (Nat.le_refl _))⟩
set_option maxHeartbeats 8000000 in
theorem csettle_no (A : Option Addr) (ca n : Nat) (t : List Int) (lv f g : Int) (w : World) (h : ¬ M.setOk lv f g) :
    Calls Tryz.prog 43 #[.slice A n ca, .agg #[.int .i64 lv, .int .i64 f, .int .i64 g]] w (RowOr 39 (M.setOk lv f g) t w) := by
  obtain ⟨W1, hW1, hb1, s0, z1⟩ := new_slice w (.slice A n ca) 22
  obtain ⟨W2, hW2, hb2, e0, e1, e2, z2⟩ := new_three' W1 lv f g 90
  have HM := Lib.hid h
  have HB := Lib.hid (hb1.trans (hb2.mono hb1.size))
  have H1 := Lib.hid (cisLevel_any lv W2)
  have H2 := Lib.hid (cisSide_any f W2)
  have H3 := Lib.hid (cisSide_any g W2)
  obtain ⟨p, hp⟩ : ∃ p, decide (0 ≤ lv ∧ lv ≤ 125) = p := ⟨_, rfl⟩
  obtain ⟨q, hq⟩ : ∃ p, decide (f = 0 ∨ f = 1) = p := ⟨_, rfl⟩
  obtain ⟨r, hr⟩ : ∃ p, decide (g = 0 ∨ g = 1) = p := ⟨_, rfl⟩
  rw [hp] at H1
  rw [hq] at H2
  rw [hr] at H3
  have hno : ¬ (p = true ∧ q = true ∧ r = true) := fun ⟨h1, h2, h3⟩ => h ⟨of_decide_eq_true (hp.trans h1), of_decide_eq_true (hq.trans h2), of_decide_eq_true (hr.trans h3)⟩
  clear h hp hq hr hb1 hb2 z1 z2
  cases p with
  | false =>
    go_enter Tryz.func43, Tryz.ntmps43
    go_wp2_with fail
    refine H1.out.mono ?_
    rintro r w1 ⟨rfl, rfl⟩
    go_wp2_with fail
    go_returns
    exact ⟨HB.out, fun h => absurd h HM.out, fun _ => rfl⟩
  | true =>
    cases q with
    | false =>
      go_enter Tryz.func43, Tryz.ntmps43
      go_wp2_with fail
      refine H1.out.mono ?_
      rintro r w1 ⟨rfl, rfl⟩
      go_wp2_with fail
      refine H2.out.mono ?_
      rintro r w1 ⟨rfl, rfl⟩
      go_wp2_with fail
      go_returns
      exact ⟨HB.out, fun h => absurd h HM.out, fun _ => rfl⟩
    | true =>
      cases r with
      | true => exact absurd ⟨rfl, rfl, rfl⟩ hno
      | false =>
        go_enter Tryz.func43, Tryz.ntmps43
        go_wp2_with fail
        refine H1.out.mono ?_
        rintro r w1 ⟨rfl, rfl⟩
        go_wp2_with fail
        refine H2.out.mono ?_
        rintro r w1 ⟨rfl, rfl⟩
        go_wp2_with fail
        refine H3.out.mono ?_
        rintro r w1 ⟨rfl, rfl⟩
        go_wp2_with fail
        go_returns
        exact ⟨HB.out, fun h => absurd h HM.out, fun _ => rfl⟩
set_option maxHeartbeats 16000000 in
theorem csettle_ok (A : Option Addr) (ca n : Nat) (l : List Int) (lv f g : Int) (w : World) (hr : RdS .i64 w w.heap.size A l) (hn : l.length = n) (hl : n * 8 ≤ 140737488351232) (h : M.setOk lv f g) :
    Calls Tryz.prog 43 #[.slice A n ca, .agg #[.int .i64 lv, .int .i64 f, .int .i64 g]] w (RowOr 39 (M.setOk lv f g) (M.settle lv f g l) w) := by
  obtain ⟨i0, hi, hz0, hz1, hz2⟩ := info_parts Tryz.infoCls2
  obtain ⟨W1, hW1, hb1, s0, z1⟩ := new_slice w (.slice A n ca) 22
  obtain ⟨W2, hW2, hb2, e0, e1, e2, z2⟩ := new_three' W1 lv f g 90
  have hmk := run_make (P := Tryz.prog) W2 22 39 i0 (.int .i64 0) Tryz.underlying22 hi hz0 .i64 .i64 n n (by omega) (Int.le_refl _) (by rw [hz2]; omega) (by omega)
  rw [Int.toNat_natCast, hz1, Nat.mul_one] at hmk
  obtain ⟨Z, hZ⟩ : ∃ Z, madeCells (Value.int IntKind.i64 0).cells n = Z := ⟨_, rfl⟩
  have hZs : Z.size = n := by rw [← hZ]; exact size_madeCells _ _
  rw [hZ] at hmk
  obtain ⟨W3, hW3⟩ : ∃ W3, W2.alloc (.cells Z 39) = W3 := ⟨_, rfl⟩
  have hg3 : W3.heap[W2.heap.size]? = some (.cells Z 39 (0, 0)) := by rw [← hW3]; exact World.alloc_heap_new _ _
  have hb3 : Below W2.heap.size W2 W3 := by rw [← hW3]; exact (Below.refl _ _).alloc (Nat.le_refl _) _
  have z3 : W3.heap.size = W2.heap.size + 1 := by rw [← hW3]; simp
  rw [hW3] at hmk
  obtain ⟨G, hG⟩ : ∃ G, W2.heap.size = G := ⟨_, rfl⟩
  rw [hG] at hmk hg3
  obtain ⟨W4, hW4, hb4, s4, z4⟩ := new_slice W3 (.slice (some ⟨G, 0, none⟩) n n) 22
  have hg4 : W4.heap[G]? = some (.cells Z 39 (0, 0)) := (hb4.block _ (by omega)).trans hg3
  have hbw4 : Below w.heap.size w W4 := hb1.trans ((hb2.trans ((hb3.trans (hb4.mono (by omega))).mono (by omega))).mono (by omega))
  obtain ⟨v, W5, hcp, hblk, hb5, t5⟩ := copy_any A ca n G l w W4 Z (hr.below hbw4) hn (by omega) hg4 hZs (fun h0 => Array.eq_empty_of_size_eq_zero (by rw [hZs]; exact h0)) hbw4
  have d0 := (hb2.cell (p := ⟨w.heap.size, 0, none⟩) (by show w.heap.size < W1.heap.size; omega)).trans s0
  have hb34 : Below W2.heap.size W2 W4 := hb3.trans (hb4.mono (by omega))
  have d4 := (hb34.cell (p := ⟨w.heap.size, 0, none⟩) (by show w.heap.size < W2.heap.size; omega)).trans d0
  have hGe : G = W2.heap.size := hG.symm
  have c0 := (t5.cell (p := ⟨w.heap.size, 0, none⟩) (by show w.heap.size ≠ G; omega)).trans d4
  have c1 := (t5.cell (p := ⟨W1.heap.size, 0, none⟩) (by show W1.heap.size ≠ G; omega)).trans ((hb34.cell (p := ⟨W1.heap.size, 0, none⟩) (by show W1.heap.size < W2.heap.size; omega)).trans e0)
  have c2 := (t5.cell (p := ⟨W1.heap.size, 1, none⟩) (by show W1.heap.size ≠ G; omega)).trans ((hb34.cell (p := ⟨W1.heap.size, 1, none⟩) (by show W1.heap.size < W2.heap.size; omega)).trans e1)
  have c3 := (t5.cell (p := ⟨W1.heap.size, 2, none⟩) (by show W1.heap.size ≠ G; omega)).trans ((hb34.cell (p := ⟨W1.heap.size, 2, none⟩) (by show W1.heap.size < W2.heap.size; omega)).trans e2)
  have c4 := (t5.cell (p := ⟨W3.heap.size, 0, none⟩) (by show W3.heap.size ≠ G; omega)).trans s4
  obtain ⟨W6, hW6, hb6, s6, z6⟩ := new_slice W5 (.slice A n ca) 22
  have z5 := t5.size
  have HZ := Lib.hid (show W1.heap.size = w.heap.size + 1 ∧ G = w.heap.size + 2 ∧ W3.heap.size = w.heap.size + 3 ∧ W5.heap.size = w.heap.size + 4 ∧ W6.heap.size = w.heap.size + 5 by omega)
  have HBLK := Lib.hid (hblk.below hb6 (by omega))
  have HB6 := Lib.hid (hb5.trans (hb6.mono hb5.size))
  have HC0 := Lib.hid ((hb6.cell (p := ⟨w.heap.size, 0, none⟩) (by show w.heap.size < W5.heap.size; omega)).trans c0)
  have HC1 := Lib.hid ((hb6.cell (p := ⟨W1.heap.size, 0, none⟩) (by show W1.heap.size < W5.heap.size; omega)).trans c1)
  have HC2 := Lib.hid ((hb6.cell (p := ⟨W1.heap.size, 1, none⟩) (by show W1.heap.size < W5.heap.size; omega)).trans c2)
  have HC3 := Lib.hid ((hb6.cell (p := ⟨W1.heap.size, 2, none⟩) (by show W1.heap.size < W5.heap.size; omega)).trans c3)
  have HC4 := Lib.hid ((hb6.cell (p := ⟨W3.heap.size, 0, none⟩) (by show W3.heap.size < W5.heap.size; omega)).trans c4)
  have HC6 := Lib.hid s6
  have HST := Lib.hid (cstretches_any A ca n W5)
  have H1 := Lib.hid (cisLevel_any lv W2)
  have H2 := Lib.hid (cisSide_any f W2)
  have H3 := Lib.hid (cisSide_any g W2)
  rw [show decide (0 ≤ lv ∧ lv ≤ 125) = true from decide_eq_true h.1] at H1
  rw [show decide (f = 0 ∨ f = 1) = true from decide_eq_true h.2.1] at H2
  rw [show decide (g = 0 ∨ g = 1) = true from decide_eq_true h.2.2] at H3
  have HOK := Lib.hid h
  have HR := Lib.hid hr
  have HN := Lib.hid hn
  have hl1 : (n : Int) ≤ 17592186044416 := by omega
  clear hr hn hl h hb1 hb2 hb3 hb4 hb5 hb6 hbw4 hb34 z1 z2 z3 z4 z5 z6 hZ hZs hg3 hg4 hblk t5 hG hGe s6 c1 c2 c3 hz0 hz1 hz2 hi
  refine (callsIn_wide (n := 6)).1 ?_
  refine callsIn_of_wp_marks Tryz.func43 rfl trivial ?_ rfl
  simp only [Tryz.ntmps43, List.size_toArray, List.length_cons, List.length_nil, Nat.reduceAdd, Nat.reduceSub, Array.replicate_succ, Array.replicate_zero, List.push_toArray, List.append_toArray, List.nil_append, List.cons_append]
  gi_wp2_with fail
  refine ⟨trivial, (callsIn_wide.2 H1.out).mono ?_⟩
  rintro r w1 ⟨rfl, rfl⟩
  gi_wp2_with fail
  refine ⟨trivial, (callsIn_wide.2 H2.out).mono ?_⟩
  rintro r w1 ⟨rfl, rfl⟩
  gi_wp2_with fail
  refine ⟨trivial, (callsIn_wide.2 H3.out).mono ?_⟩
  rintro r w1 ⟨rfl, rfl⟩
  gi_wp2_with fail
  refine ⟨trivial, (callsIn_wide.2 HST.out).mono ?_⟩
  rintro r w1 ⟨rfl, rfl⟩
  rw [hW6]
  gi_wp2_with fail
  refine range_mine (by omega) (gf := 121) (lb := #[.pointer (some ⟨W5.heap.size, 0, none⟩)]) rfl (enters_of Tryz.func121 (by kernel_rfl) rfl) mineN_not
    (cstr_gives 5 W5.heap.size w.heap.size W6.heap.size G A ca n l W6 (by omega) HC6.out (by have := HZ.out; omega) (by have := HZ.out; omega) (HR.out.below HB6.out) HN.out (by omega) HB6.out.size (by have := HZ.out; omega) (Nat.le_refl _)) KpG.trans (kpg_put (Nat.le_refl _)) (fun _ => rfl)
    (SInv lv f g l G W6) (fun (_ : Code) (_ : List (Nat × Nat)) (_ : World) => False)
    (fun _ _ _ h hs => h.still hs (by have := HZ.out; omega)) (fun _ _ _ _ h _ => h)
    ⟨⟨l, .start, HBLK.out⟩, .refl _ _ _⟩
    (fun x => { tmps := #[.slice A n ca, .agg #[.int .i64 lv, .int .i64 f, .int .i64 g], .pointer (some ⟨w.heap.size, 0, none⟩), .pointer (some ⟨W1.heap.size, 0, none⟩), .slice none 0 0, .int .i64 0, .pointer (some ⟨W3.heap.size, 0, none⟩), .int .i64 x.1, .int .i64 x.2, undef, undef, .pointer (some ⟨W1.heap.size, 0, none⟩), .int .i64 lv, .bool true, .bool false, .bool false, .pointer (some ⟨W1.heap.size, 1, none⟩), .int .i64 f, .bool true, .bool false, .bool false, .bool false, .pointer (some ⟨W1.heap.size, 2, none⟩), .int .i64 g, .bool true, .bool false, .bool false, .slice A n ca, .int .i64 n, .slice (some ⟨G, 0, none⟩) n n, .slice (some ⟨G, 0, none⟩) n n, .slice A n ca, v, .slice A n ca, .func (.func 121) #[] #[.pointer (some ⟨W5.heap.size, 0, none⟩)], .int .i64 x.1, .int .i64 x.2, undef, undef, undef, undef, undef, undef, undef, undef, undef, undef, undef, undef, undef, undef, undef, undef, undef, undef, undef, undef, undef, undef, undef, undef, undef, undef, undef, undef, undef, undef], defers := [] }) ?assign ?body ?done ?stop
  case assign =>
    intro l x W K hK
    gi_wp2
    exact hK
  case body =>
    rintro Lp pre ⟨t, u⟩ W ⟨⟨X, hX, hbX⟩, hkp⟩ - hok
    have hstr := hok.last
    dsimp only at hstr
    have htf := hstr.tf
    have hfu := hstr.fu
    have hun := hstr.un
    rw [HN.out] at hun
    have d0 := (hkp.cell (p := ⟨w.heap.size, 0, none⟩) (by show w.heap.size < W6.heap.size; have := HZ.out; omega) (by show w.heap.size ≠ G; have := HZ.out; omega)).trans HC0.out
    have d1 := (hkp.cell (p := ⟨W1.heap.size, 0, none⟩) (by show W1.heap.size < W6.heap.size; have := HZ.out; omega) (by show W1.heap.size ≠ G; have := HZ.out; omega)).trans HC1.out
    have d2 := (hkp.cell (p := ⟨W1.heap.size, 1, none⟩) (by show W1.heap.size < W6.heap.size; have := HZ.out; omega) (by show W1.heap.size ≠ G; have := HZ.out; omega)).trans HC2.out
    have d3 := (hkp.cell (p := ⟨W1.heap.size, 2, none⟩) (by show W1.heap.size < W6.heap.size; have := HZ.out; omega) (by show W1.heap.size ≠ G; have := HZ.out; omega)).trans HC3.out
    have d4 := (hkp.cell (p := ⟨W3.heap.size, 0, none⟩) (by show W3.heap.size < W6.heap.size; have := HZ.out; omega) (by show W3.heap.size ≠ G; have := HZ.out; omega)).trans HC4.out
    have y2 := fun d os => cell_regrown d2 d os
    have y3 := fun d os => cell_regrown d3 d os
    have HSTR := Lib.hid hstr
    have HX := Lib.hid hX
    have HBX := Lib.hid hbX
    have HKP := Lib.hid hkp
    have HD := Lib.hid (And.intro d0 (And.intro d1 d4))
    clear hstr hX hbX hkp hok d0 d1 d2 d3 d4 htf
    gi_wp2_with fail
    refine region_quiet (by kernel_rfl) (by kernel_rfl) (by kernel_rfl) ?_
    repeat (go_big_quiet_step (fail))
    refine wpQuiet_nil ?_
    intro _ hw'
    obtain ⟨⟨dq, osq⟩, hw4⟩ := hw'
    subst hw4
    have hbV := below_regrown W dq osq
    obtain ⟨V, hV⟩ : ∃ V, Sort.grow (redrawn W dq) osq = V := ⟨_, rfl⟩
    rw [hV] at hbV
    dsimp only
    rw [hV]
    rename_i Kf hKf
    refine hKf _ _ ?_
    clear hKf hV y2 y3
    have hlie : W6.heap.size ≤ W.heap.size := HKP.out.size
    have hnum := HZ.out
    have dL := (hbV.cell (p := ⟨w.heap.size, 0, none⟩) (by show w.heap.size < W.heap.size; omega)).trans HD.out.1
    have dS := (hbV.cell (p := ⟨W1.heap.size, 0, none⟩) (by show W1.heap.size < W.heap.size; omega)).trans HD.out.2.1
    have dC := (hbV.cell (p := ⟨W3.heap.size, 0, none⟩) (by show W3.heap.size < W.heap.size; omega)).trans HD.out.2.2
    have hbX := HBX.out.below hbV (by omega)
    have hkpV := HKP.out.trans (.of_below hbV hlie)
    have hlV : Below w.heap.size w V := HB6.out.trans (hkpV.below (by omega) (by omega))
    obtain ⟨ad, -, rfl, -⟩ := rd_at HR.out hlV (by rw [HN.out]; omega : t < l.length)
    obtain ⟨y, hy⟩ : ∃ y, M.btw lv (M.aheadOf l f t) (M.behindOf l g u) = y := ⟨_, rfl⟩
    obtain ⟨a, ha⟩ : ∃ y, M.aheadOf l f t = y := ⟨_, rfl⟩
    obtain ⟨b, hb⟩ : ∃ y, M.behindOf l g u = y := ⟨_, rfl⟩
    have hto := HX.out.over HOK.out.2.1 HOK.out.2.2 HSTR.out
    rw [hy] at hto
    rw [ha, hb] at hy
    have HBT : Hid (∀ w', Calls Tryz.prog 83 #[.int .i64 a, .int .i64 b, .int .i64 lv] w' fun r w'' => r = .returned (.int .i64 y) ∧ w' = w'') := Lib.hid (by rw [← hy]; exact fun w' => cbetween_any a b lv w' HOK.out.1.1)
    have hTurn : ∀ V', Turned V.drew V' G → BlockAt V' G 39 (M.fil y (u - t) t X) → ownPostG W6.heap.size (KpG W6.heap.size G) (SInv lv f g l G W6) (fun (_ : Code) (_ : List (Nat × Nat)) (_ : World) => False) (pre ++ [(t, u)]) W .normal { tmps := #[], defers := [] } V' := by
      intro V' hT hB'
      have hT2 : Turned V V' G := ⟨hT.os, hT.tape, hT.output, hT.size, hT.block⟩
      refine ⟨?_, (KpG.of_below hbV hlie).trans (.of_turned hT2), ⟨_, by rw [M.lastTo_snoc]; exact hto, hB'⟩, hkpV.trans (.of_turned hT2)⟩
      have hk : KeepsOthers W V' := ⟨by rw [hT2.size]; exact hbV.size, fun k o hk ho => by
        have hlt := (Array.getElem?_eq_some_iff.1 hk).1
        have hne : k ≠ G := fun e => by
          have h1 := HBX.out
          unfold BlockAt at h1
          rw [← e, hk] at h1
          injection h1 with h1
          rw [h1] at ho
          cases ho
        exact (hT2.block k hne).trans ((hbV.block k hlt).trans hk)⟩
      exact hk.from _
    have HTURN := Lib.hid hTurn
    have HXL := Lib.hid HX.out.len
    have HBV := Lib.hid hbX
    have HRV := Lib.hid ((HR.out.below hlV).more hlV.size)
    have HAH := Lib.hid ha
    have HBE := Lib.hid hb
    have hHeld : V.drew.cell? ⟨W3.heap.size, 0, none⟩ = some (.slice (some ⟨G, 0, none⟩) n n) ∧ V.drew.cell? ⟨W1.heap.size, 0, none⟩ = some (.int .i64 lv) := ⟨dC, dS⟩
    have hf := HOK.out.2.1
    have u1 : (u : Int) ≤ n := by omega
    have t1 : (t : Int) < u := by omega
    have t0 : (0 : Int) ≤ t := by omega
    have HELD := Lib.hid hHeld
    clear hbV hbX hkpV hlV hy ha hb hto hTurn hHeld hnum hlie
    have hAB : (¬ (0 : Int) < t ∧ f = a) ∨ ∃ j : Nat, ((0 : Int) < t ∧ (t : Int) - 1 = j ∧ (0 : Int) ≤ j ∧ (j : Int) < n) ∧ V.cell? (ad.add j) = some (.int .i64 a) := by
      have h1 := HAH.out
      unfold M.aheadOf at h1
      by_cases e : 0 < t
      · rw [if_pos e] at h1
        obtain ⟨ad', x, hA, hcx, hx, -⟩ := rd_at HRV.out (Below.refl _ _) (by rw [HN.out]; omega : t - 1 < l.length)
        injection hA with hA
        subst hA
        rw [List.getD_eq_getElem?_getD, hx] at h1
        dsimp only [Option.getD_some] at h1
        subst h1
        exact .inr ⟨t - 1, ⟨by omega, by omega, by omega, by omega⟩, hcx⟩
      · rw [if_neg e] at h1
        exact .inl ⟨by omega, h1⟩
    have hBB : (¬ (u : Int) < n ∧ g = b) ∨ ((u : Int) < n ∧ V.cell? (ad.add u) = some (.int .i64 b)) := by
      have h1 := HBE.out
      unfold M.behindOf at h1
      rw [HN.out] at h1
      by_cases e : u < n
      · rw [if_pos e] at h1
        obtain ⟨ad', x, hA, hcx, hx, -⟩ := rd_at HRV.out (Below.refl _ _) (by rw [HN.out]; omega : u < l.length)
        injection hA with hA
        subst hA
        rw [List.getD_eq_getElem?_getD, hx] at h1
        dsimp only [Option.getD_some] at h1
        subst h1
        exact .inr ⟨by omega, hcx⟩
      · rw [if_neg e] at h1
        exact .inl ⟨by omega, h1⟩
    have hLAST : ∀ (Qz : Exit → Act → World → Prop) (listed : Array Bool) (ts : Array Value) (ops : Array Oper), Region.ready .any ops listed = [] → (∀ V', Turned V.drew V' G → BlockAt V' G 39 (M.fil y (u - t) t X) → Qz .normal ⟨ts, []⟩ V') →
        Calls Tryz.prog 82 #[.slice (some ⟨G, t, none⟩) (u - t) (n - t), .int .i64 y] V.drew fun r w' => r = .returned (.tuple #[]) ∧ (w'.cell? ⟨W3.heap.size, 0, none⟩ = some (.slice (some ⟨G, 0, none⟩) n n) ∧ w'.cell? ⟨W1.heap.size, 0, none⟩ = some (.int .i64 lv)) ∧ wpAnyH Tryz.prog .any ops (AtEnd Qz) (fun w' => w'.cell? ⟨W3.heap.size, 0, none⟩ = some (.slice (some ⟨G, 0, none⟩) n n) ∧ w'.cell? ⟨W1.heap.size, 0, none⟩ = some (.int .i64 lv)) 0 listed ⟨ts, []⟩ w' := by
      intro Qz listed ts ops hrd hq
      refine (cfill_any G t (u - t) (n - t) X y V.drew HBV.out (by rw [HXL.out, HN.out]; omega) (by omega)).mono ?_
      rintro r w' ⟨rfl, hB', hT⟩
      exact ⟨rfl, ⟨(hT.cell (by show W3.heap.size ≠ G; have := HZ.out; omega)).trans HELD.out.1, (hT.cell (by show W1.heap.size ≠ G; have := HZ.out; omega)).trans HELD.out.2⟩, wpAnyH_done (Q := AtEnd Qz) hrd (hq _ hT hB') _⟩
    have HLAST := Lib.hid hLAST
    have q1 : t ≤ u := by omega
    have q2 : n ≠ t := by omega
    clear hLAST
    rcases hAB with ⟨t2, rfl⟩ | ⟨j, ⟨t2, t3, t4, t5⟩, hca⟩ <;> rcases hBB with ⟨u2, rfl⟩ | ⟨u2, hcb⟩
    · gi_wp2_with fail
      refine region_by (S := fun w' => w'.cell? ⟨W3.heap.size, 0, none⟩ = some (.slice (some ⟨G, 0, none⟩) n n) ∧ w'.cell? ⟨W1.heap.size, 0, none⟩ = some (.int .i64 lv)) (k := 10) (by kernel_rfl) (by kernel_rfl) rfl (listed := #[false, false, false, false, false, false, false, false, false, false]) rfl ?_
      have hHeld := HELD.out
      refine takeH (i := 0) (d := 56) (v := .slice (some ⟨G, 0, none⟩) n n) (listed' := #[true, false, false, false, false, false, false, false, false, false]) rfl (by kernel_rfl) (by kernel_rfl) (by kernel_rfl) rfl rfl hHeld (by intro w hSw; (try dsimp only at hSw); go_simp) rfl (by simp only [List.setIfInBounds_toArray, List.set_cons_zero, List.set_cons_succ]; try rfl) ?_
      refine takeH (i := 1) (d := 57) (v := .int .i64 t) (listed' := #[true, true, false, false, false, false, false, false, false, false]) rfl (by kernel_rfl) (by kernel_rfl) (by kernel_rfl) rfl rfl hHeld (by intro w hSw; (try dsimp only at hSw); go_simp) rfl (by simp only [List.setIfInBounds_toArray, List.set_cons_zero, List.set_cons_succ]; try rfl) ?_
      refine takeH (i := 2) (d := 58) (v := .int .i64 u) (listed' := #[true, true, true, false, false, false, false, false, false, false]) rfl (by kernel_rfl) (by kernel_rfl) (by kernel_rfl) rfl rfl hHeld (by intro w hSw; (try dsimp only at hSw); go_simp) rfl (by simp only [List.setIfInBounds_toArray, List.set_cons_zero, List.set_cons_succ]; try rfl) ?_
      refine takeH (i := 3) (d := 59) (v := .slice (some ⟨G, t, none⟩) (u - t) (n - t)) (listed' := #[true, true, true, true, false, false, false, false, false, false]) rfl (by kernel_rfl) (by kernel_rfl) (by kernel_rfl) rfl rfl hHeld (by intro w hSw; (try dsimp only at hSw); go_simp) rfl (by simp only [List.setIfInBounds_toArray, List.set_cons_zero, List.set_cons_succ]; try rfl) ?_
      refine takeH (i := 4) (d := 60) (v := .int .i64 f) (listed' := #[true, true, true, true, true, false, false, false, false, false]) rfl (by kernel_rfl) (by kernel_rfl) (by kernel_rfl) rfl rfl hHeld (by intro w hSw; (try dsimp only at hSw); go_simp) rfl (by simp only [List.setIfInBounds_toArray, List.set_cons_zero, List.set_cons_succ]; try rfl) ?_
      refine takeH (i := 5) (d := 61) (v := .int .i64 g) (listed' := #[true, true, true, true, true, true, false, false, false, false]) rfl (by kernel_rfl) (by kernel_rfl) (by kernel_rfl) rfl rfl hHeld (by intro w hSw; (try dsimp only at hSw); go_simp) rfl (by simp only [List.setIfInBounds_toArray, List.set_cons_zero, List.set_cons_succ]; try rfl) ?_
      refine takeH (i := 6) (d := 62) (v := .pointer (some ⟨W1.heap.size, 0, none⟩)) (listed' := #[true, true, true, true, true, true, true, false, false, false]) rfl (by kernel_rfl) (by kernel_rfl) (by kernel_rfl) rfl rfl hHeld (by intro w hSw; (try dsimp only at hSw); go_simp) rfl (by simp only [List.setIfInBounds_toArray, List.set_cons_zero, List.set_cons_succ]; try rfl) ?_
      refine takeH (i := 7) (d := 63) (v := .int .i64 lv) (listed' := #[true, true, true, true, true, true, true, true, false, false]) rfl (by kernel_rfl) (by kernel_rfl) (by kernel_rfl) rfl rfl hHeld (by intro w hSw; (try dsimp only at hSw); go_simp) rfl (by simp only [List.setIfInBounds_toArray, List.set_cons_zero, List.set_cons_succ]; try rfl) ?_
      refine oneH (i := 8) (by kernel_rfl) ?_
      refine callH (i := 8) (d := 64) (v := .int .i64 y) (listed' := #[true, true, true, true, true, true, true, true, true, false]) rfl rfl rfl (by go_simp) (HBT.out _) hHeld rfl (by simp only [List.setIfInBounds_toArray, List.set_cons_zero, List.set_cons_succ]; try rfl) ?_
      refine oneH (i := 9) (by kernel_rfl) ?_
      refine callE (i := 9) (d := 65) (f := 82) (args := #[.slice (some ⟨G, t, none⟩) (u - t) (n - t), .int .i64 y]) (v := .tuple #[]) (listed' := #[true, true, true, true, true, true, true, true, true, true]) rfl rfl rfl (by go_simp) rfl (by simp only [List.setIfInBounds_toArray, List.set_cons_zero, List.set_cons_succ]; try rfl) ?_
      exact HLAST.out _ _ _ _ (by kernel_rfl) HTURN.out
    · gi_wp2_with fail
      refine region_by (S := fun w' => w'.cell? ⟨W3.heap.size, 0, none⟩ = some (.slice (some ⟨G, 0, none⟩) n n) ∧ w'.cell? ⟨W1.heap.size, 0, none⟩ = some (.int .i64 lv)) (k := 10) (by kernel_rfl) (by kernel_rfl) rfl (listed := #[false, false, false, false, false, false, false, false, false, false]) rfl ?_
      have hHeld := HELD.out
      refine takeH (i := 0) (d := 56) (v := .slice (some ⟨G, 0, none⟩) n n) (listed' := #[true, false, false, false, false, false, false, false, false, false]) rfl (by kernel_rfl) (by kernel_rfl) (by kernel_rfl) rfl rfl hHeld (by intro w hSw; (try dsimp only at hSw); go_simp) rfl (by simp only [List.setIfInBounds_toArray, List.set_cons_zero, List.set_cons_succ]; try rfl) ?_
      refine takeH (i := 1) (d := 57) (v := .int .i64 t) (listed' := #[true, true, false, false, false, false, false, false, false, false]) rfl (by kernel_rfl) (by kernel_rfl) (by kernel_rfl) rfl rfl hHeld (by intro w hSw; (try dsimp only at hSw); go_simp) rfl (by simp only [List.setIfInBounds_toArray, List.set_cons_zero, List.set_cons_succ]; try rfl) ?_
      refine takeH (i := 2) (d := 58) (v := .int .i64 u) (listed' := #[true, true, true, false, false, false, false, false, false, false]) rfl (by kernel_rfl) (by kernel_rfl) (by kernel_rfl) rfl rfl hHeld (by intro w hSw; (try dsimp only at hSw); go_simp) rfl (by simp only [List.setIfInBounds_toArray, List.set_cons_zero, List.set_cons_succ]; try rfl) ?_
      refine takeH (i := 3) (d := 59) (v := .slice (some ⟨G, t, none⟩) (u - t) (n - t)) (listed' := #[true, true, true, true, false, false, false, false, false, false]) rfl (by kernel_rfl) (by kernel_rfl) (by kernel_rfl) rfl rfl hHeld (by intro w hSw; (try dsimp only at hSw); go_simp) rfl (by simp only [List.setIfInBounds_toArray, List.set_cons_zero, List.set_cons_succ]; try rfl) ?_
      refine takeH (i := 4) (d := 60) (v := .int .i64 f) (listed' := #[true, true, true, true, true, false, false, false, false, false]) rfl (by kernel_rfl) (by kernel_rfl) (by kernel_rfl) rfl rfl hHeld (by intro w hSw; (try dsimp only at hSw); go_simp) rfl (by simp only [List.setIfInBounds_toArray, List.set_cons_zero, List.set_cons_succ]; try rfl) ?_
      refine takeH (i := 5) (d := 61) (v := .int .i64 b) (listed' := #[true, true, true, true, true, true, false, false, false, false]) rfl (by kernel_rfl) (by kernel_rfl) (by kernel_rfl) rfl rfl hHeld (by intro w hSw; (try dsimp only at hSw); go_simp) rfl (by simp only [List.setIfInBounds_toArray, List.set_cons_zero, List.set_cons_succ]; try rfl) ?_
      refine takeH (i := 6) (d := 62) (v := .pointer (some ⟨W1.heap.size, 0, none⟩)) (listed' := #[true, true, true, true, true, true, true, false, false, false]) rfl (by kernel_rfl) (by kernel_rfl) (by kernel_rfl) rfl rfl hHeld (by intro w hSw; (try dsimp only at hSw); go_simp) rfl (by simp only [List.setIfInBounds_toArray, List.set_cons_zero, List.set_cons_succ]; try rfl) ?_
      refine takeH (i := 7) (d := 63) (v := .int .i64 lv) (listed' := #[true, true, true, true, true, true, true, true, false, false]) rfl (by kernel_rfl) (by kernel_rfl) (by kernel_rfl) rfl rfl hHeld (by intro w hSw; (try dsimp only at hSw); go_simp) rfl (by simp only [List.setIfInBounds_toArray, List.set_cons_zero, List.set_cons_succ]; try rfl) ?_
      refine oneH (i := 8) (by kernel_rfl) ?_
      refine callH (i := 8) (d := 64) (v := .int .i64 y) (listed' := #[true, true, true, true, true, true, true, true, true, false]) rfl rfl rfl (by go_simp) (HBT.out _) hHeld rfl (by simp only [List.setIfInBounds_toArray, List.set_cons_zero, List.set_cons_succ]; try rfl) ?_
      refine oneH (i := 9) (by kernel_rfl) ?_
      refine callE (i := 9) (d := 65) (f := 82) (args := #[.slice (some ⟨G, t, none⟩) (u - t) (n - t), .int .i64 y]) (v := .tuple #[]) (listed' := #[true, true, true, true, true, true, true, true, true, true]) rfl rfl rfl (by go_simp) rfl (by simp only [List.setIfInBounds_toArray, List.set_cons_zero, List.set_cons_succ]; try rfl) ?_
      exact HLAST.out _ _ _ _ (by kernel_rfl) HTURN.out
    · gi_wp2_with fail
      refine region_by (S := fun w' => w'.cell? ⟨W3.heap.size, 0, none⟩ = some (.slice (some ⟨G, 0, none⟩) n n) ∧ w'.cell? ⟨W1.heap.size, 0, none⟩ = some (.int .i64 lv)) (k := 10) (by kernel_rfl) (by kernel_rfl) rfl (listed := #[false, false, false, false, false, false, false, false, false, false]) rfl ?_
      have hHeld := HELD.out
      refine takeH (i := 0) (d := 56) (v := .slice (some ⟨G, 0, none⟩) n n) (listed' := #[true, false, false, false, false, false, false, false, false, false]) rfl (by kernel_rfl) (by kernel_rfl) (by kernel_rfl) rfl rfl hHeld (by intro w hSw; (try dsimp only at hSw); go_simp) rfl (by simp only [List.setIfInBounds_toArray, List.set_cons_zero, List.set_cons_succ]; try rfl) ?_
      refine takeH (i := 1) (d := 57) (v := .int .i64 t) (listed' := #[true, true, false, false, false, false, false, false, false, false]) rfl (by kernel_rfl) (by kernel_rfl) (by kernel_rfl) rfl rfl hHeld (by intro w hSw; (try dsimp only at hSw); go_simp) rfl (by simp only [List.setIfInBounds_toArray, List.set_cons_zero, List.set_cons_succ]; try rfl) ?_
      refine takeH (i := 2) (d := 58) (v := .int .i64 u) (listed' := #[true, true, true, false, false, false, false, false, false, false]) rfl (by kernel_rfl) (by kernel_rfl) (by kernel_rfl) rfl rfl hHeld (by intro w hSw; (try dsimp only at hSw); go_simp) rfl (by simp only [List.setIfInBounds_toArray, List.set_cons_zero, List.set_cons_succ]; try rfl) ?_
      refine takeH (i := 3) (d := 59) (v := .slice (some ⟨G, t, none⟩) (u - t) (n - t)) (listed' := #[true, true, true, true, false, false, false, false, false, false]) rfl (by kernel_rfl) (by kernel_rfl) (by kernel_rfl) rfl rfl hHeld (by intro w hSw; (try dsimp only at hSw); go_simp) rfl (by simp only [List.setIfInBounds_toArray, List.set_cons_zero, List.set_cons_succ]; try rfl) ?_
      refine takeH (i := 4) (d := 60) (v := .int .i64 a) (listed' := #[true, true, true, true, true, false, false, false, false, false]) rfl (by kernel_rfl) (by kernel_rfl) (by kernel_rfl) rfl rfl hHeld (by intro w hSw; (try dsimp only at hSw); go_simp) rfl (by simp only [List.setIfInBounds_toArray, List.set_cons_zero, List.set_cons_succ]; try rfl) ?_
      refine takeH (i := 5) (d := 61) (v := .int .i64 g) (listed' := #[true, true, true, true, true, true, false, false, false, false]) rfl (by kernel_rfl) (by kernel_rfl) (by kernel_rfl) rfl rfl hHeld (by intro w hSw; (try dsimp only at hSw); go_simp) rfl (by simp only [List.setIfInBounds_toArray, List.set_cons_zero, List.set_cons_succ]; try rfl) ?_
      refine takeH (i := 6) (d := 62) (v := .pointer (some ⟨W1.heap.size, 0, none⟩)) (listed' := #[true, true, true, true, true, true, true, false, false, false]) rfl (by kernel_rfl) (by kernel_rfl) (by kernel_rfl) rfl rfl hHeld (by intro w hSw; (try dsimp only at hSw); go_simp) rfl (by simp only [List.setIfInBounds_toArray, List.set_cons_zero, List.set_cons_succ]; try rfl) ?_
      refine takeH (i := 7) (d := 63) (v := .int .i64 lv) (listed' := #[true, true, true, true, true, true, true, true, false, false]) rfl (by kernel_rfl) (by kernel_rfl) (by kernel_rfl) rfl rfl hHeld (by intro w hSw; (try dsimp only at hSw); go_simp) rfl (by simp only [List.setIfInBounds_toArray, List.set_cons_zero, List.set_cons_succ]; try rfl) ?_
      refine oneH (i := 8) (by kernel_rfl) ?_
      refine callH (i := 8) (d := 64) (v := .int .i64 y) (listed' := #[true, true, true, true, true, true, true, true, true, false]) rfl rfl rfl (by go_simp) (HBT.out _) hHeld rfl (by simp only [List.setIfInBounds_toArray, List.set_cons_zero, List.set_cons_succ]; try rfl) ?_
      refine oneH (i := 9) (by kernel_rfl) ?_
      refine callE (i := 9) (d := 65) (f := 82) (args := #[.slice (some ⟨G, t, none⟩) (u - t) (n - t), .int .i64 y]) (v := .tuple #[]) (listed' := #[true, true, true, true, true, true, true, true, true, true]) rfl rfl rfl (by go_simp) rfl (by simp only [List.setIfInBounds_toArray, List.set_cons_zero, List.set_cons_succ]; try rfl) ?_
      exact HLAST.out _ _ _ _ (by kernel_rfl) HTURN.out
    · gi_wp2_with fail
      refine region_by (S := fun w' => w'.cell? ⟨W3.heap.size, 0, none⟩ = some (.slice (some ⟨G, 0, none⟩) n n) ∧ w'.cell? ⟨W1.heap.size, 0, none⟩ = some (.int .i64 lv)) (k := 10) (by kernel_rfl) (by kernel_rfl) rfl (listed := #[false, false, false, false, false, false, false, false, false, false]) rfl ?_
      have hHeld := HELD.out
      refine takeH (i := 0) (d := 56) (v := .slice (some ⟨G, 0, none⟩) n n) (listed' := #[true, false, false, false, false, false, false, false, false, false]) rfl (by kernel_rfl) (by kernel_rfl) (by kernel_rfl) rfl rfl hHeld (by intro w hSw; (try dsimp only at hSw); go_simp) rfl (by simp only [List.setIfInBounds_toArray, List.set_cons_zero, List.set_cons_succ]; try rfl) ?_
      refine takeH (i := 1) (d := 57) (v := .int .i64 t) (listed' := #[true, true, false, false, false, false, false, false, false, false]) rfl (by kernel_rfl) (by kernel_rfl) (by kernel_rfl) rfl rfl hHeld (by intro w hSw; (try dsimp only at hSw); go_simp) rfl (by simp only [List.setIfInBounds_toArray, List.set_cons_zero, List.set_cons_succ]; try rfl) ?_
      refine takeH (i := 2) (d := 58) (v := .int .i64 u) (listed' := #[true, true, true, false, false, false, false, false, false, false]) rfl (by kernel_rfl) (by kernel_rfl) (by kernel_rfl) rfl rfl hHeld (by intro w hSw; (try dsimp only at hSw); go_simp) rfl (by simp only [List.setIfInBounds_toArray, List.set_cons_zero, List.set_cons_succ]; try rfl) ?_
      refine takeH (i := 3) (d := 59) (v := .slice (some ⟨G, t, none⟩) (u - t) (n - t)) (listed' := #[true, true, true, true, false, false, false, false, false, false]) rfl (by kernel_rfl) (by kernel_rfl) (by kernel_rfl) rfl rfl hHeld (by intro w hSw; (try dsimp only at hSw); go_simp) rfl (by simp only [List.setIfInBounds_toArray, List.set_cons_zero, List.set_cons_succ]; try rfl) ?_
      refine takeH (i := 4) (d := 60) (v := .int .i64 a) (listed' := #[true, true, true, true, true, false, false, false, false, false]) rfl (by kernel_rfl) (by kernel_rfl) (by kernel_rfl) rfl rfl hHeld (by intro w hSw; (try dsimp only at hSw); go_simp) rfl (by simp only [List.setIfInBounds_toArray, List.set_cons_zero, List.set_cons_succ]; try rfl) ?_
      refine takeH (i := 5) (d := 61) (v := .int .i64 b) (listed' := #[true, true, true, true, true, true, false, false, false, false]) rfl (by kernel_rfl) (by kernel_rfl) (by kernel_rfl) rfl rfl hHeld (by intro w hSw; (try dsimp only at hSw); go_simp) rfl (by simp only [List.setIfInBounds_toArray, List.set_cons_zero, List.set_cons_succ]; try rfl) ?_
      refine takeH (i := 6) (d := 62) (v := .pointer (some ⟨W1.heap.size, 0, none⟩)) (listed' := #[true, true, true, true, true, true, true, false, false, false]) rfl (by kernel_rfl) (by kernel_rfl) (by kernel_rfl) rfl rfl hHeld (by intro w hSw; (try dsimp only at hSw); go_simp) rfl (by simp only [List.setIfInBounds_toArray, List.set_cons_zero, List.set_cons_succ]; try rfl) ?_
      refine takeH (i := 7) (d := 63) (v := .int .i64 lv) (listed' := #[true, true, true, true, true, true, true, true, false, false]) rfl (by kernel_rfl) (by kernel_rfl) (by kernel_rfl) rfl rfl hHeld (by intro w hSw; (try dsimp only at hSw); go_simp) rfl (by simp only [List.setIfInBounds_toArray, List.set_cons_zero, List.set_cons_succ]; try rfl) ?_
      refine oneH (i := 8) (by kernel_rfl) ?_
      refine callH (i := 8) (d := 64) (v := .int .i64 y) (listed' := #[true, true, true, true, true, true, true, true, true, false]) rfl rfl rfl (by go_simp) (HBT.out _) hHeld rfl (by simp only [List.setIfInBounds_toArray, List.set_cons_zero, List.set_cons_succ]; try rfl) ?_
      refine oneH (i := 9) (by kernel_rfl) ?_
      refine callE (i := 9) (d := 65) (f := 82) (args := #[.slice (some ⟨G, t, none⟩) (u - t) (n - t), .int .i64 y]) (v := .tuple #[]) (listed' := #[true, true, true, true, true, true, true, true, true, true]) rfl rfl rfl (by go_simp) rfl (by simp only [List.setIfInBounds_toArray, List.set_cons_zero, List.set_cons_succ]; try rfl) ?_
      exact HLAST.out _ _ _ _ (by kernel_rfl) HTURN.out
  case done =>
    rintro D ys W hD hys ⟨⟨X, hX, hbX⟩, hkp⟩ hK
    obtain rfl := hX.done hys
    have hnum := HZ.out
    have hszW := hkp.size
    have d4 := (hkp.cell (p := ⟨W3.heap.size, 0, none⟩) (by show W3.heap.size < W6.heap.size; omega) (by show W3.heap.size ≠ G; omega)).trans HC4.out
    have hb2 : Below w.heap.size w (W.putObj D (.deferred none)) := HB6.out.trans ((hkp.below (by omega) (by omega)).trans (still_put (mine := mineN) (B := w.heap.size) (.deferred none) hK rfl (by omega)).below)
    have hblk2 : BlockAt (W.putObj D (.deferred none)) G 39 (M.settle lv f g l) := by
      have hne : G ≠ D := by omega
      exact (World.putObj_heap_other hne).trans hbX
    have HB2 := Lib.hid hb2
    have HBK := Lib.hid hblk2
    have HK := Lib.hid hK
    clear hX hbX hkp hD hys hb2 hblk2 hK hnum hszW
    gi_wp2_with fail
    refine ⟨by simp, .inl ⟨_, _, rfl, run_takeDeferred HK.out, ?_⟩⟩
    refine ⟨_, results_tmp2 rfl _ _ _, HB2.out, fun _ => ⟨_, rfl, ?_⟩, fun h => absurd HOK.out h⟩
    rw [M.settle_len, HN.out]
    exact HBK.out.own (by rw [M.settle_len]; exact HN.out) (by unfold maxLen; omega) (by have := HZ.out; omega)
  case stop =>
    rintro D c pre W _ _ h _
    exact h.elim
theorem csettle_any (A : Option Addr) (ca n : Nat) (l : List Int) (lv f g : Int) (w : World) (hr : RdS .i64 w w.heap.size A l) (hn : l.length = n) (hl : n * 8 ≤ 140737488351232) (_hca : n ≤ ca) :
    Calls Tryz.prog 43 #[.slice A n ca, .agg #[.int .i64 lv, .int .i64 f, .int .i64 g]] w (RowOr 39 (M.setOk lv f g) (M.settle lv f g l) w) := by
  by_cases h : M.setOk lv f g
  · exact csettle_ok A ca n l lv f g w hr hn hl h
  · exact csettle_no A ca n _ lv f g w h
end Go.Proofs.YtjlfgojblimobaaGreat.S12
end
