/- The contract of package explicit's Levels. Condition: the slice reads as a list of classes, at most a thousand long. -/
import Derived.Test.YtjlfgojblimobaaGreatA09
import Derived.RegionTactic
import Derived.Deep.RegionHeld3
section
namespace Go.Proofs.YtjlfgojblimobaaGreat
open Go.RowKit

set_option maxHeartbeats 2000000 in
theorem clev_low (A : Option Addr) (ca n : Nat) (l : List Int) (base : Int) (w : World) (hb1 : base < -1) :
    Calls Tryz.prog 19 #[.slice A n ca, .int .i64 base] w (LevOut (M.levels l base) w) := by
  have HE := Lib.hid (show M.levels l base = none by unfold M.levels; rw [if_pos (.inl hb1)])
  go_enter Tryz.func19, Tryz.ntmps19
  go_wp2_with fail
  go_returns
  rw [HE.out]
  exact ⟨rfl, Below.refl _ _⟩
structure MadeTwo (w W : World) (ga gb n : Nat) : Prop where
  below : Below w.heap.size w W
  ra : W.ownsRow w.heap.size 3 1 (.slice (some ⟨ga, 0, none⟩) n n) n ((List.replicate n (0 : Int)).map (Value.int .i64))
  rb : W.ownsRow w.heap.size 39 1 (.slice (some ⟨gb, 0, none⟩) n n) n ((List.replicate n (0 : Int)).map (Value.int .i64))
  ne : ga ≠ gb
theorem rep_cells1 (n : Nat) : (madeCells #[Value.int IntKind.i64 0] n).toList = (List.replicate n (0 : Int)).map (Value.int .i64) := by
  rw [List.map_replicate]
  exact toList_madeCells_one _ _
theorem made_ab (w : World) (n : Nat) (h : n ≤ 1000) : MadeTwo w ((w.alloc (.cells (madeCells #[.int .i64 0] n) 3)).alloc (.cells (madeCells #[.int .i64 0] n) 39)).drew w.heap.size (w.heap.size + 1) n := by
  obtain ⟨W, hW⟩ : ∃ W, w.alloc (.cells (madeCells #[.int .i64 0] n) 3) = W := ⟨_, rfl⟩
  have hs : W.heap.size = w.heap.size + 1 := by rw [← hW]; simp
  have h1 : W.ownsRow w.heap.size 3 1 (.slice (some ⟨w.heap.size, 0, none⟩) n n) n ((List.replicate n (0 : Int)).map (Value.int .i64)) := by
    rw [← hW, ← rep_cells1]; exact World.ownsRow_lit w _ n (Nat.le_refl _) (by unfold maxLen; omega) (by simp [madeCells])
  have h2 := World.ownsRow_lit (base := w.heap.size) (e := 39) (size := 1) W (madeCells #[.int .i64 0] n) n (by omega) (by unfold maxLen; omega) (by simp [madeCells])
  have hb : Below w.heap.size w W := by rw [← hW]; exact (Below.refl _ _).alloc (Nat.le_refl _) _
  rw [hW]
  rw [hs, rep_cells1] at h2
  exact ⟨(hb.alloc (by omega) _).drew, (h1.alloc _).drew, h2.drew, by omega⟩
theorem made_ba (w : World) (n : Nat) (h : n ≤ 1000) : MadeTwo w ((w.alloc (.cells (madeCells #[.int .i64 0] n) 39)).alloc (.cells (madeCells #[.int .i64 0] n) 3)).drew (w.heap.size + 1) w.heap.size n := by
  obtain ⟨W, hW⟩ : ∃ W, w.alloc (.cells (madeCells #[.int .i64 0] n) 39) = W := ⟨_, rfl⟩
  have hs : W.heap.size = w.heap.size + 1 := by rw [← hW]; simp
  have h1 : W.ownsRow w.heap.size 39 1 (.slice (some ⟨w.heap.size, 0, none⟩) n n) n ((List.replicate n (0 : Int)).map (Value.int .i64)) := by
    rw [← hW, ← rep_cells1]; exact World.ownsRow_lit w _ n (Nat.le_refl _) (by unfold maxLen; omega) (by simp [madeCells])
  have h2 := World.ownsRow_lit (base := w.heap.size) (e := 3) (size := 1) W (madeCells #[.int .i64 0] n) n (by omega) (by unfold maxLen; omega) (by simp [madeCells])
  have hb : Below w.heap.size w W := by rw [← hW]; exact (Below.refl _ _).alloc (Nat.le_refl _) _
  rw [hW]
  rw [hs, rep_cells1] at h2
  exact ⟨(hb.alloc (by omega) _).drew, h2.drew, (h1.alloc _).drew, by omega⟩
set_option maxRecDepth 8000 in
set_option maxHeartbeats 16000000 in
theorem clev_pos (A : Option Addr) (ca n : Nat) (l : List Int) (base : Int) (w : World) (hr : RdS .i64 w w.heap.size A l) (hn : l.length = n) (hl : n ≤ 1000) (hb3 : 0 ≤ base) :
    Calls Tryz.prog 19 #[.slice A n ca, .int .i64 base] w (LevOut (M.levels l base) w) := by
  obtain ⟨i0, hi, hz0, hz1, hz2⟩ := info_parts Tryz.infoInt
  obtain ⟨i1, hj, hy0, hy1, hy2⟩ := info_parts Tryz.infoCls
  have hmkA := fun W : World => run_make (P := Tryz.prog) W 25 3 i0 (.int .i64 0) Tryz.underlying25 hi hz0 .i64 .i64 n n (by omega) (Int.le_refl _) (by rw [hz2]; omega) (by omega)
  rw [Int.toNat_natCast, hz1] at hmkA
  have hmkB := fun W : World => run_make (P := Tryz.prog) W 22 39 i1 (.int .i64 0) Tryz.underlying22 hj hy0 .i64 .i64 n n (by omega) (Int.le_refl _) (by rw [hy2]; omega) (by omega)
  rw [Int.toNat_natCast, hy1] at hmkB
  have HR := Lib.hid hr
  have HN := Lib.hid hn
  have hl1 : (n : Int) ≤ 1000 := by omega
  clear hr hn hz0 hz1 hz2 hi hj hy0 hy1 hy2
  by_cases hb2 : 1 < base
  · have HE := Lib.hid (show M.levels l base = none by unfold M.levels; rw [if_pos (.inr hb2)])
    go_enter Tryz.func19, Tryz.ntmps19
    go_wp2_with fail
    go_returns
    rw [HE.out]
    exact ⟨rfl, Below.refl _ _⟩
  have HE := Lib.hid (show M.levels l base = some (M.run base (M.fresh base) l) by unfold M.levels; rw [if_neg (by omega), if_neg (by omega)])
  obtain ⟨b, hb⟩ : ∃ b, base = b := ⟨_, rfl⟩
  subst hb
  have hb4 : 0 ≤ base := by omega
  have hb5 : base ≤ 125 := by omega
  go_enter Tryz.func19, Tryz.ntmps19
  go_wp2_with fail
  go_region
  · obtain ⟨W5, hW5⟩ : ∃ W, ((w.alloc (.cells (madeCells #[.int .i64 0] n) 3)).alloc (.cells (madeCells #[.int .i64 0] n) 39)).drew = W := ⟨_, rfl⟩
    have hM5 : MadeTwo w W5 w.heap.size (w.heap.size + 1) n := by rw [← hW5]; exact made_ab w n hl
    rw [hW5]
    have H5 := Lib.hid hM5
    have HBN := Lib.hid (begun_any base W5)
    have hga2 := World.ownsRow.lt hM5.ra w.heap.size rfl
    have hgb2 := World.ownsRow.lt hM5.rb (w.heap.size + 1) rfl
    have hne := hM5.ne
    have hBS := hM5.below.size
    clear hM5 hW5 hmkA hmkB
    go_wp2_with fail
    refine HBN.out.mono ?_
    rintro r w6 ⟨mb, g, cap, rfl, hwk, hb6⟩
    have HW6 := Lib.hid hwk
    have HB6 := Lib.hid hb6
    have hmb := hwk.lt
    have hmb2 := hwk.lo
    have hg6 := hwk.glo
    have hgm := hwk.ne
    have hs6 := hb6.size
    clear hwk hb6
    have HSP := Lib.hid (steps_any w6)
    go_wp2_with fail
    refine HSP.out.mono ?_
    rintro r w7 ⟨rfl, hsp, hb7⟩
    have HS7 := Lib.hid hsp
    have HB7 := Lib.hid hb7
    have hs7 := (Array.getElem?_eq_some_iff.1 (show w7.heap[w6.heap.size]? = _ from hsp)).1
    have HR7 := Lib.hid (((HR.out.below ((H5.out.below.trans (HB6.out.mono hBS)).trans (hb7.mono (by omega))))).more (show w.heap.size ≤ w7.heap.size by have := hb7.size; omega))
    clear hsp hb7
    have HIS := Lib.hid (isolates_any A ca n l w7 HR7.out HN.out hl)
    obtain ⟨db, hdb⟩ : ∃ db, w6.heap.size = db := ⟨_, rfl⟩
    rw [hdb] at HS7 hs7 hmb hg6 hs6
    have Hdb := Lib.hid hdb
    rw [hdb]
    clear hdb
    go_wp2_with fail
    refine HIS.out.mono ?_
    rintro r w8 ⟨G, all, rfl, hra, hfin, hb8⟩
    have HRA := Lib.hid hra
    have HF := Lib.hid hfin
    have HB8 := Lib.hid hb8
    have hG := World.ownsRow.lt hra G rfl
    have hs8 := hb8.size
    clear hra hfin hb8
    have HFive := Lib.hid (show Five w8.heap.size w.heap.size (w.heap.size + 1) db G mb by constructor <;> omega)
    have HB8' := Lib.hid (((H5.out.below.trans (HB6.out.mono hBS)).trans (HB7.out.mono (by have := Hdb.out; omega))).trans (HB8.out.mono (by omega)))
    have H0 := Lib.hid (show LcRel base l w.heap.size w w8 w8 w.heap.size (w.heap.size + 1) db G n 0 [] mb g cap (M.fresh base) from
      ⟨rfl, rfl, M.fresh_fit hb5 0, (fun x hx => by obtain rfl := List.mem_singleton.1 hx; exact .inl rfl),
        ⟨HB8'.out, own_below (own_below (own_below H5.out.ra HB6.out) (HB7.out)) HB8.out, own_below (own_below (own_below H5.out.rb HB6.out) (HB7.out)) HB8.out,
          by
            have q := (HW6.out.below HB7.out).below HB8.out
            obtain ⟨c0, c1, c2, c3, c4, f, row, lo, lt, ne⟩ := q
            exact ⟨c0, c1, c2, c3, c4, f, own_base row hBS, by omega, lt, ne⟩, rfl, rfl, by omega, by omega, by omega, by omega, Nat.le_refl _⟩⟩)
    have HD := Lib.hid (show SomeSteps w8 db 11 by unfold SomeSteps; rw [HB8.out.block db (by omega)]; exact HS7.out)
    clear hga2 hgb2 hne hmb hmb2 hg6 hgm hs6 hs7 hG hs8 hBS
    go_wp2_with fail
    go_loopw [38] (fun v wr => ∃ k ps g cap m, k ≤ n ∧ v = .int .i64 (k : Nat) ∧ LcRel base l w.heap.size w w8 wr w.heap.size (w.heap.size + 1) db G n k ps mb g cap m) (fun v _ => n - (intOf v).toNat)
    case atStart => exact ⟨0, [], g, cap, _, Nat.zero_le _, rfl, H0.out⟩
    case round =>
      obtain ⟨k, ps, g, cap, m, hk, rfl, hrel⟩ := hrel
      have HL := Lib.hid hrel
      have k0 : (0 : Int) ≤ (k : Int) := by omega
      by_cases hlt : k < n
      · obtain ⟨ad, x, rfl, hcc, hx, had⟩ := rd_at HR.out hrel.at_.below (by rw [HN.out]; exact hlt : k < l.length)
        have k1 : (k : Int) < (n : Int) := by omega
        obtain ⟨⟨e, f⟩, hox, hfx⟩ := HF.out k hlt
        obtain ⟨q0, q1⟩ := isoCells_at hox
        have c0 : wr.cell? ⟨G, k * 2, none⟩ = some (.int .i64 e) := (World.cell?_of_block hrel.at_.sG).trans ((HRA.out.cellAt _ (by omega)).trans q0)
        have c1 : wr.cell? ⟨G, k * 2 + 1, none⟩ = some (.int .i64 f) := (World.cell?_of_block hrel.at_.sG).trans ((HRA.out.cellAt _ (by omega)).trans q1)
        have HFX := Lib.hid hfx
        have HX := Lib.hid hx
        obtain ⟨W1, hW1⟩ : ∃ W, wr.alloc (.cells #[.int .i64 e, .int .i64 f] 77) = W := ⟨_, rfl⟩
        have hb1 : Below wr.heap.size wr W1 := by rw [← hW1]; exact (Below.refl _ _).alloc (Nat.le_refl _) _
        have d0 : W1.cell? (ad.add k) = some (.int .i64 x) := (hb1.cell (by rw [addr_block]; have := hrel.at_.le; omega)).trans hcc
        have d1 : W1.cell? ⟨wr.heap.size, 1, none⟩ = some (.int .i64 f) := by rw [← hW1]; simp [go_sem]
        have HL1 := Lib.hid (hrel.at_.later HFive.out hb1)
        obtain ⟨c, hc⟩ : ∃ c, M.known x = c := ⟨_, rfl⟩
        have KN : ∀ W, Hid (Calls Tryz.prog 37 #[.int .i64 x] W fun r w' => r = .returned (.int .i64 c) ∧ W = w') := fun W => Lib.hid (by have q := counted_any x W; rw [hc] at q; exact q)
        have HC := Lib.hid hc
        clear hrel hx hox hfx q0 q1 hc hb1 hcc had
        go_wp2_with fail
        have nn0 := World.new_ne W1 _ d0
        have nn1 := World.new_ne W1 _ d1
        go_region_held3 (fun w' => w'.cell? (ad.add k) = some (.int .i64 x) ∧ w'.cell? ⟨wr.heap.size, 1, none⟩ = some (.int .i64 f)) (go_keep) ((refine (KN _).out.mono ?_; rintro r wx ⟨rfl, rfl⟩))
        all_goals
          obtain ⟨W2, hW2⟩ : ∃ W, (W1.alloc (.cells #[.int .i64 c, .int .i64 f] 80)).drew = W := ⟨_, rfl⟩
          have hb2 : Below W1.heap.size W1 W2 := by rw [← hW2]; exact ((Below.refl _ _).alloc (Nat.le_refl _) _).drew
          have y0 : W2.cell? ⟨W1.heap.size, 0, none⟩ = some (.int .i64 c) := by rw [← hW2]; simp [go_sem]
          have y1 : W2.cell? ⟨W1.heap.size, 1, none⟩ = some (.int .i64 f) := by rw [← hW2]; simp [go_sem]
          have HL2 := Lib.hid (HL1.out.later HFive.out hb2)
          have hd2 : SomeSteps W2 db 11 := HL2.out.sd.trans HD.out
          rw [hW2]
          obtain ⟨y, hy⟩ : ∃ y, m.lev base c = y := ⟨_, rfl⟩
          obtain ⟨z, hz⟩ : ∃ z, m.cls c = z := ⟨_, rfl⟩
          obtain ⟨m3, hm3⟩ : ∃ m3, m.turn base (M.oddOf c f) c = m3 := ⟨_, rfl⟩
          have HSTEP := fun fid (hf : M.fnOf c fid) => Lib.hid (step_any w.heap.size mb g cap k base m c f fid hf W2 HL2.out.walk HL.out.fit HL.out.ov (by omega) hb4)
          rw [hy, hz, hm3] at HSTEP
          have HY := Lib.hid hy
          have HZ := Lib.hid hz
          have HM3 := Lib.hid hm3
          clear hb2 hy hz hm3 hW1 hW2 d0 d1 nn0 nn1 c0 c1
          by_cases hstep : M.isStep c
          · have hlook := look_step hd2 hstep
            have HFN := Lib.hid (show M.fnOf c (M.stepF c) from .inl ⟨hstep, rfl⟩)
            obtain ⟨fid, hfid⟩ : ∃ fid, M.stepF c = fid := ⟨_, rfl⟩
            rw [hfid] at hlook HFN
            have hent := fun args w => step_enter HFN.out args w
            clear hfid hstep hd2
            go_wp2_with fail
            refine (HSTEP _ HFN.out).out.mono ?_
            rintro r w3 ⟨rfl, g3, cap3, hw3, hs3⟩
            have HL3 := Lib.hid (HL2.out.turn HFive.out hw3 hs3)
            obtain ⟨v0, hv0⟩ : ∃ v, (ps.map Prod.fst ++ List.replicate (n - k) 0)[k]? = some v := ⟨_, List.getElem?_eq_getElem (by simp [HL.out.len]; omega)⟩
            obtain ⟨v1, hv1⟩ : ∃ v, (ps.map Prod.snd ++ List.replicate (n - k) 0)[k]? = some v := ⟨_, List.getElem?_eq_getElem (by simp [HL.out.len]; omega)⟩
            have s0 : w3.cell? ⟨w.heap.size, k, none⟩ = some (.int .i64 v0) := (World.ownsRow.cellAt (size := 1) HL3.out.ra k (by omega)).trans (by rw [List.getElem?_map, hv0]; rfl)
            have s1 : w3.cell? ⟨(w.heap.size + 1), k, none⟩ = some (.int .i64 v1) := (World.ownsRow.cellAt (size := 1) HL3.out.rb k (by omega)).trans (by rw [List.getElem?_map, hv1]; rfl)
            have t0 := HL3.out.ra.frozenAt k
            have t1 := HL3.out.rb.frozenAt k
            have HL4 := Lib.hid ((HL3.out.storeA HFive.out k y).storeB HFive.out k z)
            clear hv0 hv1 hw3 hs3
            go_wp2_with fail
            go_roundw
            case rel => exact ⟨k + 1, _, g3, cap3, _, by omega, by go_num, HL.out.step HX.out HC.out hb5 HY.out HZ.out (fun hbg => by rw [← HC.out] at hbg ⊢; exact M.dir_told HX.out HFX.out hbg) HM3.out hlt HL4.out⟩
            case measure => simp [intOf]; omega
          · have hlook := look_none hd2 hstep
            have HFN := Lib.hid (show M.fnOf c 38 from .inr ⟨hstep, rfl⟩)
            clear hstep hd2
            go_wp2_with fail
            refine (HSTEP _ HFN.out).out.mono ?_
            rintro r w3 ⟨rfl, g3, cap3, hw3, hs3⟩
            have HL3 := Lib.hid (HL2.out.turn HFive.out hw3 hs3)
            obtain ⟨v0, hv0⟩ : ∃ v, (ps.map Prod.fst ++ List.replicate (n - k) 0)[k]? = some v := ⟨_, List.getElem?_eq_getElem (by simp [HL.out.len]; omega)⟩
            obtain ⟨v1, hv1⟩ : ∃ v, (ps.map Prod.snd ++ List.replicate (n - k) 0)[k]? = some v := ⟨_, List.getElem?_eq_getElem (by simp [HL.out.len]; omega)⟩
            have s0 : w3.cell? ⟨w.heap.size, k, none⟩ = some (.int .i64 v0) := (World.ownsRow.cellAt (size := 1) HL3.out.ra k (by omega)).trans (by rw [List.getElem?_map, hv0]; rfl)
            have s1 : w3.cell? ⟨(w.heap.size + 1), k, none⟩ = some (.int .i64 v1) := (World.ownsRow.cellAt (size := 1) HL3.out.rb k (by omega)).trans (by rw [List.getElem?_map, hv1]; rfl)
            have t0 := HL3.out.ra.frozenAt k
            have t1 := HL3.out.rb.frozenAt k
            have HL4 := Lib.hid ((HL3.out.storeA HFive.out k y).storeB HFive.out k z)
            clear hv0 hv1 hw3 hs3
            go_wp2_with fail
            go_roundw
            case rel => exact ⟨k + 1, _, g3, cap3, _, by omega, by go_num, HL.out.step HX.out HC.out hb5 HY.out HZ.out (fun hbg => by rw [← HC.out] at hbg ⊢; exact M.dir_told HX.out HFX.out hbg) HM3.out hlt HL4.out⟩
            case measure => simp [intOf]; omega
      · obtain rfl : k = n := by omega
        clear hrel
        go_wp2_with fail
        go_returns
        rw [HE.out]
        have q1 := HL.out.run
        have q2 := HL.out.len
        have q3 := HL.out.at_.ra
        have q4 := HL.out.at_.rb
        rw [List.drop_eq_nil_of_le (by rw [HN.out]; exact Nat.le_refl _)] at q1
        rw [Nat.sub_self, List.replicate_zero, List.append_nil] at q3 q4
        have q1' : M.run base (M.fresh base) l = ps := by rw [q1]; exact List.append_nil ps
        rw [q1']
        refine ⟨_, _, rfl, ?_, ?_, HL.out.at_.below⟩
        · rw [q2]; exact q3
        · rw [q2]; exact q4
  · obtain ⟨W5, hW5⟩ : ∃ W, ((w.alloc (.cells (madeCells #[.int .i64 0] n) 39)).alloc (.cells (madeCells #[.int .i64 0] n) 3)).drew = W := ⟨_, rfl⟩
    have hM5 : MadeTwo w W5 (w.heap.size + 1) w.heap.size n := by rw [← hW5]; exact made_ba w n hl
    rw [hW5]
    have H5 := Lib.hid hM5
    have HBN := Lib.hid (begun_any base W5)
    have hga2 := World.ownsRow.lt hM5.ra (w.heap.size + 1) rfl
    have hgb2 := World.ownsRow.lt hM5.rb w.heap.size rfl
    have hne := hM5.ne
    have hBS := hM5.below.size
    clear hM5 hW5 hmkA hmkB
    go_wp2_with fail
    refine HBN.out.mono ?_
    rintro r w6 ⟨mb, g, cap, rfl, hwk, hb6⟩
    have HW6 := Lib.hid hwk
    have HB6 := Lib.hid hb6
    have hmb := hwk.lt
    have hmb2 := hwk.lo
    have hg6 := hwk.glo
    have hgm := hwk.ne
    have hs6 := hb6.size
    clear hwk hb6
    have HSP := Lib.hid (steps_any w6)
    go_wp2_with fail
    refine HSP.out.mono ?_
    rintro r w7 ⟨rfl, hsp, hb7⟩
    have HS7 := Lib.hid hsp
    have HB7 := Lib.hid hb7
    have hs7 := (Array.getElem?_eq_some_iff.1 (show w7.heap[w6.heap.size]? = _ from hsp)).1
    have HR7 := Lib.hid (((HR.out.below ((H5.out.below.trans (HB6.out.mono hBS)).trans (hb7.mono (by omega))))).more (show w.heap.size ≤ w7.heap.size by have := hb7.size; omega))
    clear hsp hb7
    have HIS := Lib.hid (isolates_any A ca n l w7 HR7.out HN.out hl)
    obtain ⟨db, hdb⟩ : ∃ db, w6.heap.size = db := ⟨_, rfl⟩
    rw [hdb] at HS7 hs7 hmb hg6 hs6
    have Hdb := Lib.hid hdb
    rw [hdb]
    clear hdb
    go_wp2_with fail
    refine HIS.out.mono ?_
    rintro r w8 ⟨G, all, rfl, hra, hfin, hb8⟩
    have HRA := Lib.hid hra
    have HF := Lib.hid hfin
    have HB8 := Lib.hid hb8
    have hG := World.ownsRow.lt hra G rfl
    have hs8 := hb8.size
    clear hra hfin hb8
    have HFive := Lib.hid (show Five w8.heap.size (w.heap.size + 1) w.heap.size db G mb by constructor <;> omega)
    have HB8' := Lib.hid (((H5.out.below.trans (HB6.out.mono hBS)).trans (HB7.out.mono (by have := Hdb.out; omega))).trans (HB8.out.mono (by omega)))
    have H0 := Lib.hid (show LcRel base l w.heap.size w w8 w8 (w.heap.size + 1) w.heap.size db G n 0 [] mb g cap (M.fresh base) from
      ⟨rfl, rfl, M.fresh_fit hb5 0, (fun x hx => by obtain rfl := List.mem_singleton.1 hx; exact .inl rfl),
        ⟨HB8'.out, own_below (own_below (own_below H5.out.ra HB6.out) (HB7.out)) HB8.out, own_below (own_below (own_below H5.out.rb HB6.out) (HB7.out)) HB8.out,
          by
            have q := (HW6.out.below HB7.out).below HB8.out
            obtain ⟨c0, c1, c2, c3, c4, f, row, lo, lt, ne⟩ := q
            exact ⟨c0, c1, c2, c3, c4, f, own_base row hBS, by omega, lt, ne⟩, rfl, rfl, by omega, by omega, by omega, by omega, Nat.le_refl _⟩⟩)
    have HD := Lib.hid (show SomeSteps w8 db 11 by unfold SomeSteps; rw [HB8.out.block db (by omega)]; exact HS7.out)
    clear hga2 hgb2 hne hmb hmb2 hg6 hgm hs6 hs7 hG hs8 hBS
    go_wp2_with fail
    go_loopw [38] (fun v wr => ∃ k ps g cap m, k ≤ n ∧ v = .int .i64 (k : Nat) ∧ LcRel base l w.heap.size w w8 wr (w.heap.size + 1) w.heap.size db G n k ps mb g cap m) (fun v _ => n - (intOf v).toNat)
    case atStart => exact ⟨0, [], g, cap, _, Nat.zero_le _, rfl, H0.out⟩
    case round =>
      obtain ⟨k, ps, g, cap, m, hk, rfl, hrel⟩ := hrel
      have HL := Lib.hid hrel
      have k0 : (0 : Int) ≤ (k : Int) := by omega
      by_cases hlt : k < n
      · obtain ⟨ad, x, rfl, hcc, hx, had⟩ := rd_at HR.out hrel.at_.below (by rw [HN.out]; exact hlt : k < l.length)
        have k1 : (k : Int) < (n : Int) := by omega
        obtain ⟨⟨e, f⟩, hox, hfx⟩ := HF.out k hlt
        obtain ⟨q0, q1⟩ := isoCells_at hox
        have c0 : wr.cell? ⟨G, k * 2, none⟩ = some (.int .i64 e) := (World.cell?_of_block hrel.at_.sG).trans ((HRA.out.cellAt _ (by omega)).trans q0)
        have c1 : wr.cell? ⟨G, k * 2 + 1, none⟩ = some (.int .i64 f) := (World.cell?_of_block hrel.at_.sG).trans ((HRA.out.cellAt _ (by omega)).trans q1)
        have HFX := Lib.hid hfx
        have HX := Lib.hid hx
        obtain ⟨W1, hW1⟩ : ∃ W, wr.alloc (.cells #[.int .i64 e, .int .i64 f] 77) = W := ⟨_, rfl⟩
        have hb1 : Below wr.heap.size wr W1 := by rw [← hW1]; exact (Below.refl _ _).alloc (Nat.le_refl _) _
        have d0 : W1.cell? (ad.add k) = some (.int .i64 x) := (hb1.cell (by rw [addr_block]; have := hrel.at_.le; omega)).trans hcc
        have d1 : W1.cell? ⟨wr.heap.size, 1, none⟩ = some (.int .i64 f) := by rw [← hW1]; simp [go_sem]
        have HL1 := Lib.hid (hrel.at_.later HFive.out hb1)
        obtain ⟨c, hc⟩ : ∃ c, M.known x = c := ⟨_, rfl⟩
        have KN : ∀ W, Hid (Calls Tryz.prog 37 #[.int .i64 x] W fun r w' => r = .returned (.int .i64 c) ∧ W = w') := fun W => Lib.hid (by have q := counted_any x W; rw [hc] at q; exact q)
        have HC := Lib.hid hc
        clear hrel hx hox hfx q0 q1 hc hb1 hcc had
        go_wp2_with fail
        have nn0 := World.new_ne W1 _ d0
        have nn1 := World.new_ne W1 _ d1
        go_region_held3 (fun w' => w'.cell? (ad.add k) = some (.int .i64 x) ∧ w'.cell? ⟨wr.heap.size, 1, none⟩ = some (.int .i64 f)) (go_keep) ((refine (KN _).out.mono ?_; rintro r wx ⟨rfl, rfl⟩))
        all_goals
          obtain ⟨W2, hW2⟩ : ∃ W, (W1.alloc (.cells #[.int .i64 c, .int .i64 f] 80)).drew = W := ⟨_, rfl⟩
          have hb2 : Below W1.heap.size W1 W2 := by rw [← hW2]; exact ((Below.refl _ _).alloc (Nat.le_refl _) _).drew
          have y0 : W2.cell? ⟨W1.heap.size, 0, none⟩ = some (.int .i64 c) := by rw [← hW2]; simp [go_sem]
          have y1 : W2.cell? ⟨W1.heap.size, 1, none⟩ = some (.int .i64 f) := by rw [← hW2]; simp [go_sem]
          have HL2 := Lib.hid (HL1.out.later HFive.out hb2)
          have hd2 : SomeSteps W2 db 11 := HL2.out.sd.trans HD.out
          rw [hW2]
          obtain ⟨y, hy⟩ : ∃ y, m.lev base c = y := ⟨_, rfl⟩
          obtain ⟨z, hz⟩ : ∃ z, m.cls c = z := ⟨_, rfl⟩
          obtain ⟨m3, hm3⟩ : ∃ m3, m.turn base (M.oddOf c f) c = m3 := ⟨_, rfl⟩
          have HSTEP := fun fid (hf : M.fnOf c fid) => Lib.hid (step_any w.heap.size mb g cap k base m c f fid hf W2 HL2.out.walk HL.out.fit HL.out.ov (by omega) hb4)
          rw [hy, hz, hm3] at HSTEP
          have HY := Lib.hid hy
          have HZ := Lib.hid hz
          have HM3 := Lib.hid hm3
          clear hb2 hy hz hm3 hW1 hW2 d0 d1 nn0 nn1 c0 c1
          by_cases hstep : M.isStep c
          · have hlook := look_step hd2 hstep
            have HFN := Lib.hid (show M.fnOf c (M.stepF c) from .inl ⟨hstep, rfl⟩)
            obtain ⟨fid, hfid⟩ : ∃ fid, M.stepF c = fid := ⟨_, rfl⟩
            rw [hfid] at hlook HFN
            have hent := fun args w => step_enter HFN.out args w
            clear hfid hstep hd2
            go_wp2_with fail
            refine (HSTEP _ HFN.out).out.mono ?_
            rintro r w3 ⟨rfl, g3, cap3, hw3, hs3⟩
            have HL3 := Lib.hid (HL2.out.turn HFive.out hw3 hs3)
            obtain ⟨v0, hv0⟩ : ∃ v, (ps.map Prod.fst ++ List.replicate (n - k) 0)[k]? = some v := ⟨_, List.getElem?_eq_getElem (by simp [HL.out.len]; omega)⟩
            obtain ⟨v1, hv1⟩ : ∃ v, (ps.map Prod.snd ++ List.replicate (n - k) 0)[k]? = some v := ⟨_, List.getElem?_eq_getElem (by simp [HL.out.len]; omega)⟩
            have s0 : w3.cell? ⟨(w.heap.size + 1), k, none⟩ = some (.int .i64 v0) := (World.ownsRow.cellAt (size := 1) HL3.out.ra k (by omega)).trans (by rw [List.getElem?_map, hv0]; rfl)
            have s1 : w3.cell? ⟨w.heap.size, k, none⟩ = some (.int .i64 v1) := (World.ownsRow.cellAt (size := 1) HL3.out.rb k (by omega)).trans (by rw [List.getElem?_map, hv1]; rfl)
            have t0 := HL3.out.ra.frozenAt k
            have t1 := HL3.out.rb.frozenAt k
            have HL4 := Lib.hid ((HL3.out.storeA HFive.out k y).storeB HFive.out k z)
            clear hv0 hv1 hw3 hs3
            go_wp2_with fail
            go_roundw
            case rel => exact ⟨k + 1, _, g3, cap3, _, by omega, by go_num, HL.out.step HX.out HC.out hb5 HY.out HZ.out (fun hbg => by rw [← HC.out] at hbg ⊢; exact M.dir_told HX.out HFX.out hbg) HM3.out hlt HL4.out⟩
            case measure => simp [intOf]; omega
          · have hlook := look_none hd2 hstep
            have HFN := Lib.hid (show M.fnOf c 38 from .inr ⟨hstep, rfl⟩)
            clear hstep hd2
            go_wp2_with fail
            refine (HSTEP _ HFN.out).out.mono ?_
            rintro r w3 ⟨rfl, g3, cap3, hw3, hs3⟩
            have HL3 := Lib.hid (HL2.out.turn HFive.out hw3 hs3)
            obtain ⟨v0, hv0⟩ : ∃ v, (ps.map Prod.fst ++ List.replicate (n - k) 0)[k]? = some v := ⟨_, List.getElem?_eq_getElem (by simp [HL.out.len]; omega)⟩
            obtain ⟨v1, hv1⟩ : ∃ v, (ps.map Prod.snd ++ List.replicate (n - k) 0)[k]? = some v := ⟨_, List.getElem?_eq_getElem (by simp [HL.out.len]; omega)⟩
            have s0 : w3.cell? ⟨(w.heap.size + 1), k, none⟩ = some (.int .i64 v0) := (World.ownsRow.cellAt (size := 1) HL3.out.ra k (by omega)).trans (by rw [List.getElem?_map, hv0]; rfl)
            have s1 : w3.cell? ⟨w.heap.size, k, none⟩ = some (.int .i64 v1) := (World.ownsRow.cellAt (size := 1) HL3.out.rb k (by omega)).trans (by rw [List.getElem?_map, hv1]; rfl)
            have t0 := HL3.out.ra.frozenAt k
            have t1 := HL3.out.rb.frozenAt k
            have HL4 := Lib.hid ((HL3.out.storeA HFive.out k y).storeB HFive.out k z)
            clear hv0 hv1 hw3 hs3
            go_wp2_with fail
            go_roundw
            case rel => exact ⟨k + 1, _, g3, cap3, _, by omega, by go_num, HL.out.step HX.out HC.out hb5 HY.out HZ.out (fun hbg => by rw [← HC.out] at hbg ⊢; exact M.dir_told HX.out HFX.out hbg) HM3.out hlt HL4.out⟩
            case measure => simp [intOf]; omega
      · obtain rfl : k = n := by omega
        clear hrel
        go_wp2_with fail
        go_returns
        rw [HE.out]
        have q1 := HL.out.run
        have q2 := HL.out.len
        have q3 := HL.out.at_.ra
        have q4 := HL.out.at_.rb
        rw [List.drop_eq_nil_of_le (by rw [HN.out]; exact Nat.le_refl _)] at q1
        rw [Nat.sub_self, List.replicate_zero, List.append_nil] at q3 q4
        have q1' : M.run base (M.fresh base) l = ps := by rw [q1]; exact List.append_nil ps
        rw [q1']
        refine ⟨_, _, rfl, ?_, ?_, HL.out.at_.below⟩
        · rw [q2]; exact q3
        · rw [q2]; exact q4
set_option maxRecDepth 8000 in
set_option maxHeartbeats 16000000 in
theorem clev_neg (A : Option Addr) (ca n : Nat) (l : List Int) (base : Int) (w : World) (hr : RdS .i64 w w.heap.size A l) (hn : l.length = n) (hl : n ≤ 1000) (hb3 : base = -1) :
    Calls Tryz.prog 19 #[.slice A n ca, .int .i64 base] w (LevOut (M.levels l base) w) := by
  obtain ⟨i0, hi, hz0, hz1, hz2⟩ := info_parts Tryz.infoInt
  obtain ⟨i1, hj, hy0, hy1, hy2⟩ := info_parts Tryz.infoCls
  have hmkA := fun W : World => run_make (P := Tryz.prog) W 25 3 i0 (.int .i64 0) Tryz.underlying25 hi hz0 .i64 .i64 n n (by omega) (Int.le_refl _) (by rw [hz2]; omega) (by omega)
  rw [Int.toNat_natCast, hz1] at hmkA
  have hmkB := fun W : World => run_make (P := Tryz.prog) W 22 39 i1 (.int .i64 0) Tryz.underlying22 hj hy0 .i64 .i64 n n (by omega) (Int.le_refl _) (by rw [hy2]; omega) (by omega)
  rw [Int.toNat_natCast, hy1] at hmkB
  have HR := Lib.hid hr
  have HN := Lib.hid hn
  have hl1 : (n : Int) ≤ 1000 := by omega
  subst hb3
  have HE := Lib.hid (show M.levels l (-1) = some (M.run (M.strong l) (M.fresh (M.strong l)) l) by unfold M.levels; rw [if_neg (by omega)]; simp)
  have HST := Lib.hid (cstrong_any A ca n l w hr hn hl)
  obtain ⟨b, hb⟩ : ∃ b, M.strong l = b := ⟨_, rfl⟩
  have hb0 : 0 ≤ b ∧ b ≤ 1 := by have := M.strong_01 l.length l; unfold M.strong at hb; omega
  rw [hb] at HE HST
  obtain ⟨hb4, hb6⟩ := hb0
  have hb5 : b ≤ 125 := by omega
  clear hr hn hb hz0 hz1 hz2 hi hj hy0 hy1 hy2
  go_enter Tryz.func19, Tryz.ntmps19
  go_wp2_with fail
  refine HST.out.mono ?_
  rintro r w1 ⟨rfl, rfl⟩
  go_wp2_with fail
  go_region
  · obtain ⟨W5, hW5⟩ : ∃ W, ((w.alloc (.cells (madeCells #[.int .i64 0] n) 3)).alloc (.cells (madeCells #[.int .i64 0] n) 39)).drew = W := ⟨_, rfl⟩
    have hM5 : MadeTwo w W5 w.heap.size (w.heap.size + 1) n := by rw [← hW5]; exact made_ab w n hl
    rw [hW5]
    have H5 := Lib.hid hM5
    have HBN := Lib.hid (begun_any b W5)
    have hga2 := World.ownsRow.lt hM5.ra w.heap.size rfl
    have hgb2 := World.ownsRow.lt hM5.rb (w.heap.size + 1) rfl
    have hne := hM5.ne
    have hBS := hM5.below.size
    clear hM5 hW5 hmkA hmkB
    go_wp2_with fail
    refine HBN.out.mono ?_
    rintro r w6 ⟨mb, g, cap, rfl, hwk, hb6⟩
    have HW6 := Lib.hid hwk
    have HB6 := Lib.hid hb6
    have hmb := hwk.lt
    have hmb2 := hwk.lo
    have hg6 := hwk.glo
    have hgm := hwk.ne
    have hs6 := hb6.size
    clear hwk hb6
    have HSP := Lib.hid (steps_any w6)
    go_wp2_with fail
    refine HSP.out.mono ?_
    rintro r w7 ⟨rfl, hsp, hb7⟩
    have HS7 := Lib.hid hsp
    have HB7 := Lib.hid hb7
    have hs7 := (Array.getElem?_eq_some_iff.1 (show w7.heap[w6.heap.size]? = _ from hsp)).1
    have HR7 := Lib.hid (((HR.out.below ((H5.out.below.trans (HB6.out.mono hBS)).trans (hb7.mono (by omega))))).more (show w.heap.size ≤ w7.heap.size by have := hb7.size; omega))
    clear hsp hb7
    have HIS := Lib.hid (isolates_any A ca n l w7 HR7.out HN.out hl)
    obtain ⟨db, hdb⟩ : ∃ db, w6.heap.size = db := ⟨_, rfl⟩
    rw [hdb] at HS7 hs7 hmb hg6 hs6
    have Hdb := Lib.hid hdb
    rw [hdb]
    clear hdb
    go_wp2_with fail
    refine HIS.out.mono ?_
    rintro r w8 ⟨G, all, rfl, hra, hfin, hb8⟩
    have HRA := Lib.hid hra
    have HF := Lib.hid hfin
    have HB8 := Lib.hid hb8
    have hG := World.ownsRow.lt hra G rfl
    have hs8 := hb8.size
    clear hra hfin hb8
    have HFive := Lib.hid (show Five w8.heap.size w.heap.size (w.heap.size + 1) db G mb by constructor <;> omega)
    have HB8' := Lib.hid (((H5.out.below.trans (HB6.out.mono hBS)).trans (HB7.out.mono (by have := Hdb.out; omega))).trans (HB8.out.mono (by omega)))
    have H0 := Lib.hid (show LcRel b l w.heap.size w w8 w8 w.heap.size (w.heap.size + 1) db G n 0 [] mb g cap (M.fresh b) from
      ⟨rfl, rfl, M.fresh_fit hb5 0, (fun x hx => by obtain rfl := List.mem_singleton.1 hx; exact .inl rfl),
        ⟨HB8'.out, own_below (own_below (own_below H5.out.ra HB6.out) (HB7.out)) HB8.out, own_below (own_below (own_below H5.out.rb HB6.out) (HB7.out)) HB8.out,
          by
            have q := (HW6.out.below HB7.out).below HB8.out
            obtain ⟨c0, c1, c2, c3, c4, f, row, lo, lt, ne⟩ := q
            exact ⟨c0, c1, c2, c3, c4, f, own_base row hBS, by omega, lt, ne⟩, rfl, rfl, by omega, by omega, by omega, by omega, Nat.le_refl _⟩⟩)
    have HD := Lib.hid (show SomeSteps w8 db 11 by unfold SomeSteps; rw [HB8.out.block db (by omega)]; exact HS7.out)
    clear hga2 hgb2 hne hmb hmb2 hg6 hgm hs6 hs7 hG hs8 hBS
    go_wp2_with fail
    go_loopw [38] (fun v wr => ∃ k ps g cap m, k ≤ n ∧ v = .int .i64 (k : Nat) ∧ LcRel b l w.heap.size w w8 wr w.heap.size (w.heap.size + 1) db G n k ps mb g cap m) (fun v _ => n - (intOf v).toNat)
    case atStart => exact ⟨0, [], g, cap, _, Nat.zero_le _, rfl, H0.out⟩
    case round =>
      obtain ⟨k, ps, g, cap, m, hk, rfl, hrel⟩ := hrel
      have HL := Lib.hid hrel
      have k0 : (0 : Int) ≤ (k : Int) := by omega
      by_cases hlt : k < n
      · obtain ⟨ad, x, rfl, hcc, hx, had⟩ := rd_at HR.out hrel.at_.below (by rw [HN.out]; exact hlt : k < l.length)
        have k1 : (k : Int) < (n : Int) := by omega
        obtain ⟨⟨e, f⟩, hox, hfx⟩ := HF.out k hlt
        obtain ⟨q0, q1⟩ := isoCells_at hox
        have c0 : wr.cell? ⟨G, k * 2, none⟩ = some (.int .i64 e) := (World.cell?_of_block hrel.at_.sG).trans ((HRA.out.cellAt _ (by omega)).trans q0)
        have c1 : wr.cell? ⟨G, k * 2 + 1, none⟩ = some (.int .i64 f) := (World.cell?_of_block hrel.at_.sG).trans ((HRA.out.cellAt _ (by omega)).trans q1)
        have HFX := Lib.hid hfx
        have HX := Lib.hid hx
        obtain ⟨W1, hW1⟩ : ∃ W, wr.alloc (.cells #[.int .i64 e, .int .i64 f] 77) = W := ⟨_, rfl⟩
        have hb1 : Below wr.heap.size wr W1 := by rw [← hW1]; exact (Below.refl _ _).alloc (Nat.le_refl _) _
        have d0 : W1.cell? (ad.add k) = some (.int .i64 x) := (hb1.cell (by rw [addr_block]; have := hrel.at_.le; omega)).trans hcc
        have d1 : W1.cell? ⟨wr.heap.size, 1, none⟩ = some (.int .i64 f) := by rw [← hW1]; simp [go_sem]
        have HL1 := Lib.hid (hrel.at_.later HFive.out hb1)
        obtain ⟨c, hc⟩ : ∃ c, M.known x = c := ⟨_, rfl⟩
        have KN : ∀ W, Hid (Calls Tryz.prog 37 #[.int .i64 x] W fun r w' => r = .returned (.int .i64 c) ∧ W = w') := fun W => Lib.hid (by have q := counted_any x W; rw [hc] at q; exact q)
        have HC := Lib.hid hc
        clear hrel hx hox hfx q0 q1 hc hb1 hcc had
        go_wp2_with fail
        have nn0 := World.new_ne W1 _ d0
        have nn1 := World.new_ne W1 _ d1
        go_region_held3 (fun w' => w'.cell? (ad.add k) = some (.int .i64 x) ∧ w'.cell? ⟨wr.heap.size, 1, none⟩ = some (.int .i64 f)) (go_keep) ((refine (KN _).out.mono ?_; rintro r wx ⟨rfl, rfl⟩))
        all_goals
          obtain ⟨W2, hW2⟩ : ∃ W, (W1.alloc (.cells #[.int .i64 c, .int .i64 f] 80)).drew = W := ⟨_, rfl⟩
          have hb2 : Below W1.heap.size W1 W2 := by rw [← hW2]; exact ((Below.refl _ _).alloc (Nat.le_refl _) _).drew
          have y0 : W2.cell? ⟨W1.heap.size, 0, none⟩ = some (.int .i64 c) := by rw [← hW2]; simp [go_sem]
          have y1 : W2.cell? ⟨W1.heap.size, 1, none⟩ = some (.int .i64 f) := by rw [← hW2]; simp [go_sem]
          have HL2 := Lib.hid (HL1.out.later HFive.out hb2)
          have hd2 : SomeSteps W2 db 11 := HL2.out.sd.trans HD.out
          rw [hW2]
          obtain ⟨y, hy⟩ : ∃ y, m.lev b c = y := ⟨_, rfl⟩
          obtain ⟨z, hz⟩ : ∃ z, m.cls c = z := ⟨_, rfl⟩
          obtain ⟨m3, hm3⟩ : ∃ m3, m.turn b (M.oddOf c f) c = m3 := ⟨_, rfl⟩
          have HSTEP := fun fid (hf : M.fnOf c fid) => Lib.hid (step_any w.heap.size mb g cap k b m c f fid hf W2 HL2.out.walk HL.out.fit HL.out.ov (by omega) hb4)
          rw [hy, hz, hm3] at HSTEP
          have HY := Lib.hid hy
          have HZ := Lib.hid hz
          have HM3 := Lib.hid hm3
          clear hb2 hy hz hm3 hW1 hW2 d0 d1 nn0 nn1 c0 c1
          by_cases hstep : M.isStep c
          · have hlook := look_step hd2 hstep
            have HFN := Lib.hid (show M.fnOf c (M.stepF c) from .inl ⟨hstep, rfl⟩)
            obtain ⟨fid, hfid⟩ : ∃ fid, M.stepF c = fid := ⟨_, rfl⟩
            rw [hfid] at hlook HFN
            have hent := fun args w => step_enter HFN.out args w
            clear hfid hstep hd2
            go_wp2_with fail
            refine (HSTEP _ HFN.out).out.mono ?_
            rintro r w3 ⟨rfl, g3, cap3, hw3, hs3⟩
            have HL3 := Lib.hid (HL2.out.turn HFive.out hw3 hs3)
            obtain ⟨v0, hv0⟩ : ∃ v, (ps.map Prod.fst ++ List.replicate (n - k) 0)[k]? = some v := ⟨_, List.getElem?_eq_getElem (by simp [HL.out.len]; omega)⟩
            obtain ⟨v1, hv1⟩ : ∃ v, (ps.map Prod.snd ++ List.replicate (n - k) 0)[k]? = some v := ⟨_, List.getElem?_eq_getElem (by simp [HL.out.len]; omega)⟩
            have s0 : w3.cell? ⟨w.heap.size, k, none⟩ = some (.int .i64 v0) := (World.ownsRow.cellAt (size := 1) HL3.out.ra k (by omega)).trans (by rw [List.getElem?_map, hv0]; rfl)
            have s1 : w3.cell? ⟨(w.heap.size + 1), k, none⟩ = some (.int .i64 v1) := (World.ownsRow.cellAt (size := 1) HL3.out.rb k (by omega)).trans (by rw [List.getElem?_map, hv1]; rfl)
            have t0 := HL3.out.ra.frozenAt k
            have t1 := HL3.out.rb.frozenAt k
            have HL4 := Lib.hid ((HL3.out.storeA HFive.out k y).storeB HFive.out k z)
            clear hv0 hv1 hw3 hs3
            go_wp2_with fail
            go_roundw
            case rel => exact ⟨k + 1, _, g3, cap3, _, by omega, by go_num, HL.out.step HX.out HC.out hb5 HY.out HZ.out (fun hbg => by rw [← HC.out] at hbg ⊢; exact M.dir_told HX.out HFX.out hbg) HM3.out hlt HL4.out⟩
            case measure => simp [intOf]; omega
          · have hlook := look_none hd2 hstep
            have HFN := Lib.hid (show M.fnOf c 38 from .inr ⟨hstep, rfl⟩)
            clear hstep hd2
            go_wp2_with fail
            refine (HSTEP _ HFN.out).out.mono ?_
            rintro r w3 ⟨rfl, g3, cap3, hw3, hs3⟩
            have HL3 := Lib.hid (HL2.out.turn HFive.out hw3 hs3)
            obtain ⟨v0, hv0⟩ : ∃ v, (ps.map Prod.fst ++ List.replicate (n - k) 0)[k]? = some v := ⟨_, List.getElem?_eq_getElem (by simp [HL.out.len]; omega)⟩
            obtain ⟨v1, hv1⟩ : ∃ v, (ps.map Prod.snd ++ List.replicate (n - k) 0)[k]? = some v := ⟨_, List.getElem?_eq_getElem (by simp [HL.out.len]; omega)⟩
            have s0 : w3.cell? ⟨w.heap.size, k, none⟩ = some (.int .i64 v0) := (World.ownsRow.cellAt (size := 1) HL3.out.ra k (by omega)).trans (by rw [List.getElem?_map, hv0]; rfl)
            have s1 : w3.cell? ⟨(w.heap.size + 1), k, none⟩ = some (.int .i64 v1) := (World.ownsRow.cellAt (size := 1) HL3.out.rb k (by omega)).trans (by rw [List.getElem?_map, hv1]; rfl)
            have t0 := HL3.out.ra.frozenAt k
            have t1 := HL3.out.rb.frozenAt k
            have HL4 := Lib.hid ((HL3.out.storeA HFive.out k y).storeB HFive.out k z)
            clear hv0 hv1 hw3 hs3
            go_wp2_with fail
            go_roundw
            case rel => exact ⟨k + 1, _, g3, cap3, _, by omega, by go_num, HL.out.step HX.out HC.out hb5 HY.out HZ.out (fun hbg => by rw [← HC.out] at hbg ⊢; exact M.dir_told HX.out HFX.out hbg) HM3.out hlt HL4.out⟩
            case measure => simp [intOf]; omega
      · obtain rfl : k = n := by omega
        clear hrel
        go_wp2_with fail
        go_returns
        rw [HE.out]
        have q1 := HL.out.run
        have q2 := HL.out.len
        have q3 := HL.out.at_.ra
        have q4 := HL.out.at_.rb
        rw [List.drop_eq_nil_of_le (by rw [HN.out]; exact Nat.le_refl _)] at q1
        rw [Nat.sub_self, List.replicate_zero, List.append_nil] at q3 q4
        have q1' : M.run b (M.fresh b) l = ps := by rw [q1]; exact List.append_nil ps
        rw [q1']
        refine ⟨_, _, rfl, ?_, ?_, HL.out.at_.below⟩
        · rw [q2]; exact q3
        · rw [q2]; exact q4
  · obtain ⟨W5, hW5⟩ : ∃ W, ((w.alloc (.cells (madeCells #[.int .i64 0] n) 39)).alloc (.cells (madeCells #[.int .i64 0] n) 3)).drew = W := ⟨_, rfl⟩
    have hM5 : MadeTwo w W5 (w.heap.size + 1) w.heap.size n := by rw [← hW5]; exact made_ba w n hl
    rw [hW5]
    have H5 := Lib.hid hM5
    have HBN := Lib.hid (begun_any b W5)
    have hga2 := World.ownsRow.lt hM5.ra (w.heap.size + 1) rfl
    have hgb2 := World.ownsRow.lt hM5.rb w.heap.size rfl
    have hne := hM5.ne
    have hBS := hM5.below.size
    clear hM5 hW5 hmkA hmkB
    go_wp2_with fail
    refine HBN.out.mono ?_
    rintro r w6 ⟨mb, g, cap, rfl, hwk, hb6⟩
    have HW6 := Lib.hid hwk
    have HB6 := Lib.hid hb6
    have hmb := hwk.lt
    have hmb2 := hwk.lo
    have hg6 := hwk.glo
    have hgm := hwk.ne
    have hs6 := hb6.size
    clear hwk hb6
    have HSP := Lib.hid (steps_any w6)
    go_wp2_with fail
    refine HSP.out.mono ?_
    rintro r w7 ⟨rfl, hsp, hb7⟩
    have HS7 := Lib.hid hsp
    have HB7 := Lib.hid hb7
    have hs7 := (Array.getElem?_eq_some_iff.1 (show w7.heap[w6.heap.size]? = _ from hsp)).1
    have HR7 := Lib.hid (((HR.out.below ((H5.out.below.trans (HB6.out.mono hBS)).trans (hb7.mono (by omega))))).more (show w.heap.size ≤ w7.heap.size by have := hb7.size; omega))
    clear hsp hb7
    have HIS := Lib.hid (isolates_any A ca n l w7 HR7.out HN.out hl)
    obtain ⟨db, hdb⟩ : ∃ db, w6.heap.size = db := ⟨_, rfl⟩
    rw [hdb] at HS7 hs7 hmb hg6 hs6
    have Hdb := Lib.hid hdb
    rw [hdb]
    clear hdb
    go_wp2_with fail
    refine HIS.out.mono ?_
    rintro r w8 ⟨G, all, rfl, hra, hfin, hb8⟩
    have HRA := Lib.hid hra
    have HF := Lib.hid hfin
    have HB8 := Lib.hid hb8
    have hG := World.ownsRow.lt hra G rfl
    have hs8 := hb8.size
    clear hra hfin hb8
    have HFive := Lib.hid (show Five w8.heap.size (w.heap.size + 1) w.heap.size db G mb by constructor <;> omega)
    have HB8' := Lib.hid (((H5.out.below.trans (HB6.out.mono hBS)).trans (HB7.out.mono (by have := Hdb.out; omega))).trans (HB8.out.mono (by omega)))
    have H0 := Lib.hid (show LcRel b l w.heap.size w w8 w8 (w.heap.size + 1) w.heap.size db G n 0 [] mb g cap (M.fresh b) from
      ⟨rfl, rfl, M.fresh_fit hb5 0, (fun x hx => by obtain rfl := List.mem_singleton.1 hx; exact .inl rfl),
        ⟨HB8'.out, own_below (own_below (own_below H5.out.ra HB6.out) (HB7.out)) HB8.out, own_below (own_below (own_below H5.out.rb HB6.out) (HB7.out)) HB8.out,
          by
            have q := (HW6.out.below HB7.out).below HB8.out
            obtain ⟨c0, c1, c2, c3, c4, f, row, lo, lt, ne⟩ := q
            exact ⟨c0, c1, c2, c3, c4, f, own_base row hBS, by omega, lt, ne⟩, rfl, rfl, by omega, by omega, by omega, by omega, Nat.le_refl _⟩⟩)
    have HD := Lib.hid (show SomeSteps w8 db 11 by unfold SomeSteps; rw [HB8.out.block db (by omega)]; exact HS7.out)
    clear hga2 hgb2 hne hmb hmb2 hg6 hgm hs6 hs7 hG hs8 hBS
    go_wp2_with fail
    go_loopw [38] (fun v wr => ∃ k ps g cap m, k ≤ n ∧ v = .int .i64 (k : Nat) ∧ LcRel b l w.heap.size w w8 wr (w.heap.size + 1) w.heap.size db G n k ps mb g cap m) (fun v _ => n - (intOf v).toNat)
    case atStart => exact ⟨0, [], g, cap, _, Nat.zero_le _, rfl, H0.out⟩
    case round =>
      obtain ⟨k, ps, g, cap, m, hk, rfl, hrel⟩ := hrel
      have HL := Lib.hid hrel
      have k0 : (0 : Int) ≤ (k : Int) := by omega
      by_cases hlt : k < n
      · obtain ⟨ad, x, rfl, hcc, hx, had⟩ := rd_at HR.out hrel.at_.below (by rw [HN.out]; exact hlt : k < l.length)
        have k1 : (k : Int) < (n : Int) := by omega
        obtain ⟨⟨e, f⟩, hox, hfx⟩ := HF.out k hlt
        obtain ⟨q0, q1⟩ := isoCells_at hox
        have c0 : wr.cell? ⟨G, k * 2, none⟩ = some (.int .i64 e) := (World.cell?_of_block hrel.at_.sG).trans ((HRA.out.cellAt _ (by omega)).trans q0)
        have c1 : wr.cell? ⟨G, k * 2 + 1, none⟩ = some (.int .i64 f) := (World.cell?_of_block hrel.at_.sG).trans ((HRA.out.cellAt _ (by omega)).trans q1)
        have HFX := Lib.hid hfx
        have HX := Lib.hid hx
        obtain ⟨W1, hW1⟩ : ∃ W, wr.alloc (.cells #[.int .i64 e, .int .i64 f] 77) = W := ⟨_, rfl⟩
        have hb1 : Below wr.heap.size wr W1 := by rw [← hW1]; exact (Below.refl _ _).alloc (Nat.le_refl _) _
        have d0 : W1.cell? (ad.add k) = some (.int .i64 x) := (hb1.cell (by rw [addr_block]; have := hrel.at_.le; omega)).trans hcc
        have d1 : W1.cell? ⟨wr.heap.size, 1, none⟩ = some (.int .i64 f) := by rw [← hW1]; simp [go_sem]
        have HL1 := Lib.hid (hrel.at_.later HFive.out hb1)
        obtain ⟨c, hc⟩ : ∃ c, M.known x = c := ⟨_, rfl⟩
        have KN : ∀ W, Hid (Calls Tryz.prog 37 #[.int .i64 x] W fun r w' => r = .returned (.int .i64 c) ∧ W = w') := fun W => Lib.hid (by have q := counted_any x W; rw [hc] at q; exact q)
        have HC := Lib.hid hc
        clear hrel hx hox hfx q0 q1 hc hb1 hcc had
        go_wp2_with fail
        have nn0 := World.new_ne W1 _ d0
        have nn1 := World.new_ne W1 _ d1
        go_region_held3 (fun w' => w'.cell? (ad.add k) = some (.int .i64 x) ∧ w'.cell? ⟨wr.heap.size, 1, none⟩ = some (.int .i64 f)) (go_keep) ((refine (KN _).out.mono ?_; rintro r wx ⟨rfl, rfl⟩))
        all_goals
          obtain ⟨W2, hW2⟩ : ∃ W, (W1.alloc (.cells #[.int .i64 c, .int .i64 f] 80)).drew = W := ⟨_, rfl⟩
          have hb2 : Below W1.heap.size W1 W2 := by rw [← hW2]; exact ((Below.refl _ _).alloc (Nat.le_refl _) _).drew
          have y0 : W2.cell? ⟨W1.heap.size, 0, none⟩ = some (.int .i64 c) := by rw [← hW2]; simp [go_sem]
          have y1 : W2.cell? ⟨W1.heap.size, 1, none⟩ = some (.int .i64 f) := by rw [← hW2]; simp [go_sem]
          have HL2 := Lib.hid (HL1.out.later HFive.out hb2)
          have hd2 : SomeSteps W2 db 11 := HL2.out.sd.trans HD.out
          rw [hW2]
          obtain ⟨y, hy⟩ : ∃ y, m.lev b c = y := ⟨_, rfl⟩
          obtain ⟨z, hz⟩ : ∃ z, m.cls c = z := ⟨_, rfl⟩
          obtain ⟨m3, hm3⟩ : ∃ m3, m.turn b (M.oddOf c f) c = m3 := ⟨_, rfl⟩
          have HSTEP := fun fid (hf : M.fnOf c fid) => Lib.hid (step_any w.heap.size mb g cap k b m c f fid hf W2 HL2.out.walk HL.out.fit HL.out.ov (by omega) hb4)
          rw [hy, hz, hm3] at HSTEP
          have HY := Lib.hid hy
          have HZ := Lib.hid hz
          have HM3 := Lib.hid hm3
          clear hb2 hy hz hm3 hW1 hW2 d0 d1 nn0 nn1 c0 c1
          by_cases hstep : M.isStep c
          · have hlook := look_step hd2 hstep
            have HFN := Lib.hid (show M.fnOf c (M.stepF c) from .inl ⟨hstep, rfl⟩)
            obtain ⟨fid, hfid⟩ : ∃ fid, M.stepF c = fid := ⟨_, rfl⟩
            rw [hfid] at hlook HFN
            have hent := fun args w => step_enter HFN.out args w
            clear hfid hstep hd2
            go_wp2_with fail
            refine (HSTEP _ HFN.out).out.mono ?_
            rintro r w3 ⟨rfl, g3, cap3, hw3, hs3⟩
            have HL3 := Lib.hid (HL2.out.turn HFive.out hw3 hs3)
            obtain ⟨v0, hv0⟩ : ∃ v, (ps.map Prod.fst ++ List.replicate (n - k) 0)[k]? = some v := ⟨_, List.getElem?_eq_getElem (by simp [HL.out.len]; omega)⟩
            obtain ⟨v1, hv1⟩ : ∃ v, (ps.map Prod.snd ++ List.replicate (n - k) 0)[k]? = some v := ⟨_, List.getElem?_eq_getElem (by simp [HL.out.len]; omega)⟩
            have s0 : w3.cell? ⟨(w.heap.size + 1), k, none⟩ = some (.int .i64 v0) := (World.ownsRow.cellAt (size := 1) HL3.out.ra k (by omega)).trans (by rw [List.getElem?_map, hv0]; rfl)
            have s1 : w3.cell? ⟨w.heap.size, k, none⟩ = some (.int .i64 v1) := (World.ownsRow.cellAt (size := 1) HL3.out.rb k (by omega)).trans (by rw [List.getElem?_map, hv1]; rfl)
            have t0 := HL3.out.ra.frozenAt k
            have t1 := HL3.out.rb.frozenAt k
            have HL4 := Lib.hid ((HL3.out.storeA HFive.out k y).storeB HFive.out k z)
            clear hv0 hv1 hw3 hs3
            go_wp2_with fail
            go_roundw
            case rel => exact ⟨k + 1, _, g3, cap3, _, by omega, by go_num, HL.out.step HX.out HC.out hb5 HY.out HZ.out (fun hbg => by rw [← HC.out] at hbg ⊢; exact M.dir_told HX.out HFX.out hbg) HM3.out hlt HL4.out⟩
            case measure => simp [intOf]; omega
          · have hlook := look_none hd2 hstep
            have HFN := Lib.hid (show M.fnOf c 38 from .inr ⟨hstep, rfl⟩)
            clear hstep hd2
            go_wp2_with fail
            refine (HSTEP _ HFN.out).out.mono ?_
            rintro r w3 ⟨rfl, g3, cap3, hw3, hs3⟩
            have HL3 := Lib.hid (HL2.out.turn HFive.out hw3 hs3)
            obtain ⟨v0, hv0⟩ : ∃ v, (ps.map Prod.fst ++ List.replicate (n - k) 0)[k]? = some v := ⟨_, List.getElem?_eq_getElem (by simp [HL.out.len]; omega)⟩
            obtain ⟨v1, hv1⟩ : ∃ v, (ps.map Prod.snd ++ List.replicate (n - k) 0)[k]? = some v := ⟨_, List.getElem?_eq_getElem (by simp [HL.out.len]; omega)⟩
            have s0 : w3.cell? ⟨(w.heap.size + 1), k, none⟩ = some (.int .i64 v0) := (World.ownsRow.cellAt (size := 1) HL3.out.ra k (by omega)).trans (by rw [List.getElem?_map, hv0]; rfl)
            have s1 : w3.cell? ⟨w.heap.size, k, none⟩ = some (.int .i64 v1) := (World.ownsRow.cellAt (size := 1) HL3.out.rb k (by omega)).trans (by rw [List.getElem?_map, hv1]; rfl)
            have t0 := HL3.out.ra.frozenAt k
            have t1 := HL3.out.rb.frozenAt k
            have HL4 := Lib.hid ((HL3.out.storeA HFive.out k y).storeB HFive.out k z)
            clear hv0 hv1 hw3 hs3
            go_wp2_with fail
            go_roundw
            case rel => exact ⟨k + 1, _, g3, cap3, _, by omega, by go_num, HL.out.step HX.out HC.out hb5 HY.out HZ.out (fun hbg => by rw [← HC.out] at hbg ⊢; exact M.dir_told HX.out HFX.out hbg) HM3.out hlt HL4.out⟩
            case measure => simp [intOf]; omega
      · obtain rfl : k = n := by omega
        clear hrel
        go_wp2_with fail
        go_returns
        rw [HE.out]
        have q1 := HL.out.run
        have q2 := HL.out.len
        have q3 := HL.out.at_.ra
        have q4 := HL.out.at_.rb
        rw [List.drop_eq_nil_of_le (by rw [HN.out]; exact Nat.le_refl _)] at q1
        rw [Nat.sub_self, List.replicate_zero, List.append_nil] at q3 q4
        have q1' : M.run b (M.fresh b) l = ps := by rw [q1]; exact List.append_nil ps
        rw [q1']
        refine ⟨_, _, rfl, ?_, ?_, HL.out.at_.below⟩
        · rw [q2]; exact q3
        · rw [q2]; exact q4
theorem clevels_any (A : Option Addr) (ca n : Nat) (l : List Int) (base : Int) (w : World) (hr : RdS .i64 w w.heap.size A l) (hn : l.length = n) (hl : n ≤ 1000) :
    Calls Tryz.prog 19 #[.slice A n ca, .int .i64 base] w (LevOut (M.levels l base) w) := by
  by_cases h1 : base < -1
  · exact clev_low A ca n l base w h1
  · by_cases h2 : 0 ≤ base
    · exact clev_pos A ca n l base w hr hn hl h2
    · exact clev_neg A ca n l base w hr hn hl (by omega)
end Go.Proofs.YtjlfgojblimobaaGreat
end
