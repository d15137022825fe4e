/- The walk of BracketBoth: it answers true. Conditions: the slices read as lists of classes and of marks, within their capacities, and take at most 2^47 bytes each. -/
import Derived.Test.YtaiojghbknacjaaResWalk
namespace Go.Proofs.Ytaiojghbknacjaa
open Go.RowKit
set_option maxRecDepth 100000

set_option maxHeartbeats 8000000 in
theorem bothOther_any (A B C : Option Addr) (ca cb cc n m k : Nat) (came l : List Int) (ms : List (Int × Int)) (lv f : Int) (w : World) (hr : RdS .i64 w w.heap.size A came) (hr2 : RdS .i64 w w.heap.size B l) (hr3 : RdT w w.heap.size C ms) (hn : came.length = n) (hm : l.length = m) (hk : ms.length = k) (hl : n * 8 ≤ 140737488351232) (hl2 : m * 8 ≤ 140737488351232) (hl3 : k * 16 ≤ 140737488351232) (hca : n ≤ ca) (hcb : m ≤ cb) (hA : A = none → ca = 0) (hB : B = none → cb = 0) (h : 200 < m ∨ 200 < k ∨ ¬ M.resOk came l lv f) :
    Calls Try.prog 6 #[.agg #[.slice A n ca, .slice B m cb, .int .i64 lv, .int .i64 f], .slice C k cc] w fun r w' => r = .returned (.bool true) ∧ Below w.heap.size w w' := by
  obtain ⟨W1, hW1, hbw1, hf4, hgt⟩ := new_four w (.slice A n ca) (.slice B m cb) (.int .i64 lv) (.int .i64 f) 34
  obtain ⟨xs, hxs⟩ : ∃ xs, M.orNil (M.resOk came l lv f) (M.res came l ms lv f) = xs := ⟨_, rfl⟩
  obtain ⟨e, he⟩ : ∃ e, M.orArg (M.resOk came l lv f) = e := ⟨_, rfl⟩
  obtain ⟨p, hp⟩ : ∃ p, xs.length = p := ⟨_, rfl⟩
  have HF := Lib.hid (show Four W1 w.heap.size (.slice A n ca) (.slice B m cb) (.int .i64 lv) (.int .i64 f) from hf4)
  have HR := Lib.hid ((hr.below hbw1).more hbw1.size)
  have HR2 := Lib.hid ((hr2.below hbw1).more hbw1.size)
  have HR3 := Lib.hid (hr3.after hbw1)
  have HBW := Lib.hid hbw1
  have HGT := Lib.hid hgt
  have HN := Lib.hid hn
  have HM := Lib.hid hm
  have HK := Lib.hid hk
  have HCA := Lib.hid (And.intro hca hcb)
  have HA := Lib.hid (And.intro hA hB)
  have h1 : (n : Int) ≤ 17592186043904 := by omega
  have h2 : (m : Int) ≤ 17592186043904 := by omega
  have h3 : (k : Int) ≤ 8796093021952 := by omega
  obtain ⟨e0, e1, e2, e3⟩ := hf4
  have hb : 200 < (m : Int) ∨ (¬ 200 < (m : Int) ∧ 200 < (k : Int)) ∨ (¬ 200 < (m : Int) ∧ ¬ 200 < (k : Int) ∧ (e != 0) = true) := by
    rcases h with h | h | h
    · exact .inl (by omega)
    · by_cases h200 : 200 < m
      · exact .inl (by omega)
      · exact .inr (.inl ⟨by omega, by omega⟩)
    · by_cases h200 : 200 < m
      · exact .inl (by omega)
      · by_cases h201 : 200 < k
        · exact .inr (.inl ⟨by omega, by omega⟩)
        · exact .inr (.inr ⟨by omega, by omega, by rw [← he]; unfold M.orArg; rw [if_neg h]; rfl⟩)
  clear h
  rcases hb with b1 | ⟨b1, b2⟩ | ⟨b1, b2, b3⟩
  all_goals
    have HXS := Lib.hid hxs
    have HE := Lib.hid he
    have HP := Lib.hid hp
    clear hr hr2 hr3 hn hm hk hca hcb hA hB hbw1 hxs he hp
    go_enter Try.func6, Try.ntmps6
    go_wp2_with fail
    go_region_held3 (fun w' => w'.cell? ⟨w.heap.size, 0, none⟩ = some (.slice A n ca) ∧ w'.cell? ⟨w.heap.size, 1, none⟩ = some (.slice B m cb) ∧ w'.cell? ⟨w.heap.size, 2, none⟩ = some (.int .i64 lv) ∧ w'.cell? ⟨w.heap.size, 3, none⟩ = some (.int .i64 f))
      (first | go_keep | exact HF4.out | exact HF5.out)
      (first
        | (go_at_call 11; (refine (marks_any C cc k ms _ (by exact HR3.out) HK.out (by omega)).mono ?_); rintro r w4 ⟨v4, rfl, ho4, hb4⟩; obtain ⟨A4, c4, rfl, hr4, hc4, -, -⟩ := ho4.shape; rw [HK.out] at hc4 ⊢; have hg4 : Below W1.heap.size W1 w4 := ⟨hb4.os, hb4.tape, hb4.output, hb4.size, hb4.block⟩; have HGG4 := Lib.hid hg4; have HF4 := Lib.hid (HF.out.later hg4 HGT.out); have HX4 := Lib.hid hr4; have HCC4 := Lib.hid hc4; have HC4 := Lib.hid ((HR.out.below hg4).more hg4.size); have HL4 := Lib.hid ((HR2.out.below hg4).more hg4.size); have HM4 := Lib.hid (HR3.out.after hg4); have HG4 := Lib.hid (Nat.lt_of_lt_of_le HGT.out hg4.size); clear ho4 hb4 hr4 hc4 hg4)
        | (go_at_call 13; (refine (cres_any A B A4 ca cb c4 n m k came l ms lv f _ (by exact HC4.out) (by exact HL4.out) (by exact HX4.out) HN.out HM.out HK.out (by omega) (by omega) (by omega) HCA.out.1 HCA.out.2 HCC4.out HA.out.1 HA.out.2).mono ?_); rintro r w5 hout; obtain ⟨A5, c5, rfl, hr5, hb5, -⟩ := res_out hout; rw [HXS.out] at hr5 ⊢; rw [HE.out, HP.out]; have hg5 : Below w4.heap.size w4 w5 := ⟨hb5.os, hb5.tape, hb5.output, hb5.size, hb5.block⟩; have HGG5 := Lib.hid hg5; have HF5 := Lib.hid (HF4.out.later hg5 HG4.out); have HX5 := Lib.hid hr5; clear hout hr5 hb5 hg5))
    have HC5 := Lib.hid ((HC4.out.below HGG5.out).more HGG5.out.size)
    have HL5 := Lib.hid ((HL4.out.below HGG5.out).more HGG5.out.size)
    have HM5 := Lib.hid (HM4.out.after HGG5.out)
    have HG5 := Lib.hid (Nat.lt_of_lt_of_le HG4.out HGG5.out.size)
    have HB5 := Lib.hid (HBW.out.trans ((HGG4.out.trans (HGG5.out.mono HGG4.out.size)).mono HBW.out.size))
    clear e0 e1 e2 e3
    obtain ⟨d0, d1, d2, d3⟩ := HF5.out
    go_wp2_with fail
    refine (alive_any _).mono ?_
    rintro r w6 ⟨rfl, hb6⟩
    have HB6 := Lib.hid (HB5.out.trans (hb6.mono HB5.out.size))
    clear hb6
    go_wp2_with fail
    go_ret
    exact ⟨rfl, HB6.out⟩
set_option maxHeartbeats 16000000 in
theorem bothIn_any (A B C : Option Addr) (ca cb cc n m k : Nat) (came l : List Int) (ms : List (Int × Int)) (lv f : Int) (w : World) (hr : RdS .i64 w w.heap.size A came) (hr2 : RdS .i64 w w.heap.size B l) (hr3 : RdT w w.heap.size C ms) (hn : came.length = n) (hm : l.length = m) (hk : ms.length = k) (hl : n * 8 ≤ 140737488351232) (hl2 : m * 8 ≤ 140737488351232) (hl3 : k * 16 ≤ 140737488351232) (hca : n ≤ ca) (hcb : m ≤ cb) (hA : A = none → ca = 0) (hB : B = none → cb = 0) (hm200 : m ≤ 200) (hk2 : k ≤ 200) (hok : M.resOk came l lv f) :
    Calls Try.prog 6 #[.agg #[.slice A n ca, .slice B m cb, .int .i64 lv, .int .i64 f], .slice C k cc] w fun r w' => r = .returned (.bool true) ∧ Below w.heap.size w w' := by
  obtain ⟨W1, hW1, hbw1, hf4, hgt⟩ := new_four w (.slice A n ca) (.slice B m cb) (.int .i64 lv) (.int .i64 f) 34
  obtain ⟨xs, hxs⟩ : ∃ xs, M.orNil (M.resOk came l lv f) (M.res came l ms lv f) = xs := ⟨_, rfl⟩
  obtain ⟨e, he⟩ : ∃ e, M.orArg (M.resOk came l lv f) = e := ⟨_, rfl⟩
  obtain ⟨p, hp⟩ : ∃ p, xs.length = p := ⟨_, rfl⟩
  have HF := Lib.hid (show Four W1 w.heap.size (.slice A n ca) (.slice B m cb) (.int .i64 lv) (.int .i64 f) from hf4)
  have HR := Lib.hid ((hr.below hbw1).more hbw1.size)
  have HR2 := Lib.hid ((hr2.below hbw1).more hbw1.size)
  have HR3 := Lib.hid (hr3.after hbw1)
  have HBW := Lib.hid hbw1
  have HGT := Lib.hid hgt
  have HN := Lib.hid hn
  have HM := Lib.hid hm
  have HK := Lib.hid hk
  have HCA := Lib.hid (And.intro hca hcb)
  have HA := Lib.hid (And.intro hA hB)
  have h1 : (n : Int) ≤ 17592186043904 := by omega
  have h2 : (m : Int) ≤ 17592186043904 := by omega
  have h3 : (k : Int) ≤ 8796093021952 := by omega
  obtain ⟨e0, e1, e2, e3⟩ := hf4
  obtain rfl : n = m := by have := hok.1; omega
  rw [show M.orNil (M.resOk came l lv f) (M.res came l ms lv f) = M.res came l ms lv f from if_pos hok] at hxs
  have he0 : e = 0 := by rw [← he]; exact if_pos hok
  subst he0
  obtain rfl : n = p := by rw [← hp, ← hxs, M.res_len, hm]
  have hxs' : M.orNil (M.resOk came l lv f) (M.res came l ms lv f) = xs := by rw [← hxs]; exact if_pos hok
  have HINV := Lib.hid (by have h := M.res_inv (came := came) (l := l) (ms := ms) (f := f) lv; rw [hxs] at h; exact h : M.RInv came l ms (M.prs l ms).length xs)
  clear hxs
  have hxs := hxs'
  clear hxs'
  have n200 : ¬ 200 < (n : Int) := by omega
  have k200 : ¬ 200 < (k : Int) := by omega
  have n200' : (n : Int) ≤ 200 := by omega
  have bnn : ((n : Int) != (n : Int)) = false := by simp
  have hn200 : n ≤ 200 := by omega
  have hk200 : k ≤ 200 := by omega
  clear hok
  have HXS := Lib.hid hxs
  have HE := Lib.hid he
  have HP := Lib.hid hp
  clear hr hr2 hr3 hn hm hk hca hcb hA hB hbw1 hxs he hp
  go_enter Try.func6, Try.ntmps6
  go_wp2_with fail
  go_region_held3 (fun w' => w'.cell? ⟨w.heap.size, 0, none⟩ = some (.slice A n ca) ∧ w'.cell? ⟨w.heap.size, 1, none⟩ = some (.slice B n cb) ∧ w'.cell? ⟨w.heap.size, 2, none⟩ = some (.int .i64 lv) ∧ w'.cell? ⟨w.heap.size, 3, none⟩ = some (.int .i64 f))
    (first | go_keep | exact HF4.out | exact HF5.out)
    (first
      | (go_at_call 11; (refine (marks_any C cc k ms _ (by exact HR3.out) HK.out (by omega)).mono ?_); rintro r w4 ⟨v4, rfl, ho4, hb4⟩; obtain ⟨A4, c4, rfl, hr4, hc4, -, -⟩ := ho4.shape; rw [HK.out] at hc4 ⊢; have hg4 : Below W1.heap.size W1 w4 := ⟨hb4.os, hb4.tape, hb4.output, hb4.size, hb4.block⟩; have HGG4 := Lib.hid hg4; have HF4 := Lib.hid (HF.out.later hg4 HGT.out); have HX4 := Lib.hid hr4; have HCC4 := Lib.hid hc4; have HC4 := Lib.hid ((HR.out.below hg4).more hg4.size); have HL4 := Lib.hid ((HR2.out.below hg4).more hg4.size); have HM4 := Lib.hid (HR3.out.after hg4); have HG4 := Lib.hid (Nat.lt_of_lt_of_le HGT.out hg4.size); clear ho4 hb4 hr4 hc4 hg4)
      | (go_at_call 13; (refine (cres_any A B A4 ca cb c4 n n k came l ms lv f _ (by exact HC4.out) (by exact HL4.out) (by exact HX4.out) HN.out HM.out HK.out (by omega) (by omega) (by omega) HCA.out.1 HCA.out.2 HCC4.out HA.out.1 HA.out.2).mono ?_); rintro r w5 hout; obtain ⟨A5, c5, rfl, hr5, hb5, -⟩ := res_out hout; rw [HXS.out] at hr5 ⊢; rw [HE.out, HP.out]; have hg5 : Below w4.heap.size w4 w5 := ⟨hb5.os, hb5.tape, hb5.output, hb5.size, hb5.block⟩; have HGG5 := Lib.hid hg5; have HF5 := Lib.hid (HF4.out.later hg5 HG4.out); have HX5 := Lib.hid hr5; clear hout hr5 hb5 hg5))
  have HC5 := Lib.hid ((HC4.out.below HGG5.out).more HGG5.out.size)
  have HL5 := Lib.hid ((HL4.out.below HGG5.out).more HGG5.out.size)
  have HM5 := Lib.hid (HM4.out.after HGG5.out)
  have HG5 := Lib.hid (Nat.lt_of_lt_of_le HG4.out HGG5.out.size)
  have HB5 := Lib.hid (HBW.out.trans ((HGG4.out.trans (HGG5.out.mono HGG4.out.size)).mono HBW.out.size))
  clear e0 e1 e2 e3
  obtain ⟨d0, d1, d2, d3⟩ := HF5.out
  go_wp2_with fail
  refine (refPairs_any B C cb cc n k l ms w5 HL5.out HM.out (by omega) HM5.out HK.out (by omega)).mono ?_
  rintro r w6 ⟨v, rfl, ho6, hb6⟩
  obtain ⟨K, hK⟩ : ∃ K, (M.prs l ms).length = K := ⟨_, rfl⟩
  have hKn : K ≤ n := by rw [← hK, ← HM.out]; exact M.prs_len
  have HPR := Lib.hid (fun h0 : 0 < (M.prs l ms).length => own_some ho6 h0)
  obtain ⟨A6, c6, rfl, -⟩ := ho6.shape
  rw [hK] at HPR HINV ⊢
  have HKK := Lib.hid hK
  have HF6 := Lib.hid (HF5.out.later hb6 HG5.out)
  have HX6 := Lib.hid ((HX5.out.below hb6).more hb6.size)
  have HC6 := Lib.hid ((HC5.out.below hb6).more hb6.size)
  have HL6 := Lib.hid ((HL5.out.below hb6).more hb6.size)
  have HG6 := Lib.hid (Nat.lt_of_lt_of_le HG5.out hb6.size)
  have HB6 := Lib.hid (HB5.out.trans (hb6.mono HB5.out.size))
  obtain ⟨i0, hi, hz0, hz1, hz2⟩ := info_parts Try.infoInt2
  have hmk := run_make (P := Try.prog) w6 44 3 i0 (.int .i64 0) Try.underlying44 hi hz0 .i64 .i64 n n (by omega) (Int.le_refl _) (by rw [hz2]; omega) (by omega)
  rw [Int.toNat_natCast, hz1] at hmk
  obtain ⟨W7, hW7⟩ : ∃ W7, w6.alloc (.cells (madeCells (Value.int .i64 0).cells (n * 1)) 3) = W7 := ⟨_, rfl⟩
  have h7 : W7.ownsRow w6.heap.size 3 1 (.slice (some ⟨w6.heap.size, 0, none⟩) n n) n ((List.replicate n (0 : Int)).map (Value.int .i64)) := by
    rw [← hW7, ← rep_cells2]
    exact World.ownsRow_lit w6 _ n (Nat.le_refl _) (by unfold maxLen; omega) (by simp [madeCells])
  have hb7 : Below w6.heap.size w6 W7 := by rw [← hW7]; exact (Below.refl _ _).alloc (Nat.le_refl _) _
  rw [hW7] at hmk
  have H7 := Lib.hid h7
  have HB7 := Lib.hid hb7
  clear ho6 hb6 hK d0 d1 d2 d3 h7 hb7 hW7 hi hz0 hz1 hz2
  obtain ⟨d0, d1, d2, d3⟩ := HF6.out
  have c1W := (HF6.out.later HB7.out HG6.out).2.1
  go_wp2_with fail
  go_loopw [9] (fun v wr => ∃ (i : Nat) (N : List Int), v = .int .i64 i ∧ i ≤ K ∧ N.length = n ∧ (∀ (t p q : Nat), t < i → (M.prs l ms)[t]? = some ((p : Int), (q : Int)) → N[p]? = some 1 ∧ N[q]? = some 1) ∧ wr.ownsRow w6.heap.size 3 1 (.slice (some ⟨w6.heap.size, 0, none⟩) n n) n (N.map (Value.int .i64)) ∧ Below w6.heap.size w6 wr) (fun v _ => K - (intOf v).toNat)
  case atStart => exact ⟨0, _, rfl, Nat.zero_le _, List.length_replicate, fun t p q h => by omega, H7.out, HB7.out⟩
  case round =>
    obtain ⟨i, N, rfl, hi, hNl, hNp, hown, hb⟩ := hrel
    rename World => wr
    have HB := Lib.hid hb
    have HNP := Lib.hid hNp
    have HNL := Lib.hid hNl
    have i00 : (0 : Int) ≤ i := by omega
    clear d0 d1 d2 d3 c1W
    by_cases hlt : i < K
    · have i01 : (i : Int) < K := by omega
      obtain ⟨g, cg, hv, hg, hcell⟩ := HPR.out (by omega)
      injection hv with hv1 _ hv3
      subst hv1 hv3
      obtain ⟨a, ha⟩ : ∃ a, (M.prs l ms)[i]? = some a := ⟨_, List.getElem?_eq_getElem (by rw [HKK.out]; exact hlt)⟩
      obtain ⟨p, q, rfl, hpq, hqn, -, -, -, -, -⟩ := M.prs_at ha
      rw [HM.out] at hqn
      obtain ⟨z0, z1⟩ := cells2_at ha
      have z0 := (hb.cell (p := ⟨g, i * 2, none⟩) hg).trans ((hcell _ (by omega)).trans z0)
      have z1 := (hb.cell (p := ⟨g, i * 2 + 1, none⟩) hg).trans ((hcell _ (by omega)).trans z1)
      dsimp only at z0 z1
      obtain ⟨ν1, hν1⟩ : ∃ x, N[p]? = some x := ⟨_, List.getElem?_eq_getElem (by omega)⟩
      obtain ⟨ν2, hν2⟩ : ∃ x, (N.set p 1)[q]? = some x := ⟨_, List.getElem?_eq_getElem (by rw [List.length_set]; omega)⟩
      have s1 : wr.cell? ⟨w6.heap.size, p, none⟩ = some (.int .i64 ν1) := by
        rw [World.ownsRow.cellAt hown p (by omega), List.getElem?_map, hν1]
        rfl
      have t1 := World.ownsRow.frozenAt hown p
      have hown1 := (World.ownsRow.stored hown p (.int .i64 1)).1
      rw [← List.map_set] at hown1
      have s2 : (wr.setCell ⟨w6.heap.size, p, none⟩ (.int .i64 1)).cell? ⟨w6.heap.size, q, none⟩ = some (.int .i64 ν2) := by
        rw [World.ownsRow.cellAt hown1 q (by omega), List.getElem?_map, hν2]
        rfl
      have t2 := World.ownsRow.frozenAt hown1 q
      have hown2 := (World.ownsRow.stored hown1 q (.int .i64 1)).1
      rw [← List.map_set] at hown2
      have hb1 : Below w6.heap.size w6 (wr.setCell ⟨w6.heap.size, p, none⟩ (.int .i64 1)) := hb.setCell (p := ⟨w6.heap.size, p, none⟩) (Nat.le_refl _) _
      have hb2 : Below w6.heap.size w6 ((wr.setCell ⟨w6.heap.size, p, none⟩ (.int .i64 1)).setCell ⟨w6.heap.size, q, none⟩ (.int .i64 1)) := hb1.setCell (p := ⟨w6.heap.size, q, none⟩) (Nat.le_refl _) _
      have HNP2 := Lib.hid (show ∀ (t p' q' : Nat), t < i + 1 → (M.prs l ms)[t]? = some ((p' : Int), (q' : Int)) → ((N.set p 1).set q 1)[p']? = some 1 ∧ ((N.set p 1).set q 1)[q']? = some 1 from fun t p' q' ht hp' => by
        by_cases e : t = i
        · subst e
          rw [ha] at hp'
          injection hp' with hp'
          injection hp' with e1 e2
          obtain rfl := Int.ofNat_inj.1 e1
          obtain rfl := Int.ofNat_inj.1 e2
          exact ⟨by rw [List.getElem?_set_ne (by omega), List.getElem?_set_self (by omega)], by rw [List.getElem?_set_self (by rw [List.length_set]; omega)]⟩
        · obtain ⟨g1, g2⟩ := hNp t p' q' (by omega) hp'
          have ap := M.prs_apart hp' ha e
          exact ⟨by rw [List.getElem?_set_ne (by omega), List.getElem?_set_ne (by omega)]; exact g1, by rw [List.getElem?_set_ne (by omega), List.getElem?_set_ne (by omega)]; exact g2⟩)
      have y1z := (hb1.cell (p := ⟨g, i * 2 + 1, none⟩) hg).trans ((hb.cell (p := ⟨g, i * 2 + 1, none⟩) hg).symm.trans z1)
      have p0 : (0 : Int) ≤ p := by omega
      have q0 : (0 : Int) ≤ q := by omega
      have pn : (p : Int) < n := by omega
      have qn : (q : Int) < n := by omega
      have HO2 := Lib.hid hown2
      have HB2 := Lib.hid hb2
      have HPI := Lib.hid ha
      have HGC := Lib.hid (And.intro hg hcell)
      obtain ⟨adc, ec, -, kc1⟩ := (HC6.out.below hb2) p _ (List.getElem?_eq_getElem (by have := HN.out; omega))
      obtain ⟨adc', ec', -, kc2⟩ := (HC6.out.below hb2) q _ (List.getElem?_eq_getElem (by have := HN.out; omega))
      subst ec
      obtain rfl : adc = adc' := by injection ec'
      obtain ⟨v1, hv1⟩ : ∃ x, came[p]? = some x := ⟨_, List.getElem?_eq_getElem (by have := HN.out; omega)⟩
      obtain ⟨v2, hv2⟩ : ∃ x, came[q]? = some x := ⟨_, List.getElem?_eq_getElem (by have := HN.out; omega)⟩
      rw [(List.getElem?_eq_some_iff.1 hv1).2] at kc1
      rw [(List.getElem?_eq_some_iff.1 hv2).2] at kc2
      have hxl : xs.length = n := HP.out
      obtain ⟨u1, hu1⟩ : ∃ x, xs[p]? = some x := ⟨_, List.getElem?_eq_getElem (by omega)⟩
      obtain ⟨u2, hu2⟩ : ∃ x, xs[q]? = some x := ⟨_, List.getElem?_eq_getElem (by omega)⟩
      obtain ⟨adx, ex, -, kx1⟩ := (HX6.out.below hb2) p _ hu1
      obtain ⟨adx', ex', -, kx2⟩ := (HX6.out.below hb2) q _ hu2
      subst ex
      obtain rfl : adx = adx' := by injection ex'
      have hbth : v1 ≠ 8 → v2 ≠ 8 → u1 = u2 := fun a1 a2 => by
        have := HINV.out.both i p q hlt ha (by rw [hv1]; intro e; injection e with e; exact a1 e) (by rw [hv2]; intro e; injection e with e; exact a2 e)
        rw [hu1, hu2] at this
        injection this
      have f0 := ((HF6.out.later hb2 HG6.out)).1
      have zz0 := (hb2.cell (p := ⟨g, i * 2, none⟩) hg).trans ((hb.cell (p := ⟨g, i * 2, none⟩) hg).symm.trans z0)
      have zz1 := (hb2.cell (p := ⟨g, i * 2 + 1, none⟩) hg).trans ((hb.cell (p := ⟨g, i * 2 + 1, none⟩) hg).symm.trans z1)
      obtain ⟨Y, hY⟩ : ∃ Y, (wr.setCell ⟨w6.heap.size, p, none⟩ (.int .i64 1)).setCell ⟨w6.heap.size, q, none⟩ (.int .i64 1) = Y := ⟨_, rfl⟩
      rw [hY] at HO2 HB2 kc1 kc2 kx1 kx2 f0 zz0 zz1
      have HYY := Lib.hid hY
      clear hb hNp hNl hown hown1 hown2 hb1 hb2 hν1 hν2 hu1 hu2 hv1 hv2 ec' ex' ha hg hcell hY hxl
      go_wp2_with fail
      rw [HYY.out]
      clear s1 t1 s2 t2 z0 z1 y1z
      have kc1' := fun d os => cell_regrown kc1 d os
      have kc2' := fun d os => cell_regrown kc2 d os
      have f0' := fun d os => cell_regrown f0 d os
      have zz0' := fun d os => cell_regrown zz0 d os
      have zz1' := fun d os => cell_regrown zz1 d os
      clear kc1 kc2 f0
      by_cases h8 : v1 = 8
      · subst h8
        clear hbth
        refine wp_region_quiet_below (by kernel_rfl) (by kernel_rfl) ?_
        repeat (go_big_quiet_step (fail))
        refine wpQuiet_nil ?_
        intro _ hw'
        obtain ⟨⟨dq, osq⟩, hw4⟩ := hw'
        subst hw4
        have hbg := below_regrown Y dq osq
        have hbx := HB2.out.trans (hbg.mono HB2.out.size)
        have hox := own_below HO2.out hbg
        obtain ⟨Z, hZ⟩ : ∃ Z, Sort.grow (redrawn Y dq) osq = Z := ⟨_, rfl⟩
        rw [hZ] at hbx hox
        have HBX := Lib.hid hbx
        have HOX := Lib.hid hox
        dsimp only
        rw [hZ]
        clear hZ hbg hbx hox kc1' kc2' f0' zz0' zz1' kx1 kx2 zz0 zz1
        go_wp2_with fail
        refine wp_region_quiet_below (by kernel_rfl) (by kernel_rfl) ?_
        repeat (go_big_quiet_step (fail))
        refine wpQuiet_nil ?_
        intro _ hw'
        obtain ⟨⟨dq2, osq2⟩, hw5⟩ := hw'
        subst hw5
        have hbg := below_regrown Z dq2 osq2
        have hbx := HBX.out.trans (hbg.mono HBX.out.size)
        have hox := own_below HOX.out hbg
        obtain ⟨Z2, hZ2⟩ : ∃ Z2, Sort.grow (redrawn Z dq2) osq2 = Z2 := ⟨_, rfl⟩
        rw [hZ2] at hbx hox
        have HBX2 := Lib.hid hbx
        have HOX2 := Lib.hid hox
        dsimp only
        rw [hZ2]
        clear hZ2 hbg hbx hox
        go_wp2_with fail
        go_roundw
        case rel => exact ⟨i + 1, (N.set p 1).set q 1, by go_num, by omega, by rw [List.length_set, List.length_set]; exact HNL.out, HNP2.out, HOX2.out, HBX2.out⟩
        case measure => simp [intOf]; omega
      · have b8 : (v1 == 8) = false := by simp; omega
        by_cases h9 : v2 = 8
        · subst h9
          clear hbth
          refine wp_region_quiet_below (by kernel_rfl) (by kernel_rfl) ?_
          repeat (go_big_quiet_step (fail))
          refine wpQuiet_nil ?_
          intro _ hw'
          obtain ⟨⟨dq, osq⟩, hw4⟩ := hw'
          subst hw4
          have hbg := below_regrown Y dq osq
          have hbx := HB2.out.trans (hbg.mono HB2.out.size)
          have hox := own_below HO2.out hbg
          obtain ⟨Z, hZ⟩ : ∃ Z, Sort.grow (redrawn Y dq) osq = Z := ⟨_, rfl⟩
          rw [hZ] at hbx hox
          have HBX := Lib.hid hbx
          have HOX := Lib.hid hox
          dsimp only
          rw [hZ]
          clear hZ hbg hbx hox kc1' kc2' f0' zz0' zz1' kx1 kx2 zz0 zz1
          go_wp2_with fail
          refine wp_region_quiet_below (by kernel_rfl) (by kernel_rfl) ?_
          repeat (go_big_quiet_step (fail))
          refine wpQuiet_nil ?_
          intro _ hw'
          obtain ⟨⟨dq2, osq2⟩, hw5⟩ := hw'
          subst hw5
          have hbg := below_regrown Z dq2 osq2
          have hbx := HBX.out.trans (hbg.mono HBX.out.size)
          have hox := own_below HOX.out hbg
          obtain ⟨Z2, hZ2⟩ : ∃ Z2, Sort.grow (redrawn Z dq2) osq2 = Z2 := ⟨_, rfl⟩
          rw [hZ2] at hbx hox
          have HBX2 := Lib.hid hbx
          have HOX2 := Lib.hid hox
          dsimp only
          rw [hZ2]
          clear hZ2 hbg hbx hox
          go_wp2_with fail
          go_roundw
          case rel => exact ⟨i + 1, (N.set p 1).set q 1, by go_num, by omega, by rw [List.length_set, List.length_set]; exact HNL.out, HNP2.out, HOX2.out, HBX2.out⟩
          case measure => simp [intOf]; omega
        · have b9 : (v2 == 8) = false := by simp; omega
          obtain rfl := hbth h8 h9
          have buu : (u1 != u1) = false := by simp
          clear h8 h9 hbth
          refine wp_region_quiet_below (by kernel_rfl) (by kernel_rfl) ?_
          repeat (go_big_quiet_step (fail))
          refine wpQuiet_nil ?_
          intro _ hw'
          obtain ⟨⟨dq, osq⟩, hw4⟩ := hw'
          subst hw4
          have hbg := below_regrown Y dq osq
          have hbx := HB2.out.trans (hbg.mono HB2.out.size)
          have hox := own_below HO2.out hbg
          have kx1' := fun d os => cell_regrown (cell_regrown kx1 dq osq) d os
          have kx2' := fun d os => cell_regrown (cell_regrown kx2 dq osq) d os
          have zy0' := fun d os => cell_regrown (zz0' dq osq) d os
          have zy1' := fun d os => cell_regrown (zz1' dq osq) d os
          obtain ⟨Z, hZ⟩ : ∃ Z, Sort.grow (redrawn Y dq) osq = Z := ⟨_, rfl⟩
          rw [hZ] at hbx hox kx1' kx2' zy0' zy1'
          have HBX := Lib.hid hbx
          have HOX := Lib.hid hox
          dsimp only
          rw [hZ]
          clear hZ hbg hbx hox kc1' kc2' f0' zz0' zz1' kx1 kx2 zz0 zz1
          go_wp2_with fail
          refine wp_region_quiet_below (by kernel_rfl) (by kernel_rfl) ?_
          repeat (go_big_quiet_step (fail))
          refine wpQuiet_nil ?_
          intro _ hw'
          obtain ⟨⟨dq2, osq2⟩, hw5⟩ := hw'
          subst hw5
          have hbg := below_regrown Z dq2 osq2
          have hbx := HBX.out.trans (hbg.mono HBX.out.size)
          have hox := own_below HOX.out hbg
          obtain ⟨Z2, hZ2⟩ : ∃ Z2, Sort.grow (redrawn Z dq2) osq2 = Z2 := ⟨_, rfl⟩
          rw [hZ2] at hbx hox
          have HBX2 := Lib.hid hbx
          have HOX2 := Lib.hid hox
          dsimp only
          rw [hZ2]
          clear hZ2 hbg hbx hox kx1' kx2' zy0' zy1' buu
          go_wp2_with fail
          go_roundw
          case rel => exact ⟨i + 1, (N.set p 1).set q 1, by go_num, by omega, by rw [List.length_set, List.length_set]; exact HNL.out, HNP2.out, HOX2.out, HBX2.out⟩
          case measure => simp [intOf]; omega
    · obtain rfl : K = i := by omega
      have i01 : ¬ (K : Int) < (K : Int) := by omega
      have HO2 := Lib.hid hown
      have f1 := (HF6.out.later hb HG6.out).2.1
      clear hb hNp hNl hown
      go_wp2_with fail
      go_loopw [11] (fun v ws => ∃ j : Nat, v = .int .i64 j ∧ j ≤ n ∧ Below wr.heap.size wr ws) (fun v _ => n - (intOf v).toNat)
      case atStart => exact ⟨0, rfl, Nat.zero_le _, Below.refl _ _⟩
      case round =>
        obtain ⟨j, rfl, hj, hb4⟩ := hrel
        rename World => ws
        have HB4 := Lib.hid hb4
        have hbb := HB.out.trans (hb4.mono HB.out.size)
        have HBB := Lib.hid hbb
        have j00 : (0 : Int) ≤ j := by omega
        clear f1
        obtain ⟨f0, f1, -, -⟩ := HF6.out.later hbb HG6.out
        by_cases hlt : j < n
        · have j01 : (j : Int) < n := by omega
          obtain ⟨ν, hν⟩ : ∃ x, N[j]? = some x := ⟨_, List.getElem?_eq_getElem (by have := HNL.out; omega)⟩
          have k0 : ws.cell? ⟨w6.heap.size, j, none⟩ = some (.int .i64 ν) := by
            rw [World.ownsRow.cellAt (own_below HO2.out hb4) j (by omega), List.getElem?_map, hν]
            rfl
          obtain ⟨cm, hcm⟩ : ∃ x, came[j]? = some x := ⟨_, List.getElem?_eq_getElem (by have := HN.out; omega)⟩
          obtain ⟨y, hy⟩ : ∃ x, xs[j]? = some x := ⟨_, List.getElem?_eq_getElem (by have := HP.out; omega)⟩
          obtain ⟨z, hz⟩ : ∃ x, l[j]? = some x := ⟨_, List.getElem?_eq_getElem (by have := HM.out; omega)⟩
          obtain ⟨ad1, e1, -, k1⟩ := (HC6.out.below hbb) j _ hcm
          obtain ⟨ad2, e2, -, k2⟩ := (HX6.out.below hbb) j _ hy
          obtain ⟨ad3, e3, -, k3⟩ := (HL6.out.below hbb) j _ hz
          subst e1 e2 e3
          have hany : z = y ∨ y = 0 ∨ y = 1 := by
            rcases HINV.out.any j y hy with h | h
            · rw [hz] at h
              injection h with h
              exact .inl h
            · exact .inr h
          have hst : cm ≠ 8 → ν = 0 → z = y := fun a1 a2 => by
            have h := HINV.out.stay j (by rw [hcm]; intro e; injection e with e; exact a1 e) fun t a ht ha => by
              obtain ⟨p, q, rfl, -⟩ := M.prs_at ha
              obtain ⟨g1, g2⟩ := HNP.out t p q ht ha
              dsimp only
              refine ⟨fun e => ?_, fun e => ?_⟩
              · obtain rfl := Int.ofNat_inj.1 e
                rw [hν] at g1
                injection g1 with g1
                omega
              · obtain rfl := Int.ofNat_inj.1 e
                rw [hν] at g2
                injection g2 with g2
                omega
            rw [hy, hz] at h
            injection h with h
            exact h.symm
          have k0' := fun d os => cell_regrown k0 d os
          have k1' := fun d os => cell_regrown k1 d os
          have k2' := fun d os => cell_regrown k2 d os
          have k3' := fun d os => cell_regrown k3 d os
          have f0' := fun d os => cell_regrown f0 d os
          have f1' := fun d os => cell_regrown f1 d os
          clear hb4 hbb hν hcm hy hz k0 k1 k2 k3
          by_cases hyz : z = y
          · subst hyz
            have bzz : (z != z) = false := by simp
            clear hany hst
            by_cases hν0 : ν = 0
            · subst hν0
              by_cases h8 : cm = 8
              · subst h8
                go_wp2_with fail
                refine wp_region_quiet_below (by kernel_rfl) (by kernel_rfl) ?_
                repeat (go_big_quiet_step (fail))
                refine wpQuiet_nil ?_
                intro _ hw'
                obtain ⟨⟨dq, osq⟩, hw4⟩ := hw'
                subst hw4
                have hbg := below_regrown ws dq osq
                have hbx := HB4.out.trans (hbg.mono HB4.out.size)
                obtain ⟨Z, hZ⟩ : ∃ Z, Sort.grow (redrawn ws dq) osq = Z := ⟨_, rfl⟩
                rw [hZ] at hbx
                have HBX := Lib.hid hbx
                dsimp only
                rw [hZ]
                clear hZ hbg hbx k0' k1' k2' k3' f0' f1'
                go_wp2_with fail
                go_roundw
                case rel => exact ⟨j + 1, by go_num, by omega, HBX.out⟩
                case measure => simp [intOf]; omega
              · have b8 : (cm != 8) = true := by simp; omega
                clear h8
                go_wp2_with fail
                refine wp_region_quiet_below (by kernel_rfl) (by kernel_rfl) ?_
                repeat (go_big_quiet_step (fail))
                refine wpQuiet_nil ?_
                intro _ hw'
                obtain ⟨⟨dq, osq⟩, hw4⟩ := hw'
                subst hw4
                have hbg := below_regrown ws dq osq
                have hbx := HB4.out.trans (hbg.mono HB4.out.size)
                obtain ⟨Z, hZ⟩ : ∃ Z, Sort.grow (redrawn ws dq) osq = Z := ⟨_, rfl⟩
                rw [hZ] at hbx
                have HBX := Lib.hid hbx
                dsimp only
                rw [hZ]
                clear hZ hbg hbx k0' k1' k2' k3' f0' f1'
                go_wp2_with fail
                go_roundw
                case rel => exact ⟨j + 1, by go_num, by omega, HBX.out⟩
                case measure => simp [intOf]; omega
            · have bν : (ν == 0) = false := by simp; omega
              clear hν0
              go_wp2_with fail
              refine wp_region_quiet_below (by kernel_rfl) (by kernel_rfl) ?_
              repeat (go_big_quiet_step (fail))
              refine wpQuiet_nil ?_
              intro _ hw'
              obtain ⟨⟨dq, osq⟩, hw4⟩ := hw'
              subst hw4
              have hbg := below_regrown ws dq osq
              have hbx := HB4.out.trans (hbg.mono HB4.out.size)
              obtain ⟨Z, hZ⟩ : ∃ Z, Sort.grow (redrawn ws dq) osq = Z := ⟨_, rfl⟩
              rw [hZ] at hbx
              have HBX := Lib.hid hbx
              dsimp only
              rw [hZ]
              clear hZ hbg hbx k0' k1' k2' k3' f0' f1'
              go_wp2_with fail
              go_roundw
              case rel => exact ⟨j + 1, by go_num, by omega, HBX.out⟩
              case measure => simp [intOf]; omega
          · have byz : (y != z) = true := by simp; omega
            have hy01 := hany.resolve_left hyz
            by_cases hν0 : ν = 0
            · obtain rfl : cm = 8 := Decidable.byContradiction fun h => hyz (hst h hν0)
              subst hν0
              clear hany hst hyz
              rcases hy01 with rfl | rfl
              all_goals
                go_wp2_with fail
                refine wp_region_quiet_below (by kernel_rfl) (by kernel_rfl) ?_
                repeat (go_big_quiet_step (fail))
                refine wpQuiet_nil ?_
                intro _ hw'
                obtain ⟨⟨dq, osq⟩, hw4⟩ := hw'
                subst hw4
                have hbg := below_regrown ws dq osq
                have hbx := HB4.out.trans (hbg.mono HB4.out.size)
                obtain ⟨Z, hZ⟩ : ∃ Z, Sort.grow (redrawn ws dq) osq = Z := ⟨_, rfl⟩
                rw [hZ] at hbx
                have HBX := Lib.hid hbx
                dsimp only
                rw [hZ]
                clear hZ hbg hbx k0' k1' k2' k3' f0' f1'
                go_wp2_with fail
                go_roundw
                case rel => exact ⟨j + 1, by go_num, by omega, HBX.out⟩
                case measure => simp [intOf]; omega
            · have bν : (ν == 0) = false := by simp; omega
              clear hν0 hany hst hyz
              rcases hy01 with rfl | rfl
              all_goals
                go_wp2_with fail
                refine wp_region_quiet_below (by kernel_rfl) (by kernel_rfl) ?_
                repeat (go_big_quiet_step (fail))
                refine wpQuiet_nil ?_
                intro _ hw'
                obtain ⟨⟨dq, osq⟩, hw4⟩ := hw'
                subst hw4
                have hbg := below_regrown ws dq osq
                have hbx := HB4.out.trans (hbg.mono HB4.out.size)
                obtain ⟨Z, hZ⟩ : ∃ Z, Sort.grow (redrawn ws dq) osq = Z := ⟨_, rfl⟩
                rw [hZ] at hbx
                have HBX := Lib.hid hbx
                dsimp only
                rw [hZ]
                clear hZ hbg hbx k0' k1' k2' k3' f0' f1'
                go_wp2_with fail
                go_roundw
                case rel => exact ⟨j + 1, by go_num, by omega, HBX.out⟩
                case measure => simp [intOf]; omega
        · obtain rfl : n = j := by omega
          have j01 : ¬ (n : Int) < (n : Int) := by omega
          have HB8 := Lib.hid (HB6.out.trans (hbb.mono HB6.out.size))
          have HG8 := Lib.hid (Nat.lt_of_lt_of_le HG6.out hbb.size)
          have HF8 := Lib.hid (HF6.out.later hbb HG6.out)
          clear hb4 hbb
          go_wp2_with fail
          refine (alive_any _).mono ?_
          rintro r w9 ⟨rfl, hb9⟩
          have g1 := (HF8.out.later hb9 HG8.out).2.1
          have HB9 := Lib.hid (HB8.out.trans (hb9.mono HB8.out.size))
          clear hb9 f0 f1
          go_wp2_with fail
          go_ret
          exact ⟨rfl, HB9.out⟩
theorem bothLaw_any (A B C : Option Addr) (ca cb cc n m k : Nat) (came l : List Int) (ms : List (Int × Int)) (lv f : Int) (w : World) (hr : RdS .i64 w w.heap.size A came) (hr2 : RdS .i64 w w.heap.size B l) (hr3 : RdT w w.heap.size C ms) (hn : came.length = n) (hm : l.length = m) (hk : ms.length = k) (hl : n * 8 ≤ 140737488351232) (hl2 : m * 8 ≤ 140737488351232) (hl3 : k * 16 ≤ 140737488351232) (hca : n ≤ ca) (hcb : m ≤ cb) (hA : A = none → ca = 0) (hB : B = none → cb = 0) :
    Calls Try.prog 6 #[.agg #[.slice A n ca, .slice B m cb, .int .i64 lv, .int .i64 f], .slice C k cc] w fun r w' => r = .returned (.bool true) ∧ Below w.heap.size w w' := by
  by_cases h : m ≤ 200 ∧ k ≤ 200 ∧ M.resOk came l lv f
  · exact bothIn_any A B C ca cb cc n m k came l ms lv f w hr hr2 hr3 hn hm hk hl hl2 hl3 hca hcb hA hB h.1 h.2.1 h.2.2
  · refine bothOther_any A B C ca cb cc n m k came l ms lv f w hr hr2 hr3 hn hm hk hl hl2 hl3 hca hcb hA hB ?_
    by_cases h1 : m ≤ 200
    · by_cases h2 : k ≤ 200
      · exact .inr (.inr fun h3 => h ⟨h1, h2, h3⟩)
      · exact .inr (.inl (by omega))
    · exact .inl (by omega)
end Go.Proofs.Ytaiojghbknacjaa
