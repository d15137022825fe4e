/- Rows of rows of places in memory; and the document's level runs as a plain function. No function of the program is walked here. -/
/- The contracts of the document's right, side and near. Conditions: the slices read as lists, at most a thousand long; near's levels are from -1; side's from 0 to a thousand. -/
/- The contract of the document's levelRuns. Conditions: the slice reads as a list of levels from -1, at most a thousand long. -/
/- The contract of the document's joined: whether a run goes on an earlier one. Conditions: the rows are those of a paragraph's runs, and the other slice tells where isolates end. -/
import Derived.Test.YtjlfgojblimobaaGreatA15
import Derived.Test.YtjlfgojblimobaaGreatA12
import Derived.Deep.AppendLies
section
namespace Go.Proofs.YtjlfgojblimobaaGreat
open Go.RowKit
set_option maxRecDepth 100000

def M.lrF : Nat → List (List Int) → Int → List Int → List (List Int)
  | _, rows, _, [] => rows
  | i, rows, last, x :: r => if x = -1 then M.lrF (i + 1) rows last r
    else if x = last then M.lrF (i + 1) (rows.set (rows.length - 1) (rows.getLastD [] ++ [(i : Int)])) x r
    else M.lrF (i + 1) (rows ++ [[(i : Int)]]) x r
theorem M.lrF_cut (b : Int) : ∀ (r : List Int) (i : Nat) (c : M.Rn) (D : List (List Int)) (last : Int), (∀ x ∈ r, -1 ≤ x) → (c.pl ≠ [] → last = c.lv) → (c.pl = [] → last = -2) →
    M.lrF i (D ++ (if c.pl = [] then [] else [c.pl])) last r = D ++ (M.cutR b i c r).map (·.pl) := by
  intro r
  induction r with
  | nil =>
    intro i c D last _ _ _
    unfold M.lrF M.cutR
    split <;> simp
  | cons x r ih =>
    intro i c D last hge h1 h2
    have hx := hge x (by simp)
    have hr : ∀ y ∈ r, -1 ≤ y := fun y hy => hge y (by simp [hy])
    unfold M.lrF M.cutR
    by_cases hxm : x = -1
    · rw [if_pos hxm, if_pos hxm]
      exact ih (i + 1) c D last hr h1 h2
    · rw [if_neg hxm, if_neg hxm]
      by_cases hc : c.pl = []
      · have hl := h2 hc
        rw [if_neg (show ¬ x = last by omega), if_neg (show ¬ (c.pl ≠ [] ∧ x ≠ c.lv) from fun h => h.1 hc), if_pos hc, List.append_nil]
        have := ih (i + 1) ⟨c.pl ++ [(i : Int)], x, c.ah, c.be⟩ D x hr (fun _ => rfl) (fun h => by simp at h)
        rw [if_neg (by simp)] at this
        rw [← this, hc]
        rfl
      · have hl := h1 hc
        rw [if_neg hc]
        by_cases hxl : x = last
        · rw [if_pos hxl, if_neg (show ¬ (c.pl ≠ [] ∧ x ≠ c.lv) from fun h => h.2 (by omega))]
          have := ih (i + 1) ⟨c.pl ++ [(i : Int)], x, c.ah, c.be⟩ D x hr (fun _ => rfl) (fun h => by simp at h)
          rw [if_neg (by simp)] at this
          rw [← this]
          congr 1
          simp
        · rw [if_neg hxl, if_pos ⟨hc, by omega⟩]
          have := ih (i + 1) ⟨[(i : Int)], x, c.lv, 0⟩ (D ++ [c.pl]) x hr (fun _ => rfl) (fun h => by simp at h)
          rw [if_neg (by simp)] at this
          rw [this]
          simp
theorem M.lrF_runs (lv : List Int) (b : Int) (hge : ∀ x ∈ lv, -1 ≤ x) : M.lrF 0 [] (-2) lv = (M.runs lv b).map (·.pl) := by
  have := M.lrF_cut b lv 0 ⟨[], 0, b, 0⟩ [] (-2) hge (fun h => absurd rfl h) (fun _ => rfl)
  simpa [M.runs] using this

def rowCells : List Sv → List (List Int) → List Value
  | v :: vs, l :: ls => .slice v.1 l.length v.2 :: rowCells vs ls
  | _, _ => []
theorem rowCells_at : ∀ {vs : List Sv} {ls : List (List Int)} {k : Nat} {v : Sv} {l : List Int}, vs[k]? = some v → ls[k]? = some l → (rowCells vs ls)[k]? = some (.slice v.1 l.length v.2) := by
  intro vs
  induction vs with
  | nil => intro ls k v l h; simp at h
  | cons v0 vs ih =>
    intro ls k v l h1 h2
    cases ls with
    | nil => simp at h2
    | cons l0 ls =>
      cases k with
      | zero => simp at h1 h2; subst h1 h2; rfl
      | succ k => simp at h1 h2; exact ih h1 h2
theorem rowCells_set : ∀ {vs : List Sv} {ls : List (List Int)} {k : Nat} (v' : Sv) (l' : List Int), k < vs.length → k < ls.length → (rowCells vs ls).set k (.slice v'.1 l'.length v'.2) = rowCells (vs.set k v') (ls.set k l') := by
  intro vs
  induction vs with
  | nil => intro ls k v l h; simp at h
  | cons v0 vs ih =>
    intro ls k v l h1 h2
    cases ls with
    | nil => simp at h2
    | cons l0 ls =>
      cases k with
      | zero => simp [rowCells]
      | succ k => simp at h1 h2; simp [rowCells, ih v l h1 h2]
theorem rowCells_snoc : ∀ {vs : List Sv} {ls : List (List Int)} (v : Sv) (l : List Int), vs.length = ls.length → rowCells vs ls ++ [.slice v.1 l.length v.2] = rowCells (vs ++ [v]) (ls ++ [l]) := by
  intro vs
  induction vs with
  | nil => intro ls v l h; cases ls with
    | nil => rfl
    | cons l0 ls => simp at h
  | cons v0 vs ih => intro ls v l h; cases ls with
    | nil => simp at h
    | cons l0 ls =>
      simp only [rowCells, List.cons_append]
      rw [ih v l (by simpa using h)]
structure RwR (base : Nat) (W : World) (ls : List (List Int)) (vs : List Sv) (va : Value) : Prop where
  row : W.ownsRow base 25 1 va ls.length (rowCells vs ls)
  rws : Rws W base vs ls
section
variable {base : Nat} {W W' W1 : World} {ls : List (List Int)} {vs : List Sv} {va : Value}
theorem RwR.later (h : RwR base W ls vs va) (hb : Below W.heap.size W W') : RwR base W' ls vs va := by
  refine ⟨⟨h.row.1, ?_⟩, h.rws.below hb⟩
  rcases h.row.2 with h0 | ⟨g, cap, cur, hv, hbg, hg, rest⟩
  · exact .inl h0
  · exact .inr ⟨g, cap, cur, hv, hbg, by rw [hb.block g (lt_of_block hg)]; exact hg, rest⟩
theorem RwR.pushed {va' : Value} {tmp : Obj} (h : RwR base W ls vs va) (hg : (W.alloc tmp).grownBy W1 va.ownBlock) (ho : W1.ownsRow base 25 1 va' (ls.length + 1) (rowCells vs ls ++ [.slice none 0 0])) :
    RwR base W1 (ls ++ [[]]) (vs ++ [(none, 0)]) va' := by
  have hal : Below W.heap.size W (W.alloc tmp) := (Below.refl _ _).alloc (Nat.le_refl _) _
  have ha := h.later hal
  have hrw1 : Rws W1 base vs ls := ha.rws.growOther ha.row (by decide) hg
  refine ⟨?_, hrw1.snoc⟩
  rw [List.length_append, ← rowCells_snoc (none, 0) [] h.rws.len]
  exact ho
theorem RwR.cells {k : Nat} {l : List Int} {v : Sv} (h : RwR base W ls vs va) (hs : ls[k]? = some l) (hv : vs[k]? = some v) : ∃ G c, va = .slice (some ⟨G, 0, none⟩) ls.length c ∧ base ≤ G ∧ (∃ cs, W.heap[G]? = some (.cells cs 25 (0, 0))) ∧
    W.cell? ⟨G, k, none⟩ = some (.slice v.1 l.length v.2) ∧ (∀ j, W.frozen? ⟨G, j, none⟩ = false) := by
  have hk := (List.getElem?_eq_some_iff.1 hs).1
  rcases h.row.2 with ⟨_, h0⟩ | ⟨g, cap, cur, hv', hbg, hg, hn, hm, _, _⟩
  · omega
  · have hr := h.row
    rw [hv'] at hr
    exact ⟨g, cap, hv', hbg, ⟨cur, hg⟩, (World.ownsRow.cellAt (size := 1) hr _ (by omega)).trans (rowCells_at hv hs), fun j => hr.frozenAt j⟩
theorem RwR.placed {k G c g cap : Nat} {l : List Int} {v : Sv} {new : List Int} (h : RwR base W ls vs va) (hs : ls[k]? = some l) (hv : vs[k]? = some v) (hva : va = .slice (some ⟨G, 0, none⟩) ls.length c)
    (hg : W.grownBy W1 (Value.slice v.1 l.length v.2).ownBlock) (ho : W1.ownsRow base 3 1 (.slice (some ⟨g, 0, none⟩) (l.length + new.length) cap) (l.length + new.length) (l.map (Value.int .i64) ++ new.map (Value.int .i64)))
    (hat : (Value.slice v.1 l.length v.2).ownBlock = some g ∨ g = W.heap.size) :
    RwR base (W1.setCell ⟨G, k, none⟩ (.slice (some ⟨g, 0, none⟩) (l.length + new.length) cap)) (ls.set k (l ++ new)) (vs.set k (some ⟨g, 0, none⟩, cap)) va ∧ W1.cell? ⟨G, k, none⟩ = some (.slice v.1 l.length v.2) ∧ W1.frozen? ⟨G, k, none⟩ = false ∧ base ≤ G := by
  have hk := (List.getElem?_eq_some_iff.1 hs).1
  have hown := h.rws.own k v l hv hs
  rw [own_blk] at hg hat
  have hrw1 := h.rws.grow hv hs rfl hg (by rw [List.map_append]; exact ho) (by simp) (hat.imp_right (fun e => by omega))
  obtain ⟨G', c', hva', hG', ⟨cs, hcs⟩, _⟩ := h.cells hs hv
  obtain rfl : G = G' := by rw [hva] at hva'; injection hva' with e; injection e with e; injection e
  have hGne : v.1.map (·.block) ≠ some G := fun e => by
    rcases hown.2 with ⟨hv0, _⟩ | ⟨g2, _, _, hv2, _, hg2, _⟩
    · injection hv0 with e1
      rw [e1] at e
      cases e
    · injection hv2 with e1
      rw [e1] at e
      have e3 : g2 = G := by simpa using e
      rw [e3, hcs] at hg2
      injection hg2 with hg2
      injection hg2 with _ hg2 _
      revert hg2
      decide
  have hG1 : W1.heap[G]? = some (.cells cs 25 (0, 0)) := (hg.block G (Array.getElem?_eq_some_iff.1 hcs).1 (fun e => hGne e.symm)).trans hcs
  have hrow1 : W1.ownsRow base 25 1 va ls.length (rowCells vs ls) := h.row.kept hg (.inr (by rw [hva]; exact fun e => hGne e.symm))
  subst hva
  refine ⟨⟨?_, hrw1.setOther hG1 (by decide) _⟩, (World.ownsRow.cellAt (size := 1) hrow1 k (by omega)).trans (rowCells_at hv hs), World.ownsRow.frozenAt hrow1 k, hG'⟩
  rw [List.length_set]
  have := (World.ownsRow.stored hrow1 k (.slice (some ⟨g, 0, none⟩) (l.length + new.length) cap)).1
  rw [← rowCells_set (some ⟨g, 0, none⟩, cap) (l ++ new) (by rw [h.rws.len]; exact hk) hk]
  simpa using this
end
end Go.Proofs.YtjlfgojblimobaaGreat
end

section
namespace Go.Proofs.YtjlfgojblimobaaGreat
open Go.RowKit
set_option maxRecDepth 100000

set_option maxHeartbeats 4000000 in
theorem right_any (A B : Option Addr) (ca cb n m : Nat) (l lv : List Int) (bs : Int) (w : World) (hr : RdS .i64 w w.heap.size A l) (hn : l.length = n) (hl : n ≤ 1000) (hr2 : RdS .i64 w w.heap.size B lv) (hm : lv.length = m) (hl2 : m ≤ 1000) :
    Calls Tryz.prog 92 #[.slice A n ca, .slice B m cb, .int .i64 bs] w (Tells (M.Fits l lv bs) w) := by
  have HR := Lib.hid hr
  have HR2 := Lib.hid hr2
  have HN := Lib.hid hn
  have HM := Lib.hid hm
  have hl1 : (n : Int) ≤ 1000 := by omega
  have hl21 : (m : Int) ≤ 1000 := by omega
  clear hr hr2 hn hm
  by_cases hnm : n = m
  · subst hnm
    by_cases hb0 : bs < 0
    · have HF := Lib.hid (show ¬ M.Fits l lv bs from fun h => by have := h.base; omega)
      go_enter Tryz.func92, Tryz.ntmps92
      go_wp2_with fail
      go_ret
      exact ⟨false, rfl, ⟨fun h => by (cases h), fun h => absurd h HF.out⟩, rfl⟩
    by_cases hb1 : 1 < bs
    · have HF := Lib.hid (show ¬ M.Fits l lv bs from fun h => by have := h.base; omega)
      go_enter Tryz.func92, Tryz.ntmps92
      go_wp2_with fail
      go_ret
      exact ⟨false, rfl, ⟨fun h => by (cases h), fun h => absurd h HF.out⟩, rfl⟩
    have hb01 : bs = 0 ∨ bs = 1 := by omega
    have HB01 := Lib.hid hb01
    clear hb01
    go_enter Tryz.func92, Tryz.ntmps92
    go_wp2_with fail
    go_loop [7] (fun v => ∃ k : Nat, k ≤ n ∧ v = .int .i64 k ∧ M.FitTo l lv k) (fun v => n - (intOf v).toNat)
    case atStart => exact ⟨0, Nat.zero_le _, rfl, fun i _ _ hi => by omega⟩
    case round =>
      obtain ⟨k, hk, rfl, hto⟩ := hrel
      have HT := Lib.hid hto
      have hk0 : (0 : Int) ≤ (k : Int) := by omega
      clear hto
      by_cases hlt : k < n
      · obtain ⟨ad, c, rfl, hcc, hc, -⟩ := rd_at HR.out (Below.refl _ _) (by rw [HN.out]; exact hlt : k < l.length)
        obtain ⟨ad2, x, rfl, hcx, hx, -⟩ := rd_at HR2.out (Below.refl _ _) (by rw [HM.out]; exact hlt : k < lv.length)
        have hk1 : (k : Int) < (n : Int) := by omega
        have HC := Lib.hid hc
        have HX := Lib.hid hx
        have HRM := Lib.hid (removed_any c w)
        obtain ⟨b, hb⟩ : ∃ b, M.removed c = b := ⟨_, rfl⟩
        rw [hb] at HRM
        have HB := Lib.hid hb
        clear hc hx hb
        by_cases h1 : x < -1
        · have HF := Lib.hid (show ¬ M.Fits l lv bs from fun h => by have := ((M.fits_iff.1 h).2.2 k c x (by rw [HM.out]; omega) HC.out HX.out).1; omega)
          go_wp2_with fail
          refine HRM.out.mono ?_
          rintro r w1 ⟨rfl, rfl⟩
          go_wp2_with fail
          go_ret
          exact ⟨false, rfl, ⟨fun h => by (cases h), fun h => absurd h HF.out⟩, rfl⟩
        · by_cases h2 : 125 < x
          · have HF := Lib.hid (show ¬ M.Fits l lv bs from fun h => by have := ((M.fits_iff.1 h).2.2 k c x (by rw [HM.out]; omega) HC.out HX.out).2.1; omega)
            go_wp2_with fail
            refine HRM.out.mono ?_
            rintro r w1 ⟨rfl, rfl⟩
            go_wp2_with fail
            go_ret
            exact ⟨false, rfl, ⟨fun h => by (cases h), fun h => absurd h HF.out⟩, rfl⟩
          · by_cases h3 : x = -1
            · subst h3
              cases b with
              | true =>
                have HT2 := Lib.hid (HT.out.next HC.out HX.out ⟨by omega, by omega, by simp [HB.out]⟩)
                go_wp2_with fail
                refine HRM.out.mono ?_
                rintro r w1 ⟨rfl, rfl⟩
                go_wp2_with fail
                go_round
                case rel => exact ⟨k + 1, by omega, by go_num, HT2.out⟩
                case measure => simp [intOf]; omega
              | false =>
                have HF := Lib.hid (show ¬ M.Fits l lv bs from fun h => by have := ((M.fits_iff.1 h).2.2 k c _ (by rw [HM.out]; omega) HC.out HX.out).2.2.1 rfl; rw [HB.out] at this; cases this)
                go_wp2_with fail
                refine HRM.out.mono ?_
                rintro r w1 ⟨rfl, rfl⟩
                go_wp2_with fail
                go_ret
                exact ⟨false, rfl, ⟨fun h => by (cases h), fun h => absurd h HF.out⟩, rfl⟩
            · have h3' : (x == -1) = false := by simp [h3]
              cases b with
              | true =>
                have HF := Lib.hid (show ¬ M.Fits l lv bs from fun h => by have := ((M.fits_iff.1 h).2.2 k c _ (by rw [HM.out]; omega) HC.out HX.out).2.2.2 HB.out; omega)
                go_wp2_with fail
                refine HRM.out.mono ?_
                rintro r w1 ⟨rfl, rfl⟩
                go_wp2_with fail
                go_ret
                exact ⟨false, rfl, ⟨fun h => by (cases h), fun h => absurd h HF.out⟩, rfl⟩
              | false =>
                have HT2 := Lib.hid (HT.out.next HC.out HX.out ⟨by omega, by omega, by rw [HB.out]; simp [h3]⟩)
                go_wp2_with fail
                refine HRM.out.mono ?_
                rintro r w1 ⟨rfl, rfl⟩
                go_wp2_with fail
                go_round
                case rel => exact ⟨k + 1, by omega, by go_num, HT2.out⟩
                case measure => simp [intOf]; omega
      · obtain rfl : k = n := by omega
        have hk1 : ¬ (k : Int) < (k : Int) := by omega
        go_wp2_with fail
        go_ret
        exact ⟨true, rfl, ⟨fun _ => M.fits_iff.2 ⟨HB01.out, by rw [HN.out, HM.out], by rw [HM.out]; exact HT.out⟩, fun _ => rfl⟩, rfl⟩
  · have hnm' : ¬ (n : Int) = m := by omega
    have HF := Lib.hid (show ¬ M.Fits l lv bs from fun h => by have := h.len; rw [HN.out, HM.out] at this; exact hnm this)
    go_enter Tryz.func92, Tryz.ntmps92
    go_wp2_with fail
    go_ret
    exact ⟨false, rfl, ⟨fun h => by (cases h), fun h => absurd h HF.out⟩, rfl⟩

theorem refside_any (a b : Int) (w : World) (ha : 0 ≤ a) (ha1 : a ≤ 1000) (hb : 0 ≤ b) (hb1 : b ≤ 1000) : Calls Tryz.prog 97 #[.int .i64 a, .int .i64 b] w fun r w' => r = .returned (.int .i64 (M.sd a b)) ∧ w = w' := by
  have H := Lib.hid (show M.sd a b = if max a b % 2 = 0 then 0 else 1 from rfl)
  rcases Int.lt_or_le a b with h | h
  · rw [Int.max_eq_right (by omega)] at H
    rcases Int.emod_two_eq b with h2 | h2
    · go_enter Tryz.func97, Tryz.ntmps97
      go_wp2_with fail
      go_ret
      exact ⟨ret_int (by rw [H.out, if_pos h2]), rfl⟩
    · go_enter Tryz.func97, Tryz.ntmps97
      go_wp2_with fail
      go_ret
      exact ⟨ret_int (by rw [H.out, if_neg (by omega)]), rfl⟩
  · rw [Int.max_eq_left (by omega)] at H
    rcases Int.emod_two_eq a with h2 | h2
    · go_enter Tryz.func97, Tryz.ntmps97
      go_wp2_with fail
      go_ret
      exact ⟨ret_int (by rw [H.out, if_pos h2]), rfl⟩
    · go_enter Tryz.func97, Tryz.ntmps97
      go_wp2_with fail
      go_ret
      exact ⟨ret_int (by rw [H.out, if_neg (by omega)]), rfl⟩

set_option maxHeartbeats 4000000 in
theorem near_up (B : Option Addr) (cb m k0 : Nat) (lv : List Int) (b : Int) (w : World) (hr2 : RdS .i64 w w.heap.size B lv) (hm : lv.length = m) (hl2 : m ≤ 1000) (hge : ∀ x ∈ lv, -1 ≤ x) (hk : k0 ≤ m) :
    Calls Tryz.prog 96 #[.slice B m cb, .int .i64 k0, .int .i64 1, .int .i64 b] w fun r w' => r = .returned (.int .i64 (M.near b (lv.drop k0))) ∧ w = w' := by
  have HR2 := Lib.hid hr2
  have HM := Lib.hid hm
  have HG := Lib.hid hge
  have hl21 : (m : Int) ≤ 1000 := by omega
  obtain ⟨R, hR⟩ : ∃ R, M.near b (lv.drop k0) = R := ⟨_, rfl⟩
  rw [hR]
  have HRR := Lib.hid hR
  clear hr2 hm hge hR
  go_enter Tryz.func96, Tryz.ntmps96
  go_wp2_with fail
  go_loop [1] (fun v => ∃ k : Nat, k ≤ m ∧ v = .int .i64 k ∧ M.near b (lv.drop k) = R) (fun v => m - (intOf v).toNat)
  case atStart => exact ⟨k0, hk, rfl, HRR.out⟩
  case round =>
    obtain ⟨k, hkm, rfl, hto⟩ := hrel
    have HT := Lib.hid hto
    have hk0' : (0 : Int) ≤ (k : Int) := by omega
    clear hto
    by_cases hlt : k < m
    · obtain ⟨ad2, x, rfl, hcx, hx, -⟩ := rd_at HR2.out (Below.refl _ _) (by rw [HM.out]; exact hlt : k < lv.length)
      have hk1 : (k : Int) < (m : Int) := by omega
      have hx1 := HG.out x (List.mem_of_getElem? hx)
      have hd := M.drop_next hx
      have h1 := HT.out
      rw [hd] at h1
      have H1 := Lib.hid h1
      clear hx hd h1
      by_cases hxm : x = -1
      · subst hxm
        rw [M.near_gap] at H1
        go_wp2_with fail
        go_round
        case rel => exact ⟨k + 1, by omega, by go_num, H1.out⟩
        case measure => simp [intOf]; omega
      · rw [M.near_on hxm] at H1
        have hx0 : 0 ≤ x := by omega
        go_wp2_with fail
        go_ret
        exact ⟨ret_int H1.out, rfl⟩
    · obtain rfl : k = m := by omega
      have hk1 : ¬ (k : Int) < (k : Int) := by omega
      have h1 := HT.out
      rw [List.drop_eq_nil_of_le (by rw [HM.out]; exact Nat.le_refl _)] at h1
      have H1 := Lib.hid (show b = R from h1)
      clear h1
      go_wp2_with fail
      go_ret
      exact ⟨ret_int H1.out, rfl⟩
set_option maxHeartbeats 4000000 in
theorem near_down (B : Option Addr) (cb m k0 : Nat) (lv : List Int) (b p : Int) (w : World) (hr2 : RdS .i64 w w.heap.size B lv) (hm : lv.length = m) (hl2 : m ≤ 1000) (hge : ∀ x ∈ lv, -1 ≤ x) (hk : k0 ≤ m) (hp : p + 1 = k0) :
    Calls Tryz.prog 96 #[.slice B m cb, .int .i64 p, .int .i64 (-1), .int .i64 b] w fun r w' => r = .returned (.int .i64 (M.near b (lv.take k0).reverse)) ∧ w = w' := by
  have HR2 := Lib.hid hr2
  have HM := Lib.hid hm
  have HG := Lib.hid hge
  have hl21 : (m : Int) ≤ 1000 := by omega
  obtain ⟨R, hR⟩ : ∃ R, M.near b (lv.take k0).reverse = R := ⟨_, rfl⟩
  rw [hR]
  have HRR := Lib.hid hR
  clear hr2 hm hge hR
  go_enter Tryz.func96, Tryz.ntmps96
  go_wp2_with fail
  go_loop [1] (fun v => ∃ (k : Nat) (q : Int), k ≤ m ∧ v = .int .i64 q ∧ q + 1 = k ∧ M.near b (lv.take k).reverse = R) (fun v => (intOf v + 1).toNat)
  case atStart => exact ⟨k0, p, hk, rfl, hp, HRR.out⟩
  case round =>
    obtain ⟨k, q, hkm, rfl, hq, hto⟩ := hrel
    have HT := Lib.hid hto
    clear hto
    cases k with
    | zero =>
      have H1 := Lib.hid (show b = R from HT.out)
      have hq0 : ¬ 0 ≤ q := by omega
      clear hq
      go_wp2_with fail
      go_ret
      exact ⟨ret_int H1.out, rfl⟩
    | succ k =>
      obtain rfl : q = (k : Nat) := by omega
      have hk0' : (0 : Int) ≤ (k : Int) := by omega
      obtain ⟨ad2, x, rfl, hcx, hx, -⟩ := rd_at HR2.out (Below.refl _ _) (by rw [HM.out]; omega : k < lv.length)
      have hk1 : (k : Int) < (m : Int) := by omega
      have hx1 := HG.out x (List.mem_of_getElem? hx)
      have hd := M.take_next hx
      have h1 := HT.out
      rw [hd] at h1
      have H1 := Lib.hid h1
      clear hx hd h1
      by_cases hxm : x = -1
      · subst hxm
        rw [M.near_gap] at H1
        have hw1 : IntKind.i64.wrap ((k : Int) + -1) = (k : Int) - 1 := by rw [IntKind.wrap_i64]; omega
        go_wp2_with fail
        go_round
        case rel => exact ⟨k, (k : Int) - 1, by omega, by go_num, by omega, H1.out⟩
        case measure => simp [intOf]
      · rw [M.near_on hxm] at H1
        have hx0 : 0 ≤ x := by omega
        go_wp2_with fail
        go_ret
        exact ⟨ret_int H1.out, rfl⟩
end Go.Proofs.YtjlfgojblimobaaGreat
end

section
namespace Go.Proofs.YtjlfgojblimobaaGreat
open Go.RowKit
set_option maxRecDepth 100000

theorem Tryz.infoRow : (Tryz.prog.info? 25).map (fun i => (i.zero, i.size, i.bytes)) = some (some (.slice none 0 0), 1, 24) := by kernel_rfl
theorem one_slice (A : Option Addr) (n c : Nat) : ∀ u ∈ [Value.slice A n c], u.oneCell' = true := by
  intro u hu; simp at hu; subst hu; rfl
theorem last_row {base : Nat} {W : World} {ls : List (List Int)} {vs : List Sv} {va : Value} (h : RwR base W ls vs va) {L : Nat} (hL : ls.length = L + 1) : ∃ l v, ls[L]? = some l ∧ vs[L]? = some v ∧ ls.getLastD [] = l := by
  obtain ⟨l, hl⟩ : ∃ l, ls[L]? = some l := ⟨_, List.getElem?_eq_getElem (by omega)⟩
  obtain ⟨v, hv⟩ : ∃ v, vs[L]? = some v := ⟨_, List.getElem?_eq_getElem (by rw [h.rws.len]; omega)⟩
  refine ⟨l, v, hl, hv, ?_⟩
  rw [List.getLastD_eq_getLast?, List.getLast?_eq_getElem?, show ls.length - 1 = L by omega, hl]
  rfl
set_option maxHeartbeats 8000000 in
theorem refRuns_any (B : Option Addr) (cb m : Nat) (lv : List Int) (b : Int) (w : World) (hr2 : RdS .i64 w w.heap.size B lv) (hm : lv.length = m) (hl2 : m ≤ 1000) (hge : ∀ x ∈ lv, -1 ≤ x) :
    Calls Tryz.prog 93 #[.slice B m cb] w fun r w' => Below w.heap.size w w' ∧ ∃ vs va, r = .returned va ∧ RwR w.heap.size w' ((M.runs lv b).map (·.pl)) vs va := by
  have HR2 := Lib.hid hr2
  have HM := Lib.hid hm
  have HG := Lib.hid hge
  have hl21 : (m : Int) ≤ 1000 := by omega
  have HR0 := Lib.hid (M.lrF_runs lv b hge)
  obtain ⟨R, hR⟩ : ∃ R, (M.runs lv b).map (·.pl) = R := ⟨_, rfl⟩
  rw [hR] at HR0 ⊢
  obtain ⟨i0, hi, hz0, hz1, hz2⟩ := info_parts Tryz.infoRow
  obtain ⟨j0, hj, hy0, hy1, hy2⟩ := info_parts Tryz.infoInt
  clear hr2 hm hge hR
  go_enter Tryz.func93, Tryz.ntmps93
  go_wp2_with fail
  go_loopw [3, 4, 5] (fun v3 v4 v5 wr => ∃ (k K : Nat) (rows : List (List Int)) (vs : List Sv) (last : Int) (A3 : Option Addr) (c3 : Nat), k ≤ m ∧ v5 = .int .i64 k ∧ v4 = .int .i64 last ∧ v3 = .slice A3 K c3 ∧ rows.length = K ∧ RwR w.heap.size wr rows vs v3 ∧ M.lrF k rows last (lv.drop k) = R ∧ (rows = [] → last = -2) ∧ -2 ≤ last ∧ K ≤ k ∧ (∀ l ∈ rows, l.length ≤ k) ∧ Below w.heap.size w wr) (fun _ _ v5 _ => m - (intOf v5).toNat)
  case atStart => exact ⟨0, 0, [], [], -2, none, 0, Nat.zero_le _, rfl, rfl, rfl, rfl, ⟨World.ownsRow_nil _ _ _ _, Rws.nil _ _⟩, HR0.out, fun _ => rfl, by omega, Nat.zero_le _, (fun l hl => by cases hl), Below.refl _ _⟩
  case round =>
    obtain ⟨k, K, rows, vs, last, A3, c3, hk, rfl, rfl, rfl, hKl, hrw, hlr, hl0, hlast, hKk, hrl0, hb⟩ := hrel
    have HRW := Lib.hid hrw
    have HLR := Lib.hid hlr
    have HL0 := Lib.hid hl0
    have HKL := Lib.hid hKl
    have HRL0 := Lib.hid hrl0
    have HB := Lib.hid hb
    have hsz := hb.size
    have k0 : (0 : Int) ≤ k := by omega
    clear hrw hlr hl0 hKl hb hrl0
    by_cases hlt : k < m
    · have k1 : (k : Int) < m := by omega
      obtain ⟨x, hx⟩ : ∃ x, lv[k]? = some x := ⟨_, List.getElem?_eq_getElem (by rw [HM.out]; exact hlt)⟩
      obtain ⟨ad2, rfl, hadlt, hcx0⟩ := HR2.out k x hx
      have hcw := Lib.hid (show ∀ W', Below w.heap.size w W' → W'.cell? (ad2.add k) = some (.int .i64 x) from fun W' hW => (hW.cell (by rw [addr_block]; exact hadlt)).trans hcx0)
      have hcx := hcw.out wr HB.out
      clear hadlt hcx0
      have hxg := HG.out x (List.mem_of_getElem? hx)
      have hd := M.drop_next hx
      have h1 := HLR.out
      rw [hd] at h1
      unfold M.lrF at h1
      have HL := Lib.hid h1
      clear hx hd h1
      by_cases hxm : x = -1
      · subst hxm
        rw [if_pos rfl] at HL
        go_wp2_with fail
        go_roundw
        case rel => exact ⟨k + 1, K, rows, vs, last, A3, c3, by omega, by go_num, rfl, rfl, HKL.out, HRW.out, HL.out, HL0.out, hlast, by omega, fun l hl => Nat.le_succ_of_le (HRL0.out l hl), HB.out⟩
        case measure => simp [intOf]; omega
      · rw [if_neg hxm] at HL
        have hx0 : 0 ≤ x := by omega
        have hxn : ¬ x < 0 := by omega
        by_cases hxl : x = last
        · rw [if_pos hxl] at HL
          subst hxl
          obtain ⟨L, hLK⟩ : ∃ L, L + 1 = K := ⟨K - 1, by
            have : rows ≠ [] := fun e => by have := HL0.out e; omega
            have := List.length_pos_iff.2 this
            have := HKL.out
            omega⟩
          obtain ⟨l, ⟨v1, v2⟩, hl, hv, hgl⟩ := last_row HRW.out (show rows.length = L + 1 by rw [HKL.out, hLK])
          rw [hgl, show rows.length - 1 = L by rw [HKL.out]; omega] at HL
          obtain ⟨G, cG, hva, -, -, y1, -⟩ := HRW.out.cells hl hv
          injection hva with hva1 hva2 hva3
          clear hva2
          subst hva1 hva3
          have hnl0 := HRL0.out l (List.mem_of_getElem? hl)
          have hown0 := HRW.out.rws.own L (v1, v2) l hv hl
          obtain ⟨nl, hnl⟩ : ∃ nl, l.length = nl := ⟨_, rfl⟩
          rw [hnl] at y1 hnl0 hown0
          have hK2 : (K : Int) - 1 = L := by omega
          have hw1 : IntKind.i64.wrap ((K : Int) - 1) = (L : Nat) := by rw [IntKind.wrap_i64]; omega
          have hw2 : IntKind.i64.wrap (L : Int) = (L : Nat) := by rw [IntKind.wrap_i64]; omega
          have hK3 : (L : Int) < K := by omega
          have hK4 : (0 : Int) ≤ L := by omega
          have hK5 : (K : Int) ≤ 1001 := by omega
          have HLV := Lib.hid (And.intro hl hv)
          have HOW := Lib.hid hown0
          have HNL := Lib.hid hnl
          clear hl hv hown0 hgl hnl
          go_wp2_with (at_builtin; refine wpList_append_lies _ rfl _ _ 25 rfl w.heap.size 3 j0 (.int .i64 0) 1 8 Tryz.underlying25 hj hy0 hy1 hy2 rfl (by decide) _ _ _ rfl (World.ownsRow.alloc HOW.out _) ⟨wr.heap.size, 0, none⟩ 1 1 [.int .i64 k] rfl rfl (one_new _ _ _) one_cell (by decide) (by unfold maxLen; omega) (by omega) (by simp; omega) (wr.heap.size + 1) (by simp) ?_)
          intro g cap w5 hown5 hgrow5 hat5 _
          have hal := HRW.out.later ((Below.refl _ _).alloc (Nat.le_refl _) (.cells #[.int .i64 k] 3))
          obtain ⟨hP5, z1, zf, hGb⟩ := hal.placed (new := [(k : Int)]) HLV.out.1 HLV.out.2 (by rw [HKL.out]) (by rw [HNL.out]; exact hgrow5) (by rw [HNL.out]; exact hown5) (by rw [HNL.out]; exact hat5.imp_right (fun e => by simpa using e))
          rw [HNL.out] at hP5 z1
          have hb5 : Below w.heap.size w (w5.setCell ⟨G, L, none⟩ (.slice (some ⟨g, 0, none⟩) (nl + 1) cap)) := ((HB.out.alloc hsz _).grown hgrow5 (by simp; omega) (fun q hq => (World.ownsRow.lt HOW.out q hq).1)).setCell (p := ⟨G, L, none⟩) hGb _
          have hcx6 := hcw.out _ hb5
          have HP5 := Lib.hid (show RwR w.heap.size (w5.setCell ⟨G, L, none⟩ (.slice (some ⟨g, 0, none⟩) (nl + 1) cap)) _ _ _ from hP5)
          have HB5 := Lib.hid hb5
          clear hal hP5 hb5 hown5 hgrow5 hat5
          go_wp2_with fail
          go_roundw
          case rel => exact ⟨k + 1, K, rows.set L (l ++ [(k : Int)]), _, x, _, _, by omega, by go_num, rfl, rfl, by rw [List.length_set]; exact HKL.out, HP5.out, HL.out, fun e => absurd (congrArg List.length e) (by rw [List.length_set, HKL.out]; simp; omega), by omega, by omega, fun l' hl' => by
            rcases List.mem_or_eq_of_mem_set hl' with h | h
            · exact Nat.le_succ_of_le (HRL0.out l' h)
            · rw [h, List.length_append, HNL.out]; simp; omega, HB5.out⟩
          case measure => simp [intOf]; omega
        · rw [if_neg hxl] at HL
          have HLL := Lib.hid (HRW.out.rws.len)
          go_wp2_with (at_builtin; refine wpList_append_lies _ rfl _ _ 147 rfl w.heap.size 25 i0 (.slice none 0 0) 1 24 Tryz.underlying147 hi hz0 hz1 hz2 rfl (by decide) _ _ _ rfl (World.ownsRow.alloc (HKL.out ▸ HRW.out.row) _) ⟨wr.heap.size, 0, none⟩ 1 1 [.slice none 0 0] rfl rfl (one_new _ _ _) (one_slice _ _ _) (by decide) (by unfold maxLen; omega) (by omega) (by simp; omega) (wr.heap.size + 1) (by simp) ?_)
          intro G cG w4 hown hgrow hat _
          have hP := RwR.pushed HRW.out hgrow (by rw [HKL.out]; exact hown)
          have hb4 : Below w.heap.size w w4 := (HB.out.alloc hsz _).grown hgrow (by simp; omega) (fun q hq => (World.ownsRow.lt HRW.out.row q hq).1)
          have hl : (rows ++ [[]])[K]? = some [] := by rw [List.getElem?_append_right (by rw [HKL.out]; exact Nat.le_refl _), HKL.out, Nat.sub_self]; rfl
          have hv : (vs ++ [((none, 0) : Sv)])[K]? = some (none, 0) := by rw [List.getElem?_append_right (by rw [HLL.out, HKL.out]; exact Nat.le_refl _), HLL.out, HKL.out, Nat.sub_self]; rfl
          obtain ⟨G', cG', hva, -, -, y1, -⟩ := hP.cells hl hv
          injection hva with hva1 hva2 hva3
          clear hva2
          injection hva1 with hva1
          injection hva1 with hva1
          subst hva1 hva3
          obtain ⟨K1, hK1⟩ : ∃ K1, K + 1 = K1 := ⟨_, rfl⟩
          have hrl : (rows ++ [([] : List Int)]).length = K1 := by rw [List.length_append, HKL.out]; exact hK1
          rw [hK1] at hP ⊢
          have hK2 : (K1 : Int) - 1 = K := by omega
          have hw1 : IntKind.i64.wrap ((K1 : Int) - 1) = (K : Nat) := by rw [IntKind.wrap_i64]; omega
          have hw2 : IntKind.i64.wrap (K : Int) = (K : Nat) := by rw [IntKind.wrap_i64]; omega
          have hK3 : (K : Int) < K1 := by omega
          have hK4 : (0 : Int) ≤ K := by omega
          have hK5 : (K1 : Int) ≤ 1001 := by omega
          have hsz4 := hb4.size
          have HP := Lib.hid hP
          have HB4 := Lib.hid hb4
          have HLV := Lib.hid (And.intro hl hv)
          have HRL := Lib.hid hrl
          clear hP hb4 hl hv hrl hown hgrow hat
          go_wp2_with (at_builtin; refine wpList_append_lies _ rfl _ _ 25 rfl w.heap.size 3 j0 (.int .i64 0) 1 8 Tryz.underlying25 hj hy0 hy1 hy2 rfl (by decide) _ _ _ rfl (World.ownsRow_nil _ _ _ _) ⟨w4.heap.size, 0, none⟩ 1 1 [.int .i64 k] rfl rfl (one_new _ _ _) one_cell (by decide) (by unfold maxLen; omega) (by omega) (by simp; omega) (w4.heap.size + 1) (by simp) ?_)
          intro g cap w5 hown5 hgrow5 hat5 _
          have hal := HP.out.later ((Below.refl _ _).alloc (Nat.le_refl _) (.cells #[.int .i64 k] 3))
          obtain ⟨hP5, z1, zf, hGb⟩ := hal.placed (new := [(k : Int)]) HLV.out.1 HLV.out.2 (by rw [HRL.out]) hgrow5 (by simpa using hown5) (hat5.imp_right (fun e => by simpa using e))
          have hb5 : Below w.heap.size w (w5.setCell ⟨G, K, none⟩ (.slice (some ⟨g, 0, none⟩) 1 cap)) := ((HB4.out.alloc hsz4 _).grown hgrow5 (by simp; omega) (fun q hq => by cases hq)).setCell (p := ⟨G, K, none⟩) hGb _
          have hset : (rows ++ [([] : List Int)]).set K ([] ++ [(k : Int)]) = rows ++ [[(k : Int)]] := by
            rw [List.set_append_right _ _ (by rw [HKL.out]; exact Nat.le_refl _), HKL.out, Nat.sub_self]
            rfl
          rw [hset] at hP5
          have hcx6 := hcw.out _ hb5
          have HP5 := Lib.hid hP5
          have HB5 := Lib.hid hb5
          clear hal hP5 hb5 hset hown5 hgrow5 hat5
          go_wp2_with fail
          go_roundw
          case rel => exact ⟨k + 1, K1, rows ++ [[(k : Int)]], _, x, _, _, by omega, by go_num, rfl, rfl, by rw [List.length_append, HKL.out]; exact hK1, HP5.out, HL.out, fun e => absurd e (by simp), by omega, by omega, fun l hl => by
            rcases List.mem_append.1 hl with hl | hl
            · exact Nat.le_succ_of_le (HRL0.out l hl)
            · obtain rfl := List.mem_singleton.1 hl; simp, HB5.out⟩
          case measure => simp [intOf]; omega
    · obtain rfl : k = m := by omega
      have h1 := HLR.out
      rw [List.drop_eq_nil_of_le (by rw [HM.out]; exact Nat.le_refl _)] at h1
      have h2 : rows = R := by unfold M.lrF at h1; exact h1
      subst h2
      have hnk : ¬ (k : Int) < (k : Int) := by omega
      clear h1
      go_wp2_with fail
      go_ret
      exact ⟨HB.out, vs, _, rfl, HRW.out⟩
end Go.Proofs.YtjlfgojblimobaaGreat
end

section
namespace Go.Proofs.YtjlfgojblimobaaGreat
open Go.RowKit
set_option maxRecDepth 100000

theorem run_read {base G K c3 : Nat} {w : World} {l lv : List Int} {b : Int} {vs : List Sv} {AE : Option Addr} (h : RwR base w ((M.runs lv b).map (·.pl)) vs (.slice (some ⟨G, 0, none⟩) K c3)) (hK : (M.runs lv b).length = K)
    (hE : RdS .i64 w w.heap.size AE (M.matchI l)) (hlen : l.length = lv.length) {k : Nat} (hk : k < K) :
    ∃ (a1 ae : Addr) (c1 p1 q f : Nat), AE = some ae ∧ w.cell? ⟨G, k, none⟩ = some (.slice (some a1) (p1 + 1) c1) ∧ w.cell? (a1.add p1) = some (.int .i64 q) ∧ w.cell? a1 = some (.int .i64 f) ∧ q < lv.length ∧
      w.cell? (ae.add q) = some (.int .i64 (M.goes l (M.runs lv b) k)) ∧ (f : Int) = M.from_ (M.runs lv b) k ∧ p1 + 1 ≤ maxLen := by
  have hr := M.rn_mem (rs := M.runs lv b) (i := k) (by omega)
  obtain ⟨f, q, hf, hq, -, hql, hp0, hpq, hpos, -, -⟩ := M.run_ends hr
  have hl : ((M.runs lv b).map (·.pl))[k]? = some (M.rn (M.runs lv b) k).pl := by
    rw [List.getElem?_map, List.getElem?_eq_getElem (by omega), M.rn_at (List.getElem?_eq_getElem (by omega))]
    rfl
  obtain ⟨⟨v1, v2⟩, hv⟩ : ∃ v, vs[k]? = some v := ⟨_, List.getElem?_eq_getElem (by rw [h.rws.len, List.length_map]; omega)⟩
  obtain ⟨G', c', hva, -, -, y1, -⟩ := h.cells hl hv
  injection hva with hva1 _ _
  injection hva1 with hva1
  injection hva1 with hva1
  subst hva1
  obtain ⟨A', c1, he, hrd, hc1, hc2, -⟩ := reads_own (h.rws.own k (v1, v2) _ hv hl)
  injection he with e1 _ e2
  subst e1 e2
  obtain ⟨p1, hp1⟩ : ∃ p1, (M.rn (M.runs lv b) k).pl.length = p1 + 1 := ⟨(M.rn (M.runs lv b) k).pl.length - 1, by omega⟩
  rw [hp1] at y1 hc1 hpq
  obtain ⟨a1, ha1, -, z0⟩ := hrd 0 _ hp0
  obtain ⟨a1', ha1', -, z1⟩ := hrd p1 _ hpq
  have e3 : v1 = some a1 := ha1
  subst e3
  obtain rfl := Option.some.inj ha1'
  have hm : (M.matchI l)[q]? = some (M.endI l q) := by unfold M.matchI M.matchTo; simp [hlen, hql]
  obtain ⟨ae, hae, -, z2⟩ := hE q _ hm
  refine ⟨a1, ae, v2, p1, q, f, hae, y1, z1, z0, hql, ?_, ?_, by omega⟩
  · unfold M.goes
    rw [hq, Int.toNat_natCast]
    exact z2
  · unfold M.from_
    exact hf.symm
set_option maxHeartbeats 8000000 in
theorem joined_any (base G K c3 : Nat) (w : World) (l lv : List Int) (b : Int) (vs : List Sv) (AE : Option Addr) (cE n i : Nat) (h : RwR base w ((M.runs lv b).map (·.pl)) vs (.slice (some ⟨G, 0, none⟩) K c3)) (hK : (M.runs lv b).length = K)
    (hE : RdS .i64 w w.heap.size AE (M.matchI l)) (hn : l.length = n) (hlen : l.length = lv.length) (hl : n ≤ 1000) (hi : i < K) :
    Calls Tryz.prog 95 #[.slice (some ⟨G, 0, none⟩) K c3, .slice AE n cE, .int .i64 i] w fun r w' => r = .returned (.bool (M.pv (M.goes l (M.runs lv b)) (M.from_ (M.runs lv b)) i).isSome) ∧ Below w.heap.size w w' := by
  have hKm : K ≤ 1000 := by
    rw [← hK]
    have := M.runs_len lv b
    omega
  have HRD := Lib.hid (fun k (hk : k < K) => run_read h hK hE hlen hk)
  have HN := Lib.hid hn
  have HLEN := Lib.hid hlen
  obtain ⟨T, hT⟩ : ∃ T, M.goes l (M.runs lv b) = T := ⟨_, rfl⟩
  obtain ⟨F, hF⟩ : ∃ F, M.from_ (M.runs lv b) = F := ⟨_, rfl⟩
  have HCH := Lib.hid (M.runs_chains l lv b)
  rw [hT, hF, hK] at HCH
  rw [hT, hF] at HRD ⊢
  obtain ⟨a2, ae, c2, p2, q2, f2, rfl, d1, -, d3, -, -, d7, d6⟩ := HRD.out i hi
  have bk : ∀ (a : Addr) (v : Value), w.cell? a = some v → ∀ W', Below w.heap.size w W' → W'.cell? a = some v := fun a v hc W' hW => (hW.cell (World.block_lt_of_cell? _ _ hc)).trans hc
  rw [d7] at d3
  obtain ⟨fi, hfi⟩ : ∃ fi, F i = fi := ⟨_, rfl⟩
  rw [hfi] at d3
  have HFI := Lib.hid hfi
  have D1 := Lib.hid (bk _ _ d1)
  have D3 := Lib.hid (bk _ _ d3)
  have D6 := Lib.hid d6
  have BK := Lib.hid bk
  have hi1 : (i : Int) < K := by omega
  have hi0 : (0 : Int) ≤ i := by omega
  have hKi : (K : Int) ≤ 1000 := by omega
  have hni : (n : Int) ≤ 1000 := by omega
  have hp2 : (0 : Int) < ((p2 + 1 : Nat) : Int) := by omega
  clear h hE hn hlen d1 d3 d6 d7 bk hT hF hK hfi
  go_enter Tryz.func95, Tryz.ntmps95
  go_wp2_with fail
  go_loopw [7] (fun v wr => ∃ k : Nat, k ≤ K ∧ v = .int .i64 k ∧ (∀ j, j < k → T j ≠ F i) ∧ Below w.heap.size w wr) (fun v _ => K - (intOf v).toNat)
  case atStart => exact ⟨0, Nat.zero_le _, rfl, fun j hj => by omega, Below.refl _ _⟩
  case round =>
    obtain ⟨k, hk, rfl, hno, hb⟩ := hrel
    have HNO := Lib.hid hno
    have HB := Lib.hid hb
    have k0 : (0 : Int) ≤ k := by omega
    clear hno hb
    by_cases hlt : k < K
    · have k1 : (k : Int) < K := by omega
      obtain ⟨a1, ae', c1, p1, q, f, hae, e1, e2, -, e4, e5, -, e7⟩ := HRD.out k hlt
      obtain rfl := Option.some.inj hae
      have e1' := fun d os => cell_regrown (BK.out _ _ e1 wr HB.out) d os
      have e2' := fun d os => cell_regrown (BK.out _ _ e2 wr HB.out) d os
      have e5' := fun d os => cell_regrown (BK.out _ _ e5 wr HB.out) d os
      obtain ⟨n1, hn1⟩ : ∃ n1, p1 + 1 = n1 := ⟨_, rfl⟩
      rw [hn1] at e1' e7
      have hm1 : (n1 : Int) - 1 = p1 := by omega
      unfold maxLen at e7
      have hw1 : IntKind.i64.wrap ((n1 : Int) - 1) = (p1 : Nat) := by rw [IntKind.wrap_i64]; omega
      have hw2 : IntKind.i64.wrap (p1 : Int) = (p1 : Nat) := by rw [IntKind.wrap_i64]; omega
      have hp0 : (0 : Int) ≤ p1 := by omega
      have hp1 : (p1 : Int) < n1 := by omega
      have hq0 : (0 : Int) ≤ q := by omega
      have hqn : (q : Int) < n := by have h1 := HN.out; have h2 := HLEN.out; omega
      obtain ⟨tk, htk⟩ : ∃ tk, T k = tk := ⟨_, rfl⟩
      rw [htk] at e5
      have HTK := Lib.hid htk
      have E5 := Lib.hid e5
      clear e1 e2 e5 e5' htk
      go_wp2_with fail
      refine wp_region_quiet_below (by kernel_rfl) (by kernel_rfl) ?_
      repeat (go_big_quiet_step (fail))
      refine wpQuiet_nil ?_
      intro _ hw'
      obtain ⟨⟨dq, osq⟩, hw4⟩ := hw'
      subst hw4
      have hbg := below_regrown wr dq osq
      obtain ⟨X, hX⟩ : ∃ Z, Sort.grow (redrawn wr dq) osq = Z := ⟨_, rfl⟩
      rw [hX] at hbg
      dsimp only
      rw [hX]
      have HX := Lib.hid (HB.out.trans (hbg.mono HB.out.size))
      clear hX hbg
      have e5x := fun d os => cell_regrown (BK.out _ _ E5.out X HX.out) d os
      have d1x := fun d os => cell_regrown (D1.out X HX.out) d os
      have d3x := fun d os => cell_regrown (D3.out X HX.out) d os
      clear e1' e2'
      by_cases heq : tk = fi
      · subst heq
        have HYES := Lib.hid (show (M.pv T F i).isSome = true from by
          rw [(HCH.out.pv_of hi hlt (by rw [HTK.out, HFI.out])).2]; rfl)
        go_wp2_with fail
        refine wp_region_quiet_below (by kernel_rfl) (by kernel_rfl) ?_
        repeat (go_big_quiet_step (fail))
        refine wpQuiet_nil ?_
        intro _ hw'
        obtain ⟨⟨dq, osq⟩, hw4⟩ := hw'
        subst hw4
        have hbg := below_regrown X dq osq
        obtain ⟨Y, hX⟩ : ∃ Z, Sort.grow (redrawn X dq) osq = Z := ⟨_, rfl⟩
        rw [hX] at hbg
        dsimp only
        rw [hX]
        have HY := Lib.hid (HX.out.trans (hbg.mono HX.out.size))
        clear hX hbg
        go_wp2_with fail
        go_ret
        exact ⟨ret_bool HYES.out.symm, HY.out⟩
      · have HNX := Lib.hid (show ∀ j, j < k + 1 → T j ≠ F i from fun j hj => by
          rcases Nat.lt_or_ge j k with h1 | h1
          · exact HNO.out j h1
          · obtain rfl : j = k := by omega
            rw [HTK.out, HFI.out]; exact heq)
        go_wp2_with fail
        refine wp_region_quiet_below (by kernel_rfl) (by kernel_rfl) ?_
        repeat (go_big_quiet_step (fail))
        refine wpQuiet_nil ?_
        intro _ hw'
        obtain ⟨⟨dq, osq⟩, hw4⟩ := hw'
        subst hw4
        have hbg := below_regrown X dq osq
        obtain ⟨Y, hX⟩ : ∃ Z, Sort.grow (redrawn X dq) osq = Z := ⟨_, rfl⟩
        rw [hX] at hbg
        dsimp only
        rw [hX]
        have HY := Lib.hid (HX.out.trans (hbg.mono HX.out.size))
        clear hX hbg
        go_wp2_with fail
        go_roundw
        case rel => exact ⟨k + 1, by omega, by go_num, HNX.out, HY.out⟩
        case measure => simp [intOf]; omega
    · obtain rfl : k = K := by omega
      have hnk : ¬ (k : Int) < (k : Int) := by omega
      have HNS := Lib.hid (show (M.pv T F i).isSome = false from by
        cases hp : M.pv T F i with
        | none => rfl
        | some j => exact absurd (M.pv_some hp).2 (HNO.out j (by have := (M.pv_some hp).1; omega)))
      go_wp2_with fail
      go_ret
      exact ⟨ret_bool HNS.out.symm, HB.out⟩
end Go.Proofs.YtjlfgojblimobaaGreat
end
