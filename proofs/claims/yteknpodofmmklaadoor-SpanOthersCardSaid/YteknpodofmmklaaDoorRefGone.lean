/- The contract of the document's Delete. Conditions: the slice reads as a list of at most sixty spans whose ends are not too great and rise; the places are not too great. -/
import Derived.Test.YteknpodofmmklaaDoorRefMove
namespace Go.Proofs.YteknpodofmmklaaDoor
open Go.RowKit

theorem news_cells2 (w : World) (o : Obj) (e : M.S) (t : TypeId) : ∀ j u, e.cells[j]? = some u → ((w.alloc o).alloc (.cells #[.int .i64 e.f, .int .i64 e.t, .int .i64 e.p, .bool e.c, .string e.r, .int .u64 e.x] t)).cell? ((⟨w.heap.size + 1, 0, none⟩ : Addr).add j) = some u := by
  have h := news_cells (w.alloc o) e t
  rwa [show (w.alloc o).heap.size = w.heap.size + 1 by simp] at h

set_option maxRecDepth 100000 in
set_option maxHeartbeats 8000000 in
theorem refDel_any (A : Option Addr) (ca : Nat) (l : List M.S) (a b : Int) (w : World) (hr : RdP w w.heap.size A l) (hm : l.length ≤ 60) (hcl : l.length ≤ ca) (hca : ca ≤ maxLen) (hna : A = none → ca = 0)
    (hlim : Lim l) (ha : a ≤ 4000000) (hb : b ≤ 4000000) :
    Calls Tryd.prog 22 #[.slice A l.length ca, .int .i64 a, .int .i64 b] w (OutP (M.del l a b) w) := by
  obtain ⟨i0, hi, hz0, hz1, hz2⟩ := info_parts Tryd.infoSpan
  have HR := Lib.hid hr
  have HL := Lib.hid hlim
  have HCA := Lib.hid hca
  clear hr hlim hca
  by_cases hg : a < 0 ∨ b < a
  · have HD := Lib.hid (show M.del l a b = l by unfold M.del; rw [if_pos hg])
    rcases (show a < 0 ∨ (0 ≤ a ∧ b < a) by omega) with hg | ⟨hg0, hg⟩
    all_goals
      cases A with
      | none =>
        obtain rfl := hna rfl
        obtain rfl : l = [] := List.eq_nil_of_length_eq_zero (by omega)
        go_enter Tryd.func22, Tryd.ntmps22
        go_wp2
        go_ret
        exact out_nil HD.out
      | some ad =>
        have HC := Lib.hid (fun j u (hu : (cellsP l)[j]? = some u) (o : Obj) => (show (w.alloc o).cell? (ad.add j) = some u by
          have h := HR.out.cellsAt rfl j u hu
          exact (((Below.refl _ w).alloc (Nat.le_refl _) o).cell (World.block_lt_of_cell? w _ h)).trans h))
        go_enter Tryd.func22, Tryd.ntmps22
        go_wp2_with (at_builtin; refine wpList_append_own _ rfl _ _ 22 rfl w.heap.size 27 i0 _ 6 56 Tryd.underlying22 hi hz0 hz1 hz2 rfl (by decide) _ 0 [] rfl (World.ownsRow_made w #[] 0 (Nat.le_refl _) (Nat.zero_le _) rfl) ad l.length ca (cellsP l) rfl (cellsP_length l) (fun j u hu => HC.out j u hu _) (cells_one l) (by unfold maxLen; omega) (by omega) (by simp) ?_)
        intro v3 w3 hown3 hgrow3 _
        have HO3 := Lib.hid (show OwnP w3 w.heap.size v3 l by unfold OwnP; simpa using hown3)
        have HB3 := Lib.hid (((Below.refl _ w).alloc (Nat.le_refl _) (.cells #[] 27)).grown hgrow3 (by simp) (by intro k hk; simp [Value.ownBlock] at hk; omega))
        clear hown3 hgrow3
        go_wp2
        go_ret
        exact ⟨_, rfl, by rw [HD.out]; exact HO3.out, HB3.out⟩
  · have HD := Lib.hid (show M.del l a b = l.filterMap (M.delS a b) by unfold M.del; rw [if_neg hg])
    have hg1 : ¬ a < 0 := by omega
    have hg2 : ¬ b < a := by omega
    clear hg
    go_enter Tryd.func22, Tryd.ntmps22
    go_wp2
    go_loopw [7, 8] (fun v i wr => ∃ k : Nat, k ≤ l.length ∧ i = .int .i64 k ∧ OwnP wr w.heap.size v ((l.take k).filterMap (M.delS a b)) ∧ Below w.heap.size w wr) (fun _ i _ => l.length - (intOf i).toNat)
    case atStart => exact ⟨0, Nat.zero_le _, rfl, OwnP.nil _ _, Below.refl _ _⟩
    case round =>
      obtain ⟨k, hk, rfl, hown, hb⟩ := hrel
      have HO := Lib.hid hown
      have HB := Lib.hid hb
      have hbs := hb.size
      clear hown hb
      by_cases hlt : k < l.length
      · obtain ⟨s, hs⟩ : ∃ s, l[k]? = some s := ⟨_, List.getElem?_eq_getElem hlt⟩
        have HT := Lib.hid (take_filter hs (M.delS a b))
        have hlen : ((l.take k).filterMap (M.delS a b)).length ≤ 60 := by
          have := List.length_filterMap_le (M.delS a b) (l.take k)
          rw [List.length_take] at this
          omega
        obtain ⟨s0, s1, s2, s3⟩ := HL.out s (List.mem_of_getElem? hs)
        obtain ⟨ad, rfl, hab, c0, c1, c2, c3, c4, c5⟩ := HR.out.below HB.out k s hs
        obtain ⟨f, t, p, c, r, x⟩ := s
        dsimp only at c0 c1 c2 c3 c4 c5 s0 s1 s2 s3
        have hk1 : (0 : Int) ≤ (k : Int) := by omega
        have hk2 : (k : Int) < (l.length : Int) := by omega
        clear hs
        rcases (show t < a ∨ (t ≤ a ∧ a ≤ t) ∨ (f < a ∧ a < t ∧ t ≤ b) ∨ (f ≤ a ∧ a ≤ f ∧ t ≤ b) ∨ (f < a ∧ b < t) ∨ (f ≤ a ∧ a ≤ f ∧ b < t) ∨ (a < f ∧ t ≤ b) ∨ (a < f ∧ f ≤ b ∧ b < t) ∨ b < f by omega) with h1 | ⟨h1, h2⟩ | ⟨h1, h2, h3⟩ | ⟨h1, h2, h3⟩ | ⟨h1, h2⟩ | ⟨h1, h2, h3⟩ | ⟨h1, h2⟩ | ⟨h1, h2, h3⟩ | h1
        · have hf : M.back a b f = f := by unfold M.back; split <;> omega
          have ht : M.back a b t = t := by unfold M.back; split <;> omega
          have hm1 : M.delS a b ⟨f, t, p, c, r, x⟩ = some ⟨f, t, p, c, r, x⟩ := by unfold M.delS; dsimp only; rw [hf, ht, if_pos (by omega)]
          clear hf ht
          have HN := Lib.hid (show (l.take (k + 1)).filterMap (M.delS a b) = (l.take k).filterMap (M.delS a b) ++ [⟨f, t, p, c, r, x⟩] by rw [HT.out, hm1]; rfl)
          go_wp2_with (at_builtin; refine wpList_append_own _ rfl _ _ 22 rfl w.heap.size 27 i0 _ 6 56 Tryd.underlying22 hi hz0 hz1 hz2 rfl (by decide) _ _ _ rfl (World.ownsRow.alloc (World.ownsRow.alloc HO.out _) _) ⟨wr.heap.size + 1, 0, none⟩ 1 1 (M.S.cells ⟨f, t, p, c, r, x⟩) rfl rfl (news_cells2 wr _ ⟨f, t, p, c, r, x⟩ _) (news_one ⟨f, t, p, c, r, x⟩) (by unfold maxLen; omega) (by first | omega | (simp; omega)) (by simp; omega) ?_)
          intro v3 w3 hown3 hgrow3 _
          have HO3 := Lib.hid (OwnP.snoc (l := (l.take k).filterMap (M.delS a b)) hown3)
          have HB3 := Lib.hid (((HB.out.alloc hbs _).alloc (by simp; omega) _).grown hgrow3 (by simp; omega) (fun q hq => (World.ownsRow.lt HO.out q hq).1))
          clear hown3 hgrow3
          go_wp2
          go_roundw
          case rel => exact ⟨k + 1, by omega, by go_num, by rw [HN.out]; exact HO3.out, HB3.out⟩
          case measure => simp [intOf]; omega
        · have hf : M.back a b f = f := by unfold M.back; split <;> omega
          have ht : M.back a b t = t - (t - a) := by unfold M.back; split <;> omega
          have hm1 : M.delS a b ⟨f, t, p, c, r, x⟩ = some ⟨f, t - (t - a), p, c, r, x⟩ := by unfold M.delS; dsimp only; rw [hf, ht, if_pos (by omega)]
          clear hf ht
          have HN := Lib.hid (show (l.take (k + 1)).filterMap (M.delS a b) = (l.take k).filterMap (M.delS a b) ++ [⟨f, t - (t - a), p, c, r, x⟩] by rw [HT.out, hm1]; rfl)
          obtain ⟨W, hW, hbW, ⟨e0, e1, e2, e3, e4, e5, _, _, _, _, _, _⟩, -⟩ := new_span wr ⟨f, t - (t - a), p, c, r, x⟩
          dsimp only at hW e0 e1 e2 e3 e4 e5
          have HOW := Lib.hid (HO.out.below hbW)
          have HBW := Lib.hid (HB.out.trans (hbW.mono hbs))
          have hsW : w.heap.size ≤ W.heap.size := HBW.out.size
          clear hbW
          go_wp2_with (at_builtin; refine wpList_append_own _ rfl _ _ 22 rfl w.heap.size 27 i0 _ 6 56 Tryd.underlying22 hi hz0 hz1 hz2 rfl (by decide) _ _ _ rfl (World.ownsRow.alloc HOW.out _) ⟨W.heap.size, 0, none⟩ 1 1 (M.S.cells ⟨f, t - (t - a), p, c, r, x⟩) rfl rfl (news_cells _ ⟨f, t - (t - a), p, c, r, x⟩ _) (news_one ⟨f, t - (t - a), p, c, r, x⟩) (by unfold maxLen; omega) (by first | omega | (simp; omega)) (by simp; omega) ?_)
          intro v3 w3 hown3 hgrow3 _
          have HO3 := Lib.hid (OwnP.snoc (l := (l.take k).filterMap (M.delS a b)) hown3)
          have HB3 := Lib.hid ((HBW.out.alloc hsW _).grown hgrow3 (by simp; omega) (fun q hq => (World.ownsRow.lt HOW.out q hq).1))
          clear hown3 hgrow3
          go_wp2
          go_roundw
          case rel => exact ⟨k + 1, by omega, by go_num, by rw [HN.out]; exact HO3.out, HB3.out⟩
          case measure => simp [intOf]; omega
        · have hf : M.back a b f = f := by unfold M.back; split <;> omega
          have ht : M.back a b t = t - (t - a) := by unfold M.back; split <;> omega
          have hm1 : M.delS a b ⟨f, t, p, c, r, x⟩ = some ⟨f, t - (t - a), p, c, r, x⟩ := by unfold M.delS; dsimp only; rw [hf, ht, if_pos (by omega)]
          clear hf ht
          have HN := Lib.hid (show (l.take (k + 1)).filterMap (M.delS a b) = (l.take k).filterMap (M.delS a b) ++ [⟨f, t - (t - a), p, c, r, x⟩] by rw [HT.out, hm1]; rfl)
          obtain ⟨W, hW, hbW, ⟨e0, e1, e2, e3, e4, e5, _, _, _, _, _, _⟩, -⟩ := new_span wr ⟨f, t - (t - a), p, c, r, x⟩
          dsimp only at hW e0 e1 e2 e3 e4 e5
          have HOW := Lib.hid (HO.out.below hbW)
          have HBW := Lib.hid (HB.out.trans (hbW.mono hbs))
          have hsW : w.heap.size ≤ W.heap.size := HBW.out.size
          clear hbW
          go_wp2_with (at_builtin; refine wpList_append_own _ rfl _ _ 22 rfl w.heap.size 27 i0 _ 6 56 Tryd.underlying22 hi hz0 hz1 hz2 rfl (by decide) _ _ _ rfl (World.ownsRow.alloc HOW.out _) ⟨W.heap.size, 0, none⟩ 1 1 (M.S.cells ⟨f, t - (t - a), p, c, r, x⟩) rfl rfl (news_cells _ ⟨f, t - (t - a), p, c, r, x⟩ _) (news_one ⟨f, t - (t - a), p, c, r, x⟩) (by unfold maxLen; omega) (by first | omega | (simp; omega)) (by simp; omega) ?_)
          intro v3 w3 hown3 hgrow3 _
          have HO3 := Lib.hid (OwnP.snoc (l := (l.take k).filterMap (M.delS a b)) hown3)
          have HB3 := Lib.hid ((HBW.out.alloc hsW _).grown hgrow3 (by simp; omega) (fun q hq => (World.ownsRow.lt HOW.out q hq).1))
          clear hown3 hgrow3
          go_wp2
          go_roundw
          case rel => exact ⟨k + 1, by omega, by go_num, by rw [HN.out]; exact HO3.out, HB3.out⟩
          case measure => simp [intOf]; omega
        · have hf : M.back a b f = f - (f - a) := by unfold M.back; split <;> omega
          have ht : M.back a b t = t - (t - a) := by unfold M.back; split <;> omega
          have hm1 : M.delS a b ⟨f, t, p, c, r, x⟩ = none := by unfold M.delS; dsimp only; rw [hf, ht, if_neg (by omega)]
          clear hf ht
          have HN := Lib.hid (show (l.take (k + 1)).filterMap (M.delS a b) = (l.take k).filterMap (M.delS a b) by rw [HT.out, hm1]; simp)
          obtain ⟨W, hW, hbW, ⟨e0, e1, e2, e3, e4, e5, _, _, _, _, _, _⟩, -⟩ := new_span wr ⟨f - (f - a), t - (t - a), p, c, r, x⟩
          dsimp only at hW e0 e1 e2 e3 e4 e5
          have HOW := Lib.hid (HO.out.below hbW)
          have HBW := Lib.hid (HB.out.trans (hbW.mono hbs))
          have hsW : w.heap.size ≤ W.heap.size := HBW.out.size
          clear hbW
          go_wp2
          go_roundw
          case rel => exact ⟨k + 1, by omega, by go_num, by rw [HN.out]; exact HOW.out, HBW.out⟩
          case measure => simp [intOf]; omega
        · have hf : M.back a b f = f := by unfold M.back; split <;> omega
          have ht : M.back a b t = t - (b - a) := by unfold M.back; split <;> omega
          have hm1 : M.delS a b ⟨f, t, p, c, r, x⟩ = some ⟨f, t - (b - a), p, c, r, x⟩ := by unfold M.delS; dsimp only; rw [hf, ht, if_pos (by omega)]
          clear hf ht
          have HN := Lib.hid (show (l.take (k + 1)).filterMap (M.delS a b) = (l.take k).filterMap (M.delS a b) ++ [⟨f, t - (b - a), p, c, r, x⟩] by rw [HT.out, hm1]; rfl)
          obtain ⟨W, hW, hbW, ⟨e0, e1, e2, e3, e4, e5, _, _, _, _, _, _⟩, -⟩ := new_span wr ⟨f, t - (b - a), p, c, r, x⟩
          dsimp only at hW e0 e1 e2 e3 e4 e5
          have HOW := Lib.hid (HO.out.below hbW)
          have HBW := Lib.hid (HB.out.trans (hbW.mono hbs))
          have hsW : w.heap.size ≤ W.heap.size := HBW.out.size
          clear hbW
          go_wp2_with (at_builtin; refine wpList_append_own _ rfl _ _ 22 rfl w.heap.size 27 i0 _ 6 56 Tryd.underlying22 hi hz0 hz1 hz2 rfl (by decide) _ _ _ rfl (World.ownsRow.alloc HOW.out _) ⟨W.heap.size, 0, none⟩ 1 1 (M.S.cells ⟨f, t - (b - a), p, c, r, x⟩) rfl rfl (news_cells _ ⟨f, t - (b - a), p, c, r, x⟩ _) (news_one ⟨f, t - (b - a), p, c, r, x⟩) (by unfold maxLen; omega) (by first | omega | (simp; omega)) (by simp; omega) ?_)
          intro v3 w3 hown3 hgrow3 _
          have HO3 := Lib.hid (OwnP.snoc (l := (l.take k).filterMap (M.delS a b)) hown3)
          have HB3 := Lib.hid ((HBW.out.alloc hsW _).grown hgrow3 (by simp; omega) (fun q hq => (World.ownsRow.lt HOW.out q hq).1))
          clear hown3 hgrow3
          go_wp2
          go_roundw
          case rel => exact ⟨k + 1, by omega, by go_num, by rw [HN.out]; exact HO3.out, HB3.out⟩
          case measure => simp [intOf]; omega
        · have hf : M.back a b f = f - (f - a) := by unfold M.back; split <;> omega
          have ht : M.back a b t = t - (b - a) := by unfold M.back; split <;> omega
          have hm1 : M.delS a b ⟨f, t, p, c, r, x⟩ = some ⟨f - (f - a), t - (b - a), p, c, r, x⟩ := by unfold M.delS; dsimp only; rw [hf, ht, if_pos (by omega)]
          clear hf ht
          have HN := Lib.hid (show (l.take (k + 1)).filterMap (M.delS a b) = (l.take k).filterMap (M.delS a b) ++ [⟨f - (f - a), t - (b - a), p, c, r, x⟩] by rw [HT.out, hm1]; rfl)
          obtain ⟨W, hW, hbW, ⟨e0, e1, e2, e3, e4, e5, _, _, _, _, _, _⟩, -⟩ := new_span wr ⟨f - (f - a), t - (b - a), p, c, r, x⟩
          dsimp only at hW e0 e1 e2 e3 e4 e5
          have HOW := Lib.hid (HO.out.below hbW)
          have HBW := Lib.hid (HB.out.trans (hbW.mono hbs))
          have hsW : w.heap.size ≤ W.heap.size := HBW.out.size
          clear hbW
          go_wp2_with (at_builtin; refine wpList_append_own _ rfl _ _ 22 rfl w.heap.size 27 i0 _ 6 56 Tryd.underlying22 hi hz0 hz1 hz2 rfl (by decide) _ _ _ rfl (World.ownsRow.alloc HOW.out _) ⟨W.heap.size, 0, none⟩ 1 1 (M.S.cells ⟨f - (f - a), t - (b - a), p, c, r, x⟩) rfl rfl (news_cells _ ⟨f - (f - a), t - (b - a), p, c, r, x⟩ _) (news_one ⟨f - (f - a), t - (b - a), p, c, r, x⟩) (by unfold maxLen; omega) (by first | omega | (simp; omega)) (by simp; omega) ?_)
          intro v3 w3 hown3 hgrow3 _
          have HO3 := Lib.hid (OwnP.snoc (l := (l.take k).filterMap (M.delS a b)) hown3)
          have HB3 := Lib.hid ((HBW.out.alloc hsW _).grown hgrow3 (by simp; omega) (fun q hq => (World.ownsRow.lt HOW.out q hq).1))
          clear hown3 hgrow3
          go_wp2
          go_roundw
          case rel => exact ⟨k + 1, by omega, by go_num, by rw [HN.out]; exact HO3.out, HB3.out⟩
          case measure => simp [intOf]; omega
        · have hf : M.back a b f = f - (f - a) := by unfold M.back; split <;> omega
          have ht : M.back a b t = t - (t - a) := by unfold M.back; split <;> omega
          have hm1 : M.delS a b ⟨f, t, p, c, r, x⟩ = none := by unfold M.delS; dsimp only; rw [hf, ht, if_neg (by omega)]
          clear hf ht
          have HN := Lib.hid (show (l.take (k + 1)).filterMap (M.delS a b) = (l.take k).filterMap (M.delS a b) by rw [HT.out, hm1]; simp)
          obtain ⟨W, hW, hbW, ⟨e0, e1, e2, e3, e4, e5, _, _, _, _, _, _⟩, -⟩ := new_span wr ⟨f - (f - a), t - (t - a), p, c, r, x⟩
          dsimp only at hW e0 e1 e2 e3 e4 e5
          have HOW := Lib.hid (HO.out.below hbW)
          have HBW := Lib.hid (HB.out.trans (hbW.mono hbs))
          have hsW : w.heap.size ≤ W.heap.size := HBW.out.size
          clear hbW
          go_wp2
          go_roundw
          case rel => exact ⟨k + 1, by omega, by go_num, by rw [HN.out]; exact HOW.out, HBW.out⟩
          case measure => simp [intOf]; omega
        · have hf : M.back a b f = f - (f - a) := by unfold M.back; split <;> omega
          have ht : M.back a b t = t - (b - a) := by unfold M.back; split <;> omega
          have hm1 : M.delS a b ⟨f, t, p, c, r, x⟩ = some ⟨f - (f - a), t - (b - a), p, c, r, x⟩ := by unfold M.delS; dsimp only; rw [hf, ht, if_pos (by omega)]
          clear hf ht
          have HN := Lib.hid (show (l.take (k + 1)).filterMap (M.delS a b) = (l.take k).filterMap (M.delS a b) ++ [⟨f - (f - a), t - (b - a), p, c, r, x⟩] by rw [HT.out, hm1]; rfl)
          obtain ⟨W, hW, hbW, ⟨e0, e1, e2, e3, e4, e5, _, _, _, _, _, _⟩, -⟩ := new_span wr ⟨f - (f - a), t - (b - a), p, c, r, x⟩
          dsimp only at hW e0 e1 e2 e3 e4 e5
          have HOW := Lib.hid (HO.out.below hbW)
          have HBW := Lib.hid (HB.out.trans (hbW.mono hbs))
          have hsW : w.heap.size ≤ W.heap.size := HBW.out.size
          clear hbW
          go_wp2_with (at_builtin; refine wpList_append_own _ rfl _ _ 22 rfl w.heap.size 27 i0 _ 6 56 Tryd.underlying22 hi hz0 hz1 hz2 rfl (by decide) _ _ _ rfl (World.ownsRow.alloc HOW.out _) ⟨W.heap.size, 0, none⟩ 1 1 (M.S.cells ⟨f - (f - a), t - (b - a), p, c, r, x⟩) rfl rfl (news_cells _ ⟨f - (f - a), t - (b - a), p, c, r, x⟩ _) (news_one ⟨f - (f - a), t - (b - a), p, c, r, x⟩) (by unfold maxLen; omega) (by first | omega | (simp; omega)) (by simp; omega) ?_)
          intro v3 w3 hown3 hgrow3 _
          have HO3 := Lib.hid (OwnP.snoc (l := (l.take k).filterMap (M.delS a b)) hown3)
          have HB3 := Lib.hid ((HBW.out.alloc hsW _).grown hgrow3 (by simp; omega) (fun q hq => (World.ownsRow.lt HOW.out q hq).1))
          clear hown3 hgrow3
          go_wp2
          go_roundw
          case rel => exact ⟨k + 1, by omega, by go_num, by rw [HN.out]; exact HO3.out, HB3.out⟩
          case measure => simp [intOf]; omega
        · have hf : M.back a b f = f - (b - a) := by unfold M.back; split <;> omega
          have ht : M.back a b t = t - (b - a) := by unfold M.back; split <;> omega
          have hm1 : M.delS a b ⟨f, t, p, c, r, x⟩ = some ⟨f - (b - a), t - (b - a), p, c, r, x⟩ := by unfold M.delS; dsimp only; rw [hf, ht, if_pos (by omega)]
          clear hf ht
          have HN := Lib.hid (show (l.take (k + 1)).filterMap (M.delS a b) = (l.take k).filterMap (M.delS a b) ++ [⟨f - (b - a), t - (b - a), p, c, r, x⟩] by rw [HT.out, hm1]; rfl)
          obtain ⟨W, hW, hbW, ⟨e0, e1, e2, e3, e4, e5, _, _, _, _, _, _⟩, -⟩ := new_span wr ⟨f - (b - a), t - (b - a), p, c, r, x⟩
          dsimp only at hW e0 e1 e2 e3 e4 e5
          have HOW := Lib.hid (HO.out.below hbW)
          have HBW := Lib.hid (HB.out.trans (hbW.mono hbs))
          have hsW : w.heap.size ≤ W.heap.size := HBW.out.size
          clear hbW
          go_wp2_with (at_builtin; refine wpList_append_own _ rfl _ _ 22 rfl w.heap.size 27 i0 _ 6 56 Tryd.underlying22 hi hz0 hz1 hz2 rfl (by decide) _ _ _ rfl (World.ownsRow.alloc HOW.out _) ⟨W.heap.size, 0, none⟩ 1 1 (M.S.cells ⟨f - (b - a), t - (b - a), p, c, r, x⟩) rfl rfl (news_cells _ ⟨f - (b - a), t - (b - a), p, c, r, x⟩ _) (news_one ⟨f - (b - a), t - (b - a), p, c, r, x⟩) (by unfold maxLen; omega) (by first | omega | (simp; omega)) (by simp; omega) ?_)
          intro v3 w3 hown3 hgrow3 _
          have HO3 := Lib.hid (OwnP.snoc (l := (l.take k).filterMap (M.delS a b)) hown3)
          have HB3 := Lib.hid ((HBW.out.alloc hsW _).grown hgrow3 (by simp; omega) (fun q hq => (World.ownsRow.lt HOW.out q hq).1))
          clear hown3 hgrow3
          go_wp2
          go_roundw
          case rel => exact ⟨k + 1, by omega, by go_num, by rw [HN.out]; exact HO3.out, HB3.out⟩
          case measure => simp [intOf]; omega
      · obtain rfl : k = l.length := by omega
        have HE := Lib.hid (show M.del l a b = (l.take l.length).filterMap (M.delS a b) by rw [HD.out, List.take_length])
        go_wp2
        go_ret
        exact ⟨_, rfl, by rw [HE.out]; exact HO.out, HB.out⟩
end Go.Proofs.YteknpodofmmklaaDoor
