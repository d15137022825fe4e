/- The contract of package breaks' All over the translation: what is told of each place. Conditions: the slice reads as a list of kinds, at most a thousand long, within its capacity. -/
import Derived.Test.YtfackeiommiejaaIter
import Derived.Maps.AppendAt
namespace Go.Proofs.Ytfackeiommiejaa
open Go.RowKit Go.Shelf
attribute [local go_sem] Oper.semAt_some

theorem Try.infoInt : (Try.prog.info? 3).map (fun i => (i.zero, i.size, i.bytes)) = some (some (.int .i64 0), 1, 8) := by kernel_rfl
theorem own_row {W : World} {base : Nat} {e : TypeId} {v : Value} {xs : List Value} {k : Nat} (h : W.ownsRow base e 1 v k xs) : ∃ A c, v = .slice A k c ∧ (A = none → c = 0) := by
  rcases h.2 with ⟨rfl, h0⟩ | ⟨g, cap, cur, rfl, _⟩
  · exact ⟨none, 0, by rw [h0], fun _ => rfl⟩
  · exact ⟨_, cap, rfl, fun h => by cases h⟩
/-- A row of whole numbers of one's own is kept where no cells of its kind are turned. -/
theorem own_still {mine : Obj → Bool} {B base : Nat} {W W' : World} {e : TypeId} {v : Value} {xs : List Value} {k : Nat} (h : W.ownsRow base e 1 v k xs) (hs : Still mine B W W') (hm : ∀ cs m, mine (.cells cs e m) = false) : W'.ownsRow base e 1 v k xs := by
  refine ⟨h.1, ?_⟩
  rcases h.2 with h1 | ⟨g, cap, cur, hv, hbg, hg, rest⟩
  · exact .inl h1
  · exact .inr ⟨g, cap, cur, hv, hbg, hs.kept g _ hg (hm _ _), rest⟩
theorem ours_pair {t : TypeId} {cs : Array Value} {m : Nat × Nat} (h : t ≠ 44) : ours mineP (.cells cs t m) = false := by
  unfold ours mineP
  simp [Obj.isCells, h]

theorem after_append {W w1 : World} {tmp : Obj} {row : Option Nat} {B k : Nat} {u : Value} {o : Obj} (hg : (W.alloc tmp).grownBy w1 row) (hk : W.heap[k]? = some o) (h1 : row ≠ some k) (h2 : k ≠ B) : (w1.setCell ⟨B, 0, none⟩ u).heap[k]? = some o := by
  have hlt := (Array.getElem?_eq_some_iff.1 hk).1
  rw [Below.heap_setCell _ _ _ k h2, hg.block k (by simp; omega) (fun e => h1 e.symm), Below.heap_alloc _ _ _ hlt]
  exact hk
theorem own_type {W : World} {base : Nat} {e : TypeId} {v : Value} {xs : List Value} {n k : Nat} (h : W.ownsRow base e 1 v n xs) (hk : v.ownBlock = some k) : base ≤ k ∧ ∃ cs m, W.heap[k]? = some (.cells cs e m) := by
  rcases h.2 with ⟨rfl, _⟩ | ⟨g, cap, cur, rfl, hb, hg, _⟩
  · simp [Value.ownBlock] at hk
  · obtain rfl : g = k := by simpa [Value.ownBlock] using hk
    exact ⟨hb, _, _, hg⟩

/-- What All has gathered. -/
structure Gathered (B n : Nat) (w : World) (pre : List (Int × Int)) (W : World) : Prop where
  row : ∃ v, Boxed W B 25 v ∧ W.ownsRow n 3 1 v pre.length (pre.map fun x => Value.int .i64 x.2)
  below : Below w.heap.size w W
  size : n ≤ W.heap.size
theorem Gathered.still {B n : Nat} {w W W' : World} {pre : List (Int × Int)} (h : Gathered B n w pre W) (hs : Still (ours mineP) n W W') (hB : B < n) (hn : w.heap.size ≤ n) : Gathered B n w pre W' := by
  obtain ⟨v, hv, hrow⟩ := h.row
  exact ⟨⟨v, (hs.below.block B hB).trans hv, own_still hrow hs (fun _ _ => ours_pair (by decide))⟩, h.below.trans (hs.below.mono hn), Nat.le_trans h.size hs.below.size⟩

set_option maxRecDepth 100000 in
set_option maxHeartbeats 4000000 in
theorem all_row (A : Option Addr) (ca N : Nat) (l : List Int) (w : World) (hr : RdS .i64 w w.heap.size A l) (hN : l.length = N) (hl : N ≤ 1000) (hca : N ≤ ca) :
    Calls Try.prog 9 #[.slice A N ca] w (RowOut 3 (M.all l) w) := by
  obtain ⟨i0, hi, hz0, hz1, hz2⟩ := info_parts Try.infoInt
  refine (callsIn_wide (n := 5)).1 ?_
  refine callsIn_of_wp_marks Try.func9 rfl trivial ?_ rfl
  simp only [Try.ntmps9, List.size_toArray, List.length_cons, List.length_nil, Nat.reduceAdd, Nat.reduceSub, Array.replicate_succ, Array.replicate_zero, List.push_toArray, List.append_toArray, List.nil_append, List.cons_append]
  have HR := Lib.hid hr
  have HN := Lib.hid hN
  clear hr hN
  gi_wp2_with fail
  refine ⟨trivial, ?_⟩
  refine (callsIn_wide.2 (ends_any A ca N 0 _)).mono ?_
  rintro e w' ⟨rfl, rfl⟩
  gi_wp2_with fail
  have bO := Boxed.new w 25 (.slice none 0 0)
  obtain ⟨w1, hw1⟩ : ∃ X, w.alloc (.cells #[.slice none 0 0] 25) = X := ⟨_, rfl⟩
  rw [hw1] at bO ⊢
  have hs1 : w1.heap.size = w.heap.size + 1 := by rw [← hw1]; simp
  have hb1 : Below w.heap.size w w1 := by rw [← hw1]; exact (Below.refl _ w).alloc (Nat.le_refl _) _
  have bS := (Boxed.new w1 22 (.slice A N ca)).alloc (.cells #[.int .i64 0] 3)
  have bF := Boxed.new (w1.alloc (.cells #[.slice A N ca] 22)) 3 (.int .i64 ((0 : Nat) : Int))
  rw [show ((0 : Nat) : Int) = 0 from rfl] at bF
  have bO3 := (bO.alloc (.cells #[.slice A N ca] 22)).alloc (.cells #[.int .i64 0] 3)
  rw [World.size_alloc, hs1] at bF
  rw [hs1] at bS
  obtain ⟨w3, hw3⟩ : ∃ X, (w1.alloc (.cells #[.slice A N ca] 22)).alloc (.cells #[.int .i64 0] 3) = X := ⟨_, rfl⟩
  have hs3 : w3.heap.size = w.heap.size + 3 := by rw [← hw3]; simp; omega
  have hb3 : Below w.heap.size w w3 := by rw [← hw3]; exact (hb1.alloc (by omega) _).alloc (by simp; omega) _
  rw [hw3] at bS bF bO3 ⊢
  clear hw3 hw1 bO
  refine range_mine (by omega) (gf := 23) (lb := #[.pointer (some ⟨w.heap.size + 1 + 1, 0, none⟩), .pointer (some ⟨w.heap.size + 1, 0, none⟩)]) rfl (enters_of Try.func23 (by kernel_rfl) rfl) mineP_not
    (ends_gives 4 (w.heap.size + 1) (w.heap.size + 1 + 1) w.heap.size A ca N 0 l w3 (by omega) bS bF (HR.out.below hb3) HN.out hl hca (by omega)) KeepsE.trans (keeps_put (by omega) (by omega) (by omega)) (fun _ => rfl)
    (Gathered w.heap.size w3.heap.size w) (fun _ _ _ => False)
    (fun _ _ _ h hs => h.still hs (by omega) (by omega)) (fun _ _ _ _ h _ => h)
    ⟨⟨_, bO3, World.ownsRow_nil _ _ _ _⟩, hb3, Nat.le_refl _⟩
    (fun x => { tmps := #[.slice A N ca, undef, .slice none 0 0, .pointer (some ⟨w.heap.size, 0, none⟩), undef, .int .i64 x.2, .slice A N ca, .func (.func 23) #[] #[.pointer (some ⟨w.heap.size + 1 + 1, 0, none⟩), .pointer (some ⟨w.heap.size + 1, 0, none⟩)], .int .i64 x.1, .int .i64 x.2, undef, undef, undef, undef, undef], defers := [] }) ?assign ?body ?done ?stop
  case assign =>
    intro l x W K hK
    gi_wp2
    exact hK
  case body =>
    rintro l pre x W ⟨⟨v, hv, hrow⟩, hB, hS⟩ hlt
    have hc := hv.cell
    have hbsz := hB.size
    have HROW := Lib.hid hrow
    have hrow0 := own_base (b' := w.heap.size) hrow (by omega)
    gi_wp2_with (gi_at_builtin; refine wpListIn_append_own _ rfl _ _ 25 rfl w3.heap.size 3 i0 (.int .i64 0) 1 8 Try.underlying25 hi hz0 hz1 hz2 rfl (by decide) _ _ _ rfl (hrow.alloc _) ⟨W.heap.size, 0, none⟩ 1 1 [.int .i64 x.2] rfl rfl (cell_one_new _ _ _) (by simp [Value.oneCell']) (by unfold maxLen; omega) (by omega) (by simp; omega) ?_; intro v' w1 hown' hgrow _; obtain ⟨g', cap', rfl⟩ := ownsRow_succ hown'; obtain ⟨hv1, hv2, _, hk2, hb2⟩ := hv.appended (by decide) hrow0 hbsz (Nat.le_refl _) (own_base (b' := w.heap.size) hown' (by omega)) hgrow; have hc1 := hv1.cell; have hf1 := hv1.frozen)
    have hr2 := hown'.kept (grownBy_setCell' w1 w.heap.size (.slice (some ⟨g', 0, none⟩) (pre.length + 1) cap')) (.inr (hv1.not_row (by decide) hown').symm)
    have far : ∀ k o, W.heap[k]? = some o → v.ownBlock ≠ some k → k ≠ w.heap.size → (w1.setCell ⟨w.heap.size, 0, none⟩ (.slice (some ⟨g', 0, none⟩) (pre.length + 1) cap')).heap[k]? = some o := fun k o hk h1 h2 => after_append hgrow hk h1 h2
    refine ⟨hk2.from _, ⟨hb2, fun o ho => far _ o ho (fun e => ?_) (by omega), fun o ho => far _ o ho (fun e => ?_) (by omega), fun k cs t m hk ht => far k _ hk (fun e => ?_) (fun e => ?_)⟩, ⟨⟨_, hv2, by simpa using hr2⟩, hB.trans hb2, Nat.le_trans hS hk2.size⟩⟩
    · have := (own_type hrow e).1; omega
    · have := (own_type hrow e).1; omega
    · obtain ⟨_, cs', m', h⟩ := own_type hrow e
      rw [hk] at h
      injection h with h
      injection h with _ h _
      rw [h] at ht
      revert ht
      decide
    · rw [e, show W.heap[w.heap.size]? = _ from hv] at hk
      injection hk with hk
      injection hk with _ hk _
      rw [← hk] at ht
      revert ht
      decide
  case done =>
    rintro D ys W hD rfl ⟨⟨v, hv, hrow⟩, hB, _⟩ hK
    have hc := hv.cell
    obtain ⟨A', c', rfl, hnn⟩ := own_row hrow
    have HROW := Lib.hid hrow
    have HALL := Lib.hid (show (M.prs l 0 (N - 0)).map (fun x => Value.int .i64 x.2) = (M.all l).map (Value.int .i64) by
      unfold M.all M.allTo M.prs
      rw [HN.out, List.map_map, List.map_map]
      refine List.map_congr_left fun j _ => ?_
      show Value.int .i64 (M.how l (0 + 1 + j)) = Value.int .i64 (M.how l (j + 1))
      rw [show 0 + 1 + j = j + 1 by omega])
    clear hrow
    gi_wp2
    refine ⟨by simp, .inl ⟨_, _, rfl, run_takeDeferred hK, ?_⟩⟩
    have hrow2 := ownsRow_putObj HROW.out (.deferred none) hK rfl
    have hb2 : Below w.heap.size w (W.putObj D (.deferred none)) := hB.trans (belowK_b (w := w) (Nat.le_refl _) W D _ _ (by omega) hK rfl rfl)
    rw [HALL.out, M.prs_len, Nat.sub_zero] at hrow2
    refine ⟨_, results_tmp rfl _ _ _, .slice A' (M.prs l 0 (N - 0)).length c', rfl, ?_, hb2⟩
    rw [M.prs_len, M.all_len, HN.out, Nat.sub_zero]
    exact own_base hrow2 (by omega)
  case stop =>
    rintro D c pre W _ _ h _
    exact h.elim

theorem all_any (A : Option Addr) (ca N : Nat) (l : List Int) (w : World) (hr : RdS .i64 w w.heap.size A l) (hN : l.length = N) (hl : N ≤ 1000) (hca : N ≤ ca) :
    Calls Try.prog 9 #[.slice A N ca] w (ListOut (M.all l) w) := (all_row A ca N l w hr hN hl hca).mono fun _ _ h => rowOut_list h
end Go.Proofs.Ytfackeiommiejaa
