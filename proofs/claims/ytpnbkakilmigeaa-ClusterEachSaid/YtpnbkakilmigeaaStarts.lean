/- The contract of cluster's Starts over the translation: where clusters begin. Conditions: the slice reads as a list of joins, at most a thousand long, within its capacity. -/
import Derived.Test.YtpnbkakilmigeaaIter
import Derived.RangeFuncBox
import Derived.Maps.AppendAt
namespace Go.Proofs.Ytpnbkakilmigeaa
open Go.RowKit Go.Shelf
attribute [local go_sem] Oper.semAt_some

theorem keeps_b {n₀ Bs : Nat} {w : World} (hn : n₀ ≤ w.heap.size) (hb : Bs < w.heap.size) (W : World) (l : Nat) (o o' : Obj) (hl : w.heap.size ≤ l) (h : W.heap[l]? = some o) (h1 : o.isCells = false) (h2 : o.isWalk = false) : Keeps n₀ Bs W (W.putObj l o') :=
  ⟨belowK_b hn W l o o' hl h h1 h2, fun v hv => (World.putObj_heap_other (by omega)).trans hv⟩
/-- A store into another box leaves a box. -/
theorem boxed_other {W : World} {B C : Nat} {t : TypeId} {v u : Value} (h : Boxed W B t v) (hne : B ≠ C) : Boxed (W.setCell ⟨C, 0, none⟩ u) B t v := h.kept (grownBy_setCell' W C u) (by simp; exact hne)
theorem own_row {W : World} {base : Nat} {e : TypeId} {v : Value} {xs : List Value} {k : Nat} (h : W.ownsRow base e 1 v k xs) : ∃ A c, v = .slice A k c ∧ (A = none → c = 0) := by
  rcases h.2 with ⟨rfl, h0⟩ | ⟨g, cap, cur, rfl, _⟩
  · exact ⟨none, 0, by rw [h0], fun _ => rfl⟩
  · exact ⟨_, cap, rfl, fun h => by cases h⟩

/-- A row of whole numbers of the callee's own. -/
def RowOut (t : List Int) (w : World) (r : Ending) (w' : World) : Prop :=
  ∃ v, r = .returned v ∧ w'.ownsRow w.heap.size 3 1 v t.length (t.map (Value.int .i64)) ∧ Below w.heap.size w w'

set_option maxRecDepth 100000 in
set_option maxHeartbeats 4000000 in
theorem starts_row (A : Option Addr) (ca N : Nat) (l : List Int) (w : World) (hr : RdS .i64 w w.heap.size A l) (hN : l.length = N) (hl : N ≤ 1000) (hca : N ≤ ca) :
    Calls Try.prog 8 #[.slice A N ca] w (RowOut (M.startsTo l N) w) := by
  obtain ⟨i0, hi, hz0, hz1, hz2⟩ := info_parts Try.infoInt
  refine (callsIn_wide (n := 5)).1 ?_
  refine callsIn_of_wp_marks Try.func8 rfl trivial ?_ rfl
  simp only [Try.ntmps8, List.size_toArray, List.length_cons, List.length_nil, Nat.reduceAdd, Nat.reduceSub, Array.replicate_succ, Array.replicate_zero, List.push_toArray, List.append_toArray, List.nil_append, List.cons_append]
  have HR := Lib.hid hr
  have HN := Lib.hid hN
  clear hr hN
  gi_wp2_with fail
  refine ⟨trivial, ?_⟩
  refine (callsIn_wide.2 (breaks_any A ca N _)).mono ?_
  rintro e w' ⟨rfl, rfl⟩
  gi_wp2_with fail
  have bO := Boxed.new w 24 (.slice none 0 0)
  have bN := Boxed.new (w.alloc (.cells #[.slice none 0 0] 24)) 22 (.slice A N ca)
  rw [World.size_alloc] at bN
  have hB0 : Below w.heap.size w ((w.alloc (.cells #[.slice none 0 0] 24)).alloc (.cells #[.slice A N ca] 22)) := ((Below.refl _ w).alloc (Nat.le_refl _) _).alloc (by simp) _
  refine wpIn_rangeFunc_ownG rfl (by omega) (gf := 23) (lb := #[.pointer (some ⟨w.heap.size + 1, 0, none⟩)]) rfl trivial (enters_of Try.func23 (by kernel_rfl) rfl)
    (breaks_stops 4 (w.heap.size + 1) w.heap.size A ca N l _ (by omega) bN (HR.out.below hB0) HN.out hl hca (by simp; omega)) Keeps.trans (keeps_b (by simp; omega) (by simp)) (Below.refl _ _) (fun _ => rfl)
    (fun (pre : List Int) W => (∃ v, Boxed W w.heap.size 24 v ∧ W.ownsRow w.heap.size 3 1 v pre.length (pre.map (Value.int .i64)) ∧ True) ∧ (Boxed W (w.heap.size + 1) 22 (.slice A N ca) ∧ Below w.heap.size w W))
    (fun _ _ _ => False)
    (OwnFrom.and (Own.from (holdsRow_own w.heap.size w.heap.size 24 3 1 (fun pre : List Int => pre.length) (fun pre : List Int => pre.map (Value.int .i64)) (fun _ _ => True)) _) (OwnFrom.and (Own.from (boxed_own _ _ _) _) (ownFrom_below (Nat.le_refl _) (by simp; omega))))
    (fun _ _ _ _ _ hs _ _ => hs)
    ⟨⟨_, bO.alloc _, World.ownsRow_nil _ _ _ _, trivial⟩, bN, hB0⟩
    (fun x => { tmps := #[.slice A N ca, undef, .slice none 0 0, .pointer (some ⟨w.heap.size, 0, none⟩), .int .i64 x, .slice A N ca, .func (.func 23) #[] #[.pointer (some ⟨w.heap.size + 1, 0, none⟩)], .int .i64 x, undef, undef, undef, undef, undef], defers := [] }) ?assign ?body ?done ?stop
  case assign =>
    intro l x W K hK
    gi_wp2
    exact hK
  case body =>
    rintro l pre x W ⟨⟨v, hv, hrow, -⟩, hbx, hB⟩ hlt
    have hc := hv.cell
    have HBX := Lib.hid hbx
    have hbsz := hB.size
    clear hbx
    gi_wp2_with (gi_at_builtin; refine wpListIn_append_own _ rfl _ _ 24 rfl w.heap.size 3 i0 (.int .i64 0) 1 8 Try.underlying24 hi hz0 hz1 hz2 rfl (by decide) _ _ _ rfl (hrow.alloc _) ⟨W.heap.size, 0, none⟩ 1 1 [.int .i64 x] rfl rfl (cell_one_new _ _ _) (by simp [Value.oneCell']) (by unfold maxLen; omega) (by omega) (by simp; omega) ?_; intro v' w1 hown' hgrow _; obtain ⟨g', cap', rfl⟩ := ownsRow_succ hown'; obtain ⟨hv1, hv2, hr2, hk2, hb2⟩ := hv.appended (by decide) hrow hbsz (Nat.le_refl _) hown' hgrow; have hc1 := hv1.cell; have hf1 := hv1.frozen)
    have hbx2 := boxed_other (u := .slice (some ⟨g', 0, none⟩) (pre.length + 1) cap') ((HBX.out.alloc _).kept hgrow (HBX.out.not_row (by decide) hrow)) (C := w.heap.size) (by omega)
    exact ⟨hk2.from _, ⟨hb2, fun u hu => boxed_other ((hu.alloc _).kept hgrow (hu.not_row (by decide) hrow)) (by omega)⟩, ⟨_, hv2, by simpa using hr2, trivial⟩, hbx2, hB.trans hb2⟩
  case done =>
    rintro D ys W hD rfl ⟨⟨v, hv, hrow, -⟩, hbx, hB⟩ hK
    have hc := hv.cell
    obtain ⟨A', c', rfl, hnn⟩ := own_row hrow
    have HROW := Lib.hid hrow
    clear hrow hbx
    gi_wp2
    refine ⟨by simp, .inl ⟨_, _, rfl, run_takeDeferred hK, ?_⟩⟩
    have hrow2 := ownsRow_putObj HROW.out (.deferred none) hK rfl
    have hb2 : Below w.heap.size w (W.putObj D (.deferred none)) := hB.trans (belowK_b (w := w) (Nat.le_refl _) W D _ _ (by simp at hD; omega) hK rfl rfl)
    exact ⟨_, results_tmp rfl _ _ _, .slice A' (M.startsTo l N).length c', rfl, hrow2, hb2⟩
  case stop =>
    rintro D c pre W _ _ h _
    exact h.elim

theorem starts_any (A : Option Addr) (ca N : Nat) (l : List Int) (w : World) (hr : RdS .i64 w w.heap.size A l) (hN : l.length = N) (hl : N ≤ 1000) (hca : N ≤ ca) :
    Calls Try.prog 8 #[.slice A N ca] w (ListOut (M.startsTo l N) w) :=
  (starts_row A ca N l w hr hN hl hca).mono fun r w' ⟨v, he, ho, hb⟩ => by
    obtain ⟨A2, c2, rfl, hr2, hc2, hm2, hn2⟩ := reads_own ho
    exact ⟨A2, c2, he, hr2, hc2, hm2, hn2, hb⟩
end Go.Proofs.Ytpnbkakilmigeaa
