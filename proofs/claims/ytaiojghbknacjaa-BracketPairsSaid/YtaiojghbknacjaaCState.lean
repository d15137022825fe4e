/- What package bracket's Pairs holds while it goes: its three boxes, the row of pairs and the row of those that wait, and the marks of its loops. No function of the program is walked here. -/
import Derived.Test.YtaiojghbknacjaaCBec
import Derived.Maps.AppendAt
namespace Go.Proofs.Ytaiojghbknacjaa
open Go.RowKit
set_option maxRecDepth 100000

theorem grown_block {W w1 : World} {tmp : Obj} {row : Option Nat} {k : Nat} {o : Obj} (hg : (W.alloc tmp).grownBy w1 row) (hk : W.heap[k]? = some o) (h1 : row ≠ some k) : w1.heap[k]? = some o := by
  have hlt := (Array.getElem?_eq_some_iff.1 hk).1
  rw [hg.block k (by simp; omega) (fun e => h1 e.symm), Below.heap_alloc _ _ _ hlt]
  exact hk
theorem own_type {W : World} {base size : Nat} {e : TypeId} {v : Value} {xs : List Value} {n k : Nat} (h : W.ownsRow base e size v n xs) (hk : v.ownBlock = some k) : base ≤ k ∧ ∃ cs m, W.heap[k]? = some (.cells cs e m) := by
  rcases h.2 with ⟨rfl, _⟩ | ⟨g, cap, cur, rfl, hb, hg, _⟩
  · simp [Value.ownBlock] at hk
  · obtain rfl : g = k := by simpa [Value.ownBlock] using hk
    exact ⟨hb, _, _, hg⟩
theorem rows_kinds {w : World} {b b' n n' s s' : Nat} {e e' : TypeId} {v v' : Value} {xs xs' : List Value} (h : w.ownsRow b e s v n xs) (h' : w.ownsRow b' e' s' v' n' xs') (hne : e ≠ e') : v.ownBlock = none ∨ v.ownBlock ≠ v'.ownBlock := by
  rcases hv : v.ownBlock with _ | g
  · exact .inl rfl
  · refine .inr fun e => ?_
    obtain ⟨_, c1, m1, h1⟩ := own_type h hv
    obtain ⟨_, c2, m2, h2⟩ := own_type h' e.symm
    rw [h1] at h2
    injection h2 with h2
    injection h2 with _ h2 _
    exact hne h2
/-- A row of one's own is kept where no cells are turned. -/
theorem own_still {B base size : Nat} {W W' : World} {e : TypeId} {v : Value} {xs : List Value} {k : Nat} (h : W.ownsRow base e size v k xs) (hs : Still (ours mineN) B W W') : W'.ownsRow base e size v k xs := by
  refine ⟨h.1, ?_⟩
  rcases h.2 with h1 | ⟨g, cap, cur, hv, hbg, hg, rest⟩
  · exact .inl h1
  · exact .inr ⟨g, cap, cur, hv, hbg, hs.kept g _ hg rfl, rest⟩
/-- A row cut short. -/
theorem own_cut {W : World} {base size : Nat} {e : TypeId} {g n c k : Nat} {xs : List Value} (h : W.ownsRow base e size (.slice (some ⟨g, 0, none⟩) n c) n xs) (hk : k ≤ n) : W.ownsRow base e size (.slice (some ⟨g, 0, none⟩) k c) k (xs.take (k * size)) := by
  have hle : k * size ≤ n * size := Nat.mul_le_mul_right _ hk
  refine ⟨by rw [List.length_take, h.1]; omega, ?_⟩
  rcases h.2 with ⟨h1, _⟩ | ⟨g', cap, cur, hv, hbg, hg, hn, hm, hs, ht⟩
  · cases h1
  · injection hv with e1 _ e3
    injection e1 with e1
    injection e1 with e1
    subst e1 e3
    refine .inr ⟨g, c, cur, rfl, hbg, hg, by omega, hm, hs, ?_⟩
    rw [← ht, List.take_take, Nat.min_eq_left hle]
theorem own_form {W : World} {base size : Nat} {e : TypeId} {v : Value} {xs : List Value} {k : Nat} (h : W.ownsRow base e size v k xs) : ∃ A c, v = .slice A k c ∧ k ≤ c ∧ c ≤ maxLen ∧ (A = none → c = 0) ∧ (0 < k → ∃ g, A = some ⟨g, 0, none⟩) := by
  rcases h.2 with ⟨rfl, h0⟩ | ⟨g, cap, cur, rfl, _, _, hn, hm, _, _⟩
  · exact ⟨none, 0, by rw [h0], by omega, by unfold maxLen; omega, fun _ => rfl, fun h => by omega⟩
  · exact ⟨_, cap, rfl, hn, hm, fun h => (by cases h), fun _ => ⟨g, rfl⟩⟩

/-- The marks that loops over iterators have left. -/
def Dfr (w : World) (B : Nat) : List Deferred → Prop
  | [] => True
  | d :: ds => (∃ D, d = { target := .collected D, args := #[] } ∧ B ≤ D ∧ w.heap[D]? = some (.deferred (some [])) ∧ ∀ d' ∈ ds, d'.target ≠ .collected D) ∧ Dfr w B ds
theorem Dfr.keep {w w' : World} {B : Nat} {ds : List Deferred} (h : Dfr w B ds) (hk : ∀ (k : Nat) (o : Obj), w.heap[k]? = some o → o.isCells = false → w'.heap[k]? = some o) : Dfr w' B ds := by
  induction ds with
  | nil => trivial
  | cons d ds ih =>
    obtain ⟨⟨D, h1, h2, h3, h4⟩, h5⟩ := h
    exact ⟨⟨D, h1, h2, hk D _ h3 rfl, h4⟩, ih h5⟩
theorem Dfr.lt {w : World} {B : Nat} {ds : List Deferred} (h : Dfr w B ds) {d : Deferred} (hd : d ∈ ds) {D : Nat} (e : d.target = .collected D) : D < w.heap.size := by
  induction ds with
  | nil => cases hd
  | cons d' ds ih =>
    obtain ⟨⟨D', h1, h2, h3, h4⟩, h5⟩ := h
    rcases List.mem_cons.1 hd with rfl | hd
    · subst h1
      injection e with e
      subst e
      exact (Array.getElem?_eq_some_iff.1 h3).1
    · exact ih h5 hd
theorem Dfr.more {w w' : World} {B D : Nat} {ds : List Deferred} (h : Dfr w B ds) (h' : Dfr w' B ds) (hB : B ≤ D) (hD : w.heap.size ≤ D) (hk : w'.heap[D]? = some (.deferred (some []))) : Dfr w' B ({ target := .collected D, args := #[] } :: ds) :=
  ⟨⟨D, rfl, hB, hk, fun d hd e => by have := h.lt hd e; omega⟩, h'⟩
theorem Dfr.below {w w' : World} {B : Nat} {ds : List Deferred} (h : Dfr w B ds) (hb : Below w.heap.size w w') : Dfr w' B ds := h.keep fun k _ hk _ => (hb.block k (Array.getElem?_eq_some_iff.1 hk).1).trans hk
/-- A function leaves by its marks. -/
theorem dfr_leaves {n B : Nat} {P : Program} {fn : Func} {tmps : Array Value} {R : Ending → World → Prop} {ds : List Deferred} {W : World} (h : Dfr W B ds) (hR : ∀ W', Still (ours mineN) B W W' → LeavesInM Fence.wide n P fn tmps R [] .returning W') : LeavesInM Fence.wide n P fn tmps R ds .returning W := by
  induction ds generalizing W with
  | nil => exact hR W (Still.refl _ _ _)
  | cons d ds ih =>
    obtain ⟨⟨D, h1, h2, h3, h4⟩, h5⟩ := h
    subst h1
    have st : Still (ours mineN) B W (W.putObj D (.deferred none)) := still_put _ h3 rfl h2
    refine ⟨by simp, .inl ⟨_, _, rfl, run_takeDeferred h3, ih ?_ fun W' hs => hR W' (st.trans hs)⟩⟩
    clear ih hR
    induction ds with
    | nil => trivial
    | cons d' ds ih2 =>
      obtain ⟨⟨D', g1, g2, g3, g4⟩, g5⟩ := h5
      have hne : D' ≠ D := fun e => h4 d' (by simp) (by rw [g1, e])
      exact ⟨⟨D', g1, g2, (World.putObj_heap_other hne).trans g3, g4⟩, ih2 g5 fun d hd => h4 d (List.mem_cons_of_mem _ hd)⟩

/-- The boxes and the rows. -/
structure PB (w : World) (B : Option Addr) (cb m : Nat) (wr : World) (acc : List (Int × Int)) (st : List Nat) (v1 v2 : Value) : Prop where
  below : Below w.heap.size w wr
  boxM : Boxed wr w.heap.size 28 (.slice B m cb)
  boxP : Boxed wr (w.heap.size + 1) 26 v1
  boxW : Boxed wr (w.heap.size + 2) 44 v2
  rp : OwnT wr (w.heap.size + 3) 41 v1 acc
  rw : wr.ownsRow (w.heap.size + 3) 3 1 v2 st.length (st.reverse.map fun o : Nat => Value.int .i64 (o : Int))
  size : w.heap.size + 3 ≤ wr.heap.size
section
variable {w wr w' : World} {B : Option Addr} {cb m : Nat} {acc : List (Int × Int)} {st : List Nat} {v1 v2 : Value}
theorem PB.later (h : PB w B cb m wr acc st v1 v2) (hb : Below wr.heap.size wr w') : PB w B cb m w' acc st v1 v2 :=
  ⟨h.below.trans (hb.mono h.below.size), (hb.block _ h.boxM.lt).trans h.boxM, (hb.block _ h.boxP.lt).trans h.boxP, (hb.block _ h.boxW.lt).trans h.boxW, h.rp.below hb, own_below h.rw hb, Nat.le_trans h.size hb.size⟩
theorem PB.still {B0 : Nat} (h : PB w B cb m wr acc st v1 v2) (hs : Still (ours mineN) B0 wr w') (hB : w.heap.size ≤ B0) : PB w B cb m w' acc st v1 v2 :=
  ⟨h.below.trans (hs.below.mono hB), hs.kept _ _ h.boxM rfl, hs.kept _ _ h.boxP rfl, hs.kept _ _ h.boxW rfl, own_still h.rp hs, own_still h.rw hs, Nat.le_trans h.size hs.below.size⟩
theorem PB.row1 (h : PB w B cb m wr acc st v1 v2) {k : Nat} (hk : k < w.heap.size + 3) : v1.ownBlock ≠ some k := fun e => by have := (own_type h.rp e).1; omega
theorem PB.row2 (h : PB w B cb m wr acc st v1 v2) {k : Nat} (hk : k < w.heap.size + 3) : v2.ownBlock ≠ some k := fun e => by have := (own_type h.rw e).1; omega
/-- One more waits. -/
theorem PB.push (h : PB w B cb m wr acc st v1 v2) {w5 : World} {o g c : Nat} {x : Obj} (hown : w5.ownsRow (w.heap.size + 3) 3 1 (.slice (some ⟨g, 0, none⟩) (st.length + 1) c) (st.length + 1) ((st.reverse.map fun o : Nat => Value.int .i64 (o : Int)) ++ [.int .i64 (o : Int)])) (hg : (wr.alloc x).grownBy w5 v2.ownBlock) :
    PB w B cb m (w5.setCell ⟨w.heap.size + 2, 0, none⟩ (.slice (some ⟨g, 0, none⟩) (st.length + 1) c)) acc (o :: st) v1 (.slice (some ⟨g, 0, none⟩) (st.length + 1) c) := by
  have hsz := h.size
  have b2 : Boxed w5 (w.heap.size + 2) 44 v2 := grown_block hg h.boxW (h.row2 (by omega))
  have b1 : Boxed w5 (w.heap.size + 1) 26 v1 := grown_block hg h.boxP (h.row2 (by omega))
  have b0 : Boxed w5 w.heap.size 28 (.slice B m cb) := grown_block hg h.boxM (h.row2 (by omega))
  have rp : OwnT w5 (w.heap.size + 3) 41 v1 acc := World.ownsRow.kept (World.ownsRow.alloc h.rp x) hg (rows_kinds h.rp h.rw (by decide))
  refine ⟨(((h.below.alloc (by omega) x).grown hg (by simp; omega) (fun k hk => by have := (own_type h.rw hk).1; omega)).setCell (p := ⟨w.heap.size + 2, 0, none⟩) (by show w.heap.size ≤ w.heap.size + 2; omega) _), b0.other (by omega) _, b1.other (by omega) _, b2.set _, World.ownsRow.kept rp (grownBy_setCell' w5 _ _) (.inr fun e => ?_), World.ownsRow.kept (by rw [List.reverse_cons, List.map_append]; exact hown) (grownBy_setCell' w5 _ _) (.inr fun e => ?_), ?_⟩
  · have := (own_type rp e).1; omega
  · have := (own_type hown e).1; omega
  · have := hg.size
    simp at this
    simp [World.setCell]
    omega
/-- One more pair. -/
theorem PB.pair (h : PB w B cb m wr acc st v1 v2) {w5 : World} {g c : Nat} {a b : Int} {x : Obj} (hown : OwnT w5 (w.heap.size + 3) 41 (.slice (some ⟨g, 0, none⟩) (acc.length + 1) c) (acc ++ [(a, b)])) (hg : (wr.alloc x).grownBy w5 v1.ownBlock) :
    PB w B cb m (w5.setCell ⟨w.heap.size + 1, 0, none⟩ (.slice (some ⟨g, 0, none⟩) (acc.length + 1) c)) (acc ++ [(a, b)]) st (.slice (some ⟨g, 0, none⟩) (acc.length + 1) c) v2 := by
  have hsz := h.size
  have b2 : Boxed w5 (w.heap.size + 2) 44 v2 := grown_block hg h.boxW (h.row1 (by omega))
  have b1 : Boxed w5 (w.heap.size + 1) 26 v1 := grown_block hg h.boxP (h.row1 (by omega))
  have b0 : Boxed w5 w.heap.size 28 (.slice B m cb) := grown_block hg h.boxM (h.row1 (by omega))
  have rw := World.ownsRow.kept (World.ownsRow.alloc h.rw x) hg (rows_kinds h.rw h.rp (by decide))
  refine ⟨(((h.below.alloc (by omega) x).grown hg (by simp; omega) (fun k hk => by have := (own_type h.rp hk).1; omega)).setCell (p := ⟨w.heap.size + 1, 0, none⟩) (by show w.heap.size ≤ w.heap.size + 1; omega) _), b0.other (by omega) _, b1.set _, b2.other (by omega) _, World.ownsRow.kept hown (grownBy_setCell' w5 _ _) (.inr fun e => ?_), World.ownsRow.kept rw (grownBy_setCell' w5 _ _) (.inr fun e => ?_), ?_⟩
  · have := (own_type hown e).1; omega
  · have := (own_type rw e).1; omega
  · have := hg.size
    simp at this
    simp [World.setCell]
    omega
/-- Some wait no longer. -/
theorem PB.cut {a r : List Nat} {g c : Nat} (h : PB w B cb m wr acc (a ++ r) v1 (.slice (some ⟨g, 0, none⟩) (a ++ r).length c)) :
    PB w B cb m (wr.setCell ⟨w.heap.size + 2, 0, none⟩ (.slice (some ⟨g, 0, none⟩) r.length c)) acc r v1 (.slice (some ⟨g, 0, none⟩) r.length c) := by
  have hsz := h.size
  have hc := own_cut h.rw (k := r.length) (by simp)
  rw [Nat.mul_one, ← List.map_take, List.reverse_append, List.take_append_of_le_length (by simp), List.take_of_length_le (by simp)] at hc
  refine ⟨h.below.setCell (p := ⟨w.heap.size + 2, 0, none⟩) (by show w.heap.size ≤ w.heap.size + 2; omega) _, h.boxM.other (by omega) _, h.boxP.other (by omega) _, h.boxW.set _, World.ownsRow.kept h.rp (grownBy_setCell' wr _ _) (.inr fun e => ?_), World.ownsRow.kept hc (grownBy_setCell' wr _ _) (.inr fun e => ?_), by simpa [World.setCell] using hsz⟩
  · have := (own_type h.rp e).1; omega
  · have := (own_type hc e).1; omega
/-- Those that wait, as the row reads. -/
theorem PB.reads (h : PB w B cb m wr acc st v1 v2) : ∃ A c, v2 = .slice A st.length c ∧ RdS .i64 wr wr.heap.size A (st.reverse.map fun o : Nat => (o : Int)) ∧ st.length ≤ c ∧ (0 < st.length → ∃ g, A = some ⟨g, 0, none⟩) := by
  have hrw := h.rw
  have e : (st.reverse.map fun o : Nat => Value.int .i64 (o : Int)) = (st.reverse.map fun o : Nat => (o : Int)).map (Value.int .i64) := by rw [List.map_map]; rfl
  rw [e] at hrw
  obtain ⟨A, c, h1, h2, h3, -, h5⟩ := own_form hrw
  have hrw' : wr.ownsRow (w.heap.size + 3) 3 1 v2 (st.reverse.map fun o : Nat => (o : Int)).length ((st.reverse.map fun o : Nat => (o : Int)).map (Value.int .i64)) := by
    rw [List.length_map, List.length_reverse]
    exact hrw
  obtain ⟨A', c', h6, h7, -⟩ := reads_own hrw'
  rw [h1] at h6
  injection h6 with e1 _ _
  subst e1
  exact ⟨A, c, h1, h7, h2, h5⟩
end
end Go.Proofs.Ytaiojghbknacjaa
