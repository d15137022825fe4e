/- A row of classes that is changed in its places: what of it is done. No function of the program is walked here. -/
import Derived.Test.YtanlclmlkpchfaaCLeaf
namespace Go.Proofs.Ytanlclmlkpchfaa
open Go.RowKit

/-- A block that holds a list of whole numbers. -/
def BlockAt (w : World) (G : Nat) (ty : TypeId) (l : List Int) : Prop := w.heap[G]? = some (.cells (l.map (Value.int .i64)).toArray ty (0, 0))
theorem BlockAt.lt {w : World} {G : Nat} {ty : TypeId} {l : List Int} (h : BlockAt w G ty l) : G < w.heap.size := (Array.getElem?_eq_some_iff.1 h).1
theorem BlockAt.cell {w : World} {G j : Nat} {ty : TypeId} {l : List Int} {x : Int} (h : BlockAt w G ty l) (hj : l[j]? = some x) : w.cell? ⟨G, j, none⟩ = some (.int .i64 x) := by
  unfold World.cell?
  rw [show w.heap[G]? = _ from h]
  simp [hj]
theorem BlockAt.frozen {w : World} {G j : Nat} {ty : TypeId} {l : List Int} (h : BlockAt w G ty l) : w.frozen? ⟨G, j, none⟩ = false := by
  unfold World.frozen?
  rw [show w.heap[G]? = _ from h]
  simp
theorem BlockAt.reads {w : World} {G : Nat} {ty : TypeId} {l : List Int} (h : BlockAt w G ty l) : RdS .i64 w w.heap.size (some ⟨G, 0, none⟩) l := fun j x hx => by
  refine ⟨_, rfl, h.lt, ?_⟩
  have : (⟨G, 0, none⟩ : Addr).add j = ⟨G, j, none⟩ := by unfold Addr.add; split <;> simp_all
  rw [this]
  exact h.cell hx
theorem BlockAt.below {w w' : World} {G n : Nat} {ty : TypeId} {l : List Int} (h : BlockAt w G ty l) (hb : Below n w w') (hG : G < n) : BlockAt w' G ty l := (hb.block G hG).trans h
theorem BlockAt.set {w : World} {G k : Nat} {ty : TypeId} {l : List Int} (h : BlockAt w G ty l) (x : Int) : BlockAt (w.setCell ⟨G, k, none⟩ (.int .i64 x)) G ty (l.set k x) := by
  obtain ⟨hlt, hk⟩ := Array.getElem?_eq_some_iff.1 h
  show (w.heap.modify G _)[G]? = _
  rw [Array.getElem?_eq_getElem (by rw [Array.size_modify]; exact hlt), Array.getElem_modify_self, hk]
  show some (Obj.cells ((l.map (Value.int .i64)).toArray.setIfInBounds k (.int .i64 x)) ty (0, 0)) = _
  rw [List.setIfInBounds_toArray, List.map_set]
/-- What a rule leaves: the row turned, and nothing below it. -/
def Rul (G : Nat) (t : List Int) (w : World) (r : Ending) (w' : World) : Prop :=
  r = .returned (.tuple #[]) ∧ BlockAt w' G 23 t ∧ Below G w w'
/-- Of a row the first k places are done. -/
structure Inp (nn f : Int) (l : List Int) (G : Nat) (w wr : World) (k : Nat) (O : List Int) : Prop where
  hk : k ≤ l.length
  ho : O.length = k
  blk : BlockAt wr G 23 (O ++ l.drop k)
  res : M.wrule nn f l = O ++ M.wgo nn f (l.take k).reverse O.reverse (l.drop k)
  bel : Below G w wr
section
variable {nn f : Int} {l O : List Int} {G k : Nat} {w wr : World}
theorem Inp.start (h : BlockAt w G 23 l) : Inp nn f l G w w 0 [] := ⟨Nat.zero_le _, rfl, h, rfl, Below.refl _ _⟩
theorem Inp.at_ (h : Inp nn f l G w wr k O) {c : Int} (hc : l[k]? = some c) : (O ++ l.drop k)[k]? = some c := by
  rw [List.getElem?_append_right (by rw [h.ho]; exact Nat.le_refl _), h.ho, Nat.sub_self, List.getElem?_drop]
  exact hc
theorem Inp.step (h : Inp nn f l G w wr k O) {c x : Int} (hc : l[k]? = some c) (hx : M.wat nn f (l.take k).reverse O.reverse c (l.drop (k + 1)) = x) :
    M.wrule nn f l = (O ++ [x]) ++ M.wgo nn f (l.take (k + 1)).reverse (O ++ [x]).reverse (l.drop (k + 1)) := by
  rw [h.res, M.drop_next' hc, M.wgo_cons, M.take_next' hc, List.reverse_append, hx]
  simp
theorem Inp.put (h : Inp nn f l G w wr k O) {c x : Int} (hc : l[k]? = some c) (hx : M.wat nn f (l.take k).reverse O.reverse c (l.drop (k + 1)) = x) :
    Inp nn f l G w (wr.setCell ⟨G, k, none⟩ (.int .i64 x)) (k + 1) (O ++ [x]) := by
  have hlt := (List.getElem?_eq_some_iff.1 hc).1
  refine ⟨hlt, by rw [List.length_append, h.ho]; rfl, ?_, h.step hc hx, h.bel.setCell (p := ⟨G, k, none⟩) (Nat.le_refl _) _⟩
  have := h.blk.set (k := k) x
  rw [List.set_append_right _ _ (by rw [h.ho]; exact Nat.le_refl _), h.ho, Nat.sub_self, M.drop_next' hc, List.set_cons_zero] at this
  rw [List.append_assoc]
  exact this
theorem Inp.keep (h : Inp nn f l G w wr k O) {c : Int} (hc : l[k]? = some c) (hx : M.wat nn f (l.take k).reverse O.reverse c (l.drop (k + 1)) = c) :
    Inp nn f l G w wr (k + 1) (O ++ [c]) := by
  have hlt := (List.getElem?_eq_some_iff.1 hc).1
  refine ⟨hlt, by rw [List.length_append, h.ho]; rfl, ?_, h.step hc hx, h.bel⟩
  have := h.blk
  rw [M.drop_next' hc] at this
  rw [List.append_assoc]
  exact this
theorem Inp.done (h : Inp nn f l G w wr k O) (hk : l.length ≤ k) : BlockAt wr G 23 (M.wrule nn f l) := by
  have hb := h.blk
  rw [h.res]
  rw [List.drop_eq_nil_of_le hk] at hb ⊢
  exact hb
end
end Go.Proofs.Ytanlclmlkpchfaa
