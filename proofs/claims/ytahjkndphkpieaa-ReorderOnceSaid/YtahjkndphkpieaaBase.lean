/- What many texts use: facts on slices of whole numbers, rows of one's own, new blocks, and what calls hand back. No function of the program is walked here. -/
import Derived.Test.YtahjkndphkpieaaRows
import Derived.Test.YtahjkndphkpieaaReads
import Derived.WalkKit
import Derived.Lib.Hide
import Derived.Lib.QuietBelow
import Derived.Deep.QuietTactic
import Derived.BigQuiet
import Derived.WalkSpells
import Derived.WalkLawsBesides
import Derived.OwnWalk
import Derived.Laws.AppendOwnNone
import Derived.Deep.AppendLies
import Derived.IntWalk
import Derived.RangeFuncBox
namespace Go.Proofs.Ytahjkndphkpieaa
open Go.RowKit

theorem ret_bool {a b : Bool} (h : a = b) : Ending.returned (.bool a) = .returned (.bool b) := by rw [h]
theorem ret_int {k : IntKind} {a b : Int} (h : a = b) : Ending.returned (.int k a) = .returned (.int k b) := by rw [h]
theorem rd_at {w w' : World} {n k : Nat} {A : Option Addr} {l : List Int} (h : RdS .i64 w n A l) (hb : Below n w w') (hk : k < l.length) : ∃ ad x, A = some ad ∧ w'.cell? (ad.add k) = some (.int .i64 x) ∧ l[k]? = some x ∧ ad.block < n := by
  obtain ⟨x, hx⟩ : ∃ x, l[k]? = some x := ⟨_, List.getElem?_eq_getElem hk⟩
  obtain ⟨ad, hA, hB, hc⟩ := (h.below hb) k x hx
  exact ⟨ad, x, hA, hc, hx, hB⟩
theorem drewN_below {n : Nat} {w W : World} (h : Below n w W) (m : Nat) : Below n w (W.drewN m) := by
  induction m with
  | zero => exact h
  | succ m ih => exact ih.drew

/-- A slice of whole numbers that reads as a list. -/
def ListOut (t : List Int) (w : World) (r : Ending) (w' : World) : Prop :=
  ∃ A c, r = .returned (.slice A t.length c) ∧ RdS .i64 w' w'.heap.size A t ∧ t.length ≤ c ∧ c ≤ maxLen ∧ (A = none → c = 0) ∧ Below w.heap.size w w'
/-- A row of whole numbers of the callee's own. -/
def RowOut (ty : TypeId) (t : List Int) (w : World) (r : Ending) (w' : World) : Prop :=
  ∃ v, r = .returned v ∧ w'.ownsRow w.heap.size ty 1 v t.length (t.map (Value.int .i64)) ∧ Below w.heap.size w w'

theorem one_new (w : World) (x : Value) (ty : TypeId) : ∀ j u, [x][j]? = some u → (w.alloc (.cells #[x] ty)).cell? ((⟨w.heap.size, 0, none⟩ : Addr).add j) = some u := by
  intro j u hj
  match j, hj with
  | 0, hj => simp at hj; subst hj; simp [Addr.add]
theorem one_cell {k : IntKind} {x : Int} : ∀ u ∈ [Value.int k x], u.oneCell' = true := by
  intro u hu; simp at hu; subst hu; rfl
theorem grow_below0 {w w1 w2 : World} {base n : Nat} {t : TypeId} {v : Value} {xs : List Value} (hb : Below base w w1) (h : w1.ownsRow base t 1 v n xs) (hg : w1.grownBy w2 v.ownBlock) (hbase : base ≤ w1.heap.size) : Below base w w2 :=
  hb.grown hg hbase (fun k hk => (World.ownsRow.lt h k hk).1)
theorem reads_own {k : IntKind} {w : World} {base : Nat} {t : TypeId} {v : Value} {l : List Int} (h : w.ownsRow base t 1 v l.length (l.map (Value.int k))) :
    ∃ A' c', v = .slice A' l.length c' ∧ RdS k w w.heap.size A' l ∧ l.length ≤ c' ∧ c' ≤ maxLen ∧ (A' = none → c' = 0) := by
  rcases h.2 with ⟨rfl, h0⟩ | ⟨g, cap, cur, rfl, _, hg, hn, hm, _, htake⟩
  · have : l = [] := List.eq_nil_of_length_eq_zero h0
    subst this
    exact ⟨none, 0, rfl, RdS.nil, Nat.le_refl _, Nat.zero_le _, fun _ => rfl⟩
  · refine ⟨_, cap, rfl, fun j x hx => ⟨_, rfl, lt_of_block hg, ?_⟩, hn, hm, fun h => by cases h⟩
    exact World.ownsRow.cells h rfl j _ (by rw [List.getElem?_map, hx]; rfl)
/-- A row of one's own is kept where blocks from its base on are laid behind it alone. -/
theorem own_below {w w' : World} {base n : Nat} {e : TypeId} {v : Value} {xs : List Value} (h : w.ownsRow base e 1 v n xs) (hb : Below w.heap.size w w') : w'.ownsRow base e 1 v n xs := by
  refine ⟨h.1, ?_⟩
  rcases h.2 with h1 | ⟨g, cap, cur, hv, hbg, hg, rest⟩
  · exact .inl h1
  · exact .inr ⟨g, cap, cur, hv, hbg, by rw [hb.block g (lt_of_block hg)]; exact hg, rest⟩
theorem own_base {W : World} {b b' : Nat} {e : TypeId} {n k : Nat} {v : Value} {xs : List Value} (h : W.ownsRow b e n v k xs) (hb : b' ≤ b) : W.ownsRow b' e n v k xs := by
  refine ⟨h.1, ?_⟩
  rcases h.2 with h0 | ⟨g, cap, cur, h1, h2, h3⟩
  · exact .inl h0
  · exact .inr ⟨g, cap, cur, h1, Nat.le_trans hb h2, h3⟩
/-- A slice in memory is kept where another row grows. -/
theorem RdS.grown {k : IntKind} {w w' : World} {B : Nat} {A : Option Addr} {l : List Int} {row : Option Nat} (h : RdS k w B A l) (hg : w.grownBy w' row) (hne : ∀ ad, A = some ad → row ≠ some ad.block) : RdS k w' B A l := fun j x hx => by
  obtain ⟨ad, hA, hb, hc⟩ := h j x hx
  refine ⟨ad, hA, hb, ?_⟩
  rw [← hc]
  refine World.cell?_of_block ?_
  rw [addr_block]
  have hlt := World.block_lt_of_cell? w _ hc
  rw [addr_block] at hlt
  exact hg.block ad.block hlt (fun e => hne ad hA e.symm)
/-- A row of one's own that lies in older blocks is apart from one that lies in newer ones. -/
theorem rows_apart {w w' : World} {b b' n n' : Nat} {e e' : TypeId} {v v' : Value} {k k' : Nat} {xs xs' : List Value} (h : w.ownsRow b e n v k xs) (h' : w'.ownsRow b' e' n' v' k' xs') (hb : w.heap.size ≤ b') : ∀ g, v'.ownBlock = some g → v.ownBlock ≠ some g := fun g hg hv => by
  have h1 := (World.ownsRow.lt h g hv).2
  have h2 := (World.ownsRow.lt h' g hg).1
  omega
theorem rowOut_list {ty : TypeId} {t : List Int} {w : World} {r : Ending} {w' : World} (h : RowOut ty t w r w') : ListOut t w r w' := by
  obtain ⟨v, he, ho, hb⟩ := h
  obtain ⟨A2, c2, rfl, hr2, hc2, hm2, hn2⟩ := reads_own ho
  exact ⟨A2, c2, he, hr2, hc2, hm2, hn2, hb⟩
/-- A new block of whole numbers reads as their list. -/
theorem rd_new (w : World) (l : List Int) (ty : TypeId) : RdS .i64 (w.alloc (.cells (l.map (Value.int .i64)).toArray ty)) (w.alloc (.cells (l.map (Value.int .i64)).toArray ty)).heap.size (some ⟨w.heap.size, 0, none⟩) l := fun j x hx => by
  refine ⟨_, rfl, by simp, ?_⟩
  have : (⟨w.heap.size, 0, none⟩ : Addr).add j = ⟨w.heap.size, j, none⟩ := by unfold Addr.add; split <;> simp_all
  rw [this]
  have hj := (List.getElem?_eq_some_iff.1 hx).1
  have hnew : (w.alloc (.cells (l.map (Value.int .i64)).toArray ty)).heap[w.heap.size]? = some (.cells (l.map (Value.int .i64)).toArray ty (0, 0)) := World.alloc_heap_new w _
  unfold World.cell?
  rw [hnew]
  simp [hx]
end Go.Proofs.Ytahjkndphkpieaa
