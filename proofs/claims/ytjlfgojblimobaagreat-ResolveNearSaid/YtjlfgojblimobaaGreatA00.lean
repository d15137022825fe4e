/- A slice of numbers that reads as a list, over any world: what keeps it, and its cuts. No program is read here. -/
/- What many texts use: facts on slices of whole numbers, rows of one's own, new blocks, and what calls hand back. No function of the program is walked here. -/
/- Arguments that came in: a slice of whole numbers, opened. No function of the program is walked here. -/
/- One slice's numbers put behind those of a row of the caller's own, whatever the slice: nil, empty or not. No function of the program is walked here. -/
import Derived.WalkKit
import Derived.Test.YtjlfgojblimobaaGreatRows
import Derived.Lib.Hide
import Derived.Lib.QuietBelow
import Derived.Deep.QuietTactic
import Derived.BigQuiet
import Derived.WalkSpells
import Derived.WalkLawsBesides
import Derived.OwnWalk
import Derived.Laws.AppendOwnNone
import Derived.Deep.AppendLies
import Derived.IntWalk
import Derived.RangeFuncBox
import Derived.ProofKit
section
namespace Go.Proofs.YtjlfgojblimobaaGreat
open Go.RowKit

def RdS (k : IntKind) (w : World) (B : Nat) (A : Option Addr) (l : List Int) : Prop :=
  ∀ j x, l[j]? = some x → ∃ ad, A = some ad ∧ ad.block < B ∧ w.cell? (ad.add j) = some (.int k x)

theorem addr_block (a : Addr) (n : Nat) : (a.add n).block = a.block := by
  unfold Addr.add; split <;> rfl
theorem addr_add_add (a : Addr) (i j : Nat) : (a.add i).add j = a.add (i + j) := by
  unfold Addr.add
  by_cases hi : i = 0
  · subst hi; simp
  · by_cases hj : j = 0
    · subst hj; simp
    · simp [hi, hj, Nat.add_assoc]
theorem addr_add_pos (a : Addr) (n : Nat) (h : n ≠ 0) : a.add n = ⟨a.block, a.off + n, none⟩ := by
  unfold Addr.add; simp [h]

section
variable {k : IntKind} {w w' : World} {B B' : Nat} {A : Option Addr} {l : List Int}
theorem RdS.nil : RdS k w B A [] := fun j x h => by simp at h
theorem RdS.at_ (h : RdS k w B A l) {j : Nat} (hj : j < l.length) : ∃ ad, A = some ad ∧ ad.block < B ∧ w.cell? (ad.add j) = some (.int k l[j]) :=
  h j _ (List.getElem?_eq_getElem hj)
theorem RdS.keep (h : RdS k w B A l) (hk : ∀ p : Addr, p.block < B → w'.cell? p = w.cell? p) : RdS k w' B A l := fun j x hx => by
  obtain ⟨ad, hA, hb, hc⟩ := h j x hx
  exact ⟨ad, hA, hb, (hk _ (by rw [addr_block]; exact hb)).trans hc⟩
theorem RdS.below (h : RdS k w B A l) (hb : Below B w w') : RdS k w' B A l := h.keep fun _ hp => hb.cell hp
theorem RdS.more (h : RdS k w B A l) (hB : B ≤ B') : RdS k w B' A l := fun j x hx => by
  obtain ⟨ad, hA, hb, hc⟩ := h j x hx
  exact ⟨ad, hA, by omega, hc⟩
theorem RdS.take (h : RdS k w B A l) (n : Nat) : RdS k w B A (l.take n) := fun j x hx => by
  rw [List.getElem?_take] at hx
  split at hx
  · exact h j x hx
  · cases hx
theorem RdS.drop (h : RdS k w B A l) (n : Nat) : RdS k w B (A.map (fun x => x.add n)) (l.drop n) := fun j x hx => by
  rw [List.getElem?_drop] at hx
  obtain ⟨ad, hA, hb, hcell⟩ := h _ x hx
  exact ⟨ad.add n, by rw [hA]; rfl, by rw [addr_block]; exact hb, by rw [addr_add_add]; exact hcell⟩
theorem RdS.cut (h : RdS k w B A l) {n cap : Nat} (hc : l.length ≤ cap) : RdS k w B (if cap = n then A else A.map (·.add n)) (l.drop n) := fun j x hx => by
  rw [List.getElem?_drop] at hx
  obtain ⟨ad, hA, hb, hcell⟩ := h _ x hx
  have hlt : n + j < l.length := (List.getElem?_eq_some_iff.1 hx).1
  rw [if_neg (by omega), hA]
  exact ⟨ad.add n, rfl, by rw [addr_block]; exact hb, by rw [addr_add_add]; exact hcell⟩
end
end Go.Proofs.YtjlfgojblimobaaGreat
end

section
namespace Go.Proofs.YtjlfgojblimobaaGreat
open Go.RowKit

theorem ret_bool {a b : Bool} (h : a = b) : Ending.returned (.bool a) = .returned (.bool b) := by rw [h]
theorem ret_int {k : IntKind} {a b : Int} (h : a = b) : Ending.returned (.int k a) = .returned (.int k b) := by rw [h]
theorem rd_at {w w' : World} {n k : Nat} {A : Option Addr} {l : List Int} (h : RdS .i64 w n A l) (hb : Below n w w') (hk : k < l.length) : ∃ ad x, A = some ad ∧ w'.cell? (ad.add k) = some (.int .i64 x) ∧ l[k]? = some x ∧ ad.block < n := by
  obtain ⟨x, hx⟩ : ∃ x, l[k]? = some x := ⟨_, List.getElem?_eq_getElem hk⟩
  obtain ⟨ad, hA, hB, hc⟩ := (h.below hb) k x hx
  exact ⟨ad, x, hA, hc, hx, hB⟩
theorem drewN_below {n : Nat} {w W : World} (h : Below n w W) (m : Nat) : Below n w (W.drewN m) := by
  induction m with
  | zero => exact h
  | succ m ih => exact ih.drew

def RowOut (ty : TypeId) (t : List Int) (w : World) (r : Ending) (w' : World) : Prop :=
  ∃ v, r = .returned v ∧ w'.ownsRow w.heap.size ty 1 v t.length (t.map (Value.int .i64)) ∧ Below w.heap.size w w'

theorem one_new (w : World) (x : Value) (ty : TypeId) : ∀ j u, [x][j]? = some u → (w.alloc (.cells #[x] ty)).cell? ((⟨w.heap.size, 0, none⟩ : Addr).add j) = some u := by
  intro j u hj
  match j, hj with
  | 0, hj => simp at hj; subst hj; simp [Addr.add]
theorem one_cell {k : IntKind} {x : Int} : ∀ u ∈ [Value.int k x], u.oneCell' = true := by
  intro u hu; simp at hu; subst hu; rfl
theorem grow_below0 {w w1 w2 : World} {base n : Nat} {t : TypeId} {v : Value} {xs : List Value} (hb : Below base w w1) (h : w1.ownsRow base t 1 v n xs) (hg : w1.grownBy w2 v.ownBlock) (hbase : base ≤ w1.heap.size) : Below base w w2 :=
  hb.grown hg hbase (fun k hk => (World.ownsRow.lt h k hk).1)
theorem reads_own {k : IntKind} {w : World} {base : Nat} {t : TypeId} {v : Value} {l : List Int} (h : w.ownsRow base t 1 v l.length (l.map (Value.int k))) :
    ∃ A' c', v = .slice A' l.length c' ∧ RdS k w w.heap.size A' l ∧ l.length ≤ c' ∧ c' ≤ maxLen ∧ (A' = none → c' = 0) := by
  rcases h.2 with ⟨rfl, h0⟩ | ⟨g, cap, cur, rfl, _, hg, hn, hm, _, htake⟩
  · have : l = [] := List.eq_nil_of_length_eq_zero h0
    subst this
    exact ⟨none, 0, rfl, RdS.nil, Nat.le_refl _, Nat.zero_le _, fun _ => rfl⟩
  · refine ⟨_, cap, rfl, fun j x hx => ⟨_, rfl, lt_of_block hg, ?_⟩, hn, hm, fun h => by cases h⟩
    exact World.ownsRow.cells h rfl j _ (by rw [List.getElem?_map, hx]; rfl)
theorem own_below {w w' : World} {base n : Nat} {e : TypeId} {v : Value} {xs : List Value} (h : w.ownsRow base e 1 v n xs) (hb : Below w.heap.size w w') : w'.ownsRow base e 1 v n xs := by
  refine ⟨h.1, ?_⟩
  rcases h.2 with h1 | ⟨g, cap, cur, hv, hbg, hg, rest⟩
  · exact .inl h1
  · exact .inr ⟨g, cap, cur, hv, hbg, by rw [hb.block g (lt_of_block hg)]; exact hg, rest⟩
theorem own_base {W : World} {b b' : Nat} {e : TypeId} {n k : Nat} {v : Value} {xs : List Value} (h : W.ownsRow b e n v k xs) (hb : b' ≤ b) : W.ownsRow b' e n v k xs := by
  refine ⟨h.1, ?_⟩
  rcases h.2 with h0 | ⟨g, cap, cur, h1, h2, h3⟩
  · exact .inl h0
  · exact .inr ⟨g, cap, cur, h1, Nat.le_trans hb h2, h3⟩
theorem RdS.grown {k : IntKind} {w w' : World} {B : Nat} {A : Option Addr} {l : List Int} {row : Option Nat} (h : RdS k w B A l) (hg : w.grownBy w' row) (hne : ∀ ad, A = some ad → row ≠ some ad.block) : RdS k w' B A l := fun j x hx => by
  obtain ⟨ad, hA, hb, hc⟩ := h j x hx
  refine ⟨ad, hA, hb, ?_⟩
  rw [← hc]
  refine World.cell?_of_block ?_
  rw [addr_block]
  have hlt := World.block_lt_of_cell? w _ hc
  rw [addr_block] at hlt
  exact hg.block ad.block hlt (fun e => hne ad hA e.symm)
theorem rd_new (w : World) (l : List Int) (ty : TypeId) : RdS .i64 (w.alloc (.cells (l.map (Value.int .i64)).toArray ty)) (w.alloc (.cells (l.map (Value.int .i64)).toArray ty)).heap.size (some ⟨w.heap.size, 0, none⟩) l := fun j x hx => by
  refine ⟨_, rfl, by simp, ?_⟩
  have : (⟨w.heap.size, 0, none⟩ : Addr).add j = ⟨w.heap.size, j, none⟩ := by unfold Addr.add; split <;> simp_all
  rw [this]
  have hj := (List.getElem?_eq_some_iff.1 hx).1
  have hnew : (w.alloc (.cells (l.map (Value.int .i64)).toArray ty)).heap[w.heap.size]? = some (.cells (l.map (Value.int .i64)).toArray ty (0, 0)) := World.alloc_heap_new w _
  unfold World.cell?
  rw [hnew]
  simp [hx]
end Go.Proofs.YtjlfgojblimobaaGreat
end

section
namespace Go.Proofs.YtjlfgojblimobaaGreat
open Go.ChangeShapes Go.WideShapes Go.ChangeAt Go.RowKit
set_option maxRecDepth 100000

theorem Tryz.own : ownKnob Tryz.prog.godebug = none := by kernel_rfl
theorem Tryz.laidOut : laidOutB Tryz.prog = true := by kernel_rfl
theorem open_list {H : Type} {enc : TypeId × Value → H} {W : World} {base : Nat} {t e : TypeId} {k : IntKind} {v : Value} {d : DataW H} {p : List MemPlace} (ht : Tryz.prog.underlying t = some (.slice e)) (he : Tryz.prog.underlying e = some (.int k)) (hc : Tryz.prog.cellsOf e = 1)
    (hv : Value.okWide Tryz.prog W .any base t v) (h : DataW.Trod enc Tryz.prog W 0 (fun _ => true) true t v d p) :
    ∃ (A : Option Addr) (c : Nat) (l : List Int), v = .slice A l.length c ∧ RdS k W W.heap.size A l ∧ l.length ≤ c ∧ c ≤ maxLen ∧ (∀ x ∈ l, (Lit.int k x).wf = true) ∧ (A = none → c = 0) := by
  obtain ⟨a0, len0, cap0, rfl⟩ := okWide_slice ht hv
  obtain ⟨fuel, hf⟩ := h
  rcases open_ints ht he hc hf with ⟨hcs, _⟩ | ⟨x, l, c, zs, hcs, _, hl, hm, hz, _, hcell, hwz⟩
  · simp [Value.cells] at hcs
    obtain ⟨rfl, rfl, rfl⟩ := hcs
    exact ⟨none, 0, [], rfl, RdS.nil, Nat.le_refl _, Nat.zero_le _, (fun x hx => by cases hx), fun _ => rfl⟩
  · simp [Value.cells] at hcs
    obtain ⟨rfl, rfl, rfl⟩ := hcs
    have hz' : zs.length = cap0 := by simpa using hz
    have hlen : (zs.take len0).length = len0 := by rw [List.length_take]; omega
    refine ⟨some x, cap0, zs.take len0, by rw [hlen], fun j y hy => ?_, by rw [hlen]; exact hl, hm, fun y hy => hwz y (List.mem_of_mem_take hy), fun h => by cases h⟩
    rw [List.getElem?_take] at hy
    split at hy
    · rename_i hj
      have hj' : j < zs.length := by omega
      have hcj := hcell j hj'
      have hyy : zs.getD j 0 = y := by simp [List.getD, hy]
      rw [hyy] at hcj
      exact ⟨x, rfl, by have := World.block_lt_of_cell? W _ hcj; rwa [addr_block] at this, hcj⟩
    · cases hy
end Go.Proofs.YtjlfgojblimobaaGreat
end

section
namespace Go.Proofs.YtjlfgojblimobaaGreat
open Go.RowKit

theorem wpList_append_rd {P : Program} (w : World) {ops : Array Oper} {rest : List Oper} {o : Oper} {a : Act} {Q : Exit → Act → World → Prop} (hgd : o.guard = none) (s x : Operand) (t : TypeId)
    (ho : o.op = .call { callee := .builtin .append, args := #[s, x], argTypes := #[t, t] })
    (base : Nat) (e : TypeId) (i : TypeInfo) (z : Value) (bytes : Nat) (ht : P.underlying t = some (.slice e)) (hi : P.info? e = some i) (hz : i.zero = some z)
    (hsize : i.size = 1) (hby : i.bytes = bytes) (hzs : z.cells.size = 1)
    (v : Value) (n : Nat) (xs : List Value) (hs : a.eval s = v) (hown : w.ownsRow base e 1 v n xs)
    (k : IntKind) (B : Nat) (A : Option Addr) (c : Nat) (l : List Int) (hx : a.eval x = .slice A l.length c) (hr : RdS k w B A l) (hc : A = none → c = 0)
    (h63 : n + l.length ≤ maxLen) (hbytes : (n + l.length) * bytes ≤ 140737488355328) (hbase : base ≤ w.heap.size)
    (h : ∀ v' w', w'.ownsRow base e 1 v' (n + l.length) (xs ++ l.map (Value.int k)) → w.grownBy w' v.ownBlock → wpList P ops Q rest (a.put o.dst v') w') : wpList P ops Q (o :: rest) a w := by
  cases A with
  | none =>
    have hl : l = [] := by
      cases l with
      | nil => rfl
      | cons y r =>
        obtain ⟨ad, h', _⟩ := hr 0 y rfl
        cases h'
    subst hl
    obtain rfl := hc rfl
    exact wpList_append_own_none hgd s x t ho base e i 1 ht hi v n xs hs hown hx (h v w (by simpa using hown) (World.grownBy.refl w _))
  | some ad =>
    refine wpList_append_own w hgd s x t ho base e i z 1 bytes ht hi hz hsize hby hzs (by decide) v n xs hs hown ad l.length c (l.map (Value.int k)) hx (by simp) (fun j u hu => ?_) (fun u hu => ?_) h63 hbytes hbase (fun v' w' h1 h2 _ => h v' w' h1 h2)
    · rw [List.getElem?_map] at hu
      cases hy : l[j]? with
      | none => rw [hy] at hu; cases hu
      | some y =>
        rw [hy] at hu
        obtain ⟨ad', hA, _, hcell⟩ := hr j y hy
        obtain rfl : ad = ad' := by injection hA
        rw [hcell]
        exact hu
    · simp only [List.mem_map] at hu
      obtain ⟨y, _, rfl⟩ := hu
      rfl
end Go.Proofs.YtjlfgojblimobaaGreat
end
