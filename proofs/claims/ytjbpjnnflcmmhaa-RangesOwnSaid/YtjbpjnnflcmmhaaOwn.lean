/- A table is its own: what keeps it while others' memory is written. No function of the program is walked here. -/
import Derived.Test.YtjbpjnnflcmmhaaShortFix
import Derived.Test.YtjbpjnnflcmmhaaFits
import Derived.Test.YtjbpjnnflcmmhaaLive
import Derived.Test.YtjbpjnnflcmmhaaSame
import Derived.Laws.AppendOwnNone
namespace Go.Proofs.Ytjbpjnnflcmmhaa
open Go.RowKit

/-- Of the blocks from lo to hi nothing has turned. -/
structure Kept (lo hi : Nat) (w w' : World) : Prop where
  size : w.heap.size ≤ w'.heap.size
  block : ∀ b, lo ≤ b → b < hi → w'.heap[b]? = w.heap[b]?
theorem Kept.refl (lo hi : Nat) (w : World) : Kept lo hi w w := ⟨Nat.le_refl _, fun _ _ _ => rfl⟩
theorem Kept.setCell {lo hi : Nat} {w w' : World} (h : Kept lo hi w w') {a : Addr} (ha : a.block < lo ∨ hi ≤ a.block) (u : Value) : Kept lo hi w (w'.setCell a u) := by
  refine ⟨by simpa using h.size, fun b h1 h2 => ?_⟩
  rw [Below.heap_setCell _ _ _ _ (by omega)]
  exact h.block b h1 h2
theorem OwnE.heap {w w' : World} {base g cap n : Nat} {l : List M.E} (h : OwnE w base (.slice (some ⟨g, 0, none⟩) n cap) l) (hg : w'.heap[g]? = w.heap[g]?) : OwnE w' base (.slice (some ⟨g, 0, none⟩) n cap) l := by
  refine ⟨h.1, ?_⟩
  rcases h.2 with h0 | ⟨g', cap', cur, h1, h2, h3, h4⟩
  · exact .inl h0
  · injection h1 with e1 e2 e3
    injection e1 with e1
    injection e1 with e1 _ _
    subst e1
    exact .inr ⟨g, cap', cur, by rw [← e3, e2], h2, by rw [hg]; exact h3, h4⟩
theorem OwnE.keep {lo hi base : Nat} {w w' : World} {v : Value} {l : List M.E} (h : OwnE w base v l) (hk : Kept lo hi w w') (h1 : lo ≤ base) (h2 : w.heap.size ≤ hi) : OwnE w' base v l := by
  rcases h.2 with ⟨rfl, h0⟩ | ⟨g, cap, cur, rfl, hb, hg, _⟩
  · exact ⟨h.1, .inl ⟨rfl, h0⟩⟩
  · have hlt : g < w.heap.size := by
      rcases Nat.lt_or_ge g w.heap.size with hlt | hge
      · exact hlt
      · rw [Array.getElem?_eq_none hge] at hg; cases hg
    exact h.heap (hk.block g (by omega) (by omega))
/-- A table whose blocks lie in a stretch that is kept is kept. -/
theorem TableAt.keep {lo hi tb : Nat} {w0 w w' : World} {told : List M.E} {ns : List ByteArray} (h0 : TableAt w0 lo tb told ns) (hb : Below w0.heap.size w0 w) (hk : Kept lo hi w w') (hhi : w0.heap.size ≤ hi) : TableAt w' lo tb told ns := by
  obtain ⟨v, mb, c0, c1, ho, hm, h1, h2, h3⟩ := h0
  have key : ∀ b, lo ≤ b → b < w0.heap.size → w'.heap[b]? = w0.heap[b]? := fun b hlo hlt => (hk.block b hlo (by omega)).trans (hb.block b hlt)
  have hmb := hm.lt
  refine ⟨v, mb, ?_, ?_, ?_, ?_, h1, Nat.lt_of_lt_of_le h2 (Nat.le_trans hb.size hk.size), h3⟩
  · rw [← c0]; exact World.cell?_of_block (key tb h1 h2)
  · rw [← c1]; exact World.cell?_of_block (key tb h1 h2)
  · rcases ho.2 with ⟨rfl, e0⟩ | ⟨g, cap, cur, rfl, hbg, hg, _⟩
    · exact ⟨ho.1, .inl ⟨rfl, e0⟩⟩
    · have hlt : g < w0.heap.size := by
        rcases Nat.lt_or_ge g w0.heap.size with hlt | hge
        · exact hlt
        · rw [Array.getElem?_eq_none hge] at hg; cases hg
      exact ho.heap (key g hbg hlt)
  · obtain ⟨n, D, ⟨es, clock, e1, e2⟩, e3⟩ := hm
    exact ⟨n, D, ⟨es, clock, by rw [key mb h3 hmb]; exact e1, e2⟩, e3⟩

/-- The caller's own row of strings. -/
def OwnN (w : World) (base : Nat) (v : Value) (l : List ByteArray) : Prop := w.ownsRow base 9 1 v l.length (l.map Value.string)
theorem Try.infoString : (Try.prog.info? 9).map (fun i => (i.zero, i.size, i.bytes)) = some (some (.string ⟨#[]⟩), 1, 16) := by kernel_rfl
theorem OwnN.shape {w : World} {base : Nat} {v : Value} {l : List ByteArray} (h : OwnN w base v l) :
    ∃ A c, v = .slice A l.length c ∧ RdN w w.heap.size A l ∧ l.length ≤ c ∧ c ≤ maxLen := by
  rcases h.2 with ⟨rfl, h0⟩ | ⟨g, cap, cur, rfl, _, hg, hn, hm, _, _⟩
  · have : l = [] := List.eq_nil_of_length_eq_zero h0
    subst this
    exact ⟨none, 0, rfl, (fun j e hj => by simp at hj), Nat.le_refl _, Nat.zero_le _⟩
  · refine ⟨_, cap, rfl, fun j s hj => ⟨_, rfl, lt_of_block hg, ?_⟩, hn, hm⟩
    exact World.ownsRow.cells h rfl j (.string s) (by rw [List.getElem?_map, hj]; rfl)
theorem RdN.cellsAt {w : World} {B : Nat} {A : Option Addr} {l : List ByteArray} (h : RdN w B A l) {ad : Addr} (hA : A = some ad) : ∀ j u, (l.map Value.string)[j]? = some u → w.cell? (ad.add j) = some u := by
  intro j u hu
  rw [List.getElem?_map] at hu
  cases hs : l[j]? with
  | none => rw [hs] at hu; cases hu
  | some s =>
    rw [hs] at hu
    obtain ⟨ad', hA', _, c⟩ := h j s hs
    rw [hA] at hA'
    obtain rfl : ad = ad' := by injection hA'
    rw [c]
    exact hu

theorem Kept.trans {lo hi : Nat} {w w' w'' : World} (h : Kept lo hi w w') (h' : Kept lo hi w' w'') : Kept lo hi w w'' :=
  ⟨Nat.le_trans h.size h'.size, fun b h1 h2 => (h'.block b h1 h2).trans (h.block b h1 h2)⟩
theorem Kept.less {lo hi lo' hi' : Nat} {w w' : World} (h : Kept lo hi w w') (h1 : lo ≤ lo') (h2 : hi' ≤ hi) : Kept lo' hi' w w' :=
  ⟨h.size, fun b g1 g2 => h.block b (by omega) (by omega)⟩
/-- A row whose block lies in a stretch that is kept is kept. -/
theorem row_keep {lo hi base n sz : Nat} {e : TypeId} {w w' : World} {v : Value} {xs : List Value} (h : w.ownsRow base e sz v n xs) (hk : Kept lo hi w w') (h1 : lo ≤ base) (h2 : ∀ g, v.ownBlock = some g → g < hi) : w'.ownsRow base e sz v n xs := by
  refine ⟨h.1, ?_⟩
  rcases h.2 with h0 | ⟨g, cap, cur, h3, h4, h5, h6⟩
  · exact .inl h0
  · exact .inr ⟨g, cap, cur, h3, h4, by rw [hk.block g (by omega) (h2 g (by rw [h3]; rfl))]; exact h5, h6⟩
theorem row_below {base n sz : Nat} {e : TypeId} {w w1 : World} {v : Value} {xs : List Value} (h : w.ownsRow base e sz v n xs) (hb : Below w.heap.size w w1) : w1.ownsRow base e sz v n xs :=
  World.ownsRow.kept h (row := none) ⟨hb.os, hb.tape, hb.output, hb.size, fun k hk _ => hb.block k hk⟩ (by cases v.ownBlock <;> simp)

/-- One slice's cells put behind those of a row of the caller's own, whatever the slice: nil, empty or not. -/
theorem append_gen {P : Program} (w : World) {ops : Array Oper} {rest : List Oper} {o : Oper} {a : Act} {Q : Exit → Act → World → Prop} (hgd : o.guard = none) (s x : Operand) (t : TypeId)
    (ho : o.op = .call { callee := .builtin .append, args := #[s, x], argTypes := #[t, t] })
    (base : Nat) (e : TypeId) (i : TypeInfo) (z : Value) (sz bytes : Nat) (ht : P.underlying t = some (.slice e)) (hi : P.info? e = some i) (hz : i.zero = some z)
    (hsize : i.size = sz) (hby : i.bytes = bytes) (hzs : z.cells.size = sz) (hsz : 0 < sz)
    (v : Value) (n : Nat) (xs : List Value) (hs : a.eval s = v) (hown : w.ownsRow base e sz v n xs)
    (A : Option Addr) (m c : Nat) (news : List Value) (hx : a.eval x = .slice A m c) (hl : news.length = m * sz) (hnil : A = none → m = 0 ∧ c = 0) (hnews : ∀ ad, A = some ad → ∀ j u, news[j]? = some u → w.cell? (ad.add j) = some u) (h1 : ∀ u ∈ news, u.oneCell' = true)
    (h63 : n + m ≤ maxLen) (hbytes : (n + m) * bytes ≤ 140737488355328) (hbase : base ≤ w.heap.size)
    (h : ∀ v' w', w'.ownsRow base e sz v' (n + m) (xs ++ news) → w.grownBy w' v.ownBlock → wpList P ops Q rest (a.put o.dst v') w') : wpList P ops Q (o :: rest) a w := by
  cases A with
  | none =>
    obtain ⟨rfl, rfl⟩ := hnil rfl
    have hn0 : news = [] := List.eq_nil_of_length_eq_zero (by rw [hl]; simp)
    subst hn0
    exact wpList_append_own_none hgd s x t ho base e i sz ht hi v n xs hs hown hx (h v w (by simpa using hown) (World.grownBy.refl w _))
  | some ad =>
    exact wpList_append_own w hgd s x t ho base e i z sz bytes ht hi hz hsize hby hzs hsz v n xs hs hown ad m c news hx hl (hnews ad rfl) h1 h63 hbytes hbase (fun v' w' g1 g2 _ => h v' w' g1 g2)
end Go.Proofs.Ytjbpjnnflcmmhaa
