/- What the row's listed variables and its world's shape give the walks; a start that meets the conditions; arguments that are entries, opened. -/
import Derived.Test.YtjbpjnnflcmmhaaGreatDoorTie
import Derived.Test.YtjbpjnnflcmmhaaGreatDoorCards
import Derived.Test.YtjbpjnnflcmmhaaGreatDoorSame
import Derived.ProofKit
import Derived.LaidMore
import Derived.OpenShut
import Derived.Stop.Joined
import Derived.ChangeOld
import Derived.SevenTiedAt
import Derived.Lay
import Derived.Deep.Slices
import Derived.Shelf.Vars
namespace Go.Proofs.YtjbpjnnflcmmhaaGreatDoor
open Go.ChangeShapes Go.WideShapes Go.ChangeAt Go.WideMaps Go.WideElems Go.RowKit

theorem Tryz.own : ownKnob Tryz.prog.godebug = none := by kernel_rfl
theorem Tryz.laidOut : laidOutB Tryz.prog = true := by kernel_rfl
/-- The listed variables. -/
def laidL : List (String × DataW Unit) := Rows.ucdReadsRow.laid

theorem start_met (os : Os) (args : Array Value) : laidMetH Tryz.prog laidL ((World.laidAll Tryz.prog os laidL).forCall (fun _ _ => 0) ⟨#[], args, []⟩).memory := by
  rw [MakeChecks.laidMetH_plain _ _ _ (by kernel_rfl)]
  exact laidMet_laidAll _ (by kernel_rfl) (by kernel_rfl)

/-- The wrap, with the world's shape at hand. -/
theorem returns_shaped {H : Type} {enc : TypeId × Value → H} {C : Checked} {os : Os} {f : FuncId} {fn : Func} {s : ChangeSpec} {X : World → Array Value → Prop}
    (hX : ∀ (w w' : World) (args : Array Value), w.heap = w'.heap → X w args → X w' args) (own : ownKnob C.prog.godebug = none) (started : os.Started) (noInit : C.prog.inits.idxOf? f = none) (hfn : C.prog.funcs[f]? = some fn)
    (witness : ∃ (w : World) (tape : Tape) (i : Input), w.os = os ∧ (w.forCall tape i).Shaped C.prog ∧ i.vars = [] ∧ Input.okWide C.prog (w.forCall tape i) .any w.heap.size f i ∧
      ((s.pre enc C.prog fn [] false (w.forCall tape i).memory i.args ∧ X (w.forCall tape i).memory i.args) ∧ sizedMet enc C.prog fn (OpenSpec.ofChange s) false (w.forCall tape i).memory i.args) ∧ ({} : Assume).holds C.prog (lone (Frame.enter C.prog f i.args .normal) [] (w.forCall tape i)))
    (contract : ∀ (W : World) (base : Nat) (args : Array Value) (ds gs : List (DataW H)) (before : List MemPlace),
      (∀ (j : Nat) t v, fn.params[j]? = some t → args[j]? = some v → Value.okWide C.prog W .any base t v) →
      DataW.Whole enc C.prog fn.params.toList s.vars false W args.toList ds gs before → X W args → W.ShapedOpen C.prog →
      Calls C.prog f args W fun e W' => ∃ v, e = .returned v ∧ s.post enc C.prog fn false true false false W args v W') :
    ReturnsInHanded {} C os f .any (fun w args => (s.pre enc C.prog fn [] false w args ∧ X w args) ∧ sizedMet enc C.prog fn (OpenSpec.ofChange s) false w args) (s.post enc C.prog fn false true false false) := by
  refine returnsInHanded_of_calls own started noInit witness fun w tape i _ shape _ hok hpre _ => ?_
  obtain ⟨_, _, _, fn', hfn', _, _, _, _, hval⟩ := hok
  obtain rfl : fn' = fn := Option.some.inj (hfn'.symm.trans hfn)
  obtain ⟨⟨⟨ds, gs, before, hw, _⟩, hx⟩, _⟩ := hpre
  refine (contract (w.forCall tape i) w.heap.size i.args ds gs before hval (DataW.Whole.of_heap (w' := w.forCall tape i) (by rfl) hw) (hX _ _ _ (by rfl) hx) shape).mono fun e W' ⟨v, he, hp⟩ => ?_
  subst he
  exact ChangeSpec.post_blind hp

theorem max_of_shape {W : World} (h : W.ShapedOpen Tryz.prog) : MaxOk W :=
  cell_of_shapedOpen_int (g := 0) (t := 3) (zero := #[.int .i64 0]) h (of_decide_eq_true (by kernel_rfl)) (by kernel_rfl) rfl (by kernel_rfl) (by kernel_rfl) Tryz.underlying3

theorem gTab : Tryz.prog.globalNamed "math/bits.deBruijn64tab" = some 6 := by kernel_rfl
theorem tTab : (Tryz.prog.globals[6]?).map (·.type) = some 154 := by kernel_rfl
theorem tab_of_laid {W : World} (h : laidMetH Tryz.prog laidL W) : TabOk W := by
  rw [MakeChecks.laidMetH_plain _ _ _ (by kernel_rfl)] at h
  obtain ⟨ps, ⟨_, _, _, _, _, _, _, _, _, _, ⟨g0, t0, cs0, f0, p0, q0, hg0, ht0, hv0, hd0, _, _⟩, _⟩, _, _⟩ := h
  obtain rfl := Option.some.inj (gTab.symm.trans hg0)
  obtain rfl := Option.some.inj (tTab.symm.trans ht0)
  obtain ⟨xs, m1, rfl, hx1, hlen, hn3, hel⟩ := DataW.trod_array Tryz.underlying154 hd0
  have cT : Tryz.prog.cellsOf 5 = 1 := by kernel_rfl
  have cA : Tryz.prog.cellsOf 154 = 64 := by kernel_rfl
  rw [cA] at hlen
  rw [cT] at hel
  have h15 := hel 15 (by decide)
  have hxs : (xs.map (·.1))[15]? = some (.lit (.int .u8 4)) := by
    simp only [Prod.mk.injEq] at hx1
    have := hx1.1
    simp only [Rows.laid_math_bits_deBruijn64tab, DataW.agg.injEq] at this
    rw [← this]
    rfl
  rw [List.getElem?_map] at hxs
  cases hy : xs[15]? with
  | none => rw [hy] at hxs; cases hxs
  | some y =>
    rw [hy] at h15 hxs
    obtain ⟨n, hc, hyn, _⟩ := DataW.trod_int Tryz.underlying5 h15
    subst hyn
    obtain rfl : n = 4 := by simpa using hxs
    have hcell : cs0[15]? = some (.int .u8 4) := by
      have h1 : (cs0.toList.drop (15 * 1))[0]? = some (.int .u8 4) := by
        have := congrArg (fun l => l[0]?) hc
        simpa using this
      simpa using h1
    simp only [World.var?, hg0, Option.bind_some] at hv0
    unfold TabOk
    split at hv0
    · rename_i cs t fr hh
      obtain rfl : cs = cs0 := by injection hv0
      simp [World.cell?, hh, hcell]
    · cases hv0

section
variable {H : Type} {enc : TypeId × Value → H} {W : World} {base : Nat} {sp : Nat → Bool} {held : Bool}
set_option maxRecDepth 100000 in
/-- Four cells that read as an entry. -/
theorem open_entry {m : Nat} {cs : List Value} {x : DataW H × List MemPlace} (h : DataW.trod enc Tryz.prog W base sp held m 35 cs = some x) :
    ∃ e : M.E, cs = e.cells ∧ e.v.size ≤ maxLen ∧ e.x.size ≤ maxLen := by
  obtain ⟨xs, n, _, _, hlen, hxl, hf⟩ := DataW.trod_struct Tryz.underlying35 h
  have c3 : Tryz.prog.cellsOf 3 = 1 := by kernel_rfl
  have c9 : Tryz.prog.cellsOf 9 = 1 := by kernel_rfl
  have cT : Tryz.prog.cellsOf 35 = 4 := by kernel_rfl
  rw [cT] at hlen
  match cs, hlen, xs, hxl, hf with
  | [k0, k1, k2, k3], _, [x0, x1, x2, x3], _, hf =>
    have f0 : DataW.trod enc Tryz.prog W base sp held n 3 (List.take (Tryz.prog.cellsOf 3) [k0, k1, k2, k3]) = some x0 := hf 0 _ rfl
    have f1 : DataW.trod enc Tryz.prog W base sp held n 3 (List.take (Tryz.prog.cellsOf 3) [k1, k2, k3]) = some x1 := hf 1 _ rfl
    have f2 : DataW.trod enc Tryz.prog W base sp held n 9 (List.take (Tryz.prog.cellsOf 9) [k2, k3]) = some x2 := hf 2 _ rfl
    have f3 : DataW.trod enc Tryz.prog W base sp held n 9 (List.take (Tryz.prog.cellsOf 9) [k3]) = some x3 := hf 3 _ rfl
    rw [c3] at f0 f1
    rw [c9] at f2 f3
    obtain ⟨a, e0, _, _⟩ := DataW.trod_int Tryz.underlying3 f0
    obtain ⟨b, e1, _, _⟩ := DataW.trod_int Tryz.underlying3 f1
    obtain ⟨v, e2, _, z2⟩ := DataW.trod_string Tryz.underlying9 f2
    obtain ⟨y, e3, _, z3⟩ := DataW.trod_string Tryz.underlying9 f3
    simp at e0 e1 e2 e3
    exact ⟨⟨a, b, v, y⟩, by rw [e0, e1, e2, e3]; rfl, z2, z3⟩

set_option maxRecDepth 100000 in
/-- A slice of entries that came in. -/
theorem open_entries {v : Value} {d : DataW H} {p : List MemPlace} (hv : Value.okWide Tryz.prog W .any base 24 v) (h : DataW.Trod enc Tryz.prog W 0 (fun _ => true) true 24 v d p) :
    ∃ (A : Option Addr) (c : Nat) (l : List M.E), v = .slice A l.length c ∧ RdE W W.heap.size A l ∧ l.length ≤ c ∧ c ≤ maxLen ∧ Sized l := by
  obtain ⟨a0, len0, cap0, rfl⟩ := okWide_slice Tryz.underlying24 hv
  obtain ⟨fuel, hf⟩ := h
  rcases Deep.open_slice Tryz.underlying24 hf with ⟨hcs, _⟩ | ⟨a, len, cap, m, n, D, Pl, hcs, _, hl, hm, hmm, _, hi⟩
  · simp [Value.cells] at hcs
    obtain ⟨rfl, rfl, rfl⟩ := hcs
    exact ⟨none, 0, [], rfl, (fun j e hj => by simp at hj), Nat.le_refl _, Nat.zero_le _, fun e he => by cases he⟩
  · simp [Value.cells] at hcs
    obtain ⟨rfl, rfl, rfl⟩ := hcs
    have cT : Tryz.prog.cellsOf 35 = 4 := by kernel_rfl
    rw [cT] at hi
    have hm' : m = cap0 := by simpa using hmm
    have key : ∀ i, i < len0 → ∃ e : M.E, (e.v.size ≤ maxLen ∧ e.x.size ≤ maxLen) ∧ ∀ k, k < 4 → W.cell? ((a.add (i * 4)).add k) = e.cells[k]? := fun i hlt => by
      obtain ⟨cs', hc, ht'⟩ := hi i (by omega)
      obtain ⟨_, _, hat⟩ := World.cells?_some hc
      obtain ⟨e, rfl, z1, z2⟩ := open_entry ht'
      exact ⟨e, ⟨z1, z2⟩, hat⟩
    obtain ⟨F, hF⟩ : ∃ F : Nat → M.E, ∀ i, i < len0 → ((F i).v.size ≤ maxLen ∧ (F i).x.size ≤ maxLen) ∧ ∀ k, k < 4 → W.cell? ((a.add (i * 4)).add k) = (F i).cells[k]? :=
      ⟨fun i => if hlt : i < len0 then Classical.choose (key i hlt) else ⟨0, 0, ByteArray.empty, ByteArray.empty⟩, fun i hlt => by
        simp only [dif_pos hlt]
        exact Classical.choose_spec (key i hlt)⟩
    refine ⟨some a, cap0, (List.range len0).map F, by simp, fun j e hj => ?_, by simpa using hl, hm, fun e he => ?_⟩
    · have hlt : j < len0 := by have := (List.getElem?_eq_some_iff.1 hj).1; simpa using this
      rw [List.getElem?_map, List.getElem?_range hlt] at hj
      obtain rfl : F j = e := by simpa using hj
      obtain ⟨_, hk⟩ := hF j hlt
      have k0 := hk 0 (by omega)
      have k1 := hk 1 (by omega)
      have k2 := hk 2 (by omega)
      have k3 := hk 3 (by omega)
      rw [show (a.add (j * 4)).add 0 = a.add (j * 4) by simp [Addr.add]] at k0
      rw [addr_add_pos _ _ (by omega)] at k1 k2 k3
      exact ⟨a, rfl, by have := World.block_lt_of_cell? W _ (k0.trans (by rfl : _ = some (Value.int .i64 (F j).a))); rwa [addr_block] at this, k0, k1, k2, k3⟩
    · rw [List.mem_map] at he
      obtain ⟨i, hi', rfl⟩ := he
      exact (hF i (List.mem_range.1 hi')).1
end
end Go.Proofs.YtjbpjnnflcmmhaaGreatDoor
