/- The levels of a paragraph and of its lines, as plain functions on lists of whole numbers. No program is read here. -/
/- A line's levels, and what the statements say of paragraphs and lines, as plain functions. No program is read here. -/
/- An argument that came in: an array of three whole numbers, opened. No function of the program is walked here. -/
/- Paragraphs of classes that nest nothing, as plain functions: one sequence holds them all. No program is read here. -/
/- What Base, Paragraph and Line hand back; and what tells a row of levels that are none yet from what holds other values. No function of the program is walked here. -/
/- A range over a function whose iterator may turn whatever it makes by itself, and nothing that lay there at its call: the iterator's contract, and the statement's walk out of it and of the walk of its body, which ends as it should; such ranges may stand within one another. Beside it, what is kept but for some blocks; and slices.Backward's contract at classes, where a round keeps all but some blocks. Conditions: the slice reads as a list of at most 2^44, below all that may turn. -/
/- A row of places that have the base, from behind; and a line's levels in three goes. No program is read here. -/
/- The contracts of package resolve's removed, parts, trails, at and Base. Conditions: the slices read as lists, at most a thousand long. -/
import Derived.Test.YtjlfgojblimobaaGreatA18
import Derived.Test.YtjlfgojblimobaaGreatA12
import Derived.Test.YtjlfgojblimobaaGreatA19
import Derived.Test.YtjlfgojblimobaaGreatA22
import Derived.Test.YtjlfgojblimobaaGreatA30
import Derived.Test.YtjlfgojblimobaaGreatA00
import Derived.Deep.Slices
import Derived.OpenShut
import Derived.SizedLaws
import Derived.Test.YtjlfgojblimobaaGreatA25
import Derived.Test.YtjlfgojblimobaaGreatA31
import Derived.Test.YtjlfgojblimobaaGreatA02
section
namespace Go.Proofs.YtjlfgojblimobaaGreat.M

def clsOf (l : List Int) (b : Int) : List Int := (run b (fresh b) l).map Prod.snd
def cameOf (cs : List Int) (s : Sq) : List Int := s.pl.map fun p => cs.getD p.toNat 0
def marksOf (ms : List (Int × Int)) (s : Sq) : List (Int × Int) := s.pl.map fun p => ms.getD p.toNat (0, 0)
def seqN (cs : List Int) (ms : List (Int × Int)) (s : Sq) : List Int :=
  S12.M.raise s.lv (S12.M.settle s.lv s.fi s.la (S11.M.res (cameOf cs s) (S10.M.wall s.fi (cameOf cs s)) (marksOf ms s) s.lv s.fi))
def put : List Int → List Int → List Int → List Int
  | out, p :: pl, x :: n => put (out.set p.toNat x) pl n
  | out, _, _ => out
def paraTo (cs : List Int) (ms : List (Int × Int)) (ss : List Sq) (out : List Int) : List Int := ss.foldl (fun o s => put o s.pl (seqN cs ms s)) out
def para (l : List Int) (ms : List (Int × Int)) (b : Int) : List Int := paraTo (clsOf l b) ms (seqs l (levs l b) b) (List.replicate l.length (-1))
section
variable {cs out pl n : List Int} {ms : List (Int × Int)} {ss : List Sq} {s : Sq} {j k : Nat} {x b : Int} {l : List Int}
theorem cameOf_len : (cameOf cs s).length = s.pl.length := List.length_map _
theorem marksOf_len : (marksOf ms s).length = s.pl.length := List.length_map _
theorem seqN_len : (seqN cs ms s).length = s.pl.length := by unfold seqN; rw [S12.M.raise_len, S12.M.settle_len, S11.M.res_len, S10.M.wall_len, cameOf_len]
theorem put_len : (put out pl n).length = out.length := by
  induction pl generalizing out n with
  | nil => cases n <;> rfl
  | cons p pl ih =>
    cases n with
    | nil => rfl
    | cons x n =>
      show (put (out.set p.toNat x) pl n).length = _
      rw [ih, List.length_set]
theorem paraTo_len : (paraTo cs ms ss out).length = out.length := by
  unfold paraTo
  induction ss generalizing out with
  | nil => rfl
  | cons s ss ih => rw [List.foldl_cons, ih, put_len]
theorem para_len : (para l ms b).length = l.length := by unfold para; rw [paraTo_len, List.length_replicate]
theorem seqs_ok (hb : b = 0 ∨ b = 1) (hs : s ∈ seqs l (levs l b) b) : SqOk l (levs l b) s := by
  obtain ⟨k, hk⟩ := List.mem_iff_getElem?.1 hs
  exact (seqs_inv l (b := b) (by omega)).ok k s hk
end
end Go.Proofs.YtjlfgojblimobaaGreat.M
end

section
namespace Go.Proofs.YtjlfgojblimobaaGreat.M

def loose (c : Int) : Bool := begins c || (removed c || (decide (c = 12) || decide (c = 22)))
def bk : List Int → Bool
  | [] => true
  | c :: r => if c = 11 ∨ c = 10 then true else if loose c = false then false else bk r
def ln (base : Int) : Int → List Int → List Int → List Int
  | last, c :: r, x :: s => (if bk (c :: r) = true then base else if removed c = true then last else x) :: ln base (if bk (c :: r) = true then base else if removed c = true then last else x) r s
  | _, _, _ => []
def lineOk (l lv : List Int) (f t b : Int) : Prop := l.length = lv.length ∧ 0 ≤ f ∧ f ≤ t ∧ t ≤ l.length ∧ 0 ≤ b ∧ b ≤ 1
instance (l lv : List Int) (f t b : Int) : Decidable (lineOk l lv f t b) := by unfold lineOk; infer_instance
def line (l lv : List Int) (f t b : Int) : List Int := ln b b ((l.take t.toNat).drop f.toNat) ((lv.take t.toNat).drop f.toNat)
section
variable {base last b x y c : Int} {l lv : List Int} {i j n : Nat}
theorem ln_len (h : l.length = lv.length) : (ln base last l lv).length = l.length := by
  induction l generalizing last lv with
  | nil => cases lv <;> rfl
  | cons c r ih =>
    cases lv with
    | nil => simp at h
    | cons x s =>
      show (ln base _ r s).length + 1 = r.length + 1
      rw [ih (by simpa using h)]
theorem ln_at (h : l.length = lv.length) (hc : l[i]? = some c) (hx : lv[i]? = some x) : ∃ last', (i = 0 → last' = last) ∧ (0 < i → (ln base last l lv)[i - 1]? = some last') ∧ (ln base last l lv)[i]? = some (if bk (l.drop i) = true then base else if removed c = true then last' else x) := by
  induction l generalizing last lv i with
  | nil => simp at hc
  | cons d r ih =>
    cases lv with
    | nil => simp at h
    | cons e s =>
      cases i with
      | zero =>
        rw [List.getElem?_cons_zero] at hc hx
        injection hc with hc
        injection hx with hx
        subst hc hx
        exact ⟨last, fun _ => rfl, fun h => by omega, rfl⟩
      | succ i =>
        rw [List.getElem?_cons_succ] at hc hx
        obtain ⟨last', h1, h2, h3⟩ := ih (last := if bk (d :: r) = true then base else if removed d = true then last else e) (lv := s) (by simpa using h) hc hx
        refine ⟨last', fun h => by omega, fun _ => ?_, h3⟩
        cases i with
        | zero => rw [h1 rfl]; rfl
        | succ i => exact h2 (by omega)
end
end Go.Proofs.YtjlfgojblimobaaGreat.M
end

section
namespace Go.Proofs.YtjlfgojblimobaaGreat
open Go.ChangeShapes Go.WideShapes Go.ChangeAt Go.WideMaps Go.WideElems Go.RowKit

set_option maxRecDepth 100000
section
variable {H : Type} {enc : TypeId × Value → H} {W : World} {base : Nat}
end
end Go.Proofs.YtjlfgojblimobaaGreat
end

section
namespace Go.Proofs.YtjlfgojblimobaaGreat.M

def flat (c : Int) : Prop := (0 ≤ c ∧ c ≤ 22) ∧ removed c = false ∧ begins c = false ∧ c ≠ 10 ∧ c ≠ 22
def ints (k : Nat) : Nat → List Int
  | 0 => []
  | m + 1 => (k : Int) :: ints (k + 1) m
section
variable {b x : Int} {l out vals cs : List Int} {ms : List (Int × Int)} {i k m n : Nat}
theorem ints_len : (ints k m).length = m := by
  induction m generalizing k with
  | zero => rfl
  | succ m ih => simp [ints, ih]
theorem run_flat (h : ∀ c ∈ l, flat c) : run b (fresh b) l = l.map fun c => (b, c) := by
  induction l with
  | nil => rfl
  | cons c r ih =>
    obtain ⟨⟨h1, h2⟩, h3, h4, h5, h6⟩ := h c (by simp)
    have hk : known c = c := by unfold known; rw [if_neg (by omega)]
    have hr : removed c ≠ true := by rw [h3]; simp
    have hb : begins c ≠ true := by rw [h4]; simp
    have ht : (fresh b).turn b (dir c r) c = fresh b := by
      unfold Mc.turn
      rw [if_neg hr, if_neg h5, if_neg h6, if_neg hb]
    have ha : (fresh b).at_ c = fresh b := by unfold Mc.at_; rw [if_neg h6]
    have hl : (fresh b).lev b c = b := by
      unfold Mc.lev
      rw [if_neg hr, if_neg h5, ha]
      rfl
    have hc : (fresh b).cls c = c := by
      unfold Mc.cls
      rw [if_neg hr, if_neg h5, ha]
      rfl
    show ((fresh b).lev b (known c), (fresh b).cls (known c)) :: run b ((fresh b).turn b (dir (known c) r) (known c)) r = _
    rw [hk, ht, hl, hc, ih fun d hd => h d (by simp [hd])]
    rfl
theorem levs_flat (h : ∀ c ∈ l, flat c) : levs l b = List.replicate l.length b := by
  unfold levs
  rw [run_flat h, List.map_map]
  clear h
  induction l with
  | nil => rfl
  | cons c r ih => rw [List.map_cons, ih]; rfl
theorem clsOf_flat (h : ∀ c ∈ l, flat c) : clsOf l b = l := by
  unfold clsOf
  rw [run_flat h, List.map_map]
  clear h
  induction l with
  | nil => rfl
  | cons c r ih => rw [List.map_cons, ih]; rfl
theorem cutR_flat (hb : b ≠ -1) {pl : List Int} {ah be : Int} (hp : pl ≠ []) : cutR b k ⟨pl, b, ah, be⟩ (List.replicate m b) = [⟨pl ++ ints k m, b, ah, b⟩] := by
  induction m generalizing k pl with
  | zero =>
    show (if pl = [] then [] else [({ pl := pl, lv := b, ah := ah, be := b } : Rn)]) = _
    rw [if_neg hp, ints, List.append_nil]
  | succ m ih =>
    rw [List.replicate_succ]
    show (if b = -1 then _ else if pl ≠ [] ∧ b ≠ b then _ else cutR b (k + 1) ⟨pl ++ [(k : Int)], b, ah, be⟩ (List.replicate m b)) = _
    rw [if_neg hb, if_neg (by simp), ih (by simp), List.append_assoc]
    rfl
theorem runs_flat (hb : b ≠ -1) : runs (List.replicate (n + 1) b) b = [⟨ints 0 (n + 1), b, b, b⟩] := by
  unfold runs
  rw [List.replicate_succ]
  show (if b = -1 then _ else if ([] : List Int) ≠ [] ∧ b ≠ 0 then _ else cutR b 1 ⟨[] ++ [((0 : Nat) : Int)], b, b, 0⟩ (List.replicate n b)) = _
  rw [if_neg hb, if_neg (by simp), cutR_flat hb (by simp)]
  rfl
theorem seqs_flat (hb : b = 0 ∨ b = 1) (h : ∀ c ∈ l, flat c) (hn : l.length = n + 1) : seqs l (levs l b) b = [⟨ints 0 (n + 1), b, b, b⟩] := by
  have hr : runs (levs l b) b = [⟨ints 0 (n + 1), b, b, b⟩] := by rw [levs_flat h, hn, runs_flat (by omega)]
  have hsd : sd b b = b := by rcases hb with rfl | rfl <;> rfl
  unfold seqs
  rw [hr]
  show sqs l b [⟨ints 0 (n + 1), b, b, b⟩] (0 + 1) = _
  have hbh : bh l b ⟨ints 0 (n + 1), b, b, b⟩ = b := by unfold bh; split <;> rfl
  rw [(sqs_no (l := l) (b := b) (rs := [⟨ints 0 (n + 1), b, b, b⟩]) (t := 0) rfl).2]
  show [] ++ [(⟨[] ++ ints 0 (n + 1), b, sd b b, sd b (bh l b ⟨ints 0 (n + 1), b, b, b⟩)⟩ : Sq)] = _
  rw [hbh, hsd]
  rfl
theorem put_ints (hv : vals.length = m) (ho : out.length = k + m) : put out (ints k m) vals = out.take k ++ vals := by
  induction m generalizing k out vals with
  | zero =>
    obtain rfl : vals = [] := List.eq_nil_of_length_eq_zero hv
    rw [List.append_nil, List.take_of_length_le (by omega)]
    rfl
  | succ m ih =>
    cases vals with
    | nil => simp at hv
    | cons x v =>
      show put (out.set ((k : Int)).toNat x) (ints (k + 1) m) v = _
      rw [Int.toNat_natCast, ih (by simpa using hv) (by rw [List.length_set]; omega), List.take_succ_eq_append_getElem (by rw [List.length_set]; omega), List.getElem_set_self, List.take_set_of_le (Nat.le_refl k), List.append_assoc]
      rfl
theorem cameOf_flat (hl : cs.length = k + m) {lv fi la : Int} : cameOf cs ⟨ints k m, lv, fi, la⟩ = cs.drop k := by
  show (ints k m).map (fun p => cs.getD p.toNat 0) = _
  induction m generalizing k with
  | zero => rw [List.drop_of_length_le (by omega)]; rfl
  | succ m ih =>
    rw [List.drop_eq_getElem_cons (by omega)]
    show cs.getD ((k : Int)).toNat 0 :: (ints (k + 1) m).map (fun p => cs.getD p.toNat 0) = _
    rw [ih (by omega), Int.toNat_natCast, List.getD_eq_getElem?_getD, List.getElem?_eq_getElem (by omega)]
    rfl
theorem marksOf_none {s : Sq} : marksOf [] s = List.replicate s.pl.length (0, 0) := by
  unfold marksOf
  generalize s.pl = pl
  induction pl with
  | nil => rfl
  | cons p r ih => rw [List.map_cons, ih]; rfl
theorem para_flat (hb : b = 0 ∨ b = 1) (h : ∀ c ∈ l, flat c) (hn : l.length = n + 1) : para l [] b = S12.M.raise b (S12.M.settle b b b (S11.M.res l (S10.M.wall b l) (List.replicate l.length (0, 0)) b b)) := by
  unfold para
  rw [seqs_flat hb h hn, clsOf_flat h]
  unfold paraTo
  rw [List.foldl_cons, List.foldl_nil]
  dsimp only
  rw [put_ints (by rw [seqN_len, ints_len]) (by rw [List.length_replicate, hn, Nat.zero_add]), List.take_zero, List.nil_append]
  unfold seqN
  rw [cameOf_flat (by rw [hn, Nat.zero_add]), List.drop_zero, marksOf_none, ints_len, hn]
end
end Go.Proofs.YtjlfgojblimobaaGreat.M
end

section
namespace Go.Proofs.YtjlfgojblimobaaGreat
open Go.RowKit
set_option maxRecDepth 100000

def M.baseI (l : List Int) (b : Int) : Int := if b < 0 then M.strong l else b
theorem Tryz.infoInt13 : (Tryz.prog.info? 3).map (fun i => (i.zero, i.size, i.bytes)) = some (some (.int .i64 0), 1, 8) := by kernel_rfl
theorem Tryz.infoCls13 : (Tryz.prog.info? 39).map (fun i => (i.zero, i.size, i.bytes)) = some (some (.int .i64 0), 1, 8) := by kernel_rfl
def LevsOut (ok : Prop) (t : List Int) (w : World) (r : Ending) (w' : World) : Prop :=
  Below w.heap.size w w' ∧
  (ok → ∃ A c, r = .returned (.tuple #[.slice A t.length c, .int .i64 0]) ∧ RdS .i64 w' w'.heap.size A t ∧ t.length ≤ c) ∧
  (¬ ok → r = .returned (.tuple #[.slice none 0 0, .int .i64 81]))
theorem apart_neg {w : World} {G n base : Nat} {t : TypeId} {ad : Addr} {v : Value} (h : w.ownsRow base t 1 (.slice (some ⟨G, 0, none⟩) n n) n ((List.replicate n (-1)).map (Value.int .i64))) (hv : w.cell? ad = some v) (hne : v ≠ .int .i64 (-1)) : ad.block ≠ G := by
  intro e
  rcases h.2 with ⟨h1, _⟩ | ⟨g, cap, cur, h1, _, hg, _, _, hs, ht⟩
  · cases h1
  · injection h1 with e1 _ e3
    injection e1 with e1
    injection e1 with e1
    subst e1 e3
    unfold World.cell? at hv
    rw [e, hg] at hv
    dsimp only at hv
    split at hv
    · cases hv
    · rw [Nat.mul_one] at hs ht
      rw [List.take_of_length_le (by rw [Array.length_toList, hs]; exact Nat.le_refl _)] at ht
      have hm : v ∈ cur.toList := by
        obtain ⟨hl, e2⟩ := Array.getElem?_eq_some_iff.1 hv
        rw [← e2]
        exact Array.getElem_mem_toList hl
      rw [ht] at hm
      obtain ⟨x, hx, e3⟩ := List.mem_map.1 hm
      rw [← e3, (List.mem_replicate.1 hx).2] at hne
      exact hne rfl
theorem rep_next (a b : Int) {i n : Nat} (h : i < n) : (List.replicate i a ++ List.replicate (n - i) b).set i a = List.replicate (i + 1) a ++ List.replicate (n - (i + 1)) b := by
  rw [List.set_append_right _ _ (by rw [List.length_replicate]; exact Nat.le_refl _), List.length_replicate, Nat.sub_self, show n - i = (n - (i + 1)) + 1 by omega, List.replicate_succ, List.set_cons_zero, List.replicate_succ', List.append_assoc]
  rfl
end Go.Proofs.YtjlfgojblimobaaGreat
end

section
namespace Go.Proofs.YtjlfgojblimobaaGreat
open Go.RowKit Go.Shelf
attribute [local go_sem] Oper.semAt_some
section
variable {n : Nat} {P : Program}

theorem below_put {B l : Nat} (W : World) (o' : Obj) (hB : B ≤ l) : Below B W (W.putObj l o') :=
  ⟨rfl, rfl, rfl, by simp, fun k hk => World.putObj_heap_other (by omega)⟩
structure KpX (ex : Nat → Prop) (A B : World) : Prop where
  os : B.os = A.os
  tape : B.tape = A.tape
  output : B.output = A.output
  size : A.heap.size ≤ B.heap.size
  block : ∀ k, k < A.heap.size → ¬ ex k → B.heap[k]? = A.heap[k]?
theorem KpX.refl (ex : Nat → Prop) (A : World) : KpX ex A A := ⟨rfl, rfl, rfl, Nat.le_refl _, fun _ _ _ => rfl⟩
theorem KpX.trans {ex : Nat → Prop} {A B C : World} (h : KpX ex A B) (k : KpX ex B C) : KpX ex A C :=
  ⟨k.os.trans h.os, k.tape.trans h.tape, k.output.trans h.output, Nat.le_trans h.size k.size, fun b hb hg => (k.block b (Nat.lt_of_lt_of_le hb h.size) hg).trans (h.block b hb hg)⟩
theorem KpX.wider {ex ex' : Nat → Prop} {A B : World} (h : KpX ex A B) (hw : ∀ k, ex k → ex' k) : KpX ex' A B := ⟨h.os, h.tape, h.output, h.size, fun k hk hx => h.block k hk fun e => hx (hw k e)⟩
theorem KpX.put {ex : Nat → Prop} (W : World) {l : Nat} (o' : Obj) (hl : ex l) : KpX ex W (W.putObj l o') := ⟨rfl, rfl, rfl, by simp, fun k _ hx => World.putObj_heap_other (fun e => hx (e ▸ hl))⟩
theorem KpX.of_below {ex : Nat → Prop} {A B : World} (h : Below A.heap.size A B) : KpX ex A B := ⟨h.os, h.tape, h.output, h.size, fun k hk _ => h.block k hk⟩
theorem KpX.of_turned {ex : Nat → Prop} {A B : World} {G : Nat} (h : S12.Turned A B G) (hG : ex G) : KpX ex A B := ⟨h.os, h.tape, h.output, Nat.le_of_eq h.size.symm, fun k _ hx => h.block k fun e => hx (e ▸ hG)⟩
theorem KpX.below {ex : Nat → Prop} {A B : World} {m : Nat} (h : KpX ex A B) (hm : m ≤ A.heap.size) (he : ∀ k, ex k → m ≤ k) : Below m A B :=
  ⟨h.os, h.tape, h.output, h.size, fun k hk => h.block k (by omega) fun e => by have := he k e; omega⟩
theorem KpX.cell {ex : Nat → Prop} {A B : World} (h : KpX ex A B) {p : Addr} (hp : p.block < A.heap.size) (hx : ¬ ex p.block) : B.cell? p = A.cell? p := World.cell?_of_block (h.block _ hp hx)

def GivesB {α : Type} (n : Nat) (P : Program) (gf : Nat) (lb : Array Value) (encs : α → Array Value) (Kp : World → World → Prop) (S Ok : List α → Prop) (N : Nat) (w : World) : Prop :=
  ∀ (l : Nat) (J : List α → World → Prop) (W : World), Below w.heap.size w W → w.heap.size + 2 ≤ W.heap.size →
    (∀ s A B, J s A → Below W.heap.size A B → J s B) →
    (∀ pre x A, J pre A → pre.length < N → Ok (pre ++ [x]) → YieldAt Fence.wide (n - 1) P l (encs x) A fun e B =>
      e = .returned (.bool true) ∧ J (pre ++ [x]) B ∧ Kp A B) →
    J [] W →
    CallsIn Fence.wide n P gf (#[.func (.yield l) #[] #[]] ++ lb) W fun e B => (∃ v, e = .returned v) ∧ ∃ xs, S xs ∧ J xs B

theorem range_below {α : Type} {g : Operand} {ps : Array Tmp} {assign body : Code} {Q : Exit → Act → World → Prop} {a : Act} {w : World} (h1 : 1 ≤ n)
    {gf : Nat} {lb : Array Value} (hg : a.eval g = .func (.func gf) #[] lb) (eg : ∀ args w, (callFunc gf args).run P w = .ok (.enter gf args) w)
    {encs : α → Array Value} {Kp : World → World → Prop} {S Ok : List α → Prop} {N : Nat} (hseq : GivesB (n - 1) P gf lb encs Kp S Ok N w)
    (hKt : ∀ {A B C : World}, Kp A B → Kp B C → Kp A C) (hKb : ∀ (W : World) (o' : Obj), Kp W (W.putObj (w.heap.size + 1) o')) (hps : ∀ x, (encs x).size = ps.size)
    (I : List α → World → Prop) (hI : ∀ s A B, I s A → Below w.heap.size A B → I s B) (h0 : I [] w) (a₁ : α → Act)
    (hassign : ∀ (l : Nat) (x : α) (W : World) (K : Act → World → Prop), K (a₁ x) W →
      assign.wpIn (Fence.wide.inRound l) (n - 1 - 1) P (Exit.then K (fun _ _ _ => False)) { tmps := (ps.zip (encs x)).foldl (fun t (p, v) => t.setIfInBounds p v) a.tmps, defers := [] } W)
    (hbody : ∀ (l : Nat) (pre : List α) (x : α) (W : World), I pre W → pre.length < N → Ok (pre ++ [x]) → body.wpIn (Fence.wide.inRound l) (n - 1 - 1) P (ownPostG w.heap.size Kp I (fun _ _ _ => False) (pre ++ [x]) W) (a₁ x) W)
    (hdone : ∀ (D : Nat) (xs : List α) (W : World), w.heap.size ≤ D → S xs → I xs W → W.heap[D]? = some (.deferred (some [])) → Q .normal { a with defers := { target := .collected D, args := #[] } :: a.defers } W) :
    (Code.rangeFunc g ps assign body).wpIn Fence.wide n P Q a w := by
  refine wpIn_rangeFunc fun fn hfn => ?_
  -- the loop's record lies at L, the block for what its rounds defer at w.heap.size
  obtain ⟨rec, hrec⟩ : ∃ rec : LoopState → Option Code → Loop, rec = fun st pe => { state := st, pending := pe, fn, tmps := a.tmps, params := ps, assign, body, defers := w.heap.size } := ⟨_, rfl⟩
  obtain ⟨L, hL⟩ : ∃ L, L = w.heap.size + 1 := ⟨_, rfl⟩
  obtain ⟨W1, hW1⟩ : ∃ W1, W1 = (w.alloc (.deferred (some []))).alloc (.loop (rec .ready none)) := ⟨_, rfl⟩
  have enters : (Instr.enterLoop fn a.tmps ps assign body none).run P w = .ok (L, [{ target := .collected w.heap.size, args := #[] }]) W1 := by
    rw [hW1, hrec, hL]; exact run_enterLoop_outer _ _ _ _ _
  have recAt : W1.heap[L]? = some (.loop (rec .ready none)) := by
    rw [hW1, hL, show w.heap.size + 1 = (w.alloc (.deferred (some []))).heap.size by simp]; exact World.alloc_heap_new _ _
  have defAt : W1.heap[w.heap.size]? = some (.deferred (some [])) := by
    rw [hW1]; exact (Below.heap_alloc _ _ _ (by simp)).trans (World.alloc_heap_new w _)
  have size1 : W1.heap.size = w.heap.size + 2 := by rw [hW1]; simp
  have below1 : Below w.heap.size w W1 := by rw [hW1]; exact ((Below.refl _ w).alloc (Nat.le_refl _) _).alloc (by simp) _
  have res : (resolve a.eval (rangeCall g L) 0).run P W1 = .ok { target := .fn (.func gf) lb, args := #[.func (.yield L) #[] #[]] } W1 := by
    simp only [resolve, hg]; simp [go_sem]
  have inv : (invoke (.fn (.func gf) lb) #[.func (.yield L) #[] #[]]).run P W1 = .ok (.enter gf (#[.func (.yield L) #[] #[]] ++ lb)) W1 := by
    simp [invoke, go_sem, eg]
  refine ⟨L, _, W1, _, W1, gf, _, W1, enters, res, fun _ _ => trivial, inv, fun _ => h1, ?_⟩
  -- what the iterator is handed: the caller's invariant, and the two blocks of the loop's own
  have go := hseq L (fun s W => I s W ∧ W.heap[L]? = some (.loop (rec .ready none)) ∧ W.heap[w.heap.size]? = some (.deferred (some []))) W1 below1 (by omega)
    (fun s A B h m => ⟨hI s A B h.1 (m.mono (by omega)), (m.block _ (by omega)).trans h.2.1, (m.block _ (by omega)).trans h.2.2⟩)
  refine (go ?_ ⟨hI _ _ _ h0 below1, recAt, defAt⟩).mono ?_
  · rintro pre x W ⟨hi, hl, hd⟩ hlen hok
    have hlt := (Array.getElem?_eq_some_iff.1 hl).1
    have yields := run_yield (P := P) (args := encs x) hl (by rw [hrec]; exact hps x)
    rw [hrec] at yields
    refine ⟨fn, _, assign, body, yields, roundIn_of_wpIn hfn (hassign _ x W _ ⟨_, run_beginRound hl (by rw [hrec]), ?_⟩)⟩
    obtain ⟨W2, hW2⟩ : ∃ W2, W2 = W.putObj L (.loop { rec .ready none with state := .busy }) := ⟨_, rfl⟩
    have rec2 : W2.heap[L]? = some (.loop { rec .ready none with state := .busy }) := by rw [hW2]; exact World.putObj_heap_same hlt
    have def2 : W2.heap[w.heap.size]? = some (.deferred (some [])) := by rw [hW2]; exact (World.putObj_heap_other (by omega)).trans hd
    have inv2 : I pre W2 := by rw [hW2]; exact hI _ _ _ hi (below_put _ _ (by omega))
    have kp2 : Kp W W2 := by rw [hW2, hL]; exact hKb _ _
    -- a round's end: its record is ready again, or done
    have ending : ∀ (jump : Option Code) (W3 : World), KeepsFrom w.heap.size W2 W3 → ∃ W4,
        (Instr.endRound L jump).run P W3 = .ok (.bool jump.isNone) W4 ∧ W4.heap[L]? = some (.loop (rec (if jump.isNone then .ready else .done) jump)) ∧ W4.heap[w.heap.size]? = some (.deferred (some [])) ∧ Below w.heap.size W3 W4 ∧ Kp W3 W4 := fun jump W3 k3 => by
      have rec3 := k3.same L _ (by omega) rec2 rfl
      have run := run_endRound (P := P) jump rec3
      refine ⟨_, run, ?_, (World.putObj_heap_other (by omega)).trans (k3.same _ _ (Nat.le_refl _) def2 rfl), below_put _ _ (by omega), by rw [hL]; exact hKb _ _⟩
      rw [World.putObj_heap_same (Array.getElem?_eq_some_iff.1 rec3).1, hrec]
    rw [← hW2]
    refine wpIn_mono (hbody L pre x W2 inv2 hlen hok) ?_
    rintro e a3 W3 hp
    match e, hp with
    | .normal, ⟨k3, kp3, i3⟩ =>
      obtain ⟨W4, run, r4, d4, s4, kp4⟩ := ending none W3 k3
      exact ⟨_, W4, run, rfl, ⟨hI _ _ _ i3 s4, r4, d4⟩, hKt (hKt kp2 kp3) kp4⟩
    | .ret, ⟨_, i3⟩ => exact i3.elim
    | .exit id, ⟨_, i3⟩ => exact i3.elim
    | .goto t, ⟨_, i3⟩ => exact i3.elim
  · rintro e W2 ⟨⟨v, rfl⟩, xs, hS, hi, hl, hd⟩
    have hend : (Instr.endLoop L).run P W2 = .ok none (W2.putObj L (.loop (rec .exhausted none))) := by
      have := run_endLoop (P := P) hl (by rw [hrec]; simp)
      rw [hrec] at this ⊢
      exact this
    exact ⟨none, _, hend, hdone _ xs _ (Nat.le_refl _) hS (hI _ _ _ hi (below_put _ _ (by omega))) ((World.putObj_heap_other (by omega)).trans hd)⟩
end


set_option maxRecDepth 100000 in
set_option maxHeartbeats 4000000 in
theorem cback1_x (n l b n₀ : Nat) (ex : Nat → Prop) (A : Option Addr) (ca N : Nat) (js : List Int) (J : List (Nat × Int) → World → Prop) (hn : 1 ≤ n) (W : World)
    (hY : ∀ pre x X, J pre X → pre.length < N → (∃ k, k < N ∧ (pre ++ [x]) ++ S11.M.bks js k = S11.M.bks js N) → YieldAt Fence.wide (n - 1) Tryz.prog l #[.int .i64 (x : Nat × Int).1, .int .i64 x.2] X fun e Y =>
      e = .returned (.bool true) ∧ J (pre ++ [x]) Y ∧ KpX ex X Y)
    (hb : W.cell? ⟨b, 0, none⟩ = some (.slice A N ca)) (hbl : b < W.heap.size) (hbx : ¬ ex b) (hex : ∀ k, ex k → n₀ ≤ k) (hr : RdS .i64 W n₀ A js) (hN : js.length = N) (hl : N ≤ 17592186044416) (hn₀ : n₀ ≤ W.heap.size) (h0 : J [] W) :
    CallsIn Fence.wide n Tryz.prog 102 #[.func (.yield l) #[] #[], .pointer (some ⟨b, 0, none⟩)] W fun e W' => (∃ v, e = .returned v) ∧
      ∃ xs, xs = S11.M.bks js N ∧ J xs W' := by
  have HY := Lib.hid hY
  have HR := Lib.hid hr
  have HB := Lib.hid hb
  have HBL := Lib.hid (And.intro hbl (And.intro hbx hex))
  have HN := Lib.hid hN
  have H0 := Lib.hid h0
  have HN0 := Lib.hid hn₀
  have hl1 : (N : Int) ≤ 17592186044416 := by omega
  have hn0 : (0 : Int) ≤ N := by omega
  clear hY hr hb hN h0 hbl hbx hex hn₀ hl
  refine callsIn_of_wp Tryz.func102 rfl trivial ?_ rfl
  simp only [Tryz.ntmps102, List.size_toArray, List.length_cons, List.length_nil, Nat.reduceAdd, Nat.reduceSub, Array.replicate_succ, Array.replicate_zero, List.push_toArray, List.append_toArray, List.nil_append, List.cons_append]
  have hb0 := HB.out
  gi_wp2_with fail
  clear hb0
  gi_loopw [3] (fun ix wr => ∃ (k : Nat) (pre : List (Nat × Int)), ix = .int .i64 ((k : Int) - 1) ∧ k ≤ N ∧ pre ++ S11.M.bks js k = S11.M.bks js N ∧ J pre wr ∧ KpX ex W wr) (fun ix _ => (intOf ix + 1).toNat)
  case atStart => exact ⟨N, [], rfl, Nat.le_refl _, rfl, H0.out, KpX.refl _ _⟩
  case round =>
    obtain ⟨k, pre, rfl, hk, hpre, hj, hbel⟩ := hrel
    have HP := Lib.hid hpre
    have HJP := Lib.hid hj
    have HW := Lib.hid hbel
    have hcb := (hbel.cell (p := ⟨b, 0, none⟩) HBL.out.1 HBL.out.2.1).trans HB.out
    clear hpre hj
    cases k with
    | zero =>
      have z0 : ¬ (0 : Int) ≤ ((0 : Nat) : Int) - 1 := by omega
      clear hbel hcb
      gi_wp2_with fail
      go_end0
      have e := HP.out
      rw [show S11.M.bks js 0 = [] from rfl, List.append_nil] at e
      rw [← e]
      exact ⟨⟨_, rfl⟩, HJP.out⟩
    | succ k =>
      obtain ⟨ad, x, rfl, hcx, hx, -⟩ := rd_at HR.out (hbel.below HN0.out HBL.out.2.2) (by rw [HN.out]; omega : k < js.length)
      have k0 : ((k + 1 : Nat) : Int) - 1 = k := by omega
      have k1 : (0 : Int) ≤ k := by omega
      have k2 : (k : Int) < N := by omega
      have hlen : pre.length < N := by
        have := congrArg List.length HP.out
        rw [List.length_append, S11.M.bks_len, S11.M.bks_len] at this
        omega
      have hbk : (pre ++ [(k, x)]) ++ S11.M.bks js k = S11.M.bks js N := by
        rw [List.append_assoc, ← HP.out]
        congr 1
        show _ = (k, js.getD k 0) :: S11.M.bks js k
        rw [List.getD_eq_getElem?_getD, hx]
        rfl
      have HBK := Lib.hid hbk
      obtain ⟨fn, tmps, assign, body, hy, hR⟩ := HY.out pre (k, x) wr HJP.out hlen ⟨k, by omega, hbk⟩
      dsimp only at hy
      have HRR := Lib.hid hR
      rw [k0]
      clear hbel hx hbk hlen k0 hR
      gi_wp2_with fail
      refine HRR.out.mono ?_
      rintro e W' ⟨rfl, hJ', hk'⟩
      have HJ' := Lib.hid hJ'
      have HK' := Lib.hid hk'
      clear hJ' hk' hcb hcx
      gi_wp2_with fail
      go_roundw
      case rel => exact ⟨k, pre ++ [(k, x)], by go_num, by omega, HBK.out, HJ'.out, HW.out.trans HK'.out⟩
      case measure => simp [intOf]
theorem cback_x (n b n₀ : Nat) (ex : Nat → Prop) (A : Option Addr) (ca N : Nat) (js : List Int) (w : World) (hn : 1 ≤ n) (hb : w.cell? ⟨b, 0, none⟩ = some (.slice A N ca)) (hbl : b < w.heap.size) (hbx : ¬ ex b) (hex : ∀ k, ex k → n₀ ≤ k) (hr : RdS .i64 w n₀ A js) (hN : js.length = N) (hl : N ≤ 17592186044416) (hn₀ : n₀ ≤ w.heap.size) :
    GivesB n Tryz.prog 102 #[.pointer (some ⟨b, 0, none⟩)] (fun x : Nat × Int => #[.int .i64 x.1, .int .i64 x.2]) (KpX ex) (fun xs => xs = S11.M.bks js N) (fun pre => ∃ k, k < N ∧ pre ++ S11.M.bks js k = S11.M.bks js N) N w :=
  fun l J W hB _ _ hY h0 => cback1_x n l b n₀ ex A ca N js J hn W hY ((hB.cell (p := ⟨b, 0, none⟩) hbl).trans hb) (Nat.lt_of_lt_of_le hbl hB.size) hbx hex (hr.keep fun _ hp => hB.cell (by omega)) hN hl (Nat.le_trans hn₀ hB.size) h0
end Go.Proofs.YtjlfgojblimobaaGreat
end

section
namespace Go.Proofs.YtjlfgojblimobaaGreat.M

def prt (c : Int) : Bool := decide (c = 11 ∨ c = 10)
def trl (c : Int) : Bool := decide (c = 12 ∨ c = 19 ∨ c = 20 ∨ c = 21 ∨ c = 22) || removed c
theorem bk_cons (c : Int) (r : List Int) : bk (c :: r) = (prt c || (bk r && trl c)) := by
  show (if c = 11 ∨ c = 10 then true else if loose c = false then false else bk r) = _
  have h : loose c = trl c := by
    unfold loose trl begins
    generalize removed c = m
    rw [Bool.eq_iff_iff]
    cases m <;> simp <;> omega
  rw [h]
  unfold prt
  by_cases h1 : c = 11 ∨ c = 10
  · rw [if_pos h1, decide_eq_true h1]; rfl
  · rw [if_neg h1, decide_eq_false h1]
    cases trl c <;> cases bk r <;> rfl
def bs (l : List Int) : Nat → List Nat
  | 0 => []
  | k + 1 => if bk (l.drop k) = true then k :: bs l k else bs l k
theorem bs_mem {l : List Int} {k i : Nat} : i ∈ bs l k ↔ i < k ∧ bk (l.drop i) = true := by
  induction k with
  | zero => simp [bs]
  | succ k ih =>
    unfold bs
    split
    · rename_i h
      rw [List.mem_cons, ih]
      constructor
      · rintro (rfl | h2)
        · exact ⟨by omega, h⟩
        · exact ⟨by omega, h2.2⟩
      · rintro ⟨h2, h3⟩
        by_cases e : i = k
        · exact .inl e
        · exact .inr ⟨by omega, h3⟩
    · rename_i h
      rw [ih]
      constructor
      · rintro ⟨h2, h3⟩; exact ⟨by omega, h3⟩
      · rintro ⟨h2, h3⟩
        refine ⟨?_, h3⟩
        by_cases e : i = k
        · subst e; exact absurd h3 h
        · omega
theorem bs_len {l : List Int} {k : Nat} : (bs l k).length ≤ k := by
  induction k with
  | zero => exact Nat.le_refl _
  | succ k ih =>
    unfold bs
    split
    · rw [List.length_cons]; omega
    · omega
def puts (b : Int) (X : List Int) (ps : List Nat) : List Int := ps.foldl (fun X i => X.set i b) X
theorem puts_snoc {b : Int} {X : List Int} {ps : List Nat} {i : Nat} : puts b X (ps ++ [i]) = (puts b X ps).set i b := by unfold puts; rw [List.foldl_append]; rfl
theorem puts_len {b : Int} {X : List Int} {ps : List Nat} : (puts b X ps).length = X.length := by
  unfold puts
  induction ps generalizing X with
  | nil => rfl
  | cons p ps ih => rw [List.foldl_cons, ih, List.length_set]
theorem puts_at {b : Int} {X : List Int} {ps : List Nat} {i : Nat} (hi : i < X.length) : (puts b X ps)[i]? = if i ∈ ps then some b else X[i]? := by
  unfold puts
  induction ps generalizing X with
  | nil => rfl
  | cons p ps ih =>
    rw [List.foldl_cons, ih (by rw [List.length_set]; exact hi)]
    by_cases h1 : i ∈ ps
    · rw [if_pos h1, if_pos (by simp [h1])]
    · rw [if_neg h1]
      by_cases h2 : i = p
      · subst h2; rw [if_pos (by simp), List.getElem?_set_self hi]
      · rw [if_neg (by simp [h1, h2]), List.getElem?_set_ne (by omega)]
def go1 (l lv : List Int) : List Int := List.zipWith (fun c x => if removed c = true then -1 else x) l lv
theorem go1_len {l lv : List Int} (h : l.length = lv.length) : (go1 l lv).length = l.length := by unfold go1; rw [List.length_zipWith]; omega
theorem go1_at {l lv : List Int} {i : Nat} {c x : Int} (hc : l[i]? = some c) (hx : lv[i]? = some x) : (go1 l lv)[i]? = some (if removed c = true then -1 else x) := by
  unfold go1
  rw [List.getElem?_zipWith, hc, hx]
def go2 (b : Int) (l lv : List Int) : List Int := puts b (go1 l lv) (bs l l.length)
theorem go2_len {b : Int} {l lv : List Int} (h : l.length = lv.length) : (go2 b l lv).length = l.length := by unfold go2; rw [puts_len, go1_len h]
theorem go2_at {b : Int} {l lv : List Int} {i : Nat} {c x : Int} (h : l.length = lv.length) (hc : l[i]? = some c) (hx : lv[i]? = some x) : (go2 b l lv)[i]? = some (if bk (l.drop i) = true then b else if removed c = true then -1 else x) := by
  have hi := (List.getElem?_eq_some_iff.1 hc).1
  unfold go2
  rw [puts_at (by rw [go1_len h]; exact hi), go1_at hc hx]
  by_cases e : bk (l.drop i) = true
  · rw [if_pos (bs_mem.2 ⟨hi, e⟩), if_pos e]
  · rw [if_neg (fun h2 => e (bs_mem.1 h2).2), if_neg e]
theorem go3_at {b : Int} {l lv : List Int} {i : Nat} {c x z : Int} (hb : 0 ≤ b) (h : l.length = lv.length) (hc : l[i]? = some c) (hx : lv[i]? = some x) (hz : (go2 b l lv)[i]? = some z) :
    ∃ last', (i = 0 → last' = b) ∧ (0 < i → (ln b b l lv)[i - 1]? = some last') ∧ (ln b b l lv)[i]? = some (if removed c = true ∧ z = -1 then last' else z) := by
  obtain ⟨last', h1, h2, h3⟩ := ln_at (base := b) (last := b) h hc hx
  refine ⟨last', h1, h2, ?_⟩
  rw [h3]
  rw [go2_at h hc hx] at hz
  injection hz with hz
  subst hz
  by_cases e : bk (l.drop i) = true
  · rw [if_pos e, if_pos e, if_neg (by omega)]
  · rw [if_neg e, if_neg e]
    by_cases e2 : removed c = true
    · rw [if_pos e2, if_pos e2, if_pos ⟨e2, rfl⟩]
    · rw [if_neg e2, if_neg e2, if_neg (fun h => e2 h.1)]
end Go.Proofs.YtjlfgojblimobaaGreat.M
end

section
namespace Go.Proofs.YtjlfgojblimobaaGreat
open Go.RowKit
set_option maxRecDepth 100000

set_option maxHeartbeats 1000000 in
theorem rvRemoved_any (c : Int) (w : World) : Calls Tryz.prog 30 #[.int .i64 c] w fun r w' => r = .returned (.bool (M.removed c)) ∧ w = w' := by
  have H := Lib.hid (show M.removed c = true ↔ (c = 14 ∨ c = 16 ∨ c = 15 ∨ c = 17 ∨ c = 18 ∨ c = 9) by unfold M.removed; simp)
  go_enter Tryz.func30, Tryz.ntmps30
  go_wp2_with fail
  all_goals (go_ret; exact ⟨ret_bool (by rw [Bool.eq_iff_iff, H.out]; simp_all), rfl⟩)
theorem rvParts_any (c : Int) (w : World) : Calls Tryz.prog 58 #[.int .i64 c] w fun r w' => r = .returned (.bool (M.prt c)) ∧ w = w' := by
  have H := Lib.hid (show M.prt c = true ↔ (c = 11 ∨ c = 10) from decide_eq_true_iff)
  go_enter Tryz.func58, Tryz.ntmps58
  go_wp2_with fail
  all_goals (go_ret; exact ⟨ret_bool (by rw [Bool.eq_iff_iff, H.out]; simp_all), rfl⟩)
theorem rvTrails_any (c : Int) (w : World) : Calls Tryz.prog 59 #[.int .i64 c] w fun r w' => r = .returned (.bool (M.trl c)) ∧ w = w' := by
  have HR := Lib.hid (rvRemoved_any c w)
  obtain ⟨m, hm⟩ : ∃ m, M.removed c = m := ⟨_, rfl⟩
  rw [hm] at HR
  have H := Lib.hid (show M.trl c = (decide (c = 12 ∨ c = 19 ∨ c = 20 ∨ c = 21 ∨ c = 22) || m) by unfold M.trl; rw [hm])
  clear hm
  go_enter Tryz.func59, Tryz.ntmps59
  go_wp2_with fail
  all_goals first
    | (go_ret; exact ⟨ret_bool (by rw [H.out, Bool.eq_iff_iff]; simp_all), rfl⟩)
    | (refine HR.out.mono ?_; rintro r w1 ⟨rfl, rfl⟩; go_wp2_with fail; go_ret; exact ⟨ret_bool (by rw [H.out, Bool.eq_iff_iff]; simp_all), rfl⟩)
def M.atI (l : List Int) (i d : Int) : Int := if 0 ≤ i ∧ i < l.length then l.getD i.toNat d else d
def M.atM (l : List (Int × Int)) (i : Int) : Int × Int := if 0 ≤ i ∧ i < l.length then l.getD i.toNat (0, 0) else (0, 0)
theorem rvAtI_any (A : Option Addr) (ca n : Nat) (i d : Int) (l : List Int) (w : World) (hr : RdS .i64 w w.heap.size A l) (hn : l.length = n) (hl : n ≤ 1000) :
    Calls Tryz.prog 32 #[.slice A n ca, .int .i64 i, .int .i64 d] w fun r w' => r = .returned (.int .i64 (M.atI l i d)) ∧ w = w' := by
  obtain ⟨R, hR⟩ : ∃ R, M.atI l i d = R := ⟨_, rfl⟩
  rw [hR]
  have n1 : (n : Int) ≤ 1000 := by omega
  unfold M.atI at hR
  rw [hn] at hR
  by_cases h : 0 ≤ i ∧ i < n
  · rw [if_pos h] at hR
    obtain ⟨k, rfl⟩ : ∃ k : Nat, i = k := ⟨i.toNat, by omega⟩
    obtain ⟨ad, x, rfl, hcx, hx, -⟩ := rd_at hr (Below.refl _ _) (by omega : k < l.length)
    rw [Int.toNat_natCast, List.getD_eq_getElem?_getD, hx] at hR
    obtain rfl : x = R := hR
    have h1 := h.1
    have h2 := h.2
    clear h hr hx hn
    go_enter Tryz.func32, Tryz.ntmps32
    go_wp2_with fail
    go_ret
    exact ⟨rfl, rfl⟩
  · rw [if_neg h] at hR
    subst hR
    have h1 : i < 0 ∨ (¬ i < 0 ∧ (n : Int) ≤ i) := by omega
    clear h hr hn
    rcases h1 with h1 | ⟨h1, h2⟩
    all_goals
      go_enter Tryz.func32, Tryz.ntmps32
      go_wp2_with fail
      go_ret
      exact ⟨rfl, rfl⟩
theorem rvAtM_any (A : Option Addr) (ca n : Nat) (i : Int) (l : List (Int × Int)) (w : World) (hr : S11.RdT w w.heap.size A l) (hn : l.length = n) (hl : n ≤ 1000) :
    Calls Tryz.prog 40 #[.slice A n ca, .int .i64 i, .agg #[.int .i64 0, .int .i64 0]] w fun r w' => r = .returned (.agg #[.int .i64 (M.atM l i).1, .int .i64 (M.atM l i).2]) ∧ Below w.heap.size w w' := by
  obtain ⟨R, hR⟩ : ∃ R, M.atM l i = R := ⟨_, rfl⟩
  rw [hR]
  have n1 : (n : Int) ≤ 1000 := by omega
  unfold M.atM at hR
  rw [hn] at hR
  by_cases h : 0 ≤ i ∧ i < n
  · rw [if_pos h] at hR
    obtain ⟨k, rfl⟩ : ∃ k : Nat, i = k := ⟨i.toNat, by omega⟩
    obtain ⟨x, hx⟩ : ∃ x, l[k]? = some x := ⟨_, List.getElem?_eq_getElem (by omega)⟩
    obtain ⟨ad, rfl, hb, c0, c1⟩ := hr k x hx
    have hb2 : (ad.add (k * 2)).block < w.heap.size := by rw [addr_block]; exact hb
    rw [Int.toNat_natCast, List.getD_eq_getElem?_getD, hx] at hR
    obtain rfl : x = R := hR
    have h1 := h.1
    have h2 := h.2
    clear h hr hx hn
    go_enter Tryz.func40, Tryz.ntmps40
    go_wp2_with fail
    go_returns
    exact ⟨rfl, ((Below.refl _ _).alloc (Nat.le_refl _) _).alloc (by simp) _⟩
  · rw [if_neg h] at hR
    subst hR
    have h1 : i < 0 ∨ (¬ i < 0 ∧ (n : Int) ≤ i) := by omega
    clear h hr hn
    rcases h1 with h1 | ⟨h1, h2⟩
    all_goals
      go_enter Tryz.func40, Tryz.ntmps40
      go_wp2_with fail
      go_returns
      exact ⟨rfl, ((Below.refl _ _).alloc (Nat.le_refl _) _).alloc (by simp) _⟩
set_option maxHeartbeats 1000000 in
theorem rvBase_any (A : Option Addr) (ca n : Nat) (l : List Int) (b : Int) (w : World) (hr : RdS .i64 w w.heap.size A l) (hn : l.length = n) (hl : n ≤ 1000) :
    Calls Tryz.prog 12 #[.slice A n ca, .int .i64 b] w fun r w' => r = .returned (.tuple #[.int .i64 (if -1 ≤ b ∧ b ≤ 1 then M.baseI l b else 0), .int .i64 (if -1 ≤ b ∧ b ≤ 1 then 0 else 81)]) ∧ w = w' := by
  have HS := Lib.hid (cstrong_any A ca n l w hr hn hl)
  clear hr hn
  by_cases h : -1 ≤ b ∧ b ≤ 1
  · rw [if_pos h, if_pos h]
    rcases (show b = -1 ∨ b = 0 ∨ b = 1 by omega) with rfl | rfl | rfl
    · rw [show M.baseI l (-1) = M.strong l from rfl]
      go_enter Tryz.func12, Tryz.ntmps12
      go_wp2_with fail
      refine HS.out.mono ?_
      rintro r w1 ⟨rfl, rfl⟩
      go_wp2_with fail
      go_returns
      exact ⟨rfl, rfl⟩
    · go_enter Tryz.func12, Tryz.ntmps12
      go_wp2_with fail
      go_returns
      exact ⟨rfl, rfl⟩
    · go_enter Tryz.func12, Tryz.ntmps12
      go_wp2_with fail
      go_returns
      exact ⟨rfl, rfl⟩
  · rw [if_neg h, if_neg h]
    have b1 : (b == -1) = false := by simp; omega
    have b2 : (b == 0) = false := by simp; omega
    have b3 : (b == 1) = false := by simp; omega
    clear h
    go_enter Tryz.func12, Tryz.ntmps12
    go_wp2_with fail
    go_returns
    exact ⟨rfl, rfl⟩
end Go.Proofs.YtjlfgojblimobaaGreat
end
