/- The contracts of package neutral's stretches and of the function that it makes: where neutral places beside one another begin, and where what is behind them does. Conditions: the slice reads as a list of at most 2^44; a round that goes on keeps what lay below, but for one block. -/
import Derived.Test.YtjoiinpkkaigdaaCBlk
import Derived.Test.YtjoiinpkkaigdaaCLeaf
import Derived.Test.YtjoiinpkkaigdaaRange
import Derived.Shelf.Abstract
import Derived.OwnWalkIn
import Derived.TacticsInMore
import Derived.LoopNIn
import Derived.LoopIn
namespace Go.Proofs.Ytjoiinpkkaigdaa
open Go.RowKit Go.Shelf
attribute [local go_sem] Oper.semAt_some

/-- Where the last of some stretches ends. -/
def M.lastTo (pre : List (Nat × Nat)) : Nat := (pre.getLast?.map (·.2)).getD 0
theorem M.lastTo_snoc (pre : List (Nat × Nat)) (x : Nat × Nat) : M.lastTo (pre ++ [x]) = x.2 := by simp [M.lastTo]
/-- The next stretch behind t. -/
structure M.Str (l : List Int) (t f u : Nat) : Prop where
  tf : t ≤ f
  fu : f < u
  un : u ≤ l.length
  gap : ∀ i x, t ≤ i → i < f → l[i]? = some x → ¬ M.neu x
  ins : ∀ i x, f ≤ i → i < u → l[i]? = some x → M.neu x
  ahd : f = 0 ∨ ∃ x, l[f - 1]? = some x ∧ ¬ M.neu x
  bhd : u = l.length ∨ ∃ x, l[u]? = some x ∧ ¬ M.neu x
/-- What stands before the k-th place: a stretch has begun at f. -/
structure M.At (l : List Int) (pre : List (Nat × Nat)) (f k : Nat) : Prop where
  tf : M.lastTo pre ≤ f
  fk : f ≤ k
  kn : k ≤ l.length
  gap : ∀ i x, M.lastTo pre ≤ i → i < f → l[i]? = some x → ¬ M.neu x
  ins : ∀ i x, f ≤ i → i < k → l[i]? = some x → M.neu x
  ahd : f = 0 ∨ ∃ x, l[f - 1]? = some x ∧ ¬ M.neu x
  few : pre.length ≤ f
theorem M.At.start (l : List Int) : M.At l [] 0 0 := ⟨Nat.le_refl _, Nat.le_refl _, Nat.zero_le _, fun i _ _ h => by omega, fun i _ _ h => by omega, .inl rfl, Nat.le_refl _⟩
section
variable {l : List Int} {pre : List (Nat × Nat)} {f k : Nat} {c : Int}
theorem M.At.on (h : M.At l pre f k) (hc : l[k]? = some c) (hn : M.neu c) : M.At l pre f (k + 1) :=
  ⟨h.tf, by have := h.fk; omega, (List.getElem?_eq_some_iff.1 hc).1, h.gap, fun i x h1 h2 hx => by
    by_cases e : i = k
    · subst e
      rw [hc] at hx
      injection hx with hx
      rw [← hx]
      exact hn
    · exact h.ins i x h1 (by omega) hx, h.ahd, h.few⟩
theorem M.At.str (h : M.At l pre f k) (hfk : f < k) (hb : k = l.length ∨ ∃ x, l[k]? = some x ∧ ¬ M.neu x) : M.Str l (M.lastTo pre) f k :=
  ⟨h.tf, hfk, h.kn, h.gap, h.ins, h.ahd, hb⟩
theorem M.At.over (h : M.At l pre f k) (hc : l[k]? = some c) (hn : ¬ M.neu c) : M.At l (pre ++ [(f, k)]) (k + 1) (k + 1) :=
  ⟨by rw [M.lastTo_snoc]; exact Nat.le_succ _, Nat.le_refl _, (List.getElem?_eq_some_iff.1 hc).1, fun i x h1 h2 hx => by
    rw [M.lastTo_snoc] at h1
    obtain rfl : i = k := by dsimp only at h1; omega
    rw [hc] at hx
    injection hx with hx
    rw [← hx]
    exact hn, fun i _ h1 h2 => by omega, .inr ⟨c, hc, hn⟩, by rw [List.length_append]; have := h.few; have := h.fk; simp only [List.length_singleton]; omega⟩
theorem M.At.past (h : M.At l pre k k) (hc : l[k]? = some c) (hn : ¬ M.neu c) : M.At l pre (k + 1) (k + 1) :=
  ⟨by have := h.tf; omega, Nat.le_refl _, (List.getElem?_eq_some_iff.1 hc).1, fun i x h1 h2 hx => by
    by_cases e : i = k
    · subst e
      rw [hc] at hx
      injection hx with hx
      rw [← hx]
      exact hn
    · exact h.gap i x h1 (by omega) hx, fun i _ h1 h2 => by omega, .inr ⟨c, hc, hn⟩, by have := h.few; omega⟩
end
/-- All stretches. -/
def M.AllStr (l : List Int) (xs : List (Nat × Nat)) : Prop := ∀ i x, M.lastTo xs ≤ i → l[i]? = some x → ¬ M.neu x
def M.OkStr (l : List Int) (p : List (Nat × Nat)) : Prop := ∃ q x, p = q ++ [x] ∧ M.Str l (M.lastTo q) x.1 x.2
theorem M.OkStr.last {l : List Int} {q : List (Nat × Nat)} {x : Nat × Nat} (h : M.OkStr l (q ++ [x])) : M.Str l (M.lastTo q) x.1 x.2 := by
  obtain ⟨q', x', h1, h2⟩ := h
  obtain ⟨rfl, h3⟩ := List.append_inj' h1 rfl
  injection h3 with h3
  subst h3
  exact h2
/-- No block is the iterator's own to turn. -/
def mineN (_ : Obj) : Bool := false
theorem mineN_not (o : Obj) (_ : o.isCells = false) : mineN o = false := rfl

set_option maxRecDepth 100000 in
set_option maxHeartbeats 8000000 in
theorem cstr1_in (n l b n₀ n6 G : Nat) (A : Option Addr) (ca N : Nat) (js : List Int) (J Jx : List (Nat × Nat) → World → Prop) (hn : 2 ≤ n) (W : World)
    (hY : ∀ pre x X, J pre X → pre.length < N → M.OkStr js (pre ++ [x]) → YieldAt Fence.wide (n - 1) Try.prog l #[.int .i64 (x : Nat × Nat).1, .int .i64 x.2] X fun e Y =>
      (e = .returned (.bool true) ∧ J (pre ++ [x]) Y ∧ KpG n6 G X Y) ∨ (e = .returned (.bool false) ∧ Jx (pre ++ [x]) Y))
    (hb : W.cell? ⟨b, 0, none⟩ = some (.slice A N ca)) (hbl : b < n6) (hbG : b ≠ G) (hr : RdS .i64 W n₀ A js) (hN : js.length = N) (hl : N ≤ 17592186044416) (hn6 : n₀ ≤ n6) (hnG : n₀ ≤ G) (h0 : J [] W) :
    CallsIn Fence.wide n Try.prog 23 #[.func (.yield l) #[] #[], .pointer (some ⟨b, 0, none⟩)] W fun e W' => (∃ v, e = .returned v) ∧
      ((∃ xs, M.AllStr js xs ∧ J xs W') ∨ (∃ pre, True ∧ Jx pre W')) := by
  have hn1 : 1 ≤ n := by omega
  have HY := Lib.hid hY
  have HR := Lib.hid hr
  have HB := Lib.hid hb
  have HBL := Lib.hid (And.intro hbl (And.intro hbG (And.intro hn6 hnG)))
  have HN := Lib.hid hN
  have H0 := Lib.hid h0
  have hl1 : (N : Int) ≤ 17592186044416 := by omega
  have hn0 : (0 : Int) ≤ N := by omega
  clear hY hr hb hN h0 hbl hbG hn6 hnG hl
  refine callsIn_of_wp Try.func23 rfl trivial ?_ rfl
  simp only [Try.ntmps23, List.size_toArray, List.length_cons, List.length_nil, Nat.reduceAdd, Nat.reduceSub, Array.replicate_succ, Array.replicate_zero, List.push_toArray, List.append_toArray, List.nil_append, List.cons_append]
  have hb0 := HB.out
  gi_wp2_with fail
  clear hb0
  gi_loopw [3, 8] (fun fv ix wr => ∃ (k f : Nat) (pre : List (Nat × Nat)), fv = .int .i64 f ∧ ix = .int .i64 k ∧ M.At js pre f k ∧ J pre wr ∧ KpG n6 G W wr) (fun _ ix _ => N - (intOf ix).toNat)
  case atStart => exact ⟨0, 0, [], rfl, rfl, .start js, H0.out, .refl _ _ _⟩
  case round =>
    obtain ⟨k, f, pre, rfl, rfl, hat, hj, hkp⟩ := hrel
    rename World => wr
    have HAT := Lib.hid hat
    have HJ := Lib.hid hj
    have HKP := Lib.hid hkp
    have hcb := (hkp.cell (p := ⟨b, 0, none⟩) HBL.out.1 HBL.out.2.1).trans HB.out
    have hfk := hat.fk
    have hkn := hat.kn
    rw [HN.out] at hkn
    have k0 : (0 : Int) ≤ k := by omega
    have f0 : (0 : Int) ≤ f := by omega
    by_cases hlt : k < N
    · have k1 : (k : Int) < N := by omega
      obtain ⟨ad, c, rfl, hcc, hc, -⟩ := rd_at HR.out (hkp.below HBL.out.2.2.1 HBL.out.2.2.2) (by rw [HN.out]; exact hlt : k < js.length)
      have hne := cisNeu_any c wr
      by_cases hneu : M.neu c
      · rw [decide_eq_true hneu] at hne
        have HNE := Lib.hid (callsIn_wide (n := n - 1).2 hne)
        have HON := Lib.hid (hat.on hc hneu)
        clear hat hj hkp hc hne hneu hfk hkn
        gi_wp2_with fail
        refine ⟨trivial, HNE.out.mono ?_⟩
        rintro r w2 ⟨rfl, rfl⟩
        gi_wp2_with fail
        go_roundw
        case rel => exact ⟨k + 1, f, pre, rfl, by go_num, HON.out, HJ.out, HKP.out⟩
        case measure => simp [intOf]; omega
      · rw [decide_eq_false hneu] at hne
        have HNE := Lib.hid (callsIn_wide (n := n - 1).2 hne)
        by_cases hlt2 : f < k
        · have f1 : (f : Int) < k := by omega
          have HOV := Lib.hid (hat.over hc hneu)
          have hlen : pre.length < N := by have := hat.few; omega
          obtain ⟨fn, tmps, assign, body, hy, hR⟩ := HY.out pre (f, k) wr hj hlen ⟨pre, (f, k), rfl, hat.str hlt2 (.inr ⟨c, hc, hneu⟩)⟩
          dsimp only at hy
          have HRR := Lib.hid hR
          clear hat hj hkp hc hne hneu hfk hkn hR hlt2 hlen
          gi_wp2_with fail
          refine ⟨trivial, HNE.out.mono ?_⟩
          rintro r w2 ⟨rfl, rfl⟩
          gi_wp2_with fail
          refine HRR.out.mono ?_
          rintro e W' (⟨rfl, hJ', hk'⟩ | ⟨rfl, hJx'⟩)
          · have HJ' := Lib.hid hJ'
            have HK' := Lib.hid hk'
            clear hJ' hk' hcb hcc
            gi_wp2_with fail
            go_roundw
            case rel => exact ⟨k + 1, k + 1, pre ++ [(f, k)], by go_num, by go_num, HOV.out, HJ'.out, HKP.out.trans HK'.out⟩
            case measure => simp [intOf]; omega
          · have HJ' := Lib.hid hJx'
            clear hJx' hcb hcc
            gi_wp2_with fail
            refine bodyPost_ret (results_none rfl _ _ _) rfl ?_
            exact ⟨⟨_, rfl⟩, .inr ⟨pre ++ [(f, k)], trivial, HJ'.out⟩⟩
        · obtain rfl : f = k := by omega
          have f1 : ¬ (f : Int) < f := by omega
          have HPA := Lib.hid (hat.past hc hneu)
          clear hat hj hkp hc hne hneu hfk hkn hlt2
          gi_wp2_with fail
          refine ⟨trivial, HNE.out.mono ?_⟩
          rintro r w2 ⟨rfl, rfl⟩
          gi_wp2_with fail
          refine ⟨fun _ h => (by cases h), ?_⟩
          gi_wp2_with fail
          go_roundw
          case rel => exact ⟨f + 1, f + 1, pre, by go_num, by go_num, HPA.out, HJ.out, HKP.out⟩
          case measure => simp [intOf]; omega
    · obtain rfl : k = N := by omega
      have k1 : ¬ (k : Int) < k := by omega
      by_cases hlt2 : f < k
      · have f1 : (f : Int) < k := by omega
        have hlen : pre.length < k := by have := hat.few; omega
        obtain ⟨fn, tmps, assign, body, hy, hR⟩ := HY.out pre (f, k) wr hj hlen ⟨pre, (f, k), rfl, hat.str hlt2 (.inl HN.out.symm)⟩
        dsimp only at hy
        have HRR := Lib.hid hR
        clear hat hj hkp hfk hkn hR hlt2 hlen
        gi_wp2_with fail
        refine HRR.out.mono ?_
        rintro e W' (⟨rfl, hJ', hk'⟩ | ⟨rfl, hJx'⟩)
        · have HJ' := Lib.hid hJ'
          clear hJ' hk' hcb
          gi_wp2_with fail
          go_end0
          exact ⟨⟨_, rfl⟩, .inl ⟨_, fun i x h1 h2 => by rw [M.lastTo_snoc] at h1; have := (List.getElem?_eq_some_iff.1 h2).1; rw [HN.out] at this; dsimp only at h1; omega, HJ'.out⟩⟩
        · have HJ' := Lib.hid hJx'
          clear hJx' hcb
          gi_wp2_with fail
          go_end0
          exact ⟨⟨_, rfl⟩, .inr ⟨pre ++ [(f, k)], trivial, HJ'.out⟩⟩
      · obtain rfl : f = k := by omega
        have f1 : ¬ (f : Int) < f := by omega
        clear hat hj hkp hfk hkn hlt2
        gi_wp2_with fail
        go_end0
        exact ⟨⟨_, rfl⟩, .inl ⟨_, fun i x h1 h2 => HAT.out.gap i x h1 (by have := (List.getElem?_eq_some_iff.1 h2).1; rw [HN.out] at this; omega) h2, HJ.out⟩⟩
theorem cstr_gives (n b n₀ n6 G : Nat) (A : Option Addr) (ca N : Nat) (js : List Int) (w : World) (hn : 2 ≤ n) (hb : w.cell? ⟨b, 0, none⟩ = some (.slice A N ca)) (hbl : b < n6) (hbG : b ≠ G) (hr : RdS .i64 w n₀ A js) (hN : js.length = N) (hl : N ≤ 17592186044416) (hn6 : n₀ ≤ n6) (hnG : n₀ ≤ G) (h6 : n6 ≤ w.heap.size) :
    Gives mineN n Try.prog 23 #[.pointer (some ⟨b, 0, none⟩)] (fun x : Nat × Nat => #[.int .i64 x.1, .int .i64 x.2]) (KpG n6 G) (M.AllStr js) (fun _ => True) (M.OkStr js) N w :=
  fun l J Jx W hB _ _ hY h0 => cstr1_in n l b n₀ n6 G A ca N js J Jx hn W hY ((hB.cell (p := ⟨b, 0, none⟩) (by show b < w.heap.size; omega)).trans hb) hbl hbG (hr.keep fun _ hp => hB.cell (by omega)) hN hl hn6 hnG h0
theorem cstretches_any (A : Option Addr) (ca n : Nat) (w : World) : Calls Try.prog 18 #[.slice A n ca] w fun r w' => r = .returned (.func (.func 23) #[] #[.pointer (some ⟨w.heap.size, 0, none⟩)]) ∧ w' = w.alloc (.cells #[.slice A n ca] 22) := by
  go_enter Try.func18, Try.ntmps18
  go_wp2_with fail
  go_ret
  exact ⟨rfl, rfl⟩
end Go.Proofs.Ytjoiinpkkaigdaa
