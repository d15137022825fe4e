/- The contracts of package neutral's stretches and of the function that it makes: where neutral places beside one another begin, and where what is behind them does. Conditions: the slice reads as a list of at most 2^44; a round that goes on keeps what lay below, but for one block. -/
/- The contract of package neutral's fill: places of a block of one's own, all made one class. -/
/- What the stretches of neutral places become, one after another: as plain lists. No function of the program is read here. -/
/- A region that draws its order, within a round of a range over a function: what the plain walk shows of it serves there, too, if it defers nothing. No program is read here. -/
import Derived.Test.YtjlfgojblimobaaGreatA31
import Derived.Test.YtjlfgojblimobaaGreatA30
import Derived.Shelf.Abstract
import Derived.OwnWalkIn
import Derived.TacticsInMore
import Derived.LoopNIn
import Derived.LoopIn
import Derived.Test.YtjlfgojblimobaaGreatA00
import Derived.RangeFuncCalls
import Derived.OrdersIn
import Derived.Deep.RegionHeld3
import Derived.StillTail
section
namespace Go.Proofs.YtjlfgojblimobaaGreat.S12
open Go.RowKit Go.Shelf
attribute [local go_sem] Oper.semAt_some

def M.lastTo (pre : List (Nat × Nat)) : Nat := (pre.getLast?.map (·.2)).getD 0
theorem M.lastTo_snoc (pre : List (Nat × Nat)) (x : Nat × Nat) : M.lastTo (pre ++ [x]) = x.2 := by simp [M.lastTo]
structure M.Str (l : List Int) (t f u : Nat) : Prop where
  tf : t ≤ f
  fu : f < u
  un : u ≤ l.length
  gap : ∀ i x, t ≤ i → i < f → l[i]? = some x → ¬ M.neu x
  ins : ∀ i x, f ≤ i → i < u → l[i]? = some x → M.neu x
  ahd : f = 0 ∨ ∃ x, l[f - 1]? = some x ∧ ¬ M.neu x
  bhd : u = l.length ∨ ∃ x, l[u]? = some x ∧ ¬ M.neu x
structure M.At (l : List Int) (pre : List (Nat × Nat)) (f k : Nat) : Prop where
  tf : M.lastTo pre ≤ f
  fk : f ≤ k
  kn : k ≤ l.length
  gap : ∀ i x, M.lastTo pre ≤ i → i < f → l[i]? = some x → ¬ M.neu x
  ins : ∀ i x, f ≤ i → i < k → l[i]? = some x → M.neu x
  ahd : f = 0 ∨ ∃ x, l[f - 1]? = some x ∧ ¬ M.neu x
  few : pre.length ≤ f
theorem M.At.start (l : List Int) : M.At l [] 0 0 := ⟨Nat.le_refl _, Nat.le_refl _, Nat.zero_le _, fun i _ _ h => by omega, fun i _ _ h => by omega, .inl rfl, Nat.le_refl _⟩
section
variable {l : List Int} {pre : List (Nat × Nat)} {f k : Nat} {c : Int}
theorem M.At.on (h : M.At l pre f k) (hc : l[k]? = some c) (hn : M.neu c) : M.At l pre f (k + 1) :=
  ⟨h.tf, by have := h.fk; omega, (List.getElem?_eq_some_iff.1 hc).1, h.gap, fun i x h1 h2 hx => by
    by_cases e : i = k
    · subst e
      rw [hc] at hx
      injection hx with hx
      rw [← hx]
      exact hn
    · exact h.ins i x h1 (by omega) hx, h.ahd, h.few⟩
theorem M.At.str (h : M.At l pre f k) (hfk : f < k) (hb : k = l.length ∨ ∃ x, l[k]? = some x ∧ ¬ M.neu x) : M.Str l (M.lastTo pre) f k :=
  ⟨h.tf, hfk, h.kn, h.gap, h.ins, h.ahd, hb⟩
theorem M.At.over (h : M.At l pre f k) (hc : l[k]? = some c) (hn : ¬ M.neu c) : M.At l (pre ++ [(f, k)]) (k + 1) (k + 1) :=
  ⟨by rw [M.lastTo_snoc]; exact Nat.le_succ _, Nat.le_refl _, (List.getElem?_eq_some_iff.1 hc).1, fun i x h1 h2 hx => by
    rw [M.lastTo_snoc] at h1
    obtain rfl : i = k := by dsimp only at h1; omega
    rw [hc] at hx
    injection hx with hx
    rw [← hx]
    exact hn, fun i _ h1 h2 => by omega, .inr ⟨c, hc, hn⟩, by rw [List.length_append]; have := h.few; have := h.fk; simp only [List.length_singleton]; omega⟩
theorem M.At.past (h : M.At l pre k k) (hc : l[k]? = some c) (hn : ¬ M.neu c) : M.At l pre (k + 1) (k + 1) :=
  ⟨by have := h.tf; omega, Nat.le_refl _, (List.getElem?_eq_some_iff.1 hc).1, fun i x h1 h2 hx => by
    by_cases e : i = k
    · subst e
      rw [hc] at hx
      injection hx with hx
      rw [← hx]
      exact hn
    · exact h.gap i x h1 (by omega) hx, fun i _ h1 h2 => by omega, .inr ⟨c, hc, hn⟩, by have := h.few; omega⟩
end
def M.AllStr (l : List Int) (xs : List (Nat × Nat)) : Prop := ∀ i x, M.lastTo xs ≤ i → l[i]? = some x → ¬ M.neu x
def M.OkStr (l : List Int) (p : List (Nat × Nat)) : Prop := ∃ q x, p = q ++ [x] ∧ M.Str l (M.lastTo q) x.1 x.2
theorem M.OkStr.last {l : List Int} {q : List (Nat × Nat)} {x : Nat × Nat} (h : M.OkStr l (q ++ [x])) : M.Str l (M.lastTo q) x.1 x.2 := by
  obtain ⟨q', x', h1, h2⟩ := h
  obtain ⟨rfl, h3⟩ := List.append_inj' h1 rfl
  injection h3 with h3
  subst h3
  exact h2
def mineN (_ : Obj) : Bool := false
theorem mineN_not (o : Obj) (_ : o.isCells = false) : mineN o = false := rfl

set_option maxRecDepth 100000 in
set_option maxHeartbeats 8000000 in
theorem cstr1_in (n l b n₀ n6 G : Nat) (A : Option Addr) (ca N : Nat) (js : List Int) (J Jx : List (Nat × Nat) → World → Prop) (hn : 2 ≤ n) (W : World)
    (hY : ∀ pre x X, J pre X → pre.length < N → M.OkStr js (pre ++ [x]) → YieldAt Fence.wide (n - 1) Tryz.prog l #[.int .i64 (x : Nat × Nat).1, .int .i64 x.2] X fun e Y =>
      (e = .returned (.bool true) ∧ J (pre ++ [x]) Y ∧ KpG n6 G X Y) ∨ (e = .returned (.bool false) ∧ Jx (pre ++ [x]) Y))
    (hb : W.cell? ⟨b, 0, none⟩ = some (.slice A N ca)) (hbl : b < n6) (hbG : b ≠ G) (hr : RdS .i64 W n₀ A js) (hN : js.length = N) (hl : N ≤ 17592186044416) (hn6 : n₀ ≤ n6) (hnG : n₀ ≤ G) (h0 : J [] W) :
    CallsIn Fence.wide n Tryz.prog 121 #[.func (.yield l) #[] #[], .pointer (some ⟨b, 0, none⟩)] W fun e W' => (∃ v, e = .returned v) ∧
      ((∃ xs, M.AllStr js xs ∧ J xs W') ∨ (∃ pre, True ∧ Jx pre W')) := by
  have hn1 : 1 ≤ n := by omega
  have HY := Lib.hid hY
  have HR := Lib.hid hr
  have HB := Lib.hid hb
  have HBL := Lib.hid (And.intro hbl (And.intro hbG (And.intro hn6 hnG)))
  have HN := Lib.hid hN
  have H0 := Lib.hid h0
  have hl1 : (N : Int) ≤ 17592186044416 := by omega
  have hn0 : (0 : Int) ≤ N := by omega
  clear hY hr hb hN h0 hbl hbG hn6 hnG hl
  refine callsIn_of_wp Tryz.func121 rfl trivial ?_ rfl
  simp only [Tryz.ntmps121, List.size_toArray, List.length_cons, List.length_nil, Nat.reduceAdd, Nat.reduceSub, Array.replicate_succ, Array.replicate_zero, List.push_toArray, List.append_toArray, List.nil_append, List.cons_append]
  have hb0 := HB.out
  gi_wp2_with fail
  clear hb0
  gi_loopw [3, 8] (fun fv ix wr => ∃ (k f : Nat) (pre : List (Nat × Nat)), fv = .int .i64 f ∧ ix = .int .i64 k ∧ M.At js pre f k ∧ J pre wr ∧ KpG n6 G W wr) (fun _ ix _ => N - (intOf ix).toNat)
  case atStart => exact ⟨0, 0, [], rfl, rfl, .start js, H0.out, .refl _ _ _⟩
  case round =>
    obtain ⟨k, f, pre, rfl, rfl, hat, hj, hkp⟩ := hrel
    rename World => wr
    have HAT := Lib.hid hat
    have HJ := Lib.hid hj
    have HKP := Lib.hid hkp
    have hcb := (hkp.cell (p := ⟨b, 0, none⟩) HBL.out.1 HBL.out.2.1).trans HB.out
    have hfk := hat.fk
    have hkn := hat.kn
    rw [HN.out] at hkn
    have k0 : (0 : Int) ≤ k := by omega
    have f0 : (0 : Int) ≤ f := by omega
    by_cases hlt : k < N
    · have k1 : (k : Int) < N := by omega
      obtain ⟨ad, c, rfl, hcc, hc, -⟩ := rd_at HR.out (hkp.below HBL.out.2.2.1 HBL.out.2.2.2) (by rw [HN.out]; exact hlt : k < js.length)
      have hne := cisNeu_any c wr
      by_cases hneu : M.neu c
      · rw [decide_eq_true hneu] at hne
        have HNE := Lib.hid (callsIn_wide (n := n - 1).2 hne)
        have HON := Lib.hid (hat.on hc hneu)
        clear hat hj hkp hc hne hneu hfk hkn
        gi_wp2_with fail
        refine ⟨trivial, HNE.out.mono ?_⟩
        rintro r w2 ⟨rfl, rfl⟩
        gi_wp2_with fail
        go_roundw
        case rel => exact ⟨k + 1, f, pre, rfl, by go_num, HON.out, HJ.out, HKP.out⟩
        case measure => simp [intOf]; omega
      · rw [decide_eq_false hneu] at hne
        have HNE := Lib.hid (callsIn_wide (n := n - 1).2 hne)
        by_cases hlt2 : f < k
        · have f1 : (f : Int) < k := by omega
          have HOV := Lib.hid (hat.over hc hneu)
          have hlen : pre.length < N := by have := hat.few; omega
          obtain ⟨fn, tmps, assign, body, hy, hR⟩ := HY.out pre (f, k) wr hj hlen ⟨pre, (f, k), rfl, hat.str hlt2 (.inr ⟨c, hc, hneu⟩)⟩
          dsimp only at hy
          have HRR := Lib.hid hR
          clear hat hj hkp hc hne hneu hfk hkn hR hlt2 hlen
          gi_wp2_with fail
          refine ⟨trivial, HNE.out.mono ?_⟩
          rintro r w2 ⟨rfl, rfl⟩
          gi_wp2_with fail
          refine HRR.out.mono ?_
          rintro e W' (⟨rfl, hJ', hk'⟩ | ⟨rfl, hJx'⟩)
          · have HJ' := Lib.hid hJ'
            have HK' := Lib.hid hk'
            clear hJ' hk' hcb hcc
            gi_wp2_with fail
            go_roundw
            case rel => exact ⟨k + 1, k + 1, pre ++ [(f, k)], by go_num, by go_num, HOV.out, HJ'.out, HKP.out.trans HK'.out⟩
            case measure => simp [intOf]; omega
          · have HJ' := Lib.hid hJx'
            clear hJx' hcb hcc
            gi_wp2_with fail
            refine bodyPost_ret (results_none rfl _ _ _) rfl ?_
            exact ⟨⟨_, rfl⟩, .inr ⟨pre ++ [(f, k)], trivial, HJ'.out⟩⟩
        · obtain rfl : f = k := by omega
          have f1 : ¬ (f : Int) < f := by omega
          have HPA := Lib.hid (hat.past hc hneu)
          clear hat hj hkp hc hne hneu hfk hkn hlt2
          gi_wp2_with fail
          refine ⟨trivial, HNE.out.mono ?_⟩
          rintro r w2 ⟨rfl, rfl⟩
          gi_wp2_with fail
          refine ⟨fun _ h => (by cases h), ?_⟩
          gi_wp2_with fail
          go_roundw
          case rel => exact ⟨f + 1, f + 1, pre, by go_num, by go_num, HPA.out, HJ.out, HKP.out⟩
          case measure => simp [intOf]; omega
    · obtain rfl : k = N := by omega
      have k1 : ¬ (k : Int) < k := by omega
      by_cases hlt2 : f < k
      · have f1 : (f : Int) < k := by omega
        have hlen : pre.length < k := by have := hat.few; omega
        obtain ⟨fn, tmps, assign, body, hy, hR⟩ := HY.out pre (f, k) wr hj hlen ⟨pre, (f, k), rfl, hat.str hlt2 (.inl HN.out.symm)⟩
        dsimp only at hy
        have HRR := Lib.hid hR
        clear hat hj hkp hfk hkn hR hlt2 hlen
        gi_wp2_with fail
        refine HRR.out.mono ?_
        rintro e W' (⟨rfl, hJ', hk'⟩ | ⟨rfl, hJx'⟩)
        · have HJ' := Lib.hid hJ'
          clear hJ' hk' hcb
          gi_wp2_with fail
          go_end0
          exact ⟨⟨_, rfl⟩, .inl ⟨_, fun i x h1 h2 => by rw [M.lastTo_snoc] at h1; have := (List.getElem?_eq_some_iff.1 h2).1; rw [HN.out] at this; dsimp only at h1; omega, HJ'.out⟩⟩
        · have HJ' := Lib.hid hJx'
          clear hJx' hcb
          gi_wp2_with fail
          go_end0
          exact ⟨⟨_, rfl⟩, .inr ⟨pre ++ [(f, k)], trivial, HJ'.out⟩⟩
      · obtain rfl : f = k := by omega
        have f1 : ¬ (f : Int) < f := by omega
        clear hat hj hkp hfk hkn hlt2
        gi_wp2_with fail
        go_end0
        exact ⟨⟨_, rfl⟩, .inl ⟨_, fun i x h1 h2 => HAT.out.gap i x h1 (by have := (List.getElem?_eq_some_iff.1 h2).1; rw [HN.out] at this; omega) h2, HJ.out⟩⟩
theorem cstr_gives (n b n₀ n6 G : Nat) (A : Option Addr) (ca N : Nat) (js : List Int) (w : World) (hn : 2 ≤ n) (hb : w.cell? ⟨b, 0, none⟩ = some (.slice A N ca)) (hbl : b < n6) (hbG : b ≠ G) (hr : RdS .i64 w n₀ A js) (hN : js.length = N) (hl : N ≤ 17592186044416) (hn6 : n₀ ≤ n6) (hnG : n₀ ≤ G) (h6 : n6 ≤ w.heap.size) :
    Gives mineN n Tryz.prog 121 #[.pointer (some ⟨b, 0, none⟩)] (fun x : Nat × Nat => #[.int .i64 x.1, .int .i64 x.2]) (KpG n6 G) (M.AllStr js) (fun _ => True) (M.OkStr js) N w :=
  fun l J Jx W hB _ _ hY h0 => cstr1_in n l b n₀ n6 G A ca N js J Jx hn W hY ((hB.cell (p := ⟨b, 0, none⟩) (by show b < w.heap.size; omega)).trans hb) hbl hbG (hr.keep fun _ hp => hB.cell (by omega)) hN hl hn6 hnG h0
theorem cstretches_any (A : Option Addr) (ca n : Nat) (w : World) : Calls Tryz.prog 81 #[.slice A n ca] w fun r w' => r = .returned (.func (.func 121) #[] #[.pointer (some ⟨w.heap.size, 0, none⟩)]) ∧ w' = w.alloc (.cells #[.slice A n ca] 22) := by
  go_enter Tryz.func81, Tryz.ntmps81
  go_wp2_with fail
  go_ret
  exact ⟨rfl, rfl⟩
end Go.Proofs.YtjlfgojblimobaaGreat.S12
end

section
namespace Go.Proofs.YtjlfgojblimobaaGreat.S12
open Go.RowKit
set_option maxRecDepth 100000

def M.fil (c : Int) : Nat → Nat → List Int → List Int
  | 0, _, O => O
  | k + 1, f, O => M.fil c k (f + 1) (O.set f c)
theorem M.fil_at (c : Int) (k f : Nat) (O : List Int) (h : f + k ≤ O.length) (i : Nat) : (M.fil c k f O)[i]? = if f ≤ i ∧ i < f + k then some c else O[i]? := by
  induction k generalizing f O with
  | zero => rw [if_neg (by omega)]; rfl
  | succ k ih =>
    rw [M.fil, ih _ _ (by rw [List.length_set]; omega), List.getElem?_set]
    by_cases h1 : f + 1 ≤ i ∧ i < f + 1 + k
    · rw [if_pos h1, if_pos (by omega)]
    · rw [if_neg h1]
      by_cases h2 : f = i
      · rw [if_pos h2, if_pos (by omega), if_pos (by omega)]
      · rw [if_neg h2, if_neg (by omega)]
set_option maxHeartbeats 4000000 in
theorem cfill_any (G f d ca : Nat) (O : List Int) (c : Int) (w : World) (ho : BlockAt w G 39 O) (hfd : f + d ≤ O.length) (hl : d ≤ 17592186044416) :
    Calls Tryz.prog 82 #[.slice (some ⟨G, f, none⟩) d ca, .int .i64 c] w fun r w' => r = .returned (.tuple #[]) ∧ BlockAt w' G 39 (M.fil c d f O) ∧ Turned w w' G := by
  obtain ⟨R, hR⟩ : ∃ R, M.fil c d f O = R := ⟨_, rfl⟩
  rw [hR]
  have HR := Lib.hid hR
  have HO := Lib.hid ho
  have HF := Lib.hid hfd
  have hl1 : (d : Int) ≤ 17592186044416 := by omega
  have hd0 : (0 : Int) ≤ d := by omega
  clear hR ho hfd
  go_enter Tryz.func82, Tryz.ntmps82
  go_wp2_with fail
  go_loopw [7] (fun v wr => ∃ (k : Nat) (X : List Int), v = .int .i64 k ∧ k ≤ d ∧ X.length = O.length ∧ BlockAt wr G 39 X ∧ M.fil c (d - k) (f + k) X = R ∧ Turned w wr G) (fun v _ => d - (intOf v).toNat)
  case atStart => exact ⟨0, O, rfl, Nat.zero_le _, rfl, HO.out, HR.out, Turned.refl _ _⟩
  case round =>
    obtain ⟨k, X, rfl, hk, hX, hb, hto, ht⟩ := hrel
    have k0 : (0 : Int) ≤ k := by omega
    have HT := Lib.hid ht
    have HX := Lib.hid hX
    by_cases hlt : k < d
    · have k1 : (k : Int) < d := by omega
      obtain ⟨y, hy⟩ : ∃ y, X[f + k]? = some y := ⟨_, List.getElem?_eq_getElem (by rw [hX]; have := HF.out; omega)⟩
      have c0 := hb.cell hy
      have f0 := hb.frozen (j := f + k)
      obtain ⟨m, hm⟩ : ∃ m, d - k = m + 1 := ⟨d - k - 1, by omega⟩
      rw [hm, M.fil, show m = d - (k + 1) by omega, Nat.add_assoc] at hto
      have HTO := Lib.hid hto
      have HB := Lib.hid (hb.set (k := f + k) c)
      clear hb hto ht hX hy hm
      go_wp2_with fail
      go_roundw
      case rel => exact ⟨k + 1, X.set (f + k) c, by go_num, by omega, by rw [List.length_set, HX.out], HB.out, HTO.out, HT.out.setCell _ _⟩
      case measure => simp [intOf]; omega
    · obtain rfl : k = d := by omega
      have k1 : ¬ (k : Int) < k := by omega
      rw [Nat.sub_self] at hto
      have HTO := Lib.hid (show X = R from hto)
      have HB := Lib.hid hb
      clear hb hto ht hX
      go_wp2_with fail
      go_end0
      exact ⟨rfl, by rw [← HTO.out]; exact HB.out, HT.out⟩
end Go.Proofs.YtjlfgojblimobaaGreat.S12
end

section
namespace Go.Proofs.YtjlfgojblimobaaGreat.S12
open Go.RowKit
section
variable {l X : List Int} {lv f g : Int} {t u : Nat}
theorem M.sa_skip {s : Int} {p r : List Int} (h : ∀ x ∈ p, M.neu x) : M.sa s (p ++ r) = M.sa s r := by
  induction p with
  | nil => rfl
  | cons x p ih => rw [List.cons_append, M.sa_cons, if_pos (h x (by simp)), ih fun y hy => h y (by simp [hy])]
theorem M.sd2_side {s : Int} (h : s = 0 ∨ s = 1) : M.sd2 s = s := by rcases h with rfl | rfl <;> rfl
def M.aheadOf (l : List Int) (f : Int) (t : Nat) : Int := if 0 < t then l.getD (t - 1) 0 else f
def M.behindOf (l : List Int) (g : Int) (u : Nat) : Int := if u < l.length then l.getD u 0 else g
theorem M.sa_ahead (hf : f = 0 ∨ f = 1) (h : t = 0 ∨ ∃ x, l[t - 1]? = some x ∧ ¬ M.neu x) : M.sa f (l.take t).reverse = M.sd2 (M.aheadOf l f t) := by
  unfold M.aheadOf
  cases t with
  | zero => rw [if_neg (by omega), M.sd2_side hf]; rfl
  | succ t =>
    rcases h with h | ⟨x, hx, hn⟩
    · cases h
    · rw [Nat.add_sub_cancel] at hx
      rw [if_pos (by omega), M.take_next' hx, M.sa_cons, if_neg hn, Nat.add_sub_cancel, List.getD_eq_getElem?_getD, hx]
      rfl
theorem M.sa_behind (hg : g = 0 ∨ g = 1) (hu : u ≤ l.length) (h : u = l.length ∨ ∃ x, l[u]? = some x ∧ ¬ M.neu x) : M.sa g (l.drop u) = M.sd2 (M.behindOf l g u) := by
  unfold M.behindOf
  by_cases e : u = l.length
  · rw [if_neg (by omega), M.sd2_side hg, List.drop_eq_nil_of_le (by omega)]
    rfl
  · rcases h with h | ⟨x, hx, hn⟩
    · exact absurd h e
    · rw [if_pos (by omega), M.drop_next' hx, M.sa_cons, if_neg hn, List.getD_eq_getElem?_getD, hx]
      rfl
theorem M.settle_in {t0 i : Nat} (hf : f = 0 ∨ f = 1) (hg : g = 0 ∨ g = 1) (h : M.Str l t0 t u) (h1 : t ≤ i) (h2 : i < u) :
    (M.settle lv f g l)[i]? = some (M.btw lv (M.aheadOf l f t) (M.behindOf l g u)) := by
  have hun := h.un
  obtain ⟨x, hx⟩ : ∃ x, (M.settle lv f g l)[i]? = some x := ⟨_, List.getElem?_eq_getElem (by rw [M.settle_len]; omega)⟩
  obtain ⟨c, hc, e⟩ := M.settle_at hx
  rw [hx, e, if_pos (h.ins i c h1 h2 hc)]
  have e1 : M.sa f (l.take i).reverse = M.sd2 (M.aheadOf l f t) := by
    rw [← M.sa_ahead hf h.ahd]
    have : l.take i = l.take t ++ (l.drop t).take (i - t) := by
      rw [show i = t + (i - t) by omega, List.take_add, Nat.add_sub_cancel_left]
    rw [this, List.reverse_append]
    refine M.sa_skip fun y hy => ?_
    rw [List.mem_reverse] at hy
    obtain ⟨j, hj⟩ := List.mem_iff_getElem?.1 hy
    rw [List.getElem?_take] at hj
    split at hj
    · rw [List.getElem?_drop] at hj
      exact h.ins (t + j) y (by omega) (by omega) hj
    · cases hj
  have e2 : M.sa g (l.drop (i + 1)) = M.sd2 (M.behindOf l g u) := by
    rw [← M.sa_behind hg hun h.bhd]
    have : l.drop (i + 1) = (l.drop (i + 1)).take (u - (i + 1)) ++ l.drop u := by
      conv => lhs; rw [← List.take_append_drop (u - (i + 1)) (l.drop (i + 1)), List.drop_drop, show i + 1 + (u - (i + 1)) = u by omega]
    rw [this]
    refine M.sa_skip fun y hy => ?_
    obtain ⟨j, hj⟩ := List.mem_iff_getElem?.1 hy
    rw [List.getElem?_take] at hj
    split at hj
    · rw [List.getElem?_drop] at hj
      exact h.ins (i + 1 + j) y (by omega) (by omega) hj
    · cases hj
  unfold M.nat M.btw
  rw [e1, e2]
def M.SetTo (lv f g : Int) (l : List Int) (t : Nat) (X : List Int) : Prop := ∀ i, X[i]? = if i < t then (M.settle lv f g l)[i]? else l[i]?
theorem M.SetTo.start : M.SetTo lv f g l 0 l := fun i => by rw [if_neg (by omega)]
theorem M.SetTo.len (h : M.SetTo lv f g l t X) : X.length = l.length := by
  refine Nat.le_antisymm (Nat.le_of_not_lt fun hlt => ?_) (Nat.le_of_not_lt fun hlt => ?_)
  · have := h l.length
    rw [List.getElem?_eq_getElem hlt, List.getElem?_eq_none (l := l) (Nat.le_refl _), List.getElem?_eq_none (l := M.settle lv f g l) (by rw [M.settle_len]; exact Nat.le_refl _), ite_self] at this
    cases this
  · have := h X.length
    rw [List.getElem?_eq_none (l := X) (Nat.le_refl _), List.getElem?_eq_getElem hlt, List.getElem?_eq_getElem (l := M.settle lv f g l) (by rw [M.settle_len]; exact hlt)] at this
    split at this <;> cases this
theorem M.settle_keep {i : Nat} {x : Int} (h : l[i]? = some x) (hn : ¬ M.neu x) : (M.settle lv f g l)[i]? = some x := by
  obtain ⟨y, hy⟩ : ∃ y, (M.settle lv f g l)[i]? = some y := ⟨_, List.getElem?_eq_getElem (by rw [M.settle_len]; exact (List.getElem?_eq_some_iff.1 h).1)⟩
  obtain ⟨c, hc, e⟩ := M.settle_at hy
  rw [h] at hc
  injection hc with hc
  subst hc
  rw [if_neg hn] at e
  rw [hy, e]
theorem M.SetTo.over {t0 : Nat} (hx : M.SetTo lv f g l t0 X) (hf : f = 0 ∨ f = 1) (hg : g = 0 ∨ g = 1) (h : M.Str l t0 t u) :
    M.SetTo lv f g l u (M.fil (M.btw lv (M.aheadOf l f t) (M.behindOf l g u)) (u - t) t X) := fun i => by
  have h1 := h.tf
  have h2 := h.fu
  have h3 := h.un
  rw [M.fil_at _ _ _ _ (by rw [hx.len]; omega)]
  by_cases e : t ≤ i ∧ i < t + (u - t)
  · rw [if_pos e, if_pos (by omega), M.settle_in hf hg h e.1 (by omega)]
  · rw [if_neg e, hx i]
    by_cases e2 : i < t0
    · rw [if_pos e2, if_pos (by omega)]
    · rw [if_neg e2]
      by_cases e3 : i < u
      · rw [if_pos e3]
        obtain ⟨x, hx⟩ : ∃ x, l[i]? = some x := ⟨_, List.getElem?_eq_getElem (by omega)⟩
        rw [hx, M.settle_keep hx (h.gap i x (by omega) (by omega) hx)]
      · rw [if_neg e3]
theorem M.SetTo.done {xs : List (Nat × Nat)} (hx : M.SetTo lv f g l (M.lastTo xs) X) (h : M.AllStr l xs) : X = M.settle lv f g l := by
  refine List.ext_getElem? fun i => ?_
  rw [hx i]
  split
  · rfl
  · cases hi : l[i]? with
    | none => rw [List.getElem?_eq_none (by rw [M.settle_len]; exact List.getElem?_eq_none_iff.1 hi)]
    | some x => rw [M.settle_keep hi (h i x (by omega) hi)]
end
end Go.Proofs.YtjlfgojblimobaaGreat.S12
end

section
namespace Go.Proofs.YtjlfgojblimobaaGreat.S12
open Go.RowKit Go.Sort

def AtEnd (Q : Exit → Act → World → Prop) : Exit → Act → World → Prop
  | .normal, a, w => Q .normal a w
  | _, _, _ => False
theorem AtEnd.imp {Q : Exit → Act → World → Prop} : ∀ (e : Exit) (a : Act) (w : World), AtEnd Q e a w → Q e a w := fun e a w h => by
  cases e <;> first | exact h | exact (h : False).elim
theorem AtEnd.no {Q : Exit → Act → World → Prop} : ¬ LetsOut (AtEnd Q) := fun ⟨_, _, h⟩ => h
def isDefer : Op → Bool
  | .defer _ => true
  | _ => false
def calmB (ops : Array Oper) : Bool := ops.toList.all fun o => !isDefer o.op
section
variable {P : Program} {ops : Array Oper} {Q : Exit → Act → World → Prop} {l n : Nat}
theorem calm_at (hd : calmB ops = true) {i : Nat} {o : Oper} (h : ops[i]? = some o) : ∀ c, o.op ≠ .defer c := by
  intro c hc
  unfold calmB at hd
  rw [List.all_eq_true] at hd
  have := hd o (List.mem_of_getElem? (i := i) (by simpa using h))
  rw [hc] at this
  cases this
theorem op_round {o : Oper} (ho : ∀ c, o.op ≠ .defer c) {a : Act} {w : World} {K K' : Act → World → Prop} (hK : ∀ a w, K a w → K' a w) (h : o.wp P a w K (AtEnd Q)) : o.wpIn (Fence.wide.inRound l) n P a w K' (AtEnd Q) := by
  refine ⟨fun _ _ => trivial, ?_⟩
  rw [Oper.semAt_plain _ _ _ ho]
  unfold Oper.wp at h
  generalize (execOp a.eval o).run P w = r at *
  have hnd : (Fence.wide.inRound l).depth.isSome = true → 1 ≤ n := fun h => by cases h
  cases r with
  | ok x w' =>
    cases x <;> simp only [Oper.upon, Oper.uponIn] at h ⊢
    case value u => exact hK _ _ h
    case skip => exact hK _ _ h
    case defer d => exact hK _ _ h
    case enter f args =>
      refine ⟨hnd, CallsIn.inRound l (callsIn_wide.2 (Calls.mono h fun e w'' he => ?_))⟩
      cases e with
      | returned u => exact hK _ _ he
      | panicked c => exact he
      | outgrown => exact he
    case row row args =>
      refine ⟨hnd, fun c cs _ => ?_⟩
      obtain ⟨v, w'', hr, hs⟩ := h c cs
      exact ⟨v, w'', hK _ _ hr, stepsIn_wide.2 hs⟩
  | halt x w' =>
    cases x <;> simp only [Oper.upon, Oper.uponIn] at h ⊢
    case panic u => exact h
theorem any_round (hd : calmB ops = true) {md : Region.Mode} : ∀ (fuel : Nat) (listed : Array Bool) (a : Act) (w : World), wpAny P md ops (AtEnd Q) fuel listed a w → wpAnyIn (Fence.wide.inRound l) n P md ops (AtEnd Q) fuel listed a w := by
  intro fuel
  induction fuel with
  | zero => intro listed a w h; exact h
  | succ fuel ih =>
    intro listed a w h
    refine ⟨h.1, fun i hi => ?_⟩
    have h2 := h.2 i hi
    unfold wpOp at h2
    unfold wpOpIn
    cases ho : ops[i]? with
    | none => rw [ho] at h2; exact ih _ _ _ h2
    | some o =>
      rw [ho] at h2
      dsimp only at h2 ⊢
      split
      · rename_i hw
        rw [if_pos hw] at h2
        rcases h2 with h2 | h2
        · exact op_round (calm_at hd ho) (fun a w => ih _ a w) h2
        · exact absurd h2.2 AtEnd.no
      · rename_i hw
        rw [if_neg hw] at h2
        exact ⟨fun _ _ => trivial, ih _ _ _ h2⟩
theorem region_any {id : Nat} {a : Act} {w : World} (hm : P.follows .mixedOrders = true) (hd : calmB ops = true)
    (h : wpAny P .any ops (AtEnd Q) ops.size (Array.replicate ops.size false) a { w with drawn := w.drawn + 1 }) : (Code.region id ops true).wpIn (Fence.wide.inRound l) n P Q a w :=
  wpIn_mono (wpIn_region_any hm (any_round hd _ _ _ _ h)) AtEnd.imp
theorem region_quiet {id : Nat} {a : Act} {w : World} {L : List Oper} (hm : P.follows .mixedOrders = true) (hd : calmB L.toArray = true) (hB : Region.lexB .any L.toArray = true)
    (h : wpQuiet P L.toArray (fun w' => ∃ p : Regrown, w' = grow (redrawn w p.d) p.os) (fun a' => ∀ w', (∃ p : Regrown, w' = grow (redrawn w p.d) p.os) → Q .normal a' w') L a) : (Code.region id L.toArray true).wpIn (Fence.wide.inRound l) n P Q a w := by
  refine region_any hm hd ?_
  simp only [Region.lexB, Bool.and_eq_true] at hB
  have hC : ∃ p : Regrown, ({ w with drawn := w.drawn + 1 } : World) = grow (redrawn w p.d) p.os := ⟨⟨w.drawn + 1, #[]⟩, by rw [grow_empty]; rfl⟩
  refine wpAny_of_quiet (Q := fun a' => ∀ w', (∃ p : Regrown, w' = grow (redrawn w p.d) p.os) → Q .normal a' w') (Q' := AtEnd Q) (fun _ w' hw' h => h w' hw') _ _ _ _ hC ?_
  have := wpAnyQ_lex (C := fun w' => ∃ p : Regrown, w' = grow (redrawn w p.d) p.os) (md := .any) hB.1 L 0 (Array.replicate L.toArray.size false) a (by simp) (by simpa using hB.2) h
  simpa using this

variable {S : World → Prop} {md : Region.Mode}
theorem takeH {i d fuel : Nat} {o : Oper} {v : Value} {listed listed' : Array Bool} {ts ts' : Array Value} {w : World} (hi : ops[i]? = some o)
    (hs : Region.noSelect ops = true) (hf : Region.free md ops listed i = true) (hr : (Region.ready md ops listed).contains i = true) (hg : o.guard = none) (hd : o.dst = some d) (hS : S w)
    (hy : ∀ w, S w → (execOp (Act.eval ⟨ts, []⟩) o).run P w = .ok (.value v) w) (hl : listed.setIfInBounds i true = listed') (ht : ts.setIfInBounds d v = ts')
    (h : wpAnyH P md ops (AtEnd Q) S fuel listed' ⟨ts', []⟩ w) : wpAnyH P md ops (AtEnd Q) S (fuel + 1) listed ⟨ts, []⟩ w := by
  refine wpAnyH_take hi hs hf hr (fun _ _ _ h => h) (Or.inl ⟨by simp [Region.wanted, hg], hy⟩) hS ?_
  rw [hl, hd]
  unfold Act.put
  simp only [ht]
  exact h
def BackH (P : Program) (md : Region.Mode) (ops : Array Oper) (Q : Exit → Act → World → Prop) (S : World → Prop) (fuel : Nat) (listed : Array Bool) (ts : Array Value) (w : World) (i : Nat) : Prop :=
  wpOp P ops (AtEnd Q) i (fun a' w' => S w' ∧ wpAnyH P md ops (AtEnd Q) S fuel (listed.setIfInBounds i true) a' w') ⟨ts, []⟩ w
theorem oneH {i fuel : Nat} {listed : Array Bool} {ts : Array Value} {w : World} (hr : Region.ready md ops listed = [i]) (h : BackH P md ops Q S fuel listed ts w i) : wpAnyH P md ops (AtEnd Q) S (fuel + 1) listed ⟨ts, []⟩ w :=
  wpAnyH_all hr (by simp) fun j hj => by obtain rfl := List.mem_singleton.1 hj; exact h
theorem twoH {i k fuel : Nat} {listed : Array Bool} {ts : Array Value} {w : World} (hr : Region.ready md ops listed = [i, k]) (h : BackH P md ops Q S fuel listed ts w i) (h2 : BackH P md ops Q S fuel listed ts w k) : wpAnyH P md ops (AtEnd Q) S (fuel + 1) listed ⟨ts, []⟩ w :=
  wpAnyH_all hr (by simp) fun j hj => by
    rcases List.mem_cons.1 hj with rfl | hj
    · exact h
    · obtain rfl := List.mem_singleton.1 hj; exact h2
theorem runH {i d fuel : Nat} {o : Oper} {v : Value} {listed listed' : Array Bool} {ts ts' : Array Value} {w w' : World} (hi : ops[i]? = some o) (hg : o.guard = none) (hd : o.dst = some d)
    (hrun : (execOp (Act.eval ⟨ts, []⟩) o).run P w = .ok (.value v) w') (hS : S w') (hl : listed.setIfInBounds i true = listed') (ht : ts.setIfInBounds d v = ts')
    (h : wpAnyH P md ops (AtEnd Q) S fuel listed' ⟨ts', []⟩ w') : BackH P md ops Q S fuel listed ts w i := by
  unfold BackH wpOp
  rw [hi]
  dsimp only
  rw [if_pos (by simp [Region.wanted, hg])]
  refine .inl ?_
  unfold Oper.wp
  rw [hrun]
  refine ⟨hS, ?_⟩
  rw [hl, hd]
  unfold Act.put
  simp only [ht]
  exact h
theorem skipH {i fuel : Nat} {o : Oper} {v : Next} {listed listed' : Array Bool} {ts : Array Value} {w w' : World} (hi : ops[i]? = some o) (hg : o.guard = none) (hd : o.dst = none)
    (hrun : (execOp (Act.eval ⟨ts, []⟩) o).run P w = .ok v w') (hv : v = .skip ∨ ∃ u, v = .value u) (hS : S w') (hl : listed.setIfInBounds i true = listed')
    (h : wpAnyH P md ops (AtEnd Q) S fuel listed' ⟨ts, []⟩ w') : BackH P md ops Q S fuel listed ts w i := by
  unfold BackH wpOp
  rw [hi]
  dsimp only
  rw [if_pos (by simp [Region.wanted, hg])]
  refine .inl ?_
  unfold Oper.wp
  rw [hrun]
  rcases hv with rfl | ⟨u, rfl⟩
  all_goals
    refine ⟨hS, ?_⟩
    rw [hl, hd]
    exact h
theorem callH {i d fuel f : Nat} {args : Array Value} {o : Oper} {v : Value} {listed listed' : Array Bool} {ts ts' : Array Value} {w : World} (hi : ops[i]? = some o) (hg : o.guard = none) (hd : o.dst = some d)
    (hrun : (execOp (Act.eval ⟨ts, []⟩) o).run P w = .ok (.enter f args) w) (hc : Calls P f args w fun r w' => r = .returned v ∧ w = w') (hS : S w) (hl : listed.setIfInBounds i true = listed') (ht : ts.setIfInBounds d v = ts')
    (h : wpAnyH P md ops (AtEnd Q) S fuel listed' ⟨ts', []⟩ w) : BackH P md ops Q S fuel listed ts w i := by
  unfold BackH wpOp
  rw [hi]
  dsimp only
  rw [if_pos (by simp [Region.wanted, hg])]
  refine .inl ?_
  unfold Oper.wp
  rw [hrun]
  refine hc.mono ?_
  rintro r w' ⟨rfl, rfl⟩
  refine ⟨hS, ?_⟩
  rw [hl, hd]
  unfold Act.put
  simp only [ht]
  exact h
theorem callE {i d fuel f : Nat} {args : Array Value} {o : Oper} {v : Value} {listed listed' : Array Bool} {ts ts' : Array Value} {w : World} (hi : ops[i]? = some o) (hg : o.guard = none) (hd : o.dst = some d)
    (hrun : (execOp (Act.eval ⟨ts, []⟩) o).run P w = .ok (.enter f args) w) (hl : listed.setIfInBounds i true = listed') (ht : ts.setIfInBounds d v = ts')
    (hc : Calls P f args w fun r w' => r = .returned v ∧ S w' ∧ wpAnyH P md ops (AtEnd Q) S fuel listed' ⟨ts', []⟩ w') : BackH P md ops Q S fuel listed ts w i := by
  unfold BackH wpOp
  rw [hi]
  dsimp only
  rw [if_pos (by simp [Region.wanted, hg])]
  refine .inl ?_
  unfold Oper.wp
  rw [hrun]
  refine hc.mono ?_
  rintro r w' ⟨rfl, hS, h⟩
  refine ⟨hS, ?_⟩
  rw [hl, hd]
  unfold Act.put
  simp only [ht]
  exact h
theorem exec_append {o : Oper} {a : Act} {s x : Operand} {t : TypeId} (ho : o.op = .call { callee := .builtin .append, args := #[s, x], argTypes := #[t, t] }) {v1 v2 r : Value} {w w' : World} (h1 : a.eval s = v1) (h2 : a.eval x = v2)
    (hrun : (Builtin.append_ #[t, t] o.type #[v1, v2]).run P w = .ok r w') : (execOp a.eval o).run P w = .ok (.value r) w' := by
  unfold execOp
  simp only [ho, resolve, invoke, builtin, Sem.run_bind, Sem.run_pure, Result.andThen_ok, List.map_toArray, List.map_cons, List.map_nil, h1, h2, hrun]
theorem region_by {S : World → Prop} {id k : Nat} {ts : Array Value} {w : World} {listed : Array Bool} (hm : P.follows .mixedOrders = true) (hd : calmB ops = true) (hk : ops.size = k) (hl : Array.replicate k false = listed)
    (h : wpAnyH P .any ops (AtEnd Q) S k listed ⟨ts, []⟩ w.drew) : (Code.region id ops true).wpIn (Fence.wide.inRound l) n P Q ⟨ts, []⟩ w := by
  subst hk hl
  exact region_any hm hd (wpAny_of_held _ _ _ _ h)
end
end Go.Proofs.YtjlfgojblimobaaGreat.S12
end
