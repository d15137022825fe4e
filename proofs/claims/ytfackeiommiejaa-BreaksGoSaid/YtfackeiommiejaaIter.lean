/- The contracts of package breaks' ends and of the function that it makes, over the translation: the places behind a cluster come one by one, each with what is told of it. Conditions: the slice reads as a list of kinds, at most a thousand long, within its capacity; each round keeps what lay below a block, the two boxes, and the iterator's own cells. -/
import Derived.Test.YtfackeiommiejaaSay
import Derived.Test.YtfackeiommiejaaNext
import Derived.Test.YtfackeiommiejaaNear
import Derived.Test.YtfackeiommiejaaRange
import Derived.StillTailTactics
import Derived.Shelf.Abstract
import Derived.OwnWalkIn
import Derived.TacticsInMore
import Derived.LoopNIn
import Derived.LoopIn
namespace Go.Proofs.Ytfackeiommiejaa
open Go.RowKit Go.Shelf
attribute [local go_sem] Oper.semAt_some

/-- The places behind the f-th, with what is told of each. -/
def M.prs (l : List Int) (f k : Nat) : List (Int × Int) := (List.range k).map fun j => (((f + 1 + j : Nat) : Int), M.how l (f + 1 + j))
theorem M.prs_succ (l : List Int) (f k : Nat) : M.prs l f (k + 1) = M.prs l f k ++ [(((f + 1 + k : Nat) : Int), M.how l (f + 1 + k))] := by
  unfold M.prs; rw [List.range_succ, List.map_append]; rfl
theorem M.prs_len (l : List Int) (f k : Nat) : (M.prs l f k).length = k := by unfold M.prs; simp

/-- The iterator's own cells that it turns. -/
def mineP (o : Obj) : Bool := match o with
  | .cells _ t _ => t == 44
  | _ => false
theorem mineP_not (o : Obj) (h : o.isCells = false) : mineP o = false := by cases o <;> first | rfl | (simp [Obj.isCells] at h)
/-- Two clusters lie in block B. -/
def PairIn (w : World) (B : Nat) (p : M.P) : Prop := w.heap[B]? = some (.cells #[.int .i64 p.a, .int .i64 p.b, .int .i64 p.h, .bool p.m] 44 (0, 0))
theorem PairIn.below {w w' : World} {B n : Nat} {p : M.P} (h : PairIn w B p) (hb : Below n w w') (hB : B < n) : PairIn w' B p := (hb.block B hB).trans h
theorem PairIn.cells {w : World} {B : Nat} {p : M.P} (h : PairIn w B p) : w.cell? ⟨B, 0, none⟩ = some (.int .i64 p.a) ∧ w.cell? ⟨B, 1, none⟩ = some (.int .i64 p.b) ∧ w.cell? ⟨B, 2, none⟩ = some (.int .i64 p.h) ∧ w.cell? ⟨B, 3, none⟩ = some (.bool p.m) := by
  unfold World.cell?
  rw [show w.heap[B]? = _ from h]
  simp
theorem PairIn.frozen {w : World} {B : Nat} {p : M.P} (h : PairIn w B p) (j : Nat) : w.frozen? ⟨B, j, none⟩ = false := by
  unfold World.frozen?
  rw [show w.heap[B]? = _ from h]
  simp
theorem PairIn.lt {w : World} {B : Nat} {p : M.P} (h : PairIn w B p) : B < w.heap.size := (Array.getElem?_eq_some_iff.1 h).1
/-- What a round keeps. -/
structure KeepsE (n₀ Bs Bf : Nat) (W W' : World) : Prop where
  below : Below n₀ W W'
  boxS : ∀ o, W.heap[Bs]? = some o → W'.heap[Bs]? = some o
  boxF : ∀ o, W.heap[Bf]? = some o → W'.heap[Bf]? = some o
  own : ∀ (k : Nat) cs t m, W.heap[k]? = some (.cells cs t m) → t = 44 ∨ t = 49 → W'.heap[k]? = some (.cells cs t m)
theorem KeepsE.refl (n₀ Bs Bf : Nat) (W : World) : KeepsE n₀ Bs Bf W W := ⟨Below.refl _ _, fun _ h => h, fun _ h => h, fun _ _ _ _ h _ => h⟩
theorem KeepsE.trans {n₀ Bs Bf : Nat} {A B C : World} (h : KeepsE n₀ Bs Bf A B) (k : KeepsE n₀ Bs Bf B C) : KeepsE n₀ Bs Bf A C :=
  ⟨h.below.trans k.below, fun o ho => k.boxS o (h.boxS o ho), fun o ho => k.boxF o (h.boxF o ho), fun i cs t m hi ht => k.own i cs t m (h.own i cs t m hi ht) ht⟩
theorem KeepsE.of_below {n₀ Bs Bf : Nat} {W W' : World} (h : Below W.heap.size W W') (hn : n₀ ≤ W.heap.size) : KeepsE n₀ Bs Bf W W' :=
  ⟨h.mono hn, fun _ ho => (h.block _ (Array.getElem?_eq_some_iff.1 ho).1).trans ho, fun _ ho => (h.block _ (Array.getElem?_eq_some_iff.1 ho).1).trans ho, fun _ _ _ _ ho _ => (h.block _ (Array.getElem?_eq_some_iff.1 ho).1).trans ho⟩

/-- The world behind a store of two clusters into block B. -/
def putPair (w : World) (B : Nat) (q : M.P) : World := (((w.setCell ⟨B, 0, none⟩ (.int .i64 q.a)).setCell ⟨B, 1, none⟩ (.int .i64 q.b)).setCell ⟨B, 2, none⟩ (.int .i64 q.h)).setCell ⟨B, 3, none⟩ (.bool q.m)
theorem heap_set {w : World} {B i : Nat} {cs : Array Value} {t : TypeId} {m : Nat × Nat} (v : Value) (h : w.heap[B]? = some (.cells cs t m)) : (w.setCell ⟨B, i, none⟩ v).heap[B]? = some (.cells (cs.setIfInBounds i v) t m) := by
  obtain ⟨hlt, hk⟩ := Array.getElem?_eq_some_iff.1 h
  show (w.heap.modify B _)[B]? = _
  rw [Array.getElem?_eq_getElem (by rw [Array.size_modify]; exact hlt), Array.getElem_modify_self, hk]
  rfl
theorem PairIn.put {w : World} {B : Nat} {p : M.P} (h : PairIn w B p) (q : M.P) : PairIn (putPair w B q) B q := by
  unfold putPair PairIn
  rw [heap_set _ (heap_set _ (heap_set _ (heap_set _ h)))]
  simp
theorem still_pair {w : World} {B : Nat} {p : M.P} (h : PairIn w B p) (q : M.P) : Still mineP B w (putPair w B q) := by
  unfold putPair
  refine ⟨((((Below.refl _ _).setCell (p := ⟨B, 0, none⟩) (Nat.le_refl _) _).setCell (p := ⟨B, 1, none⟩) (Nat.le_refl _) _).setCell (p := ⟨B, 2, none⟩) (Nat.le_refl _) _).setCell (p := ⟨B, 3, none⟩) (Nat.le_refl _) _, fun k o hk ho => ?_⟩
  have hne : k ≠ B := fun e => by
    rw [e, show w.heap[B]? = _ from h] at hk
    injection hk with hk
    rw [← hk] at ho
    simp [mineP] at ho
  rw [Below.heap_setCell _ _ _ k hne, Below.heap_setCell _ _ _ k hne, Below.heap_setCell _ _ _ k hne, Below.heap_setCell _ _ _ k hne]
  exact hk

/-- What holds between two places. -/
structure AtE (n₀ Bs Bf Br Bp : Nat) (A : Option Addr) (ca N f : Nat) (J : List (Int × Int) → World → Prop) (W : World) (xs : List (Int × Int)) (p : M.P) (w : World) : Prop where
  pair : PairIn w Bp p
  rules : RulesIn w Br
  come : J xs w
  below : Below n₀ W w
  boxS : Boxed w Bs 22 (.slice A N ca)
  boxF : Boxed w Bf 3 (.int .i64 f)
  size : W.heap.size ≤ w.heap.size
section
variable {n₀ Bs Bf Br Bp : Nat} {A : Option Addr} {ca N f : Nat} {J : List (Int × Int) → World → Prop} {W w w' : World} {xs : List (Int × Int)} {p : M.P}
theorem AtE.later (h : AtE n₀ Bs Bf Br Bp A ca N f J W xs p w) (hb : Below w.heap.size w w') (hJ : ∀ s X Y, J s X → Still mineP W.heap.size X Y → J s Y) (hn : n₀ ≤ W.heap.size) : AtE n₀ Bs Bf Br Bp A ca N f J W xs p w' :=
  ⟨h.pair.below hb h.pair.lt, h.rules.below hb (Array.getElem?_eq_some_iff.1 h.rules).1, hJ _ _ _ h.come (Still.of_below hb h.size), h.below.trans (hb.mono (Nat.le_trans hn h.size)), (hb.block _ h.boxS.lt).trans h.boxS, (hb.block _ h.boxF.lt).trans h.boxF, Nat.le_trans h.size hb.size⟩
theorem AtE.put (h : AtE n₀ Bs Bf Br Bp A ca N f J W xs p w) (q : M.P) (hJ : ∀ s X Y, J s X → Still mineP W.heap.size X Y → J s Y) (hn : n₀ ≤ W.heap.size) (hW : W.heap.size ≤ Bp) (hr : Br < Bp) (hs : Bs < Bp) (hf : Bf < Bp) : AtE n₀ Bs Bf Br Bp A ca N f J W xs q (putPair w Bp q) := by
  have st := still_pair h.pair q
  exact ⟨h.pair.put q, (st.below.block _ hr).trans h.rules, hJ _ _ _ h.come (st.wider (fun _ h => h) hW), h.below.trans (st.below.mono (Nat.le_trans hn hW)), (st.below.block _ hs).trans h.boxS, (st.below.block _ hf).trans h.boxF, Nat.le_trans h.size st.below.size⟩
theorem AtE.round (h : AtE n₀ Bs Bf Br Bp A ca N f J W xs p w) {ys : List (Int × Int)} (hk : KeepsE n₀ Bs Bf w w') (hJ : J ys w') : AtE n₀ Bs Bf Br Bp A ca N f J W ys p w' :=
  ⟨hk.own _ _ _ _ h.pair (.inl rfl), hk.own _ _ _ _ h.rules (.inr rfl), hJ, h.below.trans hk.below, hk.boxS _ h.boxS, hk.boxF _ h.boxF, Nat.le_trans h.size hk.below.size⟩
end

set_option maxRecDepth 100000 in
set_option maxHeartbeats 4000000 in
theorem ends1_in (n l Bs Bf n₀ : Nat) (A : Option Addr) (ca N f : Nat) (js : List Int) (J Jx : List (Int × Int) → World → Prop) (hn : 1 ≤ n) (W : World)
    (hJ : ∀ s X Y, J s X → Still mineP W.heap.size X Y → J s Y)
    (hY : ∀ pre x X, J pre X → pre.length < N - f → YieldAt Fence.wide (n - 1) Try.prog l #[.int .i64 x.1, .int .i64 x.2] X fun e Y =>
      (e = .returned (.bool true) ∧ J (pre ++ [x]) Y ∧ KeepsE n₀ Bs Bf X Y) ∨ (e = .returned (.bool false) ∧ Jx (pre ++ [x]) Y))
    (hBs : Boxed W Bs 22 (.slice A N ca)) (hBf : Boxed W Bf 3 (.int .i64 f)) (hr : RdS .i64 W n₀ A js) (hN : js.length = N) (hl : N ≤ 1000) (hca : N ≤ ca) (hn₀ : n₀ ≤ W.heap.size) (h0 : J [] W) :
    CallsIn Fence.wide n Try.prog 23 #[.func (.yield l) #[] #[], .pointer (some ⟨Bf, 0, none⟩), .pointer (some ⟨Bs, 0, none⟩)] W fun e W' => (∃ v, e = .returned v) ∧
      ((∃ xs, xs = M.prs js f (N - f) ∧ J xs W') ∨ (∃ pre, (∃ k, k ≤ N - f ∧ pre = M.prs js f k) ∧ Jx pre W')) := by
  have HY := Lib.hid hY
  have HJ := Lib.hid hJ
  have HR := Lib.hid hr
  have HBS := Lib.hid hBs
  have HBF := Lib.hid hBf
  have HN := Lib.hid hN
  have H0 := Lib.hid h0
  have hl1 : (N : Int) ≤ 1000 := by omega
  have hc1 : (N : Int) ≤ ca := by omega
  have hcs := hBs.cell
  have hcf := hBf.cell
  have f0 : (0 : Int) ≤ f := by omega
  clear hY hJ hr hBs hBf hN h0
  refine callsIn_of_wp Try.func23 rfl trivial ?_ rfl
  simp only [Try.ntmps23, List.size_toArray, List.length_cons, List.length_nil, Nat.reduceAdd, Nat.reduceSub, Array.replicate_succ, Array.replicate_zero, List.push_toArray, List.append_toArray, List.nil_append, List.cons_append]
  rcases Nat.lt_or_ge f N with hlt | hge
  · have k1 : (f : Int) < N := by omega
    gi_wp2_with fail
    refine ⟨trivial, ?_⟩
    refine (callsIn_wide.2 (rules_any W)).mono ?_
    rintro r w1 ⟨rfl, hs1, hr1, hb1⟩
    obtain ⟨Br, hBr⟩ : ∃ b, W.heap.size = b := ⟨_, rfl⟩
    obtain ⟨Bp, hBp⟩ : ∃ b, w1.heap.size = b := ⟨_, rfl⟩
    obtain ⟨W2, hW2⟩ : ∃ X, w1.alloc (.cells #[.int .i64 0, .int .i64 11, .int .i64 0, .bool false] 44) = X := ⟨_, rfl⟩
    have hb2 : Below w1.heap.size w1 W2 := by rw [← hW2]; exact (Below.refl _ _).alloc (Nat.le_refl _) _
    have hpair : PairIn W2 Bp M.P.init := by rw [← hBp, ← hW2]; exact World.alloc_heap_new _ _
    have hbW : Below W.heap.size W W2 := hb1.trans (hb2.mono hb1.size)
    have hsz2 : Bp < W2.heap.size := by rw [← hBp, ← hW2]; simp
    have hrul : RulesIn W2 Br := by rw [← hBr]; exact hr1.below hb2 hs1
    have HBW := Lib.hid hbW
    have HP := Lib.hid hpair
    have HRU := Lib.hid hrul
    have HW2 := Lib.hid hW2
    have HS2 := Lib.hid hsz2
    have HBR := Lib.hid hBr
    have HBP := Lib.hid hBp
    have HBRP := Lib.hid (show W.heap.size ≤ Bp ∧ Br < Bp ∧ Bs < Bp ∧ Bf < Bp from ⟨by omega, by rw [← hBr, ← hBp]; exact hs1, by rw [← hBp]; exact Nat.lt_of_lt_of_le HBS.out.lt hb1.size, by rw [← hBp]; exact Nat.lt_of_lt_of_le HBF.out.lt hb1.size⟩)
    have hcs1 := (hb1.cell (p := ⟨Bs, 0, none⟩) HBS.out.lt).trans hcs
    have hcf1 := (hb1.cell (p := ⟨Bf, 0, none⟩) HBF.out.lt).trans hcf
    have hbs1 : Bs < Bp := by rw [← hBp]; exact Nat.lt_of_lt_of_le HBS.out.lt hb1.size
    have hbf1 : Bf < Bp := by rw [← hBp]; exact Nat.lt_of_lt_of_le HBF.out.lt hb1.size
    clear hb2 hpair hbW hsz2 hrul hb1 hr1 hs1 hW2 hcs hcf
    rw [hBr]
    clear hBr
    gi_wp2_with fail
    rw [HW2.out]
    refine ⟨trivial, ?_⟩
    refine (callsIn_wide.2 (near_any A ca N f js W2 ((HR.out.below (HBW.out.mono hn₀)).more (Nat.le_trans hn₀ HBW.out.size)) HN.out hlt hl)).mono ?_
    rintro r w3 ⟨j, rfl, hjf, hj, rfl⟩
    have HJF := Lib.hid hjf
    have HJ0 := Lib.hid hj
    have HLT := Lib.hid hlt
    have HJ2 := Lib.hid (HJ.out _ _ _ H0.out (Still.of_below HBW.out (Nat.le_refl _)))
    have hcs2 := (HBW.out.cell (p := ⟨Bs, 0, none⟩) HBS.out.lt).trans HBS.out.cell
    have hcf2 := (HBW.out.cell (p := ⟨Bf, 0, none⟩) HBF.out.lt).trans HBF.out.cell
    clear hcs1 hcf1 hj hjf hlt hbs1 hbf1
    clear hBp
    gi_wp2_with fail
    gi_loopw [6] (fun ix wr => ∃ (k : Nat) (p : M.P), ix = .int .i64 k ∧ j ≤ k ∧ k ≤ N ∧ M.Walked p js j k ∧ AtE n₀ Bs Bf Br Bp A ca N f J W (M.prs js f (k - (f + 1))) p wr) (fun ix _ => N - (intOf ix).toNat)
    case atStart =>
      have hj := HJF.out
      have hf := HLT.out
      exact ⟨j, M.P.init, rfl, Nat.le_refl _, by omega, .inl ⟨rfl, rfl, HJ0.out⟩, HP.out, HRU.out, by rw [show j - (f + 1) = 0 by omega]; exact HJ2.out, HBW.out.mono hn₀, (HBW.out.block _ HBS.out.lt).trans HBS.out, (HBW.out.block _ HBF.out.lt).trans HBF.out, HBW.out.size⟩
    case round =>
      obtain ⟨k, p, rfl, hjk, hkN, hwk, hat⟩ := hrel
      have HAT := Lib.hid hat
      have HWK := Lib.hid hwk
      have HJK := Lib.hid hjk
      have hcs3 := hat.boxS.cell
      have hcf3 := hat.boxF.cell
      have k0 : (0 : Int) ≤ k := by omega
      clear hat hjk hwk hcs2 hcf2
      rcases Nat.lt_or_ge k N with hkn | hkn
      · have k2 : (k : Int) < N := by omega
        obtain ⟨ad, x, rfl, hcx, hx, hab⟩ := rd_at HR.out HAT.out.below (by have := HN.out; omega : k < js.length)
        have HX := Lib.hid hx
        obtain ⟨c0, c1, c2, c3⟩ := HAT.out.pair.cells
        obtain ⟨pa, hpa⟩ : ∃ v, p.a = v := ⟨_, rfl⟩
        obtain ⟨pb, hpb⟩ : ∃ v, p.b = v := ⟨_, rfl⟩
        obtain ⟨ph, hph⟩ : ∃ v, p.h = v := ⟨_, rfl⟩
        obtain ⟨pm, hpm⟩ : ∃ v, p.m = v := ⟨_, rfl⟩
        rw [hpa] at c0
        rw [hpb] at c1
        rw [hph] at c2
        rw [hpm] at c3
        obtain ⟨q, hq⟩ : ∃ q, p.next x = q := ⟨_, rfl⟩
        have HNX := Lib.hid (fun w => by
          have := next_any p x w
          rw [hq, show p.val = .agg #[.int .i64 pa, .int .i64 pb, .int .i64 ph, .bool pm] by unfold M.P.val; rw [hpa, hpb, hph, hpm]] at this
          exact this)
        have HQ := Lib.hid hq
        clear hx hab hpa hpb hph hpm hq hkn
        gi_wp2_with fail
        refine wpIn_wide.2 ?_
        go_still_tail 5, (by kernel_rfl)
        change wpList _ _ _ _ _ wr.drew
        go_wp2_with fail
        refine (HNX.out _).mono ?_
        rintro r w4 ⟨rfl, hb4⟩
        unfold M.P.val
        have hb5 : Below wr.heap.size wr w4 := (Below.refl _ _).drew.trans hb4
        have hp4 := HAT.out.pair.below hb5 HAT.out.pair.lt
        obtain ⟨e0, e1, e2, e3⟩ := hp4.cells
        have g0 := hp4.frozen 0
        have g1 := hp4.frozen 1
        have g2 := hp4.frozen 2
        have g3 := hp4.frozen 3
        have hcon := HAT.out.later hb5 HJ.out hn₀ |>.put q HJ.out hn₀ HBRP.out.1 HBRP.out.2.1 HBRP.out.2.2.1 HBRP.out.2.2.2
        obtain ⟨W5, hW5⟩ : ∃ X, putPair w4 Bp q = X := ⟨_, rfl⟩
        rw [hW5] at hcon
        unfold putPair at hW5
        have HW5 := Lib.hid hW5
        have HCON := Lib.hid hcon
        clear hb5 hp4 hb4 c0 c1 c2 c3 hcx hcon hW5 hcs3 hcf3
        go_wp2_with fail
        rw [HW5.out]
        clear e0 e1 e2 e3 g0 g1 g2 g3
        have hcf5 := HCON.out.boxF.cell
        obtain ⟨c0, c1, c2, c3⟩ := HCON.out.pair.cells
        rcases Nat.lt_or_ge f k with hfk | hfk
        · have k3 : (f : Int) < k := by omega
          obtain ⟨v, hv⟩ : ∃ v, M.how js k = v := ⟨_, rfl⟩
          have hsay : M.say q = v := by rw [← HQ.out, ← hv]; exact HWK.out.how HX.out (by have := HJF.out; omega)
          have HSAY := Lib.hid (say_any Br q W5 (Array.getElem?_eq_some_iff.1 HCON.out.rules).1 HCON.out.rules)
          rw [hsay] at HSAY
          unfold M.P.val at HSAY
          have HNEXT := Lib.hid (show M.prs js f (k - (f + 1)) ++ [((k : Int), v)] = M.prs js f (k + 1 - (f + 1)) by
            rw [show k + 1 - (f + 1) = k - (f + 1) + 1 by omega, M.prs_succ, show f + 1 + (k - (f + 1)) = k by omega, hv])
          clear hv hsay hfk
          gi_wp2_with fail
          refine ⟨trivial, ?_⟩
          refine (callsIn_wide.2 HSAY.out).mono ?_
          rintro r w6 ⟨rfl, hb6⟩
          have hcon6 := HCON.out.later hb6 HJ.out hn₀
          have HCON6 := Lib.hid hcon6
          obtain ⟨fn, tmps, assign, body, hy, hR⟩ := HY.out _ ((k : Int), v) w6 hcon6.come (by rw [M.prs_len]; omega)
          dsimp only at hy
          have HRD := Lib.hid hR
          clear hb6 hcon6 hR c0 c1 c2 c3 hcf5
          gi_wp2_with fail
          refine HRD.out.mono ?_
          rintro e w7 (⟨rfl, hJ7, hk7⟩ | ⟨rfl, hJx7⟩)
          · have hcon7 := HCON6.out.round hk7 hJ7
            rw [HNEXT.out] at hcon7
            have HCON7 := Lib.hid hcon7
            clear hcon7
            clear hJ7 hk7 hy
            gi_wp2
            go_roundw
            case rel => exact ⟨k + 1, q, by go_num, by have := HJK.out; omega, by omega, by rw [← HQ.out]; exact HWK.out.next HX.out, HCON7.out⟩
            case measure => simp [intOf]; omega
          · have HJX := Lib.hid hJx7
            clear hJx7 hy
            gi_wp2
            refine bodyPost_ret (results_none rfl _ _ _) rfl ?_
            exact ⟨⟨_, rfl⟩, .inr ⟨_, ⟨_, by omega, HNEXT.out⟩, HJX.out⟩⟩
        · have k3 : ¬ (f : Int) < k := by omega
          have HZ := Lib.hid (show k - (f + 1) = k + 1 - (f + 1) by omega)
          clear hfk c0 c1 c2 c3
          gi_wp2_with fail
          refine ⟨trivial, ?_⟩
          gi_wp2
          refine ⟨fun f hf => (by cases hf), ?_⟩
          gi_wp2
          go_roundw
          case rel => exact ⟨k + 1, q, by go_num, by have := HJK.out; omega, by omega, by rw [← HQ.out]; exact HWK.out.next HX.out, by rw [← HZ.out]; exact HCON.out⟩
          case measure => simp [intOf]; omega
      · obtain rfl : k = N := by omega
        have hN2 : M.how js k = 2 := by
          have := M.how_len (l := js) (by have := HN.out; have := HLT.out; omega)
          rwa [HN.out] at this
        have HNEXT := Lib.hid (show M.prs js f (k - (f + 1)) ++ [((k : Int), 2)] = M.prs js f (k - f) by
          have := HLT.out
          rw [show k - f = k - (f + 1) + 1 by omega, M.prs_succ, show f + 1 + (k - (f + 1)) = k by omega, hN2])
        obtain ⟨fn, tmps, assign, body, hy, hR⟩ := HY.out _ ((k : Int), 2) wr HAT.out.come (by rw [M.prs_len]; have := HLT.out; omega)
        dsimp only at hy
        have HRD := Lib.hid hR
        clear hR hN2 hkN hkn
        gi_wp2_with fail
        refine HRD.out.mono ?_
        rintro e w7 (⟨rfl, hJ7, hk7⟩ | ⟨rfl, hJx7⟩)
        · have HJ7 := Lib.hid hJ7
          clear hJ7 hk7 hy
          gi_wp2
          go_end0
          exact ⟨⟨_, rfl⟩, .inl ⟨_, rfl, by rw [← HNEXT.out]; exact HJ7.out⟩⟩
        · have HJX := Lib.hid hJx7
          clear hJx7 hy
          gi_wp2
          go_end0
          exact ⟨⟨_, rfl⟩, .inr ⟨_, ⟨_, Nat.le_refl _, HNEXT.out⟩, HJX.out⟩⟩
  · have k1 : (N : Int) ≤ f := by omega
    have HZ := Lib.hid (show N - f = 0 by omega)
    clear hge
    gi_wp2
    refine bodyPost_ret (results_none rfl _ _ _) rfl ?_
    exact ⟨⟨_, rfl⟩, .inl ⟨_, rfl, by rw [HZ.out]; exact H0.out⟩⟩

set_option maxHeartbeats 1000000 in
theorem ends_any (A : Option Addr) (ca n : Nat) (f : Int) (w : World) :
    Calls Try.prog 18 #[.slice A n ca, .int .i64 f] w fun e w' => e = .returned (.func (.func 23) #[] #[.pointer (some ⟨w.heap.size + 1, 0, none⟩), .pointer (some ⟨w.heap.size, 0, none⟩)]) ∧ (w.alloc (.cells #[.slice A n ca] 22)).alloc (.cells #[.int .i64 f] 3) = w' := by
  have hmf : ∀ (fn : Fn) (first cap : Array Value) (w : World), (Instr.makeFunc fn first cap).run Try.prog w = .ok (.func fn first cap) w := fun _ _ _ _ => rfl
  go_enter Try.func18, Try.ntmps18
  go_wp2
  go_ret
  exact ⟨rfl, rfl⟩

theorem ends_gives (n Bs Bf n₀ : Nat) (A : Option Addr) (ca N f : Nat) (js : List Int) (w : World) (hn : 1 ≤ n) (hBs : Boxed w Bs 22 (.slice A N ca)) (hBf : Boxed w Bf 3 (.int .i64 f)) (hr : RdS .i64 w n₀ A js) (hN : js.length = N) (hl : N ≤ 1000) (hca : N ≤ ca) (hn₀ : n₀ ≤ w.heap.size) :
    Gives mineP n Try.prog 23 #[.pointer (some ⟨Bf, 0, none⟩), .pointer (some ⟨Bs, 0, none⟩)] (fun x : Int × Int => #[Value.int .i64 x.1, .int .i64 x.2]) (KeepsE n₀ Bs Bf) (fun xs => xs = M.prs js f (N - f)) (fun pre => ∃ k, k ≤ N - f ∧ pre = M.prs js f k) (N - f) w := fun l J Jx W hW hJ _ hY h0 =>
  ends1_in n l Bs Bf n₀ A ca N f js J Jx hn W hJ hY ((hW.block Bs hBs.lt).trans hBs) ((hW.block Bf hBf.lt).trans hBf) (hr.below (hW.mono hn₀)) hN hl hca (Nat.le_trans hn₀ hW.size) h0
theorem keeps_put {n₀ Bs Bf : Nat} {w : World} (hn : n₀ ≤ w.heap.size) (hs : Bs < w.heap.size) (hf : Bf < w.heap.size) (W : World) (l : Nat) (o o' : Obj) (hl : w.heap.size ≤ l) (h : W.heap[l]? = some o) (hc : o.isCells = false) : KeepsE n₀ Bs Bf W (W.putObj l o') := by
  have hlt := (Array.getElem?_eq_some_iff.1 h).1
  refine ⟨⟨rfl, rfl, rfl, by simp, fun k hk => World.putObj_heap_other (by omega)⟩, fun _ ho => (World.putObj_heap_other (by omega)).trans ho, fun _ ho => (World.putObj_heap_other (by omega)).trans ho, fun k cs t m hk _ => ?_⟩
  have hne : k ≠ l := fun e => by
    rw [e, h] at hk
    injection hk with hk
    rw [hk] at hc
    cases hc
  exact (World.putObj_heap_other hne).trans hk
end Go.Proofs.Ytfackeiommiejaa
