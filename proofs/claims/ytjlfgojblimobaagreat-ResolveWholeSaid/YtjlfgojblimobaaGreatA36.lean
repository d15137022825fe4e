/- The contracts of package resolve's based and of the function that it makes: the places of a list of classes that have the base come from its end on. Conditions: the slice reads as a list of at most 2^44, below all that rounds turn. -/
/- Line's state in memory, and its code's parts. No condition. -/
/- Line's first loop: each place has its level, or -1 where it is removed. Conditions: the slices read as lists; the row is there. -/
/- Line's range over what ends it: the places that have the base have it. Conditions: the slice reads as a list; the row is there. -/
import Derived.Test.YtjlfgojblimobaaGreatA35
import Derived.Test.YtjlfgojblimobaaGreatA33
import Derived.Deep.CutBlock
import Derived.StillTailTactics
section
namespace Go.Proofs.YtjlfgojblimobaaGreat
open Go.RowKit Go.Shelf
attribute [local go_sem] Oper.semAt_some

theorem roundIn_any {n m l l' : Nat} {P : Program} {f : FuncId} {tmps : Array Value} {assign body : Code} {w : World} {R : Ending → World → Prop} (h : RoundIn Fence.wide n P l f tmps assign body w R) : RoundIn (Fence.wide.inRound l') m P l f tmps assign body w R := ⟨h.1, fun c cs _ => h.2 c cs (room_wide _)⟩
def M.BAt (l : List Int) (N : Nat) (k : Nat) (pre2 : List Nat) : Prop := pre2 ++ M.bs l k = M.bs l N ∧ k ≤ N
theorem M.BAt.len {l : List Int} {N k : Nat} {p : List Nat} (h : M.BAt l N k p) (hk : M.bs l k ≠ []) : p.length < N := by
  have h1 := congrArg List.length h.1
  rw [List.length_append] at h1
  have h2 := M.bs_len (l := l) (k := N)
  have h3 := List.length_pos_iff.2 hk
  omega
def M.BOk (N : Nat) (p : List Nat) : Prop := ∃ q x, p = q ++ [x] ∧ x < N
theorem M.bks_last {l : List Int} {N k i : Nat} {c : Int} {pre : List (Nat × Int)} (h : (pre ++ [(i, c)]) ++ S11.M.bks l k = S11.M.bks l N) (hN : l.length = N) (hk : k < N) : i = k ∧ l[k]? = some c := by
  have h1 : S11.M.bks l N = S11.M.bks l N := rfl
  have hlen := congrArg List.length h
  rw [List.length_append, S11.M.bks_len, S11.M.bks_len, List.length_append, List.length_singleton] at hlen
  have hat : ∀ (n j : Nat), j < n → (S11.M.bks l n)[j]? = some (n - 1 - j, l.getD (n - 1 - j) 0) := by
    intro n
    induction n with
    | zero => intro j hj; omega
    | succ n ih =>
      intro j hj
      cases j with
      | zero => rfl
      | succ j =>
        show (S11.M.bks l n)[j]? = _
        rw [ih j (by omega), show n - 1 - j = n + 1 - 1 - (j + 1) by omega]
  have h2 := hat N pre.length (by omega)
  rw [← h, List.append_assoc, List.getElem?_append_right (Nat.le_refl _), Nat.sub_self] at h2
  simp only [List.singleton_append, List.getElem?_cons_zero, Option.some.injEq, Prod.mk.injEq] at h2
  obtain ⟨h3, h4⟩ := h2
  have e : N - 1 - pre.length = k := by omega
  rw [e] at h3 h4
  refine ⟨h3, ?_⟩
  rw [h4, List.getD_eq_getElem?_getD]
  obtain ⟨y, hy⟩ : ∃ y, l[k]? = some y := ⟨_, List.getElem?_eq_getElem (by omega)⟩
  rw [hy]
  rfl
def M.exB (ex : Nat → Prop) (E L : Nat) (k : Nat) : Prop := ex k ∨ k = E ∨ k = L
def BoolAt (W : World) (E : Nat) (x : Bool) : Prop := W.heap[E]? = some (.cells #[.bool x] 4 (0, 0))
theorem BoolAt.cell {W : World} {E : Nat} {x : Bool} (h : BoolAt W E x) : W.cell? ⟨E, 0, none⟩ = some (.bool x) := by
  unfold World.cell?
  rw [show W.heap[E]? = _ from h]
  rfl
theorem BoolAt.frozen {W : World} {E : Nat} {x : Bool} (h : BoolAt W E x) : W.frozen? ⟨E, 0, none⟩ = false := by
  unfold World.frozen?
  rw [show W.heap[E]? = _ from h]
  rfl
theorem BoolAt.lt {W : World} {E : Nat} {x : Bool} (h : BoolAt W E x) : E < W.heap.size := (Array.getElem?_eq_some_iff.1 h).1
theorem BoolAt.set {W : World} {E : Nat} {x : Bool} (h : BoolAt W E x) (y : Bool) : BoolAt (W.setCell ⟨E, 0, none⟩ (.bool y)) E y := by
  obtain ⟨hlt, hk⟩ := Array.getElem?_eq_some_iff.1 h
  show (W.heap.modify E _)[E]? = _
  rw [Array.getElem?_eq_getElem (by rw [Array.size_modify]; exact hlt), Array.getElem_modify_self, hk]
  rfl
def BInv (l : List Int) (N : Nat) (ex : Nat → Prop) (Y E Lr : Nat) (yv : Value) (J : List Nat → World → Prop) (W0 : World) (pre : List (Nat × Int)) (W : World) : Prop :=
  ∃ (k : Nat) (p : List Nat), pre ++ S11.M.bks l k = S11.M.bks l N ∧ M.BAt l N k p ∧ J p W ∧ BoolAt W E (M.bk (l.drop k)) ∧ W.cell? ⟨Y, 0, none⟩ = some yv ∧ KpX (M.exB ex E Lr) W0 W
theorem new_box (w : World) (v : Value) (t : TypeId) : ∃ W : World, w.alloc (.cells #[v] t) = W ∧ Below w.heap.size w W ∧ W.cell? ⟨w.heap.size, 0, none⟩ = some v ∧ W.heap[w.heap.size]? = some (.cells #[v] t (0, 0)) ∧ W.heap.size = w.heap.size + 1 := by
  refine ⟨_, rfl, (Below.refl _ _).alloc (Nat.le_refl _) _, ?_, World.alloc_heap_new _ _, by simp⟩
  unfold World.cell?
  rw [World.alloc_heap_new]
  rfl
theorem cbackward13_any (A : Option Addr) (ca n : Nat) (w : World) : Calls Tryz.prog 57 #[.slice A n ca] w fun r w' => r = .returned (.func (.func 102) #[] #[.pointer (some ⟨w.heap.size, 0, none⟩)]) ∧ w' = w.alloc (.cells #[.slice A n ca] 22) := S11.cbackward_any A ca n w

set_option maxRecDepth 100000 in
set_option maxHeartbeats 8000000 in
theorem cbased1_in (n l b n₀ : Nat) (ex : Nat → Prop) (A : Option Addr) (ca N : Nat) (js : List Int) (J : List Nat → World → Prop) (hn : 5 ≤ n) (W : World)
    (hJ : ∀ s X Y, J s X → Below W.heap.size X Y → J s Y)
    (hY : ∀ pre x X, J pre X → pre.length < N → M.BOk N (pre ++ [x]) → YieldAt Fence.wide (n - 1) Tryz.prog l #[.int .i64 (x : Nat)] X fun e Y =>
      e = .returned (.bool true) ∧ J (pre ++ [x]) Y ∧ KpX ex X Y)
    (hb : W.cell? ⟨b, 0, none⟩ = some (.slice A N ca)) (hbl : b < W.heap.size) (hex : ∀ k, ex k → n₀ ≤ k ∧ k < W.heap.size) (hr : RdS .i64 W n₀ A js) (hN : js.length = N) (hl : N ≤ 17592186044416) (hn₀ : n₀ ≤ W.heap.size) (h0 : J [] W) :
    CallsIn Fence.wide n Tryz.prog 56 #[.func (.yield l) #[] #[], .pointer (some ⟨b, 0, none⟩)] W fun e W' => (∃ v, e = .returned v) ∧
      ∃ xs, xs = M.bs js N ∧ J xs W' := by
  have hn1 : 1 ≤ n := by omega
  have hn2 : 1 ≤ n - 1 := by omega
  have hn3 : 1 ≤ n - 1 - 1 := by omega
  have hn4 : 1 ≤ n - 1 - 1 - 1 := by omega
  obtain ⟨W1, hW1, hb1, y1, -, z1⟩ := new_box W (.func (.yield l) #[] #[]) 104
  obtain ⟨W2, hW2, hb2, -, e2, z2⟩ := new_box W1 (.bool true) 4
  have HBW := Lib.hid (cbackward13_any A ca N W2)
  obtain ⟨W3, hW3, hb3, s3, -, z3⟩ := new_box W2 (.slice A N ca) 22
  rw [hW3] at HBW
  obtain ⟨Y, hYY⟩ : ∃ Y, W.heap.size = Y := ⟨_, rfl⟩
  obtain ⟨E, hEE⟩ : ∃ E, W1.heap.size = E := ⟨_, rfl⟩
  obtain ⟨C, hCC⟩ : ∃ C, W2.heap.size = C := ⟨_, rfl⟩
  have hE3 : BoolAt W3 E true := by rw [← hEE]; exact (hb3.block _ (by omega)).trans e2
  have hY3 : W3.cell? ⟨Y, 0, none⟩ = some (.func (.yield l) #[] #[]) := by rw [← hYY]; exact ((hb2.trans (hb3.mono hb2.size)).cell (p := ⟨W.heap.size, 0, none⟩) (by show W.heap.size < W1.heap.size; omega)).trans y1
  have hC3 : W3.cell? ⟨C, 0, none⟩ = some (.slice A N ca) := by rw [← hCC]; exact s3
  have c2 := ((hb1.trans (hb2.mono hb1.size)).cell (p := ⟨b, 0, none⟩) hbl).trans hb
  have hB3 : Below W.heap.size W W3 := hb1.trans ((hb2.trans (hb3.mono hb2.size)).mono hb1.size)
  have hR3 := hr.keep fun p (hp : p.block < n₀) => hB3.cell (p := p) (by omega)
  have HY := Lib.hid hY
  have HJ := Lib.hid hJ
  have HR := Lib.hid hR3
  have HN := Lib.hid hN
  have H0 := Lib.hid (hJ _ _ _ h0 hB3)
  have HX := Lib.hid hex
  have HZ := Lib.hid (show b < Y ∧ n₀ ≤ Y ∧ W.heap.size = Y ∧ W1.heap.size = Y + 1 ∧ W2.heap.size = Y + 2 ∧ W3.heap.size = Y + 3 ∧ E = Y + 1 ∧ C = Y + 2 by omega)
  have HE3 := Lib.hid hE3
  have HY3 := Lib.hid hY3
  have HC3 := Lib.hid hC3
  have hl1 : (N : Int) ≤ 17592186044416 := by omega
  have hl0 : N ≤ 17592186044416 := hl
  clear hJ hY hb hbl hex hr hN hn₀ h0 z1 z2 z3 hb1 hb2 hb3 s3 hl y1 hW3 hE3 hY3 hC3 hB3 hR3 e2
  refine callsIn_of_wp_marks Tryz.func56 rfl trivial ?_ rfl
  simp only [Tryz.ntmps56, List.size_toArray, List.length_cons, List.length_nil, Nat.reduceAdd, Nat.reduceSub, Array.replicate_succ, Array.replicate_zero, List.push_toArray, List.append_toArray, List.nil_append, List.cons_append]
  gi_wp2_with fail
  refine ⟨trivial, (callsIn_wide.2 HBW.out).mono ?_⟩
  rintro r w3 ⟨rfl, rfl⟩
  gi_wp2_with fail
  clear hYY hEE hCC hW1 hW2 c2
  refine range_below (by omega) (gf := 102) (lb := #[.pointer (some ⟨C, 0, none⟩)]) rfl (enters_of Tryz.func102 (by kernel_rfl) rfl)
    (cback_x (n - 1) C n₀ (M.exB ex E (w3.heap.size + 1)) A ca N js w3 hn2 HC3.out (by have := HZ.out; omega)
      (by rintro (h | h | h); (have := HX.out _ h; have := HZ.out; omega); (have := HZ.out; omega); (have := HZ.out; omega))
      (by rintro k (h | h | h); (have := HX.out _ h; omega); (have := HZ.out; omega); (have := HZ.out; omega)) HR.out HN.out hl0 (by have := HZ.out; omega))
    KpX.trans (fun W o' => KpX.put W o' (.inr (.inr rfl))) (fun _ => rfl)
    (BInv js N ex Y E (w3.heap.size + 1) (.func (.yield l) #[] #[]) J w3)
    ?hI ⟨N, [], rfl, ⟨rfl, Nat.le_refl _⟩, H0.out, by rw [List.drop_of_length_le (by rw [HN.out]; exact Nat.le_refl _)]; exact HE3.out, HY3.out, .refl _ _⟩
    (fun x => { tmps := #[.func (.yield l) #[] #[], .pointer (some ⟨b, 0, none⟩), .pointer (some ⟨Y, 0, none⟩), .pointer (some ⟨E, 0, none⟩), .int .i64 x.1, .int .i64 x.2, .slice A N ca, .func (.func 102) #[] #[.pointer (some ⟨C, 0, none⟩)], .int .i64 x.1, .int .i64 x.2, undef, undef, undef, undef, undef, undef, undef, undef, undef, undef, undef, undef, undef, undef, undef, undef], defers := [] }) ?assign ?body ?done
  case hI =>
    rintro s X Z ⟨k, p, h1, h2, h3, h4, h5, h6⟩ hb
    refine ⟨k, p, h1, h2, HJ.out _ _ _ h3 (hb.mono (by have := HZ.out; omega)), (hb.block _ (by have := HZ.out; omega)).trans h4, (hb.cell (p := ⟨Y, 0, none⟩) (by show Y < w3.heap.size; have := HZ.out; omega)).trans h5, ?_⟩
    exact ⟨hb.os.trans h6.os, hb.tape.trans h6.tape, hb.output.trans h6.output, Nat.le_trans h6.size hb.size, fun k hk hx => (hb.block k hk).trans (h6.block k hk hx)⟩
  case assign =>
    intro l' x W' K hK
    gi_wp2
    exact hK
  case body =>
    rintro Lp pre ⟨i, c⟩ W' ⟨k, p, h1, ⟨h2, h2'⟩, h3, h4, h5, h6⟩ hlen ⟨k', hk', hok⟩
    have hlk : k = k' + 1 := by
      have e1 := congrArg List.length h1
      have e2 := congrArg List.length hok
      simp only [List.length_append, S11.M.bks_len, List.length_singleton] at e1 e2
      omega
    subst hlk
    obtain ⟨rfl, hc⟩ := M.bks_last hok HN.out hk'
    obtain ⟨e, he⟩ : ∃ e, M.bk (js.drop (i + 1)) = e := ⟨_, rfl⟩
    obtain ⟨q, hq⟩ : ∃ e, M.prt c = e := ⟨_, rfl⟩
    obtain ⟨t, ht⟩ : ∃ e, M.trl c = e := ⟨_, rfl⟩
    rw [he] at h4
    have hd : M.bk (js.drop i) = (q || (e && t)) := by
      obtain ⟨hl', e1⟩ := List.getElem?_eq_some_iff.1 hc
      rw [List.drop_eq_getElem_cons hl', e1, M.bk_cons, he, hq, ht]
    have HP := rvParts_any c W'
    have HT := rvTrails_any c W'
    rw [hq] at HP
    rw [ht] at HT
    have HPP := Lib.hid (CallsIn.inRound Lp (callsIn_wide (n := n - 1 - 1 - 1).2 HP))
    have HTT := Lib.hid (CallsIn.inRound Lp (callsIn_wide (n := n - 1 - 1 - 1).2 HT))
    have hsz := h6.size
    have hYE : Y ≠ E := by have := HZ.out; omega
    have hEY : E ≠ Y := fun e => hYE e.symm
    have c4 := h4.cell
    have f4 := h4.frozen
    have hEl := h4.lt
    have hlp : p.length + (M.bs js (i + 1)).length ≤ N := by
      have e1 := congrArg List.length h2
      rw [List.length_append] at e1
      have := M.bs_len (l := js) (k := N)
      omega
    have hfin : ∀ (y : Bool) (p' : List Nat) (V : World), M.bk (js.drop i) = y → p' ++ M.bs js i = M.bs js N → J p' V → BoolAt V E y → KpX (fun k => ex k ∨ k = E) W' V →
        ownPostG w3.heap.size (KpX (M.exB ex E (w3.heap.size + 1))) (BInv js N ex Y E (w3.heap.size + 1) (.func (.yield l) #[] #[]) J w3) (fun _ _ _ => False) (pre ++ [(i, c)]) W' .normal { tmps := #[], defers := [] } V := by
      intro y p' V g1 g2 g3 g4 g5
      have g6 : KpX (M.exB ex E (w3.heap.size + 1)) W' V := g5.wider fun k hk => hk.elim .inl fun h => .inr (.inl h)
      refine ⟨⟨g5.size, fun k o hB hk _ => (g5.block k (Array.getElem?_eq_some_iff.1 hk).1 ?_).trans hk⟩, g6, i, p', hok, ⟨g2, by omega⟩, g3, by rw [g1]; exact g4, (g5.cell (p := ⟨Y, 0, none⟩) (by show Y < W'.heap.size; have := HZ.out; omega) ?_).trans h5, h6.trans g6⟩
      · rintro (h | h)
        · have := HX.out _ h
          have := HZ.out
          omega
        · have := HZ.out
          omega
      · rintro (h | h)
        · have h7 : Y < W.heap.size := (HX.out _ h).2
          have := HZ.out
          omega
        · exact hYE h
    have hset : ∀ y : Bool, BoolAt (W'.setCell ⟨E, 0, none⟩ (.bool y)) E y ∧ KpX (fun k => ex k ∨ k = E) W' (W'.setCell ⟨E, 0, none⟩ (.bool y)) ∧ J p (W'.setCell ⟨E, 0, none⟩ (.bool y)) := fun y =>
      ⟨h4.set y, .of_turned ((S12.Turned.refl W' E).setCell 0 (.bool y)) (.inr rfl), HJ.out _ _ _ h3 ((Below.refl W.heap.size W').setCell (p := ⟨E, 0, none⟩) (by show W.heap.size ≤ E; have := HZ.out; omega) (.bool y))⟩
    have hno : M.bk (js.drop i) = false → p ++ M.bs js i = M.bs js N := fun h => by
      rw [← h2]
      show _ = p ++ (if M.bk (js.drop i) = true then i :: M.bs js i else M.bs js i)
      rw [h]
      rfl
    have hyes : M.bk (js.drop i) = true → (p ++ [i]) ++ M.bs js i = M.bs js N ∧ p.length < N := fun h => by
      have e1 : M.bs js (i + 1) = i :: M.bs js i := by
        show (if M.bk (js.drop i) = true then i :: M.bs js i else M.bs js i) = _
        rw [h]
        rfl
      rw [e1] at h2 hlp
      exact ⟨by rw [← h2, List.append_assoc]; rfl, by simp at hlp; omega⟩
    have hgo : M.bk (js.drop i) = true → ∃ fn tmps assign body, (Instr.yield l #[.int .i64 i]).run Tryz.prog (W'.setCell ⟨E, 0, none⟩ (.bool true)) = .ok (.round l fn tmps assign body) (W'.setCell ⟨E, 0, none⟩ (.bool true)) ∧
        RoundIn (Fence.wide.inRound Lp) (n - 1 - 1 - 1) Tryz.prog l fn tmps assign body (W'.setCell ⟨E, 0, none⟩ (.bool true)) fun e V => e = .returned (.bool true) ∧ ownPostG w3.heap.size (KpX (M.exB ex E (w3.heap.size + 1))) (BInv js N ex Y E (w3.heap.size + 1) (.func (.yield l) #[] #[]) J w3) (fun _ _ _ => False) (pre ++ [(i, c)]) W' .normal { tmps := #[], defers := [] } V := fun h => by
      obtain ⟨g1, g2, g3⟩ := hset true
      obtain ⟨k1, k2⟩ := hyes h
      obtain ⟨fn, tmps, assign, body, hy, hR⟩ := HY.out p i _ g3 k2 ⟨p, i, rfl, hk'⟩
      refine ⟨fn, tmps, assign, body, hy, (roundIn_any hR).mono ?_⟩
      rintro e V ⟨rfl, hJ, hK⟩
      refine ⟨rfl, hfin true _ V h k1 hJ ?_ (g2.trans (hK.wider fun k hk => .inl hk))⟩
      exact (hK.block E g1.lt fun h => by have := HX.out _ h; have := HZ.out; omega).trans g1
    have HNO := Lib.hid (fun h : M.bk (js.drop i) = false => hfin false p _ h (hno h) (hset false).2.2 (hset false).1 (hset false).2.1)
    have HGO := Lib.hid hgo
    have HD := Lib.hid hd
    clear h1 h2 h3 h4 h6 hok hlen hc he hq ht hd HP HT hlp hfin hset hno hyes hgo
    dsimp only
    cases q <;> cases e <;> cases t
    · gi_wp2_with fail
      refine ⟨trivial, HPP.out.mono ?_⟩
      rintro r w4 ⟨rfl, rfl⟩
      gi_wp2_with fail
      refine ⟨trivial, ?_⟩
      gi_wp2_with fail
      refine ⟨fun _ h => (by cases h), ?_⟩
      gi_wp2_with fail
      exact HNO.out HD.out
    · gi_wp2_with fail
      refine ⟨trivial, HPP.out.mono ?_⟩
      rintro r w4 ⟨rfl, rfl⟩
      gi_wp2_with fail
      refine ⟨trivial, ?_⟩
      gi_wp2_with fail
      refine ⟨fun _ h => (by cases h), ?_⟩
      gi_wp2_with fail
      exact HNO.out HD.out
    · gi_wp2_with fail
      refine ⟨trivial, HPP.out.mono ?_⟩
      rintro r w4 ⟨rfl, rfl⟩
      gi_wp2_with fail
      refine ⟨trivial, HTT.out.mono ?_⟩
      rintro r w4 ⟨rfl, rfl⟩
      gi_wp2_with fail
      refine ⟨fun _ h => (by cases h), ?_⟩
      gi_wp2_with fail
      exact HNO.out HD.out
    · obtain ⟨fn, tmps, assign, body, hy, hR⟩ := HGO.out HD.out
      have HRR := Lib.hid hR
      clear hR
      gi_wp2_with fail
      refine ⟨trivial, HPP.out.mono ?_⟩
      rintro r w4 ⟨rfl, rfl⟩
      gi_wp2_with fail
      refine ⟨trivial, HTT.out.mono ?_⟩
      rintro r w4 ⟨rfl, rfl⟩
      gi_wp2_with fail
      refine HRR.out.mono ?_
      rintro e V ⟨rfl, hE⟩
      have HEN := Lib.hid hE
      clear hE
      gi_wp2_with fail
      exact HEN.out
    · obtain ⟨fn, tmps, assign, body, hy, hR⟩ := HGO.out HD.out
      have HRR := Lib.hid hR
      clear hR
      gi_wp2_with fail
      refine ⟨trivial, HPP.out.mono ?_⟩
      rintro r w4 ⟨rfl, rfl⟩
      gi_wp2_with fail
      all_goals first
        | (exfalso; rename_i b0 h0 _; injection h0 with h0; unfold undef at h0; cases h0; done)
        | (exfalso; rename_i b0 h0; injection h0 with h0; unfold undef at h0; cases h0; done)
        | skip
      refine ⟨trivial, ?_⟩
      gi_wp2_with fail
      refine HRR.out.mono ?_
      rintro e V ⟨rfl, hE⟩
      have HEN := Lib.hid hE
      clear hE
      gi_wp2_with fail
      exact HEN.out
    · obtain ⟨fn, tmps, assign, body, hy, hR⟩ := HGO.out HD.out
      have HRR := Lib.hid hR
      clear hR
      gi_wp2_with fail
      refine ⟨trivial, HPP.out.mono ?_⟩
      rintro r w4 ⟨rfl, rfl⟩
      gi_wp2_with fail
      all_goals first
        | (exfalso; rename_i b0 h0 _; injection h0 with h0; unfold undef at h0; cases h0; done)
        | (exfalso; rename_i b0 h0; injection h0 with h0; unfold undef at h0; cases h0; done)
        | skip
      refine ⟨trivial, ?_⟩
      gi_wp2_with fail
      refine HRR.out.mono ?_
      rintro e V ⟨rfl, hE⟩
      have HEN := Lib.hid hE
      clear hE
      gi_wp2_with fail
      exact HEN.out
    · obtain ⟨fn, tmps, assign, body, hy, hR⟩ := HGO.out HD.out
      have HRR := Lib.hid hR
      clear hR
      gi_wp2_with fail
      refine ⟨trivial, HPP.out.mono ?_⟩
      rintro r w4 ⟨rfl, rfl⟩
      gi_wp2_with fail
      all_goals first
        | (exfalso; rename_i b0 h0 _; injection h0 with h0; unfold undef at h0; cases h0; done)
        | (exfalso; rename_i b0 h0; injection h0 with h0; unfold undef at h0; cases h0; done)
        | skip
      refine ⟨trivial, ?_⟩
      gi_wp2_with fail
      refine HRR.out.mono ?_
      rintro e V ⟨rfl, hE⟩
      have HEN := Lib.hid hE
      clear hE
      gi_wp2_with fail
      exact HEN.out
    · obtain ⟨fn, tmps, assign, body, hy, hR⟩ := HGO.out HD.out
      have HRR := Lib.hid hR
      clear hR
      gi_wp2_with fail
      refine ⟨trivial, HPP.out.mono ?_⟩
      rintro r w4 ⟨rfl, rfl⟩
      gi_wp2_with fail
      all_goals first
        | (exfalso; rename_i b0 h0 _; injection h0 with h0; unfold undef at h0; cases h0; done)
        | (exfalso; rename_i b0 h0; injection h0 with h0; unfold undef at h0; cases h0; done)
        | skip
      refine ⟨trivial, ?_⟩
      gi_wp2_with fail
      refine HRR.out.mono ?_
      rintro e V ⟨rfl, hE⟩
      have HEN := Lib.hid hE
      clear hE
      gi_wp2_with fail
      exact HEN.out
  case done =>
    rintro D ys W' hD hys ⟨k, p, h1, ⟨h2, h2'⟩, h3, h4, h5, h6⟩ hK
    have hk0 : k = 0 := by
      have e1 := congrArg List.length h1
      rw [hys, List.length_append, S11.M.bks_len, S11.M.bks_len] at e1
      omega
    subst hk0
    have hp : p = M.bs js N := by rw [← h2]; exact (List.append_nil _).symm
    have HJD := Lib.hid (HJ.out _ _ _ h3 (below_put W' (.deferred none) (by have := HZ.out; omega : W.heap.size ≤ D)))
    have HK := Lib.hid hK
    have HP := Lib.hid hp
    clear h1 h2 h3 h4 h5 h6 hK hp hD hys
    gi_wp2_with fail
    refine ⟨by simp, .inl ⟨_, _, rfl, run_takeDeferred HK.out, ?_⟩⟩
    exact ⟨_, results_none rfl _ _ _, ⟨_, rfl⟩, p, HP.out, HJD.out⟩
theorem cbased_gives (n b n₀ : Nat) (ex : Nat → Prop) (A : Option Addr) (ca N : Nat) (js : List Int) (w : World) (hn : 5 ≤ n) (hb : w.cell? ⟨b, 0, none⟩ = some (.slice A N ca)) (hbl : b < w.heap.size) (hex : ∀ k, ex k → n₀ ≤ k ∧ k < w.heap.size + 2) (hr : RdS .i64 w n₀ A js) (hN : js.length = N) (hl : N ≤ 17592186044416) (hn₀ : n₀ ≤ w.heap.size) :
    GivesB n Tryz.prog 56 #[.pointer (some ⟨b, 0, none⟩)] (fun x : Nat => #[.int .i64 x]) (KpX ex) (fun xs => xs = M.bs js N) (M.BOk N) N w :=
  fun l J W hB hW hJ hY h0 => cbased1_in n l b n₀ ex A ca N js J hn W hJ hY ((hB.cell (p := ⟨b, 0, none⟩) hbl).trans hb) (Nat.lt_of_lt_of_le hbl hB.size) (fun k hk => ⟨(hex k hk).1, Nat.lt_of_lt_of_le (hex k hk).2 hW⟩) (hr.keep fun p hp => hB.cell (by omega)) hN hl (Nat.le_trans hn₀ hB.size) h0
theorem cbased_any (A : Option Addr) (ca n : Nat) (w : World) : Calls Tryz.prog 31 #[.slice A n ca] w fun r w' => r = .returned (.func (.func 56) #[] #[.pointer (some ⟨w.heap.size, 0, none⟩)]) ∧ w' = w.alloc (.cells #[.slice A n ca] 22) := by
  go_enter Tryz.func31, Tryz.ntmps31
  go_wp2_with fail
  go_ret
  exact ⟨rfl, rfl⟩
end Go.Proofs.YtjlfgojblimobaaGreat
end

section
namespace Go.Proofs.YtjlfgojblimobaaGreat
open Go.RowKit
set_option maxRecDepth 100000

structure LnAt (w : World) (G Lb Bx m : Nat) (b : Int) (W : World) (X : List Int) : Prop where
  below : Below w.heap.size w W
  row : S12.BlockAt W G 3 X
  len : X.length = m
  line : W.cell? ⟨Lb, 0, none⟩ = some (.slice (some ⟨G, 0, none⟩) m m)
  base : W.cell? ⟨Bx, 0, none⟩ = some (.int .i64 b)
  lo : w.heap.size ≤ G ∧ w.heap.size ≤ Lb ∧ w.heap.size ≤ Bx
  ne : G ≠ Lb ∧ G ≠ Bx ∧ Lb < W.heap.size ∧ Bx < W.heap.size
theorem LnAt.set {w W : World} {G Lb Bx m : Nat} {b : Int} {X : List Int} (h : LnAt w G Lb Bx m b W X) (k : Nat) (x : Int) : LnAt w G Lb Bx m b (W.setCell ⟨G, k, none⟩ (.int .i64 x)) (X.set k x) := by
  have hT := (S12.Turned.refl W G).setCell k (.int .i64 x)
  exact ⟨h.below.setCell (p := ⟨G, k, none⟩) h.lo.1 _, h.row.set x, by rw [List.length_set]; exact h.len, (hT.cell (p := ⟨Lb, 0, none⟩) (fun e => h.ne.1 e.symm)).trans h.line, (hT.cell (p := ⟨Bx, 0, none⟩) (fun e => h.ne.2.1 e.symm)).trans h.base, h.lo, h.ne.1, h.ne.2.1, by rw [hT.size]; exact h.ne.2.2.1, by rw [hT.size]; exact h.ne.2.2.2⟩
theorem LnAt.drew {w W : World} {G Lb Bx m : Nat} {b : Int} {X : List Int} (h : LnAt w G Lb Bx m b W X) : LnAt w G Lb Bx m b W.drew X :=
  ⟨h.below.drew, h.row, h.len, h.line, h.base, h.lo, h.ne⟩
theorem made_block (k : Nat) (W : World) : S12.BlockAt (W.alloc (.cells (madeCells (Value.int IntKind.i64 0).cells k) 3)) W.heap.size 3 (List.replicate k 0) := by
  unfold S12.BlockAt
  rw [World.alloc_heap_new, List.map_replicate, ← toList_madeCells_one (Value.int .i64 0) k]
  rfl
theorem two_makes1 (k : Nat) (W : World) : ∃ V, ((W.alloc (.cells (madeCells (Value.int IntKind.i64 0).cells k) 3)).alloc (.cells #[.slice (some ⟨W.heap.size, 0, none⟩) k k] 25)) = V ∧ Below W.heap.size W V ∧ S12.BlockAt V W.heap.size 3 (List.replicate k 0) ∧ V.cell? ⟨W.heap.size + 1, 0, none⟩ = some (.slice (some ⟨W.heap.size, 0, none⟩) k k) ∧ V.heap.size = W.heap.size + 2 := by
  obtain ⟨W1, hW1⟩ : ∃ W1, W.alloc (.cells (madeCells (Value.int IntKind.i64 0).cells k) 3) = W1 := ⟨_, rfl⟩
  have hk := made_block k W
  have hb : Below W.heap.size W W1 := by rw [← hW1]; exact (Below.refl _ _).alloc (Nat.le_refl _) _
  have hz : W1.heap.size = W.heap.size + 1 := by rw [← hW1]; simp
  rw [hW1] at hk ⊢
  obtain ⟨V, hV, hb2, hc, hz2⟩ := S12.new_slice W1 (.slice (some ⟨W.heap.size, 0, none⟩) k k) 25
  rw [hz] at hc
  exact ⟨V, hV, hb.trans (hb2.mono (by omega)), hk.below hb2 (by omega), hc, by omega⟩
theorem two_makes2 (k : Nat) (W : World) : ∃ V, ((W.alloc (.cells #[.slice (some ⟨W.heap.size + 1, 0, none⟩) k k] 25)).alloc (.cells (madeCells (Value.int IntKind.i64 0).cells k) 3)) = V ∧ Below W.heap.size W V ∧ S12.BlockAt V (W.heap.size + 1) 3 (List.replicate k 0) ∧ V.cell? ⟨W.heap.size, 0, none⟩ = some (.slice (some ⟨W.heap.size + 1, 0, none⟩) k k) ∧ V.heap.size = W.heap.size + 2 := by
  obtain ⟨W1, hW1, hb, hc, hz⟩ := S12.new_slice W (.slice (some ⟨W.heap.size + 1, 0, none⟩) k k) 25
  rw [hW1]
  have hk := made_block k W1
  have hb2 : Below W1.heap.size W1 (W1.alloc (.cells (madeCells (Value.int IntKind.i64 0).cells k) 3)) := (Below.refl _ _).alloc (Nat.le_refl _) _
  rw [hz] at hk
  exact ⟨_, rfl, hb.trans (hb2.mono (by omega)), hk, (hb2.cell (p := ⟨W.heap.size, 0, none⟩) (by show W.heap.size < W1.heap.size; omega)).trans hc, by simp; omega⟩
structure KpL (G : Nat) (A B : World) : Prop where
  size : A.heap.size ≤ B.heap.size
  block : ∀ k, k ≠ G → k < A.heap.size → B.heap[k]? = A.heap[k]?
theorem KpL.refl (G : Nat) (A : World) : KpL G A A := ⟨Nat.le_refl _, fun _ _ _ => rfl⟩
theorem KpL.trans {G : Nat} {A B C : World} (h : KpL G A B) (k : KpL G B C) : KpL G A C := ⟨Nat.le_trans h.size k.size, fun i hg hi => (k.block i hg (Nat.lt_of_lt_of_le hi h.size)).trans (h.block i hg hi)⟩
theorem KpL.set (W : World) (G k : Nat) (v : Value) : KpL G W (W.setCell ⟨G, k, none⟩ v) := by
  have hT := (S12.Turned.refl W G).setCell k v
  exact ⟨Nat.le_of_eq hT.size.symm, fun i hg _ => hT.block i hg⟩
noncomputable def blockAt (k : Nat) : Code → Option Code
  | .seq a b => (blockAt k a).or (blockAt k b)
  | .block i c => if i = k then some (.block i c) else blockAt k c
  | .cond _ a b => (blockAt k a).or (blockAt k b)
  | _ => none
noncomputable def afterAt (k : Nat) : Code → Option Code
  | .seq (.region i _ _) b => if i = k then some b else afterAt k b
  | .seq a b => (afterAt k a).or (afterAt k b)
  | .block _ c => afterAt k c
  | _ => none
noncomputable def lineBody : Code := (Tryz.f15.body).getD .skip
end Go.Proofs.YtjlfgojblimobaaGreat
end

section
namespace Go.Proofs.YtjlfgojblimobaaGreat
open Go.RowKit
set_option maxRecDepth 100000

set_option maxHeartbeats 8000000 in
theorem ln_loop1 {c : Code} (hc : blockAt 0 lineBody = some c) {Q : Exit → Act → World → Prop} {A' B : Option Addr} {c' cb n m f G Lb Bx : Nat} {b : Int} {Lc Lv lv : List Int} {w wc : World} {t0 t2 t3 t4 t5 t6 t7 t9 t11 t13 t14 t15 t16 t17 t18 t19 t20 t21 t22 t23 t24 t25 t26 t27 t28 t29 t30 t31 t32 t33 t34 t35 t36 t37 t38 t39 t40 t41 t42 t43 t44 t45 t46 t47 t48 t49 t50 t51 t52 t53 t54 t55 t56 t57 t58 t59 t63 t64 t65 t66 t67 t68 t69 t70 t71 t72 t73 t74 t75 t76 t77 t78 t79 t80 t81 t82 t83 t84 t85 t86 t87 t88 t89 t90 t91 t92 t93 t94 t95 t96 t97 t98 t99 t100 t101 t102 t103 t104 t105 t106 t107 t108 t109 t110 t111 t112 t113 t114 : Value}
    (hRA : RdS .i64 w w.heap.size A' Lc) (hr2 : RdS .i64 w w.heap.size B lv) (hn : lv.length = n) (hcl : Lc.length = m) (hvl : Lv.length = m) (hLN : LnAt w G Lb Bx m b wc (List.replicate m 0)) (hm : m ≤ 1000) (hn1 : n ≤ 1000) (fm : f + m ≤ n)
    (hV : ∀ (k : Nat) (x : Int), Lv[k]? = some x → lv[f + k]? = some x)
    (hQ : ∀ (v13 v14 v62 v63 v64 v65 v66 v67 v68 v69 v70 v71 v72 v73 v74 v75 v76 v77 v78 v79 v80 v81 : Value) (V : World), LnAt w G Lb Bx m b V (M.go1 Lc Lv) → Q .normal ⟨(List.toArray (t0 :: (.slice B n cb) :: t2 :: t3 :: t4 :: t5 :: t6 :: t7 :: (.int .i64 f) :: t9 :: (.pointer (some ⟨Bx, 0, none⟩)) :: t11 :: (.pointer (some ⟨Lb, 0, none⟩)) :: v13 :: v14 :: t15 :: t16 :: t17 :: t18 :: t19 :: t20 :: t21 :: t22 :: t23 :: t24 :: t25 :: t26 :: t27 :: t28 :: t29 :: t30 :: t31 :: t32 :: t33 :: t34 :: t35 :: t36 :: t37 :: t38 :: t39 :: t40 :: t41 :: t42 :: t43 :: t44 :: t45 :: t46 :: t47 :: t48 :: t49 :: t50 :: t51 :: t52 :: t53 :: t54 :: t55 :: t56 :: t57 :: t58 :: t59 :: (.slice A' m c') :: (.int .i64 m) :: v62 :: v63 :: v64 :: v65 :: v66 :: v67 :: v68 :: v69 :: v70 :: v71 :: v72 :: v73 :: v74 :: v75 :: v76 :: v77 :: v78 :: v79 :: v80 :: v81 :: t82 :: t83 :: t84 :: t85 :: t86 :: t87 :: t88 :: t89 :: t90 :: t91 :: t92 :: t93 :: t94 :: t95 :: t96 :: t97 :: t98 :: t99 :: t100 :: t101 :: t102 :: t103 :: t104 :: t105 :: t106 :: t107 :: t108 :: t109 :: t110 :: t111 :: t112 :: t113 :: t114 :: [])), []⟩ V) :
    c.wp Tryz.prog Q ⟨(List.toArray (t0 :: (.slice B n cb) :: t2 :: t3 :: t4 :: t5 :: t6 :: t7 :: (.int .i64 f) :: t9 :: (.pointer (some ⟨Bx, 0, none⟩)) :: t11 :: (.pointer (some ⟨Lb, 0, none⟩)) :: t13 :: t14 :: t15 :: t16 :: t17 :: t18 :: t19 :: t20 :: t21 :: t22 :: t23 :: t24 :: t25 :: t26 :: t27 :: t28 :: t29 :: t30 :: t31 :: t32 :: t33 :: t34 :: t35 :: t36 :: t37 :: t38 :: t39 :: t40 :: t41 :: t42 :: t43 :: t44 :: t45 :: t46 :: t47 :: t48 :: t49 :: t50 :: t51 :: t52 :: t53 :: t54 :: t55 :: t56 :: t57 :: t58 :: t59 :: (.slice A' m c') :: (.int .i64 m) :: (.int .i64 0) :: t63 :: t64 :: t65 :: t66 :: t67 :: t68 :: t69 :: t70 :: t71 :: t72 :: t73 :: t74 :: t75 :: t76 :: t77 :: t78 :: t79 :: t80 :: t81 :: t82 :: t83 :: t84 :: t85 :: t86 :: t87 :: t88 :: t89 :: t90 :: t91 :: t92 :: t93 :: t94 :: t95 :: t96 :: t97 :: t98 :: t99 :: t100 :: t101 :: t102 :: t103 :: t104 :: t105 :: t106 :: t107 :: t108 :: t109 :: t110 :: t111 :: t112 :: t113 :: t114 :: [])), []⟩ wc := by
  simp [blockAt, lineBody, Tryz.f15] at hc
  subst hc
  have hlen : Lc.length = Lv.length := by omega
  have hgl : (M.go1 Lc Lv).length = m := by rw [M.go1_len hlen, hcl]
  have hGL : G ≠ Lb := hLN.ne.1
  have hLG : Lb ≠ G := fun e => hGL e.symm
  have m1 : (m : Int) ≤ 1000 := by omega
  have n1 : (n : Int) ≤ 1000 := by omega
  have fm2 : (f : Int) + m ≤ n := by omega
  have f0 : (0 : Int) ≤ f := by omega
  have HRA := Lib.hid hRA
  have HR2 := Lib.hid hr2
  have HCL := Lib.hid (And.intro hcl (And.intro hvl hgl))
  have HN := Lib.hid hn
  have HV := Lib.hid hV
  have HQ := Lib.hid hQ
  have HLN := Lib.hid hLN
  clear hRA hr2 hn hcl hvl hLN hV hQ hlen hgl
  go_wp2_with fail
  go_loopw [62] (fun v wr => ∃ k : Nat, v = .int .i64 k ∧ k ≤ m ∧ LnAt w G Lb Bx m b wr ((M.go1 Lc Lv).take k ++ List.replicate (m - k) 0)) (fun v _ => m - (intOf v).toNat)
  case atStart => exact ⟨0, rfl, Nat.zero_le _, HLN.out⟩
  case round =>
    obtain ⟨k, rfl, hk, hln⟩ := hrel
    rename World => wr
    have HL := Lib.hid hln
    have k0 : (0 : Int) ≤ k := by omega
    by_cases hlt : k < m
    · have k1 : (k : Int) < m := by omega
      obtain ⟨ad, c, rfl, hcc, hc, -⟩ := rd_at HRA.out hln.below (by rw [HCL.out.1]; exact hlt : k < Lc.length)
      obtain ⟨x, hx⟩ : ∃ x, Lv[k]? = some x := ⟨_, List.getElem?_eq_getElem (by rw [HCL.out.2.1]; exact hlt)⟩
      obtain ⟨bd, y, rfl, hcx, hy, -⟩ := rd_at HR2.out hln.below (by rw [HN.out]; omega : f + k < lv.length)
      obtain ⟨j, hj⟩ : ∃ j, f + k = j := ⟨_, rfl⟩
      rw [hj] at hcx hy
      obtain rfl : y = x := by
        have h1 := HV.out k x hx
        rw [hj, hy] at h1
        injection h1
      have hw2 : (f : Int) + k = j := by omega
      have hw1 : IntKind.i64.wrap ((f : Int) + k) = j := by rw [IntKind.wrap_i64]; omega
      have hw5 : IntKind.i64.wrap (j : Int) = j := by rw [IntKind.wrap_i64]; omega
      have hw3 : (j : Int) < n := by omega
      have hw4 : (0 : Int) ≤ (j : Int) := by omega
      have hc1 := hln.line
      have hlz : ((M.go1 Lc Lv).take k).length = k := by rw [List.length_take, HCL.out.2.2]; omega
      have hz : ((M.go1 Lc Lv).take k ++ List.replicate (m - k) (0 : Int))[k]? = some 0 := by
        rw [List.getElem?_append_right (by rw [hlz]; exact Nat.le_refl _), hlz, Nat.sub_self, List.getElem?_replicate, if_pos (by omega)]
      have hc2 := hln.row.cell hz
      have hf2 := hln.row.frozen (j := k)
      obtain ⟨q, hq⟩ : ∃ q, M.removed c = q := ⟨_, rfl⟩
      have hset : ∀ z, ((M.go1 Lc Lv).take k ++ List.replicate (m - k) (0 : Int)).set k z = (M.go1 Lc Lv).take k ++ z :: List.replicate (m - (k + 1)) 0 := fun z => by
        rw [List.set_append_right _ _ (by rw [hlz]; exact Nat.le_refl _), hlz, Nat.sub_self, show m - k = (m - (k + 1)) + 1 by omega, List.replicate_succ, List.set_cons_zero]
      have hg := M.go1_at hc hx
      rw [hq] at hg
      have hnext : (M.go1 Lc Lv).take k ++ (if q = true then -1 else y) :: List.replicate (m - (k + 1)) 0 = (M.go1 Lc Lv).take (k + 1) ++ List.replicate (m - (k + 1)) 0 := by
        obtain ⟨hl', e⟩ := List.getElem?_eq_some_iff.1 hg
        rw [List.take_succ_eq_append_getElem hl', e, List.append_assoc]
        rfl
      have HSET := Lib.hid (And.intro hset hnext)
      have HLS := Lib.hid (hln.drew.set k y)
      have HRM := Lib.hid (fun W => rvRemoved_any c W)
      rw [hq] at HRM
      clear hln hc hx hy hlz hz hg hset hnext hq hj
      go_wp2_with fail
      go_still_tail 9, (by kernel_rfl)
      change wpList _ _ _ _ _ wr.drew
      go_wp2_with fail
      refine (HRM.out _).mono ?_
      rintro r w5 ⟨rfl, rfl⟩
      cases q with
      | false =>
        have HN1 := Lib.hid (show LnAt w G Lb Bx m b (wr.drew.setCell ⟨G, k, none⟩ (.int .i64 y)) ((M.go1 Lc Lv).take (k + 1) ++ List.replicate (m - (k + 1)) 0) from by
          have h := HLS.out
          rwa [HSET.out.1, show y = (if false = true then -1 else y) from rfl, HSET.out.2] at h)
        go_wp2_with fail
        go_roundw
        case rel => exact ⟨k + 1, by go_num, by omega, HN1.out⟩
        case measure => simp [intOf]; omega
      | true =>
        have HN1 := Lib.hid (show LnAt w G Lb Bx m b ((wr.drew.setCell ⟨G, k, none⟩ (.int .i64 y)).setCell ⟨G, k, none⟩ (.int .i64 (-1))) ((M.go1 Lc Lv).take (k + 1) ++ List.replicate (m - (k + 1)) 0) from by
          have h := HLS.out.set k (-1)
          rw [List.set_set, HSET.out.1] at h
          have e := HSET.out.2
          rw [if_pos rfl] at e
          rwa [e] at h)
        go_wp2_with fail
        go_roundw
        case rel => exact ⟨k + 1, by go_num, by omega, HN1.out⟩
        case measure => simp [intOf]; omega
    · obtain rfl : m = k := by omega
      have k1 : ¬ (m : Int) < m := by omega
      have h := hln
      rw [List.take_of_length_le (by rw [HCL.out.2.2]; exact Nat.le_refl _), Nat.sub_self, List.replicate_zero, List.append_nil] at h
      have HE := Lib.hid h
      clear hln h
      go_wp2_with fail
      exact HQ.out _ _ _ _ _ _ _ _ _ _ _ _ _ _ _ _ _ _ _ _ _ _ _ HE.out
end Go.Proofs.YtjlfgojblimobaaGreat
end

section
namespace Go.Proofs.YtjlfgojblimobaaGreat
open Go.RowKit
set_option maxRecDepth 100000

attribute [local go_sem] Oper.semAt_some
theorem LnAt.keep {w A B : World} {G Lb Bx m N : Nat} {b : Int} {X : List Int} (h : LnAt w G Lb Bx m b A X) (hb : Below N A B) (hN : w.heap.size ≤ N) (hG : G < N) (hL : Lb < N) (hB : Bx < N) : LnAt w G Lb Bx m b B X :=
  ⟨h.below.trans (hb.mono hN), h.row.below hb hG, h.len, (hb.cell (p := ⟨Lb, 0, none⟩) hL).trans h.line, (hb.cell (p := ⟨Bx, 0, none⟩) hB).trans h.base, h.lo, h.ne.1, h.ne.2.1, Nat.lt_of_lt_of_le h.ne.2.2.1 hb.size, Nat.lt_of_lt_of_le h.ne.2.2.2 hb.size⟩
set_option maxHeartbeats 8000000 in
theorem ln_range {c : Code} (hc : blockAt 2 lineBody = some c) {Q : Exit → Act → World → Prop} {A' B : Option Addr} {c' cb n m f G Lb Bx bA : Nat} {b : Int} {Lc Lv : List Int} {w wc : World} {t0 t2 t3 t4 t5 t6 t7 t9 t11 t13 t14 t15 t16 t17 t18 t19 t20 t21 t22 t23 t24 t25 t26 t27 t28 t29 t30 t31 t32 t33 t34 t35 t36 t37 t38 t39 t40 t41 t42 t43 t44 t45 t46 t47 t48 t49 t50 t51 t52 t53 t54 t55 t56 t57 t58 t59 t60 t61 t62 t63 t64 t65 t66 t67 t68 t69 t70 t71 t72 t73 t74 t75 t76 t77 t78 t79 t80 t81 t82 t84 t85 t86 t87 t88 t89 t90 t91 t92 t93 t94 t95 t96 t97 t98 t99 t100 t101 t102 t103 t104 t105 t106 t107 t108 t109 t110 t111 t112 t113 t114 : Value}
    (hRA : RdS .i64 w w.heap.size A' Lc) (hcl : Lc.length = m) (hvl : Lv.length = m) (hLN : LnAt w G Lb Bx m b wc (M.go1 Lc Lv)) (hbA : wc.cell? ⟨bA, 0, none⟩ = some (.slice A' m c')) (hbl : bA < wc.heap.size) (hm : m ≤ 1000)
    (hQ : ∀ (D : Nat) (V : World), LnAt w G Lb Bx m b V (M.go2 b Lc Lv) → G < D → V.heap[D]? = some (.deferred (some [])) → Q .normal ⟨(List.toArray (t0 :: (.slice B n cb) :: t2 :: t3 :: t4 :: t5 :: t6 :: t7 :: (.int .i64 f) :: t9 :: (.pointer (some ⟨Bx, 0, none⟩)) :: t11 :: (.pointer (some ⟨Lb, 0, none⟩)) :: t13 :: t14 :: t15 :: t16 :: t17 :: t18 :: t19 :: t20 :: t21 :: t22 :: t23 :: t24 :: t25 :: t26 :: t27 :: t28 :: t29 :: t30 :: t31 :: t32 :: t33 :: t34 :: t35 :: t36 :: t37 :: t38 :: t39 :: t40 :: t41 :: t42 :: t43 :: t44 :: t45 :: t46 :: t47 :: t48 :: t49 :: t50 :: t51 :: t52 :: t53 :: t54 :: t55 :: t56 :: t57 :: t58 :: t59 :: t60 :: t61 :: t62 :: t63 :: t64 :: t65 :: t66 :: t67 :: t68 :: t69 :: t70 :: t71 :: t72 :: t73 :: t74 :: t75 :: t76 :: t77 :: t78 :: t79 :: t80 :: t81 :: t82 :: (.func (.func 56) #[] #[.pointer (some ⟨bA, 0, none⟩)]) :: t84 :: t85 :: t86 :: t87 :: t88 :: t89 :: t90 :: t91 :: t92 :: t93 :: t94 :: t95 :: t96 :: t97 :: t98 :: t99 :: t100 :: t101 :: t102 :: t103 :: t104 :: t105 :: t106 :: t107 :: t108 :: t109 :: t110 :: t111 :: t112 :: t113 :: t114 :: [])), { target := .collected D, args := #[] } :: []⟩ V) :
    c.wp Tryz.prog Q ⟨(List.toArray (t0 :: (.slice B n cb) :: t2 :: t3 :: t4 :: t5 :: t6 :: t7 :: (.int .i64 f) :: t9 :: (.pointer (some ⟨Bx, 0, none⟩)) :: t11 :: (.pointer (some ⟨Lb, 0, none⟩)) :: t13 :: t14 :: t15 :: t16 :: t17 :: t18 :: t19 :: t20 :: t21 :: t22 :: t23 :: t24 :: t25 :: t26 :: t27 :: t28 :: t29 :: t30 :: t31 :: t32 :: t33 :: t34 :: t35 :: t36 :: t37 :: t38 :: t39 :: t40 :: t41 :: t42 :: t43 :: t44 :: t45 :: t46 :: t47 :: t48 :: t49 :: t50 :: t51 :: t52 :: t53 :: t54 :: t55 :: t56 :: t57 :: t58 :: t59 :: t60 :: t61 :: t62 :: t63 :: t64 :: t65 :: t66 :: t67 :: t68 :: t69 :: t70 :: t71 :: t72 :: t73 :: t74 :: t75 :: t76 :: t77 :: t78 :: t79 :: t80 :: t81 :: t82 :: (.func (.func 56) #[] #[.pointer (some ⟨bA, 0, none⟩)]) :: t84 :: t85 :: t86 :: t87 :: t88 :: t89 :: t90 :: t91 :: t92 :: t93 :: t94 :: t95 :: t96 :: t97 :: t98 :: t99 :: t100 :: t101 :: t102 :: t103 :: t104 :: t105 :: t106 :: t107 :: t108 :: t109 :: t110 :: t111 :: t112 :: t113 :: t114 :: [])), []⟩ wc := by
  simp [blockAt, lineBody, Tryz.f15] at hc
  subst hc
  have hlen : Lc.length = Lv.length := by omega
  have hgl : (M.go1 Lc Lv).length = m := by rw [M.go1_len hlen, hcl]
  have hGs := hLN.row.lt
  have hlo := hLN.lo
  have hne := hLN.ne
  have hsz := hLN.below.size
  refine (wpIn_wide (n := 7)).1 ?_
  gi_wp2_with fail
  refine range_below (by omega) (gf := 56) (lb := #[.pointer (some ⟨bA, 0, none⟩)]) rfl (enters_of Tryz.func56 (by kernel_rfl) rfl)
    (cbased_gives 6 bA w.heap.size (fun k => k = G ∨ k = wc.heap.size + 1) A' c' m Lc wc (by omega) hbA hbl (by rintro k (h | h) <;> omega) (hRA.keep fun p hp => hLN.below.cell hp) hcl (by omega) hsz)
    KpX.trans (fun W o' => KpX.put W o' (.inr rfl)) (fun _ => rfl)
    (fun pre W => LnAt w G Lb Bx m b W (M.puts b (M.go1 Lc Lv) pre)) (fun s X Y h hb => h.keep hb hsz hGs hne.2.2.1 hne.2.2.2) hLN
    (fun x => ⟨(List.toArray (t0 :: (.slice B n cb) :: t2 :: t3 :: t4 :: t5 :: t6 :: t7 :: (.int .i64 f) :: t9 :: (.pointer (some ⟨Bx, 0, none⟩)) :: t11 :: (.pointer (some ⟨Lb, 0, none⟩)) :: t13 :: t14 :: (.int .i64 x) :: t16 :: t17 :: t18 :: t19 :: t20 :: t21 :: t22 :: t23 :: t24 :: t25 :: t26 :: t27 :: t28 :: t29 :: t30 :: t31 :: t32 :: t33 :: t34 :: t35 :: t36 :: t37 :: t38 :: t39 :: t40 :: t41 :: t42 :: t43 :: t44 :: t45 :: t46 :: t47 :: t48 :: t49 :: t50 :: t51 :: t52 :: t53 :: t54 :: t55 :: t56 :: t57 :: t58 :: t59 :: t60 :: t61 :: t62 :: t63 :: t64 :: t65 :: t66 :: t67 :: t68 :: t69 :: t70 :: t71 :: t72 :: t73 :: t74 :: t75 :: t76 :: t77 :: t78 :: t79 :: t80 :: t81 :: t82 :: (.func (.func 56) #[] #[.pointer (some ⟨bA, 0, none⟩)]) :: (.int .i64 x) :: t85 :: t86 :: t87 :: t88 :: t89 :: t90 :: t91 :: t92 :: t93 :: t94 :: t95 :: t96 :: t97 :: t98 :: t99 :: t100 :: t101 :: t102 :: t103 :: t104 :: t105 :: t106 :: t107 :: t108 :: t109 :: t110 :: t111 :: t112 :: t113 :: t114 :: [])), []⟩) ?assign ?body ?done
  case assign =>
    intro l' x W' K hK
    gi_wp2
    exact hK
  case body =>
    rintro Lp pre x W' hln - ⟨q, y, hqy, hy⟩
    have hxm : x < m := by
      obtain ⟨-, h⟩ := List.append_inj' hqy rfl
      injection h with h
      omega
    have x0 : (0 : Int) ≤ x := by omega
    have x1 : (x : Int) < m := by omega
    obtain ⟨z, hz⟩ : ∃ z, (M.puts b (M.go1 Lc Lv) pre)[x]? = some z := ⟨_, List.getElem?_eq_getElem (by rw [M.puts_len, hgl]; exact hxm)⟩
    have hc1 := hln.line
    have hc2 := hln.base
    have hc3 := hln.row.cell hz
    have hf3 := hln.row.frozen (j := x)
    have hGL := hne.1
    have hLG : Lb ≠ G := fun e => hGL e.symm
    have hGB := hne.2.1
    have hBG : Bx ≠ G := fun e => hGB e.symm
    have hT := (S12.Turned.refl W' G).setCell x (.int .i64 b)
    have HE := Lib.hid (show ownPostG wc.heap.size (KpX fun k => k = G ∨ k = wc.heap.size + 1) (fun pre W => LnAt w G Lb Bx m b W (M.puts b (M.go1 Lc Lv) pre)) (fun _ _ _ => False) (pre ++ [x]) W' .normal { tmps := #[], defers := [] } (W'.setCell ⟨G, x, none⟩ (.int .i64 b)) from by
      refine ⟨⟨Nat.le_of_eq hT.size.symm, fun k o hB hk _ => (hT.block k (by omega)).trans hk⟩, .of_turned hT (.inl rfl), ?_⟩
      show LnAt w G Lb Bx m b _ (M.puts b (M.go1 Lc Lv) (pre ++ [x]))
      rw [M.puts_snoc]
      exact hln.set x b)
    clear hln hz hT hqy
    gi_wp2_with fail
    exact HE.out
  case done =>
    rintro D xs W' hD rfl hln hK
    have HQ := Lib.hid (hQ D W' (by unfold M.go2; rw [hcl]; exact hln) (by omega) hK)
    clear hQ hln hK
    gi_wp2_with fail
    exact HQ.out
end Go.Proofs.YtjlfgojblimobaaGreat
end
