/- The contracts of package bracket's kind, strong and nearest. Condition: the slice reads as a list of at most 2^44. -/
/- The contracts of package bracket's set and becomes. Conditions: the slices read as lists of at most 2^44; the places lie in them; set's row is the caller's own. -/
/- What package bracket's Pairs holds while it goes: its three boxes, the row of pairs and the row of those that wait, and the marks of its loops. No function of the program is walked here. -/
/-
  The library's contracts of slices.SortFunc at pairs and of cmp.Compare at whole numbers, laid at this translation. No conditions.
-/
import Derived.Test.YtjlfgojblimobaaGreatA25
import Derived.Maps.AppendAt
import Derived.Shelf.SlGeneric
import Derived.Shelf.SlSortCmp.WholeK
import Derived.Shelf.SlSortCmp.NoneTotal
import Derived.Shelf.SlicesG.Cmp
import Derived.Ground.SlsfProg
import Derived.Ground.SlgcProg
import Derived.Test.YtjlfgojblimobaaGreatProg
section
namespace Go.Proofs.YtjlfgojblimobaaGreat.S11
open Go.RowKit Go.Shelf
attribute [local go_sem] Oper.semAt_some
set_option maxRecDepth 100000

def M.sg0 (c : Int) : Int := if M.sg c = 13 then 0 else M.sg c
def M.isS (c : Int) : Bool := decide (M.sg c ≠ 13)
set_option maxHeartbeats 1000000 in
theorem ckind_any (c a b : Int) (w : World) : Calls Tryz.prog 114 #[.int .i64 c, .agg #[.int .i64 a, .int .i64 b]] w fun r w' => r = .returned (.int .i64 (if c = 13 then a else 0)) ∧ Below w.heap.size w w' := by
  obtain ⟨z, hz⟩ : ∃ z, (if c = 13 then a else 0) = z := ⟨_, rfl⟩
  have HANS := Lib.hid hz
  rw [hz]
  clear hz
  go_enter Tryz.func114, Tryz.ntmps114
  go_wp2_with fail
  all_goals
    go_ret
    exact ⟨ret_int (by rw [← HANS.out]; simp_all), (Below.refl _ w).alloc (Nat.le_refl _) _⟩
set_option maxHeartbeats 1000000 in
theorem cstrong_any (c : Int) (w : World) : Calls Tryz.prog 119 #[.int .i64 c] w fun r w' => r = .returned (.tuple #[.int .i64 (M.sg0 c), .bool (M.isS c)]) ∧ w' = w := by
  obtain ⟨z, hz⟩ : ∃ z, M.sg0 c = z := ⟨_, rfl⟩
  obtain ⟨y, hy⟩ : ∃ y, M.isS c = y := ⟨_, rfl⟩
  rw [hz, hy]
  unfold M.sg0 M.sg at hz
  unfold M.isS M.sg at hy
  have HZ := Lib.hid hz
  have HY := Lib.hid hy
  clear hz hy
  go_enter Tryz.func119, Tryz.ntmps119
  go_wp2_with fail
  all_goals
    go_returns
    exact ⟨by rw [← HZ.out, ← HY.out]; simp_all, rfl⟩
theorem M.bks_rev (l : List Int) (k : Nat) (hk : k ≤ l.length) : (M.bks l k).map (·.2) = (l.take k).reverse := by
  induction k with
  | zero => rfl
  | succ k ih =>
    have h := List.getElem?_eq_getElem (l := l) (i := k) (by omega)
    have e : l.getD k 0 = l[k] := by rw [List.getD_eq_getElem?_getD, h]; rfl
    rw [List.take_succ_eq_append_getElem (by omega), List.reverse_append]
    show l.getD k 0 :: (M.bks l k).map (·.2) = _
    rw [ih (by omega), e]
    rfl
theorem M.ahd_app (f : Int) {a b : List Int} (h : ∀ x ∈ a, M.sg x = 13) : M.ahd f (a ++ b) = M.ahd f b := by
  induction a with
  | nil => rfl
  | cons x a ih =>
    show (if M.sg x = 13 then M.ahd f (a ++ b) else M.sg x) = _
    rw [if_pos (h x (by simp))]
    exact ih fun y hy => h y (by simp [hy])
structure Held (B n : Nat) (w : World) (v : Int) (W : World) : Prop where
  box : Boxed W B 39 (.int .i64 v)
  below : Below w.heap.size w W
  size : n ≤ W.heap.size
theorem Held.still {B n : Nat} {w W W' : World} {v : Int} (h : Held B n w v W) (hs : Still (ours mineN) n W W') (hB : B < n) (hn : w.heap.size ≤ n) : Held B n w v W' :=
  ⟨(hs.below.block B hB).trans h.box, h.below.trans (hs.below.mono hn), Nat.le_trans h.size hs.below.size⟩
theorem held_leaves {n D B b : Nat} {fn : Func} {p : Tmp} {tmps : Array Value} {w W : World} {v : Int} (hres : fn.results = #[.cell p 39]) (hp : tmps[p]? = some (.pointer (some ⟨B, 0, none⟩))) (hbox : Boxed W B 39 (.int .i64 v)) (hK : W.heap[D]? = some (.deferred (some []))) (hne : D ≠ B) (hB : Below w.heap.size w W) (hD : b ≤ D) (hw : w.heap.size ≤ b) :
    LeavesInM Fence.wide n Tryz.prog fn tmps (fun r w' => r = .returned (.int .i64 v) ∧ Below w.heap.size w w') [] .returning (W.putObj D (.deferred none)) := by
  have hbox2 : Boxed (W.putObj D (.deferred none)) B 39 (.int .i64 v) := (World.putObj_heap_other (fun e => hne e.symm)).trans hbox
  have hc := hbox2.cell
  have hb2 : Below w.heap.size w (W.putObj D (.deferred none)) := hB.trans (belowK_b (w := w) (Nat.le_refl _) W D _ _ (by omega) hK rfl rfl)
  have hp2 : tmps[p]?.getD undef = .pointer (some ⟨B, 0, none⟩) := by rw [hp]; rfl
  refine ⟨.int .i64 v, ?_, rfl, hb2⟩
  simp [results, hres, hp2, go_sem, hc]
set_option maxHeartbeats 4000000 in
theorem cnearest_any (A : Option Addr) (ca n : Nat) (f : Int) (l : List Int) (w : World) (hr : RdS .i64 w w.heap.size A l) (hn : l.length = n) (hl : n ≤ 17592186044416) :
    Calls Tryz.prog 120 #[.slice A n ca, .int .i64 f] w fun r w' => r = .returned (.int .i64 (M.ahd f l.reverse)) ∧ Below w.heap.size w w' := by
  refine (callsIn_wide (n := 5)).1 ?_
  refine callsIn_of_wp_marks Tryz.func120 rfl trivial ?_ rfl
  simp only [Tryz.ntmps120, List.size_toArray, List.length_cons, List.length_nil, Nat.reduceAdd, Nat.reduceSub, Array.replicate_succ, Array.replicate_zero, List.push_toArray, List.append_toArray, List.nil_append, List.cons_append]
  have HR := Lib.hid hr
  have HN := Lib.hid hn
  have hl1 : (n : Int) ≤ 17592186044416 := by omega
  clear hr hn
  gi_wp2_with fail
  refine ⟨trivial, ?_⟩
  refine (callsIn_wide.2 (cbackward_any A ca n _)).mono ?_
  rintro e w' ⟨rfl, rfl⟩
  gi_wp2_with fail
  have bO := Boxed.new w 39 (.int .i64 0)
  obtain ⟨w1, hw1⟩ : ∃ X, w.alloc (.cells #[.int .i64 0] 39) = X := ⟨_, rfl⟩
  rw [hw1] at bO ⊢
  have hs1 : w1.heap.size = w.heap.size + 1 := by rw [← hw1]; simp
  have hb1 : Below w.heap.size w w1 := by rw [← hw1]; exact (Below.refl _ w).alloc (Nat.le_refl _) _
  have bS := Boxed.new w1 22 (.slice A n ca)
  have bO2 := bO.alloc (.cells #[.slice A n ca] 22)
  rw [hs1] at bS
  obtain ⟨w2, hw2⟩ : ∃ X, w1.alloc (.cells #[.slice A n ca] 22) = X := ⟨_, rfl⟩
  have hs2 : w2.heap.size = w.heap.size + 2 := by rw [← hw2]; simp; omega
  have hb2 : Below w.heap.size w w2 := by rw [← hw2]; exact hb1.alloc (by omega) _
  rw [hw2] at bS bO2 ⊢
  clear hw2 hw1 bO
  refine range_mine (by omega) (gf := 102) (lb := #[.pointer (some ⟨w.heap.size + 1, 0, none⟩)]) rfl (enters_of Tryz.func102 (by kernel_rfl) rfl) mineN_not
    (cback_gives 4 (w.heap.size + 1) w2.heap.size A ca n l w2 (by omega) bS.cell (by omega) ((HR.out.below hb2).more hb2.size) HN.out hl (Nat.le_refl _)) Below.trans (keeps_below (Nat.le_refl _)) (fun _ => rfl)
    (fun (pre : List (Nat × Int)) (W : World) => (∀ x ∈ pre.map (fun y : Nat × Int => y.2), M.sg x = 13) ∧ Held w.heap.size w2.heap.size w 0 W) (fun (c : Code) (pre : List (Nat × Int)) (W : World) => c = .ret ∧ ∃ (q : List (Nat × Int)) (x : Nat × Int), pre = q ++ [x] ∧ (∀ x ∈ q.map (fun y : Nat × Int => y.2), M.sg x = 13) ∧ M.sg x.2 ≠ 13 ∧ Held w.heap.size w2.heap.size w (M.sg x.2) W)
    (fun _ _ _ h hs => ⟨h.1, h.2.still hs (by omega) (by omega)⟩) (fun _ _ _ _ ⟨hc, q, x, h1, h2, h3, h4⟩ hs => ⟨hc, q, x, h1, h2, h3, h4.still hs (by omega) (by omega)⟩)
    ⟨fun x h => by simp at h, bO2, hb2, Nat.le_refl _⟩
    (fun x => { tmps := #[.slice A n ca, .int .i64 f, undef, undef, .pointer (some ⟨w.heap.size, 0, none⟩), undef, .int .i64 x.2, undef, undef, .slice A n ca, .func (.func 102) #[] #[.pointer (some ⟨w.heap.size + 1, 0, none⟩)], .int .i64 x.1, .int .i64 x.2, undef, undef, undef, undef, undef, undef, undef, undef], defers := [] }) ?assign ?body ?done ?stop
  case assign =>
    intro l x W K hK
    gi_wp2
    exact hK
  case body =>
    rintro L pre x W ⟨hall, hbox, hB, hS⟩ hlt -
    have hc := hbox.cell
    have hf := hbox.frozen
    have HALL := Lib.hid hall
    obtain ⟨s0, hs0⟩ : ∃ s, M.sg0 x.2 = s := ⟨_, rfl⟩
    obtain ⟨b0, hb0⟩ : ∃ s, M.isS x.2 = s := ⟨_, rfl⟩
    have HCS := Lib.hid (cstrong_any x.2 W)
    rw [hs0, hb0] at HCS
    have HS0 := Lib.hid hs0
    have HB0 := Lib.hid hb0
    clear hall hs0 hb0
    gi_wp2_with fail
    refine ⟨trivial, ?_⟩
    refine (CallsIn.inRound L (callsIn_wide.2 HCS.out)).mono ?_
    rintro e w' ⟨rfl, rfl⟩
    cases b0 with
    | true =>
      gi_wp2_with fail
      have h13 : M.sg x.2 ≠ 13 := by have := HB0.out; unfold M.isS at this; simpa using this
      have hss : s0 = M.sg x.2 := by rw [← HS0.out]; unfold M.sg0; rw [if_neg h13]
      refine ⟨(KeepsOthers.setCell _ _ _).from _, rfl, pre, x, rfl, HALL.out, h13, by rw [← hss]; exact hbox.set _, hB.setCell (p := ⟨w.heap.size, 0, none⟩) (Nat.le_refl _) _, by simpa [World.setCell] using hS⟩
    | false =>
      gi_wp2_with fail
      have h13 : M.sg x.2 = 13 := by have := HB0.out; unfold M.isS at this; simpa using this
      refine ⟨(KeepsOthers.refl _).from _, Below.refl _ _, fun y hy => ?_, hbox, hB, hS⟩
      rw [List.map_append, List.mem_append] at hy
      rcases hy with hy | hy
      · exact HALL.out y hy
      · simp at hy
        rw [hy]
        exact h13
  case done =>
    rintro D ys W hD hys ⟨hall, hbox, hB, _⟩ hK
    have HA := Lib.hid (show M.ahd f l.reverse = f by
      have h1 := M.bks_rev l n (by rw [HN.out]; exact Nat.le_refl _)
      rw [← hys, List.take_of_length_le (by rw [HN.out]; exact Nat.le_refl _)] at h1
      rw [← h1, ← List.append_nil (ys.map _), M.ahd_app f hall]
      rfl)
    have hc := hbox.cell
    have hf := hbox.frozen
    clear hys hall
    gi_wp2
    have hK2 := (Below.heap_setCell W ⟨w.heap.size, 0, none⟩ (.int .i64 f) D (by show D ≠ w.heap.size; omega)).trans hK
    refine ⟨by simp, .inl ⟨_, _, rfl, run_takeDeferred hK2, ?_⟩⟩
    rw [HA.out]
    exact held_leaves rfl rfl (hbox.set _) hK2 (by omega) (hB.setCell (p := ⟨w.heap.size, 0, none⟩) (Nat.le_refl _) _) hD (by omega)
  case stop =>
    rintro D c pre W hD ⟨k, hk, hpre⟩ ⟨rfl, q, x, rfl, hall, h13, hbox, hB, _⟩ hK
    have HA := Lib.hid (show M.ahd f l.reverse = M.sg x.2 by
      have h1 := M.bks_rev l n (by rw [HN.out]; exact Nat.le_refl _)
      rw [← hpre, List.take_of_length_le (by rw [HN.out]; exact Nat.le_refl _)] at h1
      rw [← h1, List.map_append, List.map_append, List.append_assoc, M.ahd_app f hall]
      show (if M.sg x.2 = 13 then _ else M.sg x.2) = _
      rw [if_neg h13])
    have hc := hbox.cell
    have hf := hbox.frozen
    clear hpre hall
    gi_wp2
    refine ⟨by simp, .inl ⟨_, _, rfl, run_takeDeferred hK, ?_⟩⟩
    rw [HA.out]
    exact held_leaves rfl rfl hbox hK (by omega) hB hD (by omega)
end Go.Proofs.YtjlfgojblimobaaGreat.S11
end

section
namespace Go.Proofs.YtjlfgojblimobaaGreat.S11
open Go.RowKit
set_option maxRecDepth 100000

set_option maxHeartbeats 4000000 in
theorem cset_any (A : Option Addr) (ca G cb n at_ base : Nat) (came O : List Int) (s : Int) (w : World) (hr : RdS .i64 w base A came) (hn : came.length = n) (hl : n ≤ 17592186044416) (ho : w.ownsRow base 39 1 (.slice (some ⟨G, 0, none⟩) n cb) n (O.map (Value.int .i64))) (hol : O.length = n) (hat : at_ < n) :
    Calls Tryz.prog 78 #[.slice A n ca, .slice (some ⟨G, 0, none⟩) n cb, .int .i64 at_, .int .i64 s] w fun r w' => r = .returned (.tuple #[]) ∧ w'.ownsRow base 39 1 (.slice (some ⟨G, 0, none⟩) n cb) n ((M.cset came O at_ s).map (Value.int .i64)) ∧ Turned w w' G := by
  have hG := World.ownsRow.lt ho G rfl
  obtain ⟨x0, hx0⟩ : ∃ x, O[at_]? = some x := ⟨_, List.getElem?_eq_getElem (by omega)⟩
  have c0 : w.cell? ⟨G, at_, none⟩ = some (.int .i64 x0) := by
    rw [World.ownsRow.cellAt ho at_ (by omega), List.getElem?_map, hx0]
    rfl
  have hl1 : (n : Int) ≤ 17592186044416 := by omega
  have ha0 : (0 : Int) ≤ at_ := by omega
  have ha1 : (at_ : Int) < n := by omega
  by_cases hxs : x0 = s
  · have HO := Lib.hid (show w.ownsRow base 39 1 (.slice (some ⟨G, 0, none⟩) n cb) n ((M.cset came O at_ s).map (Value.int .i64)) by
      unfold M.cset
      rw [if_pos (by rw [hx0, hxs])]
      exact ho)
    have bx : (x0 == s) = true := by simp [hxs]
    clear hr hn ho hol hx0 hxs hl hat
    go_enter Tryz.func78, Tryz.ntmps78
    go_wp2_with fail
    go_returns
    exact ⟨rfl, HO.out, Turned.refl _ _⟩
  obtain ⟨R, hR⟩ : ∃ R, M.bec came O at_ s = R := ⟨_, rfl⟩
  have hRR : M.cset came O at_ s = R := by
    unfold M.cset
    rw [hx0, if_neg (by intro e; injection e with e; exact hxs e), hR]
  rw [hRR]
  have bx : (x0 == s) = false := by simp [hxs]
  have f0 := World.ownsRow.frozenAt ho at_
  have ho1 := (World.ownsRow.stored ho at_ (.int .i64 s)).1
  rw [← List.map_set] at ho1
  have HO1 := Lib.hid ho1
  have HR := Lib.hid hr
  have HN := Lib.hid hn
  have HG := Lib.hid hG
  have HOL := Lib.hid hol
  have HRR := Lib.hid (show M.mk came s (n - (at_ + 1)) (at_ + 1) (O.set at_ s) = R by rw [← hR, ← hol]; rfl)
  clear hr hn hR ho hol ho1 hG hx0 hRR hxs
  go_enter Tryz.func78, Tryz.ntmps78
  go_wp2_with fail
  go_loopw [8] (fun v wr => ∃ (k : Nat) (O' : List Int), v = .int .i64 k ∧ at_ < k ∧ k ≤ n ∧ wr.ownsRow base 39 1 (.slice (some ⟨G, 0, none⟩) n cb) n (O'.map (Value.int .i64)) ∧ O'.length = n ∧ Turned w wr G ∧ M.mk came s (n - k) k O' = R) (fun v _ => n - (intOf v).toNat)
  case atStart => exact ⟨at_ + 1, O.set at_ s, by go_num, by omega, by omega, HO1.out, by rw [List.length_set, HOL.out], (Turned.refl w G).setCell _ _, HRR.out⟩
  case round =>
    obtain ⟨k, O', rfl, hak, hkn, ho, hol, ht, hto⟩ := hrel
    have HT := Lib.hid ht
    have HTO := Lib.hid hto
    have HO := Lib.hid ho
    have HOL2 := Lib.hid hol
    have hk0 : (0 : Int) ≤ k := by omega
    by_cases hlt : k < n
    · have hk1 : (k : Int) < n := by omega
      obtain ⟨ad, x, rfl, hcx, hx, -⟩ := rd_at HR.out (HT.out.below HG.out.1) (by rw [HN.out]; exact hlt : k < came.length)
      obtain ⟨m, hm⟩ : ∃ m, n - k = m + 1 := ⟨n - k - 1, by omega⟩
      have h1 := hto
      rw [hm] at h1
      have h2 : (if came[k]? = some 8 then M.mk came s m (k + 1) (O'.set k s) else O') = R := h1
      rw [hx] at h2
      by_cases h8 : x = 8
      · subst h8
        rw [if_pos rfl, show m = n - (k + 1) by omega] at h2
        have H1 := Lib.hid h2
        obtain ⟨y, hy⟩ : ∃ y, O'[k]? = some y := ⟨_, List.getElem?_eq_getElem (by omega)⟩
        have c1 : wr.cell? ⟨G, k, none⟩ = some (.int .i64 y) := by
          rw [World.ownsRow.cellAt ho k (by omega), List.getElem?_map, hy]
          rfl
        have f1 := World.ownsRow.frozenAt ho k
        have ho2 := (World.ownsRow.stored ho k (.int .i64 s)).1
        rw [← List.map_set] at ho2
        have HO2 := Lib.hid ho2
        clear h1 h2 hx hto ht ho hol hm ho2 hy
        go_wp2_with fail
        go_roundw
        case rel => exact ⟨k + 1, O'.set k s, by go_num, by omega, by omega, HO2.out, by rw [List.length_set, HOL2.out], HT.out.setCell _ _, H1.out⟩
        case measure => simp [intOf]; omega
      · rw [if_neg (by intro e; injection e with e; exact h8 e)] at h2
        have b8 : (x == 8) = false := by simp; omega
        have H1 := Lib.hid h2
        clear h1 h2 hx hto ht ho hol hm h8
        go_wp2_with fail
        go_end0
        exact ⟨rfl, by rw [← H1.out]; exact HO.out, HT.out⟩
    · obtain rfl : k = n := by omega
      have hk1 : ¬ (k : Int) < (k : Int) := by omega
      rw [Nat.sub_self] at hto
      have H1 := Lib.hid (show O' = R from hto)
      clear hto ht ho hol
      go_wp2_with fail
      go_end0
      exact ⟨rfl, by rw [← H1.out]; exact HO.out, HT.out⟩
def M.anyS (l : List Int) : Nat → Nat → Bool
  | 0, _ => false
  | m + 1, i => if M.sg (l.getD i 0) ≠ 13 then true else M.anyS l m (i + 1)
theorem M.anyS_is {side other : Int} (hso : (side = 0 ∧ other = 1) ∨ (side = 1 ∧ other = 0)) {l : List Int} {m i : Nat} (h : M.btw side l m i = false) : M.anyS l m i = M.btw other l m i := by
  induction m generalizing i with
  | zero => rfl
  | succ m ih =>
    unfold M.anyS M.btw
    unfold M.btw at h
    have hsg : M.sg (l.getD i 0) = 0 ∨ M.sg (l.getD i 0) = 1 ∨ M.sg (l.getD i 0) = 13 := by
      unfold M.sg
      split
      · simp
      · split <;> simp
    split at h
    · cases h
    · rename_i hs
      by_cases h13 : M.sg (l.getD i 0) = 13
      · rw [if_neg (fun e => e h13), if_neg (by omega)]
        exact ih h
      · rw [if_pos h13, if_pos (by omega)]
def M.becV (s f : Int) (l : List Int) (p q : Nat) : Int := if M.btw s l (q - (p + 1)) (p + 1) = true then s else if M.anyS l (q - (p + 1)) (p + 1) = true then M.ahd f (l.take p).reverse else 0
def M.becB (s : Int) (l : List Int) (p q : Nat) : Bool := M.btw s l (q - (p + 1)) (p + 1) || M.anyS l (q - (p + 1)) (p + 1)
set_option maxHeartbeats 4000000 in
theorem cbec_any (A : Option Addr) (ca n p q : Nat) (l : List Int) (s f : Int) (w : World) (hr : RdS .i64 w w.heap.size A l) (hn : l.length = n) (hl : n ≤ 17592186044416) (hpq : p < q) (hq : q < n) (hca : n ≤ ca) (hs : s = 0 ∨ s = 1) :
    Calls Tryz.prog 77 #[.slice A n ca, .agg #[.int .i64 p, .int .i64 q], .int .i64 s, .int .i64 f] w fun r w' => r = .returned (.tuple #[.int .i64 (M.becV s f l p q), .bool (M.becB s l p q)]) ∧ Below w.heap.size w w' := by
  obtain ⟨ad0, -, rfl, -⟩ := rd_at hr (Below.refl _ _) (by omega : q < l.length)
  obtain ⟨p1, hp1⟩ : ∃ p1, p + 1 = p1 := ⟨_, rfl⟩
  obtain ⟨d, hd⟩ : ∃ d, q - p1 = d := ⟨_, rfl⟩
  obtain ⟨X1, hX1⟩ : ∃ X, M.btw s l (q - (p + 1)) (p + 1) = X := ⟨_, rfl⟩
  obtain ⟨X2, hX2⟩ : ∃ X, M.anyS l (q - (p + 1)) (p + 1) = X := ⟨_, rfl⟩
  obtain ⟨V, hV⟩ : ∃ V, M.becV s f l p q = V := ⟨_, rfl⟩
  obtain ⟨Y, hY⟩ : ∃ Y, M.becB s l p q = Y := ⟨_, rfl⟩
  rw [hV, hY]
  unfold M.becV at hV
  unfold M.becB at hY
  rw [hX1, hX2] at hV hY
  rw [hp1, hd] at hX1 hX2
  obtain ⟨W1, hW1, hb1, e0, e1, -, -, hgt⟩ := new_two w p q 96
  have HR := Lib.hid ((hr.below hb1).more hb1.size)
  have HN := Lib.hid hn
  have HB1 := Lib.hid hb1
  have HV := Lib.hid hV
  have HY := Lib.hid hY
  have H1 := Lib.hid hX1
  have H2 := Lib.hid hX2
  have HD := Lib.hid (show p1 + d = q by omega)
  have HGT := Lib.hid hgt
  have HCA := Lib.hid hca
  have hl1 : (n : Int) ≤ 17592186044416 := by omega
  have hq1 : (q : Int) < n := by omega
  have hp2 : (p1 : Int) ≤ q := by omega
  have hd1 : (d : Int) ≤ 17592186044416 := by omega
  have hp0 : (0 : Int) ≤ p := by omega
  have hpp : (p : Int) + 1 = p1 := by omega
  have hqc : (q : Int) ≤ ca := by omega
  have hnc : (n : Int) ≤ ca := by omega
  have hpc : (p : Int) ≤ ca := by omega
  have hp1c : p1 ≠ ca := by omega
  have HPN := Lib.hid (show p ≤ n by omega)
  have HPP := Lib.hid hp1
  clear hr hn hX1 hX2 hV hY hb1 hp1 hgt hca
  go_enter Tryz.func77, Tryz.ntmps77
  go_wp2_with fail
  clear hd
  go_loop [10, 23] (fun fd v => ∃ (k : Nat) (b : Bool), fd = .bool b ∧ v = .int .i64 k ∧ k ≤ d ∧ M.btw s l (d - k) (p1 + k) = X1 ∧ (b || M.anyS l (d - k) (p1 + k)) = X2) (fun _ v => d - (intOf v).toNat)
  case atStart => exact ⟨0, false, rfl, rfl, Nat.zero_le _, by rw [Nat.sub_zero, Nat.add_zero]; exact H1.out, by rw [Nat.sub_zero, Nat.add_zero, Bool.false_or]; exact H2.out⟩
  case round =>
    obtain ⟨k, b, rfl, rfl, hk, h1, h2⟩ := hrel
    have k0 : (0 : Int) ≤ k := by omega
    by_cases hlt : k < d
    · have k1 : (k : Int) < d := by omega
      obtain ⟨ad, x, hA, hcx, hx, -⟩ := rd_at HR.out (Below.refl _ _) (by rw [HN.out]; have := HD.out; omega : p1 + k < l.length)
      injection hA with hA
      subst hA
      rw [← addr_add_add] at hcx
      obtain ⟨m, hm⟩ : ∃ m, d - k = m + 1 := ⟨d - k - 1, by omega⟩
      have hm2 : m = d - (k + 1) := by omega
      rw [hm] at h1 h2
      have h3 : (if M.sg (l.getD (p1 + k) 0) = s then true else M.btw s l m (p1 + k + 1)) = X1 := h1
      have h4 : (b || (if M.sg (l.getD (p1 + k) 0) ≠ 13 then true else M.anyS l m (p1 + k + 1))) = X2 := h2
      rw [List.getD_eq_getElem?_getD, hx, hm2, Nat.add_assoc] at h3 h4
      simp only [Option.getD_some] at h3 h4
      have HS := Lib.hid (cstrong_any x W1)
      obtain ⟨z, hz⟩ : ∃ z, M.sg0 x = z := ⟨_, rfl⟩
      obtain ⟨y, hy⟩ : ∃ y, M.isS x = y := ⟨_, rfl⟩
      rw [hz, hy] at HS
      unfold M.sg0 at hz
      unfold M.isS at hy
      have HZ := Lib.hid hz
      have hz := HZ.out
      clear h1 h2 hx hm hm2
      by_cases h13 : M.sg x = 13
      · obtain rfl : y = false := by rw [← hy]; simp [h13]
        rw [if_neg (fun e => e h13)] at h4
        rw [if_neg (by omega)] at h3
        have H3 := Lib.hid h3
        have H4 := Lib.hid h4
        clear h3 h4 hz hy h13
        cases b with
        | true =>
          go_wp2_with fail
          refine HS.out.mono ?_
          rintro r w1 ⟨rfl, rfl⟩
          go_wp2_with fail
          go_round
          case rel => exact ⟨k + 1, true, rfl, by go_num, by omega, H3.out, H4.out⟩
          case measure => simp [intOf]; omega
        | false =>
          go_wp2_with fail
          refine HS.out.mono ?_
          rintro r w1 ⟨rfl, rfl⟩
          go_wp2_with fail
          go_round
          case rel => exact ⟨k + 1, false, rfl, by go_num, by omega, H3.out, H4.out⟩
          case measure => simp [intOf]; omega
      · obtain rfl : y = true := by rw [← hy]; simp [h13]
        rw [if_neg h13] at hz
        rw [if_pos h13, Bool.or_true] at h4
        by_cases hxs : M.sg x = s
        · rw [if_pos hxs] at h3
          rw [hxs] at hz
          subst hz
          have H3 := Lib.hid h3
          clear h3 h4 hy h13 hxs
          go_wp2_with fail
          refine HS.out.mono ?_
          rintro r w1 ⟨rfl, rfl⟩
          go_wp2_with fail
          go_returns
          refine ⟨?_, HB1.out⟩
          have hv := HV.out
          have hy := HY.out
          rw [← H3.out] at hv hy
          rw [← hv, ← hy]
          rfl
        · rw [if_neg hxs] at h3
          have bz : (z == s) = false := by simp; omega
          have H3 := Lib.hid h3
          have H4 := Lib.hid h4
          clear h3 h4 hz hy h13 hxs
          go_wp2_with fail
          refine HS.out.mono ?_
          rintro r w1 ⟨rfl, rfl⟩
          cases b with
          | true =>
            go_wp2_with fail
            go_round
            case rel => exact ⟨k + 1, true, rfl, by go_num, by omega, H3.out, by rw [Bool.true_or]; exact H4.out⟩
            case measure => simp [intOf]; omega
          | false =>
            go_wp2_with fail
            go_round
            case rel => exact ⟨k + 1, true, rfl, by go_num, by omega, H3.out, by rw [Bool.true_or]; exact H4.out⟩
            case measure => simp [intOf]; omega
    · obtain rfl : k = d := by omega
      have hk1 : ¬ (k : Int) < (k : Int) := by omega
      rw [Nat.sub_self] at h1 h2
      have h3 : false = X1 := h1
      have h4 : (b || false) = X2 := h2
      rw [Bool.or_false] at h4
      have hv := HV.out
      have hy := HY.out
      rw [← h3, ← h4, if_neg (by simp)] at hv
      rw [← h3, ← h4, Bool.false_or] at hy
      have HRT := Lib.hid (HR.out.take p)
      have HTL := Lib.hid (show (l.take p).length = p by rw [List.length_take, HN.out]; have := HPN.out; omega)
      have HPL := Lib.hid (show p ≤ 17592186044416 by have := HPN.out; omega)
      cases b with
      | true =>
        rw [if_pos rfl] at hv
        have HV2 := Lib.hid hv
        have HY2 := Lib.hid hy
        clear h1 h2 h3 h4 hv hy
        go_wp2_with fail
        refine (cnearest_any (some ad0) ca p f (l.take p) W1 HRT.out HTL.out HPL.out).mono ?_
        rintro r w2 ⟨rfl, hb2⟩
        have HB2 := Lib.hid (HB1.out.trans (hb2.mono HB1.out.size))
        clear hb2
        go_wp2_with fail
        go_returns
        exact ⟨by rw [← HV2.out, ← HY2.out]; rfl, HB2.out⟩
      | false =>
        rw [if_neg (by simp)] at hv
        have HV2 := Lib.hid hv
        have HY2 := Lib.hid hy
        clear h1 h2 h3 h4 hv hy
        go_wp2_with fail
        go_returns
        exact ⟨by rw [← HV2.out, ← HY2.out]; rfl, HB1.out⟩
end Go.Proofs.YtjlfgojblimobaaGreat.S11
end

section
namespace Go.Proofs.YtjlfgojblimobaaGreat.S11
open Go.RowKit
set_option maxRecDepth 100000

theorem grown_block {W w1 : World} {tmp : Obj} {row : Option Nat} {k : Nat} {o : Obj} (hg : (W.alloc tmp).grownBy w1 row) (hk : W.heap[k]? = some o) (h1 : row ≠ some k) : w1.heap[k]? = some o := by
  have hlt := (Array.getElem?_eq_some_iff.1 hk).1
  rw [hg.block k (by simp; omega) (fun e => h1 e.symm), Below.heap_alloc _ _ _ hlt]
  exact hk
theorem own_type {W : World} {base size : Nat} {e : TypeId} {v : Value} {xs : List Value} {n k : Nat} (h : W.ownsRow base e size v n xs) (hk : v.ownBlock = some k) : base ≤ k ∧ ∃ cs m, W.heap[k]? = some (.cells cs e m) := by
  rcases h.2 with ⟨rfl, _⟩ | ⟨g, cap, cur, rfl, hb, hg, _⟩
  · simp [Value.ownBlock] at hk
  · obtain rfl : g = k := by simpa [Value.ownBlock] using hk
    exact ⟨hb, _, _, hg⟩
theorem rows_kinds {w : World} {b b' n n' s s' : Nat} {e e' : TypeId} {v v' : Value} {xs xs' : List Value} (h : w.ownsRow b e s v n xs) (h' : w.ownsRow b' e' s' v' n' xs') (hne : e ≠ e') : v.ownBlock = none ∨ v.ownBlock ≠ v'.ownBlock := by
  rcases hv : v.ownBlock with _ | g
  · exact .inl rfl
  · refine .inr fun e => ?_
    obtain ⟨_, c1, m1, h1⟩ := own_type h hv
    obtain ⟨_, c2, m2, h2⟩ := own_type h' e.symm
    rw [h1] at h2
    injection h2 with h2
    injection h2 with _ h2 _
    exact hne h2
theorem own_still {B base size : Nat} {W W' : World} {e : TypeId} {v : Value} {xs : List Value} {k : Nat} (h : W.ownsRow base e size v k xs) (hs : Still (ours mineN) B W W') : W'.ownsRow base e size v k xs := by
  refine ⟨h.1, ?_⟩
  rcases h.2 with h1 | ⟨g, cap, cur, hv, hbg, hg, rest⟩
  · exact .inl h1
  · exact .inr ⟨g, cap, cur, hv, hbg, hs.kept g _ hg rfl, rest⟩
theorem own_cut {W : World} {base size : Nat} {e : TypeId} {g n c k : Nat} {xs : List Value} (h : W.ownsRow base e size (.slice (some ⟨g, 0, none⟩) n c) n xs) (hk : k ≤ n) : W.ownsRow base e size (.slice (some ⟨g, 0, none⟩) k c) k (xs.take (k * size)) := by
  have hle : k * size ≤ n * size := Nat.mul_le_mul_right _ hk
  refine ⟨by rw [List.length_take, h.1]; omega, ?_⟩
  rcases h.2 with ⟨h1, _⟩ | ⟨g', cap, cur, hv, hbg, hg, hn, hm, hs, ht⟩
  · cases h1
  · injection hv with e1 _ e3
    injection e1 with e1
    injection e1 with e1
    subst e1 e3
    refine .inr ⟨g, c, cur, rfl, hbg, hg, by omega, hm, hs, ?_⟩
    rw [← ht, List.take_take, Nat.min_eq_left hle]
theorem own_form {W : World} {base size : Nat} {e : TypeId} {v : Value} {xs : List Value} {k : Nat} (h : W.ownsRow base e size v k xs) : ∃ A c, v = .slice A k c ∧ k ≤ c ∧ c ≤ maxLen ∧ (A = none → c = 0) ∧ (0 < k → ∃ g, A = some ⟨g, 0, none⟩) := by
  rcases h.2 with ⟨rfl, h0⟩ | ⟨g, cap, cur, rfl, _, _, hn, hm, _, _⟩
  · exact ⟨none, 0, by rw [h0], by omega, by unfold maxLen; omega, fun _ => rfl, fun h => by omega⟩
  · exact ⟨_, cap, rfl, hn, hm, fun h => (by cases h), fun _ => ⟨g, rfl⟩⟩

def Dfr (w : World) (B : Nat) : List Deferred → Prop
  | [] => True
  | d :: ds => (∃ D, d = { target := .collected D, args := #[] } ∧ B ≤ D ∧ w.heap[D]? = some (.deferred (some [])) ∧ ∀ d' ∈ ds, d'.target ≠ .collected D) ∧ Dfr w B ds
theorem Dfr.keep {w w' : World} {B : Nat} {ds : List Deferred} (h : Dfr w B ds) (hk : ∀ (k : Nat) (o : Obj), w.heap[k]? = some o → o.isCells = false → w'.heap[k]? = some o) : Dfr w' B ds := by
  induction ds with
  | nil => trivial
  | cons d ds ih =>
    obtain ⟨⟨D, h1, h2, h3, h4⟩, h5⟩ := h
    exact ⟨⟨D, h1, h2, hk D _ h3 rfl, h4⟩, ih h5⟩
theorem Dfr.lt {w : World} {B : Nat} {ds : List Deferred} (h : Dfr w B ds) {d : Deferred} (hd : d ∈ ds) {D : Nat} (e : d.target = .collected D) : D < w.heap.size := by
  induction ds with
  | nil => cases hd
  | cons d' ds ih =>
    obtain ⟨⟨D', h1, h2, h3, h4⟩, h5⟩ := h
    rcases List.mem_cons.1 hd with rfl | hd
    · subst h1
      injection e with e
      subst e
      exact (Array.getElem?_eq_some_iff.1 h3).1
    · exact ih h5 hd
theorem Dfr.more {w w' : World} {B D : Nat} {ds : List Deferred} (h : Dfr w B ds) (h' : Dfr w' B ds) (hB : B ≤ D) (hD : w.heap.size ≤ D) (hk : w'.heap[D]? = some (.deferred (some []))) : Dfr w' B ({ target := .collected D, args := #[] } :: ds) :=
  ⟨⟨D, rfl, hB, hk, fun d hd e => by have := h.lt hd e; omega⟩, h'⟩
theorem Dfr.below {w w' : World} {B : Nat} {ds : List Deferred} (h : Dfr w B ds) (hb : Below w.heap.size w w') : Dfr w' B ds := h.keep fun k _ hk _ => (hb.block k (Array.getElem?_eq_some_iff.1 hk).1).trans hk
theorem dfr_leaves {n B : Nat} {P : Program} {fn : Func} {tmps : Array Value} {R : Ending → World → Prop} {ds : List Deferred} {W : World} (h : Dfr W B ds) (hR : ∀ W', Still (ours mineN) B W W' → LeavesInM Fence.wide n P fn tmps R [] .returning W') : LeavesInM Fence.wide n P fn tmps R ds .returning W := by
  induction ds generalizing W with
  | nil => exact hR W (Still.refl _ _ _)
  | cons d ds ih =>
    obtain ⟨⟨D, h1, h2, h3, h4⟩, h5⟩ := h
    subst h1
    have st : Still (ours mineN) B W (W.putObj D (.deferred none)) := still_put _ h3 rfl h2
    refine ⟨by simp, .inl ⟨_, _, rfl, run_takeDeferred h3, ih ?_ fun W' hs => hR W' (st.trans hs)⟩⟩
    clear ih hR
    induction ds with
    | nil => trivial
    | cons d' ds ih2 =>
      obtain ⟨⟨D', g1, g2, g3, g4⟩, g5⟩ := h5
      have hne : D' ≠ D := fun e => h4 d' (by simp) (by rw [g1, e])
      exact ⟨⟨D', g1, g2, (World.putObj_heap_other hne).trans g3, g4⟩, ih2 g5 fun d hd => h4 d (List.mem_cons_of_mem _ hd)⟩

structure PB (w : World) (B : Option Addr) (cb m : Nat) (wr : World) (acc : List (Int × Int)) (st : List Nat) (v1 v2 : Value) : Prop where
  below : Below w.heap.size w wr
  boxM : Boxed wr w.heap.size 29 (.slice B m cb)
  boxP : Boxed wr (w.heap.size + 1) 94 v1
  boxW : Boxed wr (w.heap.size + 2) 25 v2
  rp : OwnT wr (w.heap.size + 3) 96 v1 acc
  rw : wr.ownsRow (w.heap.size + 3) 3 1 v2 st.length (st.reverse.map fun o : Nat => Value.int .i64 (o : Int))
  size : w.heap.size + 3 ≤ wr.heap.size
section
variable {w wr w' : World} {B : Option Addr} {cb m : Nat} {acc : List (Int × Int)} {st : List Nat} {v1 v2 : Value}
theorem PB.later (h : PB w B cb m wr acc st v1 v2) (hb : Below wr.heap.size wr w') : PB w B cb m w' acc st v1 v2 :=
  ⟨h.below.trans (hb.mono h.below.size), (hb.block _ h.boxM.lt).trans h.boxM, (hb.block _ h.boxP.lt).trans h.boxP, (hb.block _ h.boxW.lt).trans h.boxW, h.rp.below hb, own_below h.rw hb, Nat.le_trans h.size hb.size⟩
theorem PB.still {B0 : Nat} (h : PB w B cb m wr acc st v1 v2) (hs : Still (ours mineN) B0 wr w') (hB : w.heap.size ≤ B0) : PB w B cb m w' acc st v1 v2 :=
  ⟨h.below.trans (hs.below.mono hB), hs.kept _ _ h.boxM rfl, hs.kept _ _ h.boxP rfl, hs.kept _ _ h.boxW rfl, own_still h.rp hs, own_still h.rw hs, Nat.le_trans h.size hs.below.size⟩
theorem PB.row1 (h : PB w B cb m wr acc st v1 v2) {k : Nat} (hk : k < w.heap.size + 3) : v1.ownBlock ≠ some k := fun e => by have := (own_type h.rp e).1; omega
theorem PB.row2 (h : PB w B cb m wr acc st v1 v2) {k : Nat} (hk : k < w.heap.size + 3) : v2.ownBlock ≠ some k := fun e => by have := (own_type h.rw e).1; omega
theorem PB.push (h : PB w B cb m wr acc st v1 v2) {w5 : World} {o g c : Nat} {x : Obj} (hown : w5.ownsRow (w.heap.size + 3) 3 1 (.slice (some ⟨g, 0, none⟩) (st.length + 1) c) (st.length + 1) ((st.reverse.map fun o : Nat => Value.int .i64 (o : Int)) ++ [.int .i64 (o : Int)])) (hg : (wr.alloc x).grownBy w5 v2.ownBlock) :
    PB w B cb m (w5.setCell ⟨w.heap.size + 2, 0, none⟩ (.slice (some ⟨g, 0, none⟩) (st.length + 1) c)) acc (o :: st) v1 (.slice (some ⟨g, 0, none⟩) (st.length + 1) c) := by
  have hsz := h.size
  have b2 : Boxed w5 (w.heap.size + 2) 25 v2 := grown_block hg h.boxW (h.row2 (by omega))
  have b1 : Boxed w5 (w.heap.size + 1) 94 v1 := grown_block hg h.boxP (h.row2 (by omega))
  have b0 : Boxed w5 w.heap.size 29 (.slice B m cb) := grown_block hg h.boxM (h.row2 (by omega))
  have rp : OwnT w5 (w.heap.size + 3) 96 v1 acc := World.ownsRow.kept (World.ownsRow.alloc h.rp x) hg (rows_kinds h.rp h.rw (by decide))
  refine ⟨(((h.below.alloc (by omega) x).grown hg (by simp; omega) (fun k hk => by have := (own_type h.rw hk).1; omega)).setCell (p := ⟨w.heap.size + 2, 0, none⟩) (by show w.heap.size ≤ w.heap.size + 2; omega) _), b0.other (by omega) _, b1.other (by omega) _, b2.set _, World.ownsRow.kept rp (grownBy_setCell' w5 _ _) (.inr fun e => ?_), World.ownsRow.kept (by rw [List.reverse_cons, List.map_append]; exact hown) (grownBy_setCell' w5 _ _) (.inr fun e => ?_), ?_⟩
  · have := (own_type rp e).1; omega
  · have := (own_type hown e).1; omega
  · have := hg.size
    simp at this
    simp [World.setCell]
    omega
theorem PB.pair (h : PB w B cb m wr acc st v1 v2) {w5 : World} {g c : Nat} {a b : Int} {x : Obj} (hown : OwnT w5 (w.heap.size + 3) 96 (.slice (some ⟨g, 0, none⟩) (acc.length + 1) c) (acc ++ [(a, b)])) (hg : (wr.alloc x).grownBy w5 v1.ownBlock) :
    PB w B cb m (w5.setCell ⟨w.heap.size + 1, 0, none⟩ (.slice (some ⟨g, 0, none⟩) (acc.length + 1) c)) (acc ++ [(a, b)]) st (.slice (some ⟨g, 0, none⟩) (acc.length + 1) c) v2 := by
  have hsz := h.size
  have b2 : Boxed w5 (w.heap.size + 2) 25 v2 := grown_block hg h.boxW (h.row1 (by omega))
  have b1 : Boxed w5 (w.heap.size + 1) 94 v1 := grown_block hg h.boxP (h.row1 (by omega))
  have b0 : Boxed w5 w.heap.size 29 (.slice B m cb) := grown_block hg h.boxM (h.row1 (by omega))
  have rw := World.ownsRow.kept (World.ownsRow.alloc h.rw x) hg (rows_kinds h.rw h.rp (by decide))
  refine ⟨(((h.below.alloc (by omega) x).grown hg (by simp; omega) (fun k hk => by have := (own_type h.rp hk).1; omega)).setCell (p := ⟨w.heap.size + 1, 0, none⟩) (by show w.heap.size ≤ w.heap.size + 1; omega) _), b0.other (by omega) _, b1.set _, b2.other (by omega) _, World.ownsRow.kept hown (grownBy_setCell' w5 _ _) (.inr fun e => ?_), World.ownsRow.kept rw (grownBy_setCell' w5 _ _) (.inr fun e => ?_), ?_⟩
  · have := (own_type hown e).1; omega
  · have := (own_type rw e).1; omega
  · have := hg.size
    simp at this
    simp [World.setCell]
    omega
theorem PB.cut {a r : List Nat} {g c : Nat} (h : PB w B cb m wr acc (a ++ r) v1 (.slice (some ⟨g, 0, none⟩) (a ++ r).length c)) :
    PB w B cb m (wr.setCell ⟨w.heap.size + 2, 0, none⟩ (.slice (some ⟨g, 0, none⟩) r.length c)) acc r v1 (.slice (some ⟨g, 0, none⟩) r.length c) := by
  have hsz := h.size
  have hc := own_cut h.rw (k := r.length) (by simp)
  rw [Nat.mul_one, ← List.map_take, List.reverse_append, List.take_append_of_le_length (by simp), List.take_of_length_le (by simp)] at hc
  refine ⟨h.below.setCell (p := ⟨w.heap.size + 2, 0, none⟩) (by show w.heap.size ≤ w.heap.size + 2; omega) _, h.boxM.other (by omega) _, h.boxP.other (by omega) _, h.boxW.set _, World.ownsRow.kept h.rp (grownBy_setCell' wr _ _) (.inr fun e => ?_), World.ownsRow.kept hc (grownBy_setCell' wr _ _) (.inr fun e => ?_), by simpa [World.setCell] using hsz⟩
  · have := (own_type h.rp e).1; omega
  · have := (own_type hc e).1; omega
theorem PB.reads (h : PB w B cb m wr acc st v1 v2) : ∃ A c, v2 = .slice A st.length c ∧ RdS .i64 wr wr.heap.size A (st.reverse.map fun o : Nat => (o : Int)) ∧ st.length ≤ c ∧ (0 < st.length → ∃ g, A = some ⟨g, 0, none⟩) := by
  have hrw := h.rw
  have e : (st.reverse.map fun o : Nat => Value.int .i64 (o : Int)) = (st.reverse.map fun o : Nat => (o : Int)).map (Value.int .i64) := by rw [List.map_map]; rfl
  rw [e] at hrw
  obtain ⟨A, c, h1, h2, h3, -, h5⟩ := own_form hrw
  have hrw' : wr.ownsRow (w.heap.size + 3) 3 1 v2 (st.reverse.map fun o : Nat => (o : Int)).length ((st.reverse.map fun o : Nat => (o : Int)).map (Value.int .i64)) := by
    rw [List.length_map, List.length_reverse]
    exact hrw
  obtain ⟨A', c', h6, h7, -⟩ := reads_own hrw'
  rw [h1] at h6
  injection h6 with e1 _ _
  subst e1
  exact ⟨A, c, h1, h7, h2, h5⟩
end
end Go.Proofs.YtjlfgojblimobaaGreat.S11
end

section
namespace Go.Proofs
open Go.Shelf
def Tryz.sortTwo_ren : Go.Shelf.Ren := ⟨fun | 6 => 116 | 15 => 139 | 14 => 138 | 28 => 150 | 29 => 151 | 20 => 142 | 21 => 143 | 22 => 144 | 23 => 145 | 24 => 146 | 25 => 147 | 26 => 148 | 27 => 149 | 46 => 152 | 47 => 153 | 48 => 154 | 49 => 155 | 50 => 156 | 57 => 157 | n => n, fun | 22 => 94 | 24 => 96 | 25 => 164 | 3 => 3 | 39 => 178 | 0 => 0 | 53 => 188 | 55 => 190 | 4 => 4 | 46 => 182 | 45 => 181 | 50 => 101 | 5 => 5 | 9 => 9 | 66 => 191 | 70 => 195 | 76 => 197 | 77 => 198 | n => n, fun | n => n⟩
theorem Tryz.sortTwo : Go.Proofs.SlLaysF0.n6 Tryz.prog Tryz.sortTwo_ren := {
  mixed := by kernel_rfl
  f6 := ⟨Tryz.f116.name, by decide, Tryz.func116.trans (congrArg some (by kernel_rfl))⟩
  f14 := ⟨Tryz.f138.name, by decide, Tryz.func138.trans (congrArg some (by kernel_rfl))⟩
  f15 := Tryz.func139.trans (congrArg some (by kernel_rfl))
  f20 := ⟨Tryz.f142.name, by decide, Tryz.func142.trans (congrArg some (by kernel_rfl))⟩
  f21 := ⟨Tryz.f143.name, by decide, Tryz.func143.trans (congrArg some (by kernel_rfl))⟩
  f22 := ⟨Tryz.f144.name, by decide, Tryz.func144.trans (congrArg some (by kernel_rfl))⟩
  f23 := ⟨Tryz.f145.name, by decide, Tryz.func145.trans (congrArg some (by kernel_rfl))⟩
  f24 := ⟨Tryz.f146.name, by decide, Tryz.func146.trans (congrArg some (by kernel_rfl))⟩
  f25 := ⟨Tryz.f147.name, by decide, Tryz.func147.trans (congrArg some (by kernel_rfl))⟩
  f26 := ⟨Tryz.f148.name, by decide, Tryz.func148.trans (congrArg some (by kernel_rfl))⟩
  f27 := ⟨Tryz.f149.name, by decide, Tryz.func149.trans (congrArg some (by kernel_rfl))⟩
  f28 := Tryz.func150.trans (congrArg some (by kernel_rfl))
  f29 := Tryz.func151.trans (congrArg some (by kernel_rfl))
  f46 := ⟨Tryz.f152.name, by decide, Tryz.func152.trans (congrArg some (by kernel_rfl))⟩
  f47 := Tryz.func153.trans (congrArg some (by kernel_rfl))
  f48 := Tryz.func154.trans (congrArg some (by kernel_rfl))
  f49 := ⟨Tryz.f155.name, by decide, Tryz.func155.trans (congrArg some (by kernel_rfl))⟩
  f50 := ⟨Tryz.f156.name, by decide, Tryz.func156.trans (congrArg some (by kernel_rfl))⟩
  f57 := ⟨Tryz.f157.name, by decide, Tryz.func157.trans (congrArg some (by kernel_rfl))⟩
  t0 := Tryz.underlying0
  a0 := Tryz.isAgg0
  z0 := Tryz.sizeOf0
  v0 := Tryz.zeroValue0
  t3 := Tryz.underlying3
  a3 := Tryz.isAgg3
  z3 := Tryz.sizeOf3
  v3 := Tryz.zeroValue3
  t4 := Tryz.underlying4
  a4 := Tryz.isAgg4
  z4 := Tryz.sizeOf4
  v4 := Tryz.zeroValue4
  t5 := Tryz.underlying5
  a5 := Tryz.isAgg5
  z5 := Tryz.sizeOf5
  v5 := Tryz.zeroValue5
  t9 := Tryz.underlying9
  a9 := Tryz.isAgg9
  z9 := Tryz.sizeOf9
  v9 := Tryz.zeroValue9
  t22 := Tryz.underlying94
  a22 := Tryz.isAgg94
  z22 := Tryz.sizeOf94
  v22 := Tryz.zeroValue94
  t25 := Tryz.underlying164
  a25 := Tryz.isAgg164
  z25 := Tryz.sizeOf164
  v25 := Tryz.zeroValue164
  t39 := Tryz.underlying178
  a39 := Tryz.isAgg178
  z39 := Tryz.sizeOf178
  v39 := Tryz.zeroValue178
  t45 := Tryz.underlying181
  a45 := Tryz.isAgg181
  z45 := Tryz.sizeOf181
  v45 := Tryz.zeroValue181
  t46 := Tryz.underlying182
  a46 := Tryz.isAgg182
  z46 := Tryz.sizeOf182
  v46 := Tryz.zeroValue182
  t50 := Tryz.underlying101
  a50 := Tryz.isAgg101
  z50 := Tryz.sizeOf101
  v50 := Tryz.zeroValue101
  t53 := Tryz.underlying188
  a53 := Tryz.isAgg188
  z53 := Tryz.sizeOf188
  v53 := Tryz.zeroValue188
  t55 := Tryz.underlying190
  a55 := Tryz.isAgg190
  z55 := Tryz.sizeOf190
  v55 := Tryz.zeroValue190
  t66 := Tryz.underlying191
  a66 := Tryz.isAgg191
  z66 := Tryz.sizeOf191
  v66 := Tryz.zeroValue191
  t70 := Tryz.underlying195
  a70 := Tryz.isAgg195
  z70 := Tryz.sizeOf195
  v70 := Tryz.zeroValue195
  t76 := Tryz.underlying197
  a76 := Tryz.isAgg197
  z76 := Tryz.sizeOf197
  v76 := Tryz.zeroValue197
  t77 := Tryz.underlying198
  a77 := Tryz.isAgg198
  z77 := Tryz.sizeOf198
  v77 := Tryz.zeroValue198 }
def Tryz.cmpTwo_ren : Go.Shelf.Ren := ⟨fun | 5 => 118 | 7 => 140 | n => n, fun | 22 => 3 | 3 => 3 | 4 => 4 | n => n, fun | n => n⟩
theorem Tryz.cmpTwo : Go.Proofs.SlLaysC2.n5 Tryz.prog Tryz.cmpTwo_ren := {
  mixed := by kernel_rfl
  f5 := ⟨Tryz.f118.name, by decide, Tryz.func118.trans (congrArg some (by kernel_rfl))⟩
  f7 := ⟨Tryz.f140.name, by decide, Tryz.func140.trans (congrArg some (by kernel_rfl))⟩
  t3 := Tryz.underlying3
  a3 := Tryz.isAgg3
  z3 := Tryz.sizeOf3
  v3 := Tryz.zeroValue3
  t4 := Tryz.underlying4
  a4 := Tryz.isAgg4
  z4 := Tryz.sizeOf4
  v4 := Tryz.zeroValue4
  t22 := Tryz.underlying3
  a22 := Tryz.isAgg3
  z22 := Tryz.sizeOf3
  v22 := Tryz.zeroValue3 }
end Go.Proofs
end
