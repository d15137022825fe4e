/- The contracts of package bracket's kind, strong and nearest. Condition: the slice reads as a list of at most 2^44. -/
import Derived.Test.YtaiojghbknacjaaCIter
import Derived.Test.YtaiojghbknacjaaCPlain
namespace Go.Proofs.Ytaiojghbknacjaa
open Go.RowKit Go.Shelf
attribute [local go_sem] Oper.semAt_some
set_option maxRecDepth 100000

def M.sg0 (c : Int) : Int := if M.sg c = 13 then 0 else M.sg c
def M.isS (c : Int) : Bool := decide (M.sg c ≠ 13)
set_option maxHeartbeats 1000000 in
theorem ckind_any (c a b : Int) (w : World) : Calls Try.prog 16 #[.int .i64 c, .agg #[.int .i64 a, .int .i64 b]] w fun r w' => r = .returned (.int .i64 (if c = 13 then a else 0)) ∧ Below w.heap.size w w' := by
  obtain ⟨z, hz⟩ : ∃ z, (if c = 13 then a else 0) = z := ⟨_, rfl⟩
  have HANS := Lib.hid hz
  rw [hz]
  clear hz
  go_enter Try.func16, Try.ntmps16
  go_wp2_with fail
  all_goals
    go_ret
    exact ⟨ret_int (by rw [← HANS.out]; simp_all), (Below.refl _ w).alloc (Nat.le_refl _) _⟩
set_option maxHeartbeats 1000000 in
theorem cstrong_any (c : Int) (w : World) : Calls Try.prog 31 #[.int .i64 c] w fun r w' => r = .returned (.tuple #[.int .i64 (M.sg0 c), .bool (M.isS c)]) ∧ w' = w := by
  obtain ⟨z, hz⟩ : ∃ z, M.sg0 c = z := ⟨_, rfl⟩
  obtain ⟨y, hy⟩ : ∃ y, M.isS c = y := ⟨_, rfl⟩
  rw [hz, hy]
  unfold M.sg0 M.sg at hz
  unfold M.isS M.sg at hy
  have HZ := Lib.hid hz
  have HY := Lib.hid hy
  clear hz hy
  go_enter Try.func31, Try.ntmps31
  go_wp2_with fail
  all_goals
    go_returns
    exact ⟨by rw [← HZ.out, ← HY.out]; simp_all, rfl⟩
theorem M.bks_rev (l : List Int) (k : Nat) (hk : k ≤ l.length) : (M.bks l k).map (·.2) = (l.take k).reverse := by
  induction k with
  | zero => rfl
  | succ k ih =>
    have h := List.getElem?_eq_getElem (l := l) (i := k) (by omega)
    have e : l.getD k 0 = l[k] := by rw [List.getD_eq_getElem?_getD, h]; rfl
    rw [List.take_succ_eq_append_getElem (by omega), List.reverse_append]
    show l.getD k 0 :: (M.bks l k).map (·.2) = _
    rw [ih (by omega), e]
    rfl
theorem M.ahd_app (f : Int) {a b : List Int} (h : ∀ x ∈ a, M.sg x = 13) : M.ahd f (a ++ b) = M.ahd f b := by
  induction a with
  | nil => rfl
  | cons x a ih =>
    show (if M.sg x = 13 then M.ahd f (a ++ b) else M.sg x) = _
    rw [if_pos (h x (by simp))]
    exact ih fun y hy => h y (by simp [hy])
/-- The result's box, and all else as it was. -/
structure Held (B n : Nat) (w : World) (v : Int) (W : World) : Prop where
  box : Boxed W B 32 (.int .i64 v)
  below : Below w.heap.size w W
  size : n ≤ W.heap.size
theorem Held.still {B n : Nat} {w W W' : World} {v : Int} (h : Held B n w v W) (hs : Still (ours mineN) n W W') (hB : B < n) (hn : w.heap.size ≤ n) : Held B n w v W' :=
  ⟨(hs.below.block B hB).trans h.box, h.below.trans (hs.below.mono hn), Nat.le_trans h.size hs.below.size⟩
theorem held_leaves {n D B b : Nat} {fn : Func} {p : Tmp} {tmps : Array Value} {w W : World} {v : Int} (hres : fn.results = #[.cell p 32]) (hp : tmps[p]? = some (.pointer (some ⟨B, 0, none⟩))) (hbox : Boxed W B 32 (.int .i64 v)) (hK : W.heap[D]? = some (.deferred (some []))) (hne : D ≠ B) (hB : Below w.heap.size w W) (hD : b ≤ D) (hw : w.heap.size ≤ b) :
    LeavesInM Fence.wide n Try.prog fn tmps (fun r w' => r = .returned (.int .i64 v) ∧ Below w.heap.size w w') [] .returning (W.putObj D (.deferred none)) := by
  have hbox2 : Boxed (W.putObj D (.deferred none)) B 32 (.int .i64 v) := (World.putObj_heap_other (fun e => hne e.symm)).trans hbox
  have hc := hbox2.cell
  have hb2 : Below w.heap.size w (W.putObj D (.deferred none)) := hB.trans (belowK_b (w := w) (Nat.le_refl _) W D _ _ (by omega) hK rfl rfl)
  have hp2 : tmps[p]?.getD undef = .pointer (some ⟨B, 0, none⟩) := by rw [hp]; rfl
  refine ⟨.int .i64 v, ?_, rfl, hb2⟩
  simp [results, hres, hp2, go_sem, hc]
set_option maxHeartbeats 4000000 in
theorem cnearest_any (A : Option Addr) (ca n : Nat) (f : Int) (l : List Int) (w : World) (hr : RdS .i64 w w.heap.size A l) (hn : l.length = n) (hl : n ≤ 17592186044416) :
    Calls Try.prog 32 #[.slice A n ca, .int .i64 f] w fun r w' => r = .returned (.int .i64 (M.ahd f l.reverse)) ∧ Below w.heap.size w w' := by
  refine (callsIn_wide (n := 5)).1 ?_
  refine callsIn_of_wp_marks Try.func32 rfl trivial ?_ rfl
  simp only [Try.ntmps32, List.size_toArray, List.length_cons, List.length_nil, Nat.reduceAdd, Nat.reduceSub, Array.replicate_succ, Array.replicate_zero, List.push_toArray, List.append_toArray, List.nil_append, List.cons_append]
  have HR := Lib.hid hr
  have HN := Lib.hid hn
  have hl1 : (n : Int) ≤ 17592186044416 := by omega
  clear hr hn
  gi_wp2_with fail
  refine ⟨trivial, ?_⟩
  refine (callsIn_wide.2 (cbackward_any A ca n _)).mono ?_
  rintro e w' ⟨rfl, rfl⟩
  gi_wp2_with fail
  have bO := Boxed.new w 32 (.int .i64 0)
  obtain ⟨w1, hw1⟩ : ∃ X, w.alloc (.cells #[.int .i64 0] 32) = X := ⟨_, rfl⟩
  rw [hw1] at bO ⊢
  have hs1 : w1.heap.size = w.heap.size + 1 := by rw [← hw1]; simp
  have hb1 : Below w.heap.size w w1 := by rw [← hw1]; exact (Below.refl _ w).alloc (Nat.le_refl _) _
  have bS := Boxed.new w1 22 (.slice A n ca)
  have bO2 := bO.alloc (.cells #[.slice A n ca] 22)
  rw [hs1] at bS
  obtain ⟨w2, hw2⟩ : ∃ X, w1.alloc (.cells #[.slice A n ca] 22) = X := ⟨_, rfl⟩
  have hs2 : w2.heap.size = w.heap.size + 2 := by rw [← hw2]; simp; omega
  have hb2 : Below w.heap.size w w2 := by rw [← hw2]; exact hb1.alloc (by omega) _
  rw [hw2] at bS bO2 ⊢
  clear hw2 hw1 bO
  refine range_mine (by omega) (gf := 50) (lb := #[.pointer (some ⟨w.heap.size + 1, 0, none⟩)]) rfl (enters_of Try.func50 (by kernel_rfl) rfl) mineN_not
    (cback_gives 4 (w.heap.size + 1) w2.heap.size A ca n l w2 (by omega) bS.cell (by omega) ((HR.out.below hb2).more hb2.size) HN.out hl (Nat.le_refl _)) Below.trans (keeps_below (Nat.le_refl _)) (fun _ => rfl)
    (fun (pre : List (Nat × Int)) (W : World) => (∀ x ∈ pre.map (fun y : Nat × Int => y.2), M.sg x = 13) ∧ Held w.heap.size w2.heap.size w 0 W) (fun (c : Code) (pre : List (Nat × Int)) (W : World) => c = .ret ∧ ∃ (q : List (Nat × Int)) (x : Nat × Int), pre = q ++ [x] ∧ (∀ x ∈ q.map (fun y : Nat × Int => y.2), M.sg x = 13) ∧ M.sg x.2 ≠ 13 ∧ Held w.heap.size w2.heap.size w (M.sg x.2) W)
    (fun _ _ _ h hs => ⟨h.1, h.2.still hs (by omega) (by omega)⟩) (fun _ _ _ _ ⟨hc, q, x, h1, h2, h3, h4⟩ hs => ⟨hc, q, x, h1, h2, h3, h4.still hs (by omega) (by omega)⟩)
    ⟨fun x h => by simp at h, bO2, hb2, Nat.le_refl _⟩
    (fun x => { tmps := #[.slice A n ca, .int .i64 f, undef, undef, .pointer (some ⟨w.heap.size, 0, none⟩), undef, .int .i64 x.2, undef, undef, .slice A n ca, .func (.func 50) #[] #[.pointer (some ⟨w.heap.size + 1, 0, none⟩)], .int .i64 x.1, .int .i64 x.2, undef, undef, undef, undef, undef, undef, undef, undef], defers := [] }) ?assign ?body ?done ?stop
  case assign =>
    intro l x W K hK
    gi_wp2
    exact hK
  case body =>
    rintro L pre x W ⟨hall, hbox, hB, hS⟩ hlt -
    have hc := hbox.cell
    have hf := hbox.frozen
    have HALL := Lib.hid hall
    obtain ⟨s0, hs0⟩ : ∃ s, M.sg0 x.2 = s := ⟨_, rfl⟩
    obtain ⟨b0, hb0⟩ : ∃ s, M.isS x.2 = s := ⟨_, rfl⟩
    have HCS := Lib.hid (cstrong_any x.2 W)
    rw [hs0, hb0] at HCS
    have HS0 := Lib.hid hs0
    have HB0 := Lib.hid hb0
    clear hall hs0 hb0
    gi_wp2_with fail
    refine ⟨trivial, ?_⟩
    refine (CallsIn.inRound L (callsIn_wide.2 HCS.out)).mono ?_
    rintro e w' ⟨rfl, rfl⟩
    cases b0 with
    | true =>
      gi_wp2_with fail
      have h13 : M.sg x.2 ≠ 13 := by have := HB0.out; unfold M.isS at this; simpa using this
      have hss : s0 = M.sg x.2 := by rw [← HS0.out]; unfold M.sg0; rw [if_neg h13]
      refine ⟨(KeepsOthers.setCell _ _ _).from _, rfl, pre, x, rfl, HALL.out, h13, by rw [← hss]; exact hbox.set _, hB.setCell (p := ⟨w.heap.size, 0, none⟩) (Nat.le_refl _) _, by simpa [World.setCell] using hS⟩
    | false =>
      gi_wp2_with fail
      have h13 : M.sg x.2 = 13 := by have := HB0.out; unfold M.isS at this; simpa using this
      refine ⟨(KeepsOthers.refl _).from _, Below.refl _ _, fun y hy => ?_, hbox, hB, hS⟩
      rw [List.map_append, List.mem_append] at hy
      rcases hy with hy | hy
      · exact HALL.out y hy
      · simp at hy
        rw [hy]
        exact h13
  case done =>
    rintro D ys W hD hys ⟨hall, hbox, hB, _⟩ hK
    have HA := Lib.hid (show M.ahd f l.reverse = f by
      have h1 := M.bks_rev l n (by rw [HN.out]; exact Nat.le_refl _)
      rw [← hys, List.take_of_length_le (by rw [HN.out]; exact Nat.le_refl _)] at h1
      rw [← h1, ← List.append_nil (ys.map _), M.ahd_app f hall]
      rfl)
    have hc := hbox.cell
    have hf := hbox.frozen
    clear hys hall
    gi_wp2
    have hK2 := (Below.heap_setCell W ⟨w.heap.size, 0, none⟩ (.int .i64 f) D (by show D ≠ w.heap.size; omega)).trans hK
    refine ⟨by simp, .inl ⟨_, _, rfl, run_takeDeferred hK2, ?_⟩⟩
    rw [HA.out]
    exact held_leaves rfl rfl (hbox.set _) hK2 (by omega) (hB.setCell (p := ⟨w.heap.size, 0, none⟩) (Nat.le_refl _) _) hD (by omega)
  case stop =>
    rintro D c pre W hD ⟨k, hk, hpre⟩ ⟨rfl, q, x, rfl, hall, h13, hbox, hB, _⟩ hK
    have HA := Lib.hid (show M.ahd f l.reverse = M.sg x.2 by
      have h1 := M.bks_rev l n (by rw [HN.out]; exact Nat.le_refl _)
      rw [← hpre, List.take_of_length_le (by rw [HN.out]; exact Nat.le_refl _)] at h1
      rw [← h1, List.map_append, List.map_append, List.append_assoc, M.ahd_app f hall]
      show (if M.sg x.2 = 13 then _ else M.sg x.2) = _
      rw [if_neg h13])
    have hc := hbox.cell
    have hf := hbox.frozen
    clear hpre hall
    gi_wp2
    refine ⟨by simp, .inl ⟨_, _, rfl, run_takeDeferred hK, ?_⟩⟩
    rw [HA.out]
    exact held_leaves rfl rfl hbox hK (by omega) hB hD (by omega)
end Go.Proofs.Ytaiojghbknacjaa
