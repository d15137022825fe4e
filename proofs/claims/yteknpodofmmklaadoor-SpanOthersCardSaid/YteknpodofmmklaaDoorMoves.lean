/- The contracts of span's Insert and Delete. Conditions: the slice reads as a list of at most sixty spans whose ends are not too great and rise; the places are not too great. -/
import Derived.Test.YteknpodofmmklaaDoorMoved
import Derived.Test.YteknpodofmmklaaDoorGone
import Derived.Test.YteknpodofmmklaaDoorRefMove
import Derived.Laws.EntriesVeiled
namespace Go.Proofs.YteknpodofmmklaaDoor
open Go.RowKit

theorem enter_stay (args : Array Value) (w : World) : (callFunc 32 args).run Tryd.prog w = .ok (.enter 32 args) w := by kernel_rfl
theorem enter_ins (args : Array Value) (w : World) : (callFunc 33 args).run Tryd.prog w = .ok (.enter 33 args) w := by kernel_rfl
theorem enter_del (args : Array Value) (w : World) : (callFunc 35 args).run Tryd.prog w = .ok (.enter 35 args) w := by kernel_rfl
theorem filter_some (l : List M.S) : l.filterMap some = l := by simp
theorem OutP.of {L : List M.S} {w W w' : World} {r : Ending} (hb : Below w.heap.size w W) (h : OutP L W r w') : OutP L w r w' := by
  obtain ⟨v, hv, ho, hb'⟩ := h
  exact ⟨v, hv, ho.less hb.size, hb.trans (hb'.mono hb.size)⟩
theorem two_ints (w : World) (a n : Int) : ∃ W1 W2 : World, w.alloc (.cells #[.int .i64 a] 3) = W1 ∧ W1.alloc (.cells #[.int .i64 n] 3) = W2 ∧ Below w.heap.size w W2 ∧ W2.cell? ⟨w.heap.size, 0, none⟩ = some (.int .i64 a) ∧ W2.cell? ⟨W1.heap.size, 0, none⟩ = some (.int .i64 n) ∧ w.heap.size < W2.heap.size ∧ W1.heap.size < W2.heap.size :=
  ⟨_, _, rfl, rfl, ((Below.refl _ _).alloc (Nat.le_refl _) _).alloc (by simp) _, by simp [go_sem], by simp [go_sem], by simp; omega, by simp⟩

set_option maxRecDepth 100000 in
set_option maxHeartbeats 4000000 in
theorem insert_any (A : Option Addr) (ca : Nat) (l : List M.S) (a n : Int) (w : World) (hr : RdP w w.heap.size A l) (hm : l.length ≤ 60) (hlim : Lim l) (ha : a ≤ 4000000) (hn : n ≤ 4000000) :
    Calls Tryd.prog 19 #[.slice A l.length ca, .int .i64 a, .int .i64 n] w (OutP (M.ins l a n) w) := by
  have hmf : ∀ (fn : Fn) (first cap : Array Value) (w : World), (Instr.makeFunc fn first cap).run Tryd.prog w = .ok (.func fn first cap) w := fun _ _ _ _ => rfl
  obtain ⟨W1, W2, hW1, hW2, hb, ca', cn', l1, l2⟩ := two_ints w a n
  have HST := Lib.hid (moved_any A ca l some 32 #[] W2 (hr.after hb) hm enter_stay (fun s _ w' _ => stay_move s w'))
  have HIN := Lib.hid (fun (a0 : 0 ≤ a) (n0 : 0 ≤ n) => moved_any A ca l (M.insS a n) 33 #[.pointer (some ⟨w.heap.size, 0, none⟩), .pointer (some ⟨W1.heap.size, 0, none⟩)] W2 (hr.after hb) hm enter_ins
    (fun s hs w' hw' => ins_any s a n w.heap.size W1.heap.size w' ((hw'.cell (p := ⟨w.heap.size, 0, none⟩) l1).trans ca') (Nat.lt_of_lt_of_le l1 hw'.size) ((hw'.cell (p := ⟨W1.heap.size, 0, none⟩) l2).trans cn') (Nat.lt_of_lt_of_le l2 hw'.size) a0 ha n0 hn (hlim s hs).1 (hlim s hs).2.1 (hlim s hs).2.2.1))
  have HB := Lib.hid hb
  clear hr hlim hb
  by_cases hg : a < 0 ∨ n < 0
  · have HD := Lib.hid (show M.ins l a n = l.filterMap some by unfold M.ins; rw [if_pos hg, filter_some])
    rcases (show a < 0 ∨ (0 ≤ a ∧ n < 0) by omega) with h1 | ⟨h1, h2⟩
    all_goals
      go_enter Tryd.func19, Tryd.ntmps19
      go_wp2_with fail
      refine HST.out.mono ?_
      rintro r w1 ⟨v, rfl, ho, hb1⟩
      have HO := Lib.hid (OutP.of HB.out ⟨v, rfl, ho, hb1⟩)
      clear ho hb1
      go_wp2_with fail
      go_ret
      rw [HD.out]
      exact HO.out
  · have HD := Lib.hid (show M.ins l a n = l.filterMap (M.insS a n) by unfold M.ins; rw [if_neg hg])
    have h1 : 0 ≤ a := by omega
    have h2 : 0 ≤ n := by omega
    have HI := Lib.hid (HIN.out h1 h2)
    clear hg
    go_enter Tryd.func19, Tryd.ntmps19
    go_wp2_with fail
    refine HI.out.mono ?_
    rintro r w1 ⟨v, rfl, ho, hb1⟩
    have HO := Lib.hid (OutP.of HB.out ⟨v, rfl, ho, hb1⟩)
    clear ho hb1
    go_wp2_with fail
    go_ret
    rw [HD.out]
    exact HO.out

set_option maxRecDepth 100000 in
set_option maxHeartbeats 4000000 in
theorem delete_any (A : Option Addr) (ca : Nat) (l : List M.S) (a b : Int) (w : World) (hr : RdP w w.heap.size A l) (hm : l.length ≤ 60) (hlim : Lim l) (_ha : a ≤ 4000000) (hb' : b ≤ 4000000) :
    Calls Tryd.prog 21 #[.slice A l.length ca, .int .i64 a, .int .i64 b] w (OutP (M.del l a b) w) := by
  have hmf : ∀ (fn : Fn) (first cap : Array Value) (w : World), (Instr.makeFunc fn first cap).run Tryd.prog w = .ok (.func fn first cap) w := fun _ _ _ _ => rfl
  obtain ⟨W1, W2, hW1, hW2, hb, ca', cn', l1, l2⟩ := two_ints w a b
  have HST := Lib.hid (moved_any A ca l some 32 #[] W2 (hr.after hb) hm enter_stay (fun s _ w' _ => stay_move s w'))
  by_cases hg : a < 0 ∨ b < a
  · have HD := Lib.hid (show M.del l a b = l.filterMap some by unfold M.del; rw [if_pos hg, filter_some])
    have HB := Lib.hid hb
    clear hr hlim hb
    rcases (show a < 0 ∨ (0 ≤ a ∧ b < a) by omega) with h1 | ⟨h1, h2⟩
    all_goals
      go_enter Tryd.func21, Tryd.ntmps21
      go_wp2_with fail
      refine HST.out.mono ?_
      rintro r w1 ⟨v, rfl, ho, hb1⟩
      have HO := Lib.hid (OutP.of HB.out ⟨v, rfl, ho, hb1⟩)
      clear ho hb1
      go_wp2_with fail
      go_ret
      rw [HD.out]
      exact HO.out
  · have HD := Lib.hid (show M.del l a b = l.filterMap (M.delS a b) by unfold M.del; rw [if_neg hg])
    have h1 : 0 ≤ a := by omega
    have h2 : a ≤ b := by omega
    obtain ⟨W3, hW3⟩ : ∃ W3, W2.alloc (.cells #[.func (.func 34) #[] #[.pointer (some ⟨w.heap.size, 0, none⟩), .pointer (some ⟨W1.heap.size, 0, none⟩)]] 47) = W3 := ⟨_, rfl⟩
    have hb3 : Below W2.heap.size W2 W3 := by rw [← hW3]; exact (Below.refl _ _).alloc (Nat.le_refl _) _
    have hcau : CaughtD W3 W2.heap.size w.heap.size W1.heap.size a b := by
      refine ⟨by rw [← hW3]; simp [go_sem], (hb3.cell (p := ⟨w.heap.size, 0, none⟩) l1).trans ca', (hb3.cell (p := ⟨W1.heap.size, 0, none⟩) l2).trans cn', by rw [← hW3]; simp, Nat.lt_of_lt_of_le l1 hb3.size, Nat.lt_of_lt_of_le l2 hb3.size⟩
    have hbw3 := hb.trans (hb3.mono hb.size)
    have HI := Lib.hid (moved_any A ca l (M.delS a b) 35 #[.pointer (some ⟨W2.heap.size, 0, none⟩)] W3 (hr.after hbw3) hm enter_del
      (fun s hs w' hw' => del_any s a b W2.heap.size w.heap.size W1.heap.size w' (hcau.after hw') h1 h2 hb' (hlim s hs).1 (hlim s hs).2.1 (hlim s hs).2.2.1))
    have HB := Lib.hid hbw3
    clear hr hlim hb hb3 hcau hbw3 hg
    go_enter Tryd.func21, Tryd.ntmps21
    go_wp2_with fail
    refine HI.out.mono ?_
    rintro r w1 ⟨v, rfl, ho, hb1⟩
    have HO := Lib.hid (OutP.of HB.out ⟨v, rfl, ho, hb1⟩)
    clear ho hb1
    go_wp2_with fail
    go_ret
    rw [HD.out]
    exact HO.out
end Go.Proofs.YteknpodofmmklaaDoor
