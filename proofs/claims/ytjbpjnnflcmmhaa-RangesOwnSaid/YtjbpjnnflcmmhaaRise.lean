/- The contracts of ranges' rising, and of the document's rises, over the translation. Conditions: the slice reads as a list of entries, whose strings are no longer than the model lets them be. -/
import Derived.Test.YtjbpjnnflcmmhaaTab
import Derived.Test.YtjbpjnnflcmmhaaRef
import Derived.Lib.QuietBelow
import Derived.Deep.QuietTactic
import Derived.BigQuiet
namespace Go.Proofs.Ytjbpjnnflcmmhaa
open Go.RowKit

/-- The first k entries are right, and each begins behind the end of the one ahead of it. -/
def M.Up (l : List M.E) (k : Nat) : Prop := ∀ j e, j < k → l[j]? = some e → M.right e = true ∧ ∀ f, 0 < j → l[j - 1]? = some f → f.b < e.a
theorem M.Up.next {l : List M.E} {k : Nat} {e : M.E} (h : M.Up l k) (he : l[k]? = some e) (h1 : M.right e = true) (h2 : ∀ f, 0 < k → l[k - 1]? = some f → f.b < e.a) : M.Up l (k + 1) := fun j f hj hf => by
  rcases Nat.lt_or_ge j k with hlt | hge
  · exact h j f hlt hf
  · obtain rfl : j = k := by omega
    obtain rfl : e = f := by rw [he] at hf; injection hf
    exact ⟨h1, h2⟩
def M.Rises (l : List M.E) : Prop := l.length ≤ 600 ∧ M.Up l l.length
open Classical in
noncomputable def M.rises (l : List M.E) : Bool := decide (M.Rises l)
theorem M.rises_no {l : List M.E} (h : ¬ M.Rises l) : M.rises l = false := by unfold M.rises; simp [h]
theorem M.rises_yes {l : List M.E} (h : M.Rises l) : M.rises l = true := by unfold M.rises; simp [h]
theorem M.rises_iff {l : List M.E} : M.rises l = true ↔ M.Rises l := by unfold M.rises; simp

set_option maxRecDepth 100000 in
set_option maxHeartbeats 4000000 in
theorem rising_list_any (A : Option Addr) (ca : Nat) (l : List M.E) (w : World) (hr : RdE w w.heap.size A l) (hm : l.length ≤ maxLen) (hz : Sized l) :
    Calls Try.prog 26 #[.slice A l.length ca] w fun e w' => e = .returned (.bool (M.rises l)) ∧ Below w.heap.size w w' := by
  unfold maxLen at hm
  have HR := Lib.hid hr
  have HZ := Lib.hid hz
  clear hr hz
  by_cases h600 : 600 < l.length
  · have HN := Lib.hid (M.rises_no (l := l) (fun h => by have := h.1; omega))
    go_enter Try.func26, Try.ntmps26
    go_wp2
    go_ret
    exact ⟨ret_bool HN.out.symm, Below.refl _ _⟩
  · have hd : decide ((600 : Int) < (l.length : Int)) = false := by rw [decide_eq_false_iff_not]; omega
    go_enter Try.func26, Try.ntmps26
    go_wp2
    go_loopw [10] (fun i wr => ∃ k : Nat, k ≤ l.length ∧ i = .int .i64 k ∧ M.Up l k ∧ Below w.heap.size w wr) (fun i _ => l.length - (intOf i).toNat)
    case atStart => exact ⟨0, Nat.zero_le _, rfl, (fun j s hj => by omega), Below.refl _ _⟩
    case round =>
      obtain ⟨k, hk, rfl, hup, hb⟩ := hrel
      have HUP := Lib.hid hup
      have HB := Lib.hid hb
      clear hup hb
      by_cases hlt : k < l.length
      · obtain ⟨e, he⟩ : ∃ e, l[k]? = some e := ⟨_, List.getElem?_eq_getElem hlt⟩
        obtain ⟨hzv, hzx⟩ := HZ.out e (List.mem_of_getElem? he)
        obtain ⟨ad, rfl, hab, c0, c1, c2, c3⟩ := HR.out.below HB.out k e he
        have hk1 : (0 : Int) ≤ (k : Int) := by omega
        have hk2 : (k : Int) < (l.length : Int) := by omega
        obtain ⟨W1, hW1⟩ : ∃ W, wr.alloc (.cells #[.int .i64 e.a, .int .i64 e.b, .string e.v, .string e.x] 36) = W := ⟨_, rfl⟩
        have hb1 : Below wr.heap.size wr W1 := by rw [← hW1]; exact (Below.refl _ _).alloc (Nat.le_refl _) _
        have hF := Four.new wr (.int .i64 e.a) (.int .i64 e.b) (.string e.v) (.string e.x) 36
        rw [hW1] at hF
        have g0 := fun d os => cell_regrown hF.c0 d os
        have g1 := fun d os => cell_regrown hF.c1 d os
        have g2 := fun d os => cell_regrown hF.c2 d os
        have g3 := fun d os => cell_regrown hF.c3 d os
        have HB1 := Lib.hid hb1
        have HE := Lib.hid he
        have C1 := Lib.hid (fun d os => Calls.regrown_of (right_any e (Sort.grow (redrawn W1 d) os) hzv hzx))
        unfold M.E.val at C1
        have HR1 := Lib.hid ((HR.out.below HB.out).below (hb1.mono HB.out.size))
        clear hb1 hF he
        cases hq : M.right e with
        | false =>
          rw [hq] at C1
          have HN := Lib.hid (M.rises_no (l := l) (fun h => by have := (h.2 k e hlt HE.out).1; rw [hq] at this; cases this))
          clear hq
          go_wp2_with fail
          refine wp_region_quiet_below (by kernel_rfl) (by kernel_rfl) ?_
          repeat (go_big_quiet_step (with_reducible exact C1.out _ _))
          refine wpQuiet_nil ?_
          intro _ hw'
          obtain ⟨⟨dq, osq⟩, hw4⟩ := hw'
          subst hw4
          go_wp2
          go_ret
          exact ⟨ret_bool HN.out.symm, HB.out.trans ((HB1.out.trans (below_regrown W1 dq osq |>.mono HB1.out.size)).mono HB.out.size)⟩
        | true =>
          rw [hq] at C1
          have HQ := Lib.hid hq
          clear hq
          by_cases hk0 : k = 0
          · have HU2 := Lib.hid (HUP.out.next HE.out HQ.out (fun f h => by omega))
            have hdk : decide (0 < k) = false := by rw [decide_eq_false_iff_not]; omega
            clear hk0
            go_wp2_with fail
            refine wp_region_quiet_below (by kernel_rfl) (by kernel_rfl) ?_
            repeat (go_big_quiet_step (with_reducible exact C1.out _ _))
            refine wpQuiet_nil ?_
            intro _ hw'
            obtain ⟨⟨dq, osq⟩, hw4⟩ := hw'
            subst hw4
            go_wp2
            go_roundw
            case rel => exact ⟨k + 1, by omega, by go_num, HU2.out, HB.out.trans ((HB1.out.trans (below_regrown W1 dq osq |>.mono HB1.out.size)).mono HB.out.size)⟩
            case measure => simp [intOf]; omega
          · obtain ⟨f, hf⟩ : ∃ f, l[k - 1]? = some f := ⟨_, List.getElem?_eq_getElem (by omega)⟩
            obtain ⟨j, hj⟩ : ∃ j : Nat, k - 1 = j := ⟨_, rfl⟩
            rw [hj] at hf
            obtain ⟨bd, hbd, hbb, d0, d1, d2, d3⟩ := HR1.out j f hf
            obtain rfl : ad = bd := by injection hbd
            have e1 := fun d os => cell_regrown d1 d os
            have HF := Lib.hid hf
            have hdk : decide (0 < k) = true := by rw [decide_eq_true_iff]; omega
            have hj1 : IntKind.i64.wrap ((k : Int) - 1) = (j : Int) := by rw [IntKind.wrap_i64]; omega
            have hj2 : (0 : Int) ≤ (j : Int) := by omega
            have hj3 : (j : Int) < (l.length : Int) := by omega
            have hjk : j + 1 = k := by omega
            have HJ := Lib.hid hjk
            clear hf hbd d0 d1 d2 d3 hk0 hj hjk
            by_cases hc : e.a ≤ f.b
            · have HN := Lib.hid (M.rises_no (l := l) (fun h => by
                have := (h.2 k e hlt HE.out).2 f (by have := HJ.out; omega) (by rw [← HJ.out]; exact HF.out)
                omega))
              have hdc : decide (e.a ≤ f.b) = true := by rw [decide_eq_true_iff]; exact hc
              go_wp2_with fail
              refine wp_region_quiet_below (by kernel_rfl) (by kernel_rfl) ?_
              repeat (go_big_quiet_step (with_reducible exact C1.out _ _))
              refine wpQuiet_nil ?_
              intro _ hw'
              obtain ⟨⟨dq, osq⟩, hw4⟩ := hw'
              subst hw4
              go_wp2
              go_ret
              exact ⟨ret_bool HN.out.symm, HB.out.trans ((HB1.out.trans (below_regrown W1 dq osq |>.mono HB1.out.size)).mono HB.out.size)⟩
            · have HU2 := Lib.hid (HUP.out.next HE.out HQ.out (fun f' _ h => by
                rw [← HJ.out] at h
                obtain rfl : f = f' := by have := HF.out; rw [show j + 1 - 1 = j by omega, this] at h; injection h
                omega))
              have hdc : decide (e.a ≤ f.b) = false := by rw [decide_eq_false_iff_not]; exact hc
              go_wp2_with fail
              refine wp_region_quiet_below (by kernel_rfl) (by kernel_rfl) ?_
              repeat (go_big_quiet_step (with_reducible exact C1.out _ _))
              refine wpQuiet_nil ?_
              intro _ hw'
              obtain ⟨⟨dq, osq⟩, hw4⟩ := hw'
              subst hw4
              go_wp2
              go_roundw
              case rel => exact ⟨k + 1, by omega, by go_num, HU2.out, HB.out.trans ((HB1.out.trans (below_regrown W1 dq osq |>.mono HB1.out.size)).mono HB.out.size)⟩
              case measure => simp [intOf]; omega
      · have HY := Lib.hid (M.rises_yes (l := l) ⟨by omega, by have := HUP.out; rwa [show k = l.length by omega] at this⟩)
        go_wp2
        go_ret
        exact ⟨ret_bool HY.out.symm, HB.out⟩
end Go.Proofs.Ytjbpjnnflcmmhaa
