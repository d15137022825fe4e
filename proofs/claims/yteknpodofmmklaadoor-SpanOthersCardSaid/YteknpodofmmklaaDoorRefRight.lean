/- The contract of the document's Right. Conditions: the slice reads as a list of at most sixty spans whose fields are those of a span, each Ruby of at most two hundred bytes. -/
import Derived.Test.YteknpodofmmklaaDoorRight
namespace Go.Proofs.YteknpodofmmklaaDoor
open Go.RowKit

/-- Where the span ahead of the k-th ends. -/
def EndAt (l : List M.S) (k : Nat) (e : Int) : Prop := 0 ≤ e ∧ ((k = 0 ∧ e = 0) ∨ ∃ z, 1 ≤ k ∧ l[k - 1]? = some z ∧ e = z.t)
set_option maxRecDepth 100000 in
set_option maxHeartbeats 4000000 in
theorem refRight_any (A : Option Addr) (ca : Nat) (l : List M.S) (n : Int) (w : World) (hr : RdP w w.heap.size A l) (hm : l.length ≤ 60) (hz : Szd l) :
    Calls Tryd.prog 9 #[.slice A l.length ca, .int .i64 n] w fun r w' => r = .returned (.bool (M.right l n)) ∧ Below w.heap.size w w' := by
  have HR := Lib.hid hr
  have HZ := Lib.hid hz
  clear hr hz
  have HN := Lib.hid (show M.right l n = (decide (l.length ≤ 40) && M.chain n 0 l) from rfl)
  go_enter Tryd.func9, Tryd.ntmps9
  go_wp2_with fail
  go_loopw [5] (fun v wr => ∃ (k : Nat) (e : Int), k ≤ l.length ∧ v = .int .i64 k ∧ EndAt l k e ∧ M.chain n 0 l = M.chain n e (l.drop k) ∧ Below w.heap.size w wr) (fun v _ => l.length - (intOf v).toNat)
  case atStart => exact ⟨0, 0, Nat.zero_le _, rfl, ⟨Int.le_refl _, .inl ⟨rfl, rfl⟩⟩, rfl, Below.refl _ _⟩
  case round =>
    obtain ⟨k, e, hk, rfl, he, hch, hbr⟩ := hrel
    have HB := Lib.hid hbr
    have HE := Lib.hid he
    have he0 := he.1
    have hbs := hbr.size
    by_cases hlt : k < l.length
    · obtain ⟨s, hs⟩ : ∃ s, l[k]? = some s := ⟨_, List.getElem?_eq_getElem hlt⟩
      have HC := Lib.hid (hch.trans (M.chain_at hs))
      have HS := Lib.hid hs
      obtain ⟨⟨q0, q1⟩, ⟨q2, q3⟩, q4⟩ := HZ.out s (List.mem_of_getElem? hs)
      have HO := Lib.hid (one_any s wr q2 q3 q4 q1)
      obtain ⟨ad, hA, hab, c0, c1, c2, c3, c4, c5⟩ := HR.out.below hbr k s hs
      subst hA
      have hk1 : (0 : Int) ≤ (k : Int) := by omega
      have hk2 : (k : Int) < (l.length : Int) := by omega
      clear hs hch hbr q0 q1 q2 q3 q4 he
      go_wp2_with fail
      refine HO.out.mono ?_
      rintro r1 w1 ⟨rfl, hb1⟩
      have HB1 := Lib.hid (HB.out.trans (hb1.mono hbs))
      clear hb1 c0 c1 c2 c3 c4 c5
      have hs1 := HB1.out.size
      obtain ⟨ad', hA, hab', c0, c1, c2, c3, c4, c5⟩ := HR.out.below HB1.out k s HS.out
      obtain rfl : ad = ad' := by injection hA
      clear hA
      cases hone : M.oneB s
      · have HF := Lib.hid (show M.right l n = false by
          rw [HN.out, HC.out]
          have hh : (decide (e ≤ s.f) && (decide (s.f < s.t) && (decide (s.t ≤ n) && s.ok))) = false := by
            unfold M.oneB at hone
            cases hok : s.ok
            · simp
            · rw [hok] at hone
              by_cases h1 : s.f < s.t
              · rw [decide_eq_true h1] at hone
                have : ¬ 0 ≤ s.f := by simpa using hone
                rw [decide_eq_false (by omega : ¬ e ≤ s.f)]; rfl
              · rw [decide_eq_false h1]; simp
          rw [hh]; simp)
        clear hone
        go_wp2_with fail
        go_big_quiet (fail)
        go_wp2_with fail
        go_ret
        exact ⟨ret_bool (by rw [HF.out]), by first | exact HB1.out.drew | exact drewN_below HB1.out _⟩
      · obtain ⟨o1, o2, o3⟩ : 0 ≤ s.f ∧ s.f < s.t ∧ s.ok = true := by
          unfold M.oneB at hone
          simp only [Bool.and_eq_true, decide_eq_true_eq] at hone
          exact hone
        have HOK := Lib.hid o3
        clear hone o3
        by_cases h3 : n < s.t
        · have HF := Lib.hid (show M.right l n = false by rw [HN.out, HC.out, decide_eq_false (by omega : ¬ s.t ≤ n)]; simp)
          go_wp2_with fail
          go_big_quiet (fail)
          go_wp2_with fail
          go_ret
          exact ⟨ret_bool (by rw [HF.out]), by first | exact HB1.out.drew | exact drewN_below HB1.out _⟩
        · have h3' : decide (n < s.t) = false := by rw [decide_eq_false_iff_not]; exact h3
          rcases HE.out.2 with ⟨hk0, he⟩ | ⟨z, hk0, hz, he⟩
          · have hk3 : decide ((0 : Int) < (k : Int)) = false := by rw [decide_eq_false_iff_not]; omega
            have hk4 : decide (0 < k) = false := by rw [decide_eq_false_iff_not]; omega
            have hk5 : k ≤ 0 := by omega
            have HG := Lib.hid (show M.chain n 0 l = M.chain n s.t (l.drop (k + 1)) by rw [HC.out, decide_eq_true (by omega : e ≤ s.f), decide_eq_true o2, decide_eq_true (by omega : s.t ≤ n), HOK.out]; rfl)
            have HX := Lib.hid (show EndAt l (k + 1) s.t from ⟨by omega, .inr ⟨s, by omega, HS.out, rfl⟩⟩)
            clear he hk0
            go_wp2_with fail
            go_big_quiet (fail)
            go_wp2_with fail
            go_roundw
            case rel => exact ⟨k + 1, s.t, by omega, by go_num, HX.out, HG.out, by first | exact HB1.out.drew | exact drewN_below HB1.out _⟩
            case measure => simp [intOf]; omega
          · obtain ⟨m, rfl⟩ : ∃ m, k = m + 1 := ⟨k - 1, by omega⟩
            rw [Nat.add_sub_cancel] at hz
            obtain ⟨ad', hA, hab2, d0, d1, d2, d3, d4, d5⟩ := HR.out.below HB1.out m z hz
            obtain rfl : ad = ad' := by injection hA
            have hm1 : (0 : Int) ≤ (m : Int) := by omega
            have hm2 : (m : Int) < (l.length : Int) := by omega
            have hm3 : (0 : Int) < (m : Int) + 1 := by omega
            have HEQ := Lib.hid he
            by_cases h5 : s.f < z.t
            · have HF := Lib.hid (show M.right l n = false by rw [HN.out, HC.out, decide_eq_false (by omega : ¬ e ≤ s.f)]; simp)
              have h5' : decide (s.f < z.t) = true := by rw [decide_eq_true_iff]; exact h5
              clear hA hz he d0 d2 d3 d4 d5
              go_wp2_with fail
              go_big_quiet (fail)
              go_wp2_with fail
              go_ret
              exact ⟨ret_bool (by rw [HF.out]), by first | exact HB1.out.drew | exact drewN_below HB1.out _⟩
            · have h5' : decide (s.f < z.t) = false := by rw [decide_eq_false_iff_not]; exact h5
              have HG := Lib.hid (show M.chain n 0 l = M.chain n s.t (l.drop (m + 1 + 1)) by rw [HC.out, decide_eq_true (by omega : e ≤ s.f), decide_eq_true o2, decide_eq_true (by omega : s.t ≤ n), HOK.out]; rfl)
              have HX := Lib.hid (show EndAt l (m + 1 + 1) s.t from ⟨by omega, .inr ⟨s, by omega, HS.out, rfl⟩⟩)
              clear hA hz he d0 d2 d3 d4 d5
              go_wp2_with fail
              go_big_quiet (fail)
              go_wp2_with fail
              go_roundw
              case rel => exact ⟨m + 1 + 1, s.t, by omega, by go_num, HX.out, HG.out, by first | exact HB1.out.drew | exact drewN_below HB1.out _⟩
              case measure => simp [intOf]; omega
    · obtain rfl : k = l.length := by omega
      have HF := Lib.hid (show M.right l n = decide (l.length ≤ 40) by rw [HN.out, hch, List.drop_length]; simp [M.chain])
      clear hch hbr he
      go_wp2_with fail
      go_ret
      exact ⟨ret_bool (by rw [HF.out, decide_eq_decide]; omega), HB.out⟩
end Go.Proofs.YteknpodofmmklaaDoor
