/- The contract of ucd's Right over the translation. Conditions: strings are no longer than the model lets them be. -/
import Derived.Test.YtjbpjnnflcmmhaaHex
import Derived.Test.YtjbpjnnflcmmhaaKit
namespace Go.Proofs.Ytjbpjnnflcmmhaa
open Go.RowKit

set_option maxHeartbeats 2000000 in
theorem right_any (e : M.E) (w : World) (hv : e.v.size ≤ maxLen) (hx : e.x.size ≤ maxLen) :
    Calls Try.prog 35 #[e.val] w fun r w' => r = .returned (.bool (M.right e)) ∧ Below w.heap.size w w' := by
  obtain ⟨a, b, v, x⟩ := e
  unfold M.right M.E.val
  dsimp only at hv hx ⊢
  obtain ⟨r, hr⟩ : ∃ r, M.rising a b = r := ⟨_, rfl⟩
  obtain ⟨wv, hwv⟩ : ∃ r, M.word v.data.toList = r := ⟨_, rfl⟩
  obtain ⟨wx, hwx⟩ : ∃ r, M.word x.data.toList = r := ⟨_, rfl⟩
  rw [hr, hwv, hwx]
  have HR := Lib.hid hr
  have HV := Lib.hid hwv
  have HX := Lib.hid hwx
  clear hr hwv hwx
  have hb0 : Below w.heap.size w (w.alloc (.cells #[.int .i64 a, .int .i64 b, .string v, .string x] 36)) := (Below.refl _ _).alloc (Nat.le_refl _) _
  have HB0 := Lib.hid hb0
  clear hb0
  cases r with
  | false =>
    go_enter Try.func35, Try.ntmps35
    go_wp2_with fail
    refine (rising_any _ _ _).mono ?_
    rintro e w1 ⟨rfl, rfl⟩
    rw [HR.out]
    go_wp2
    go_ret
    exact ⟨ret_bool (by simp), HB0.out⟩
  | true =>
    cases wv with
    | false =>
      go_enter Try.func35, Try.ntmps35
      go_wp2_with fail
      refine (rising_any _ _ _).mono ?_
      rintro e w1 ⟨rfl, rfl⟩
      rw [HR.out]
      go_wp2_with fail
      refine (isWord_any v _ hv).mono ?_
      rintro e w2 ⟨rfl, hb2⟩
      rw [HV.out]
      have hbb := HB0.out.trans (hb2.mono (by simp))
      clear hb2
      go_wp2
      go_ret
      exact ⟨ret_bool (by simp), hbb⟩
    | true =>
      by_cases hx0 : x.data.toList = []
      · obtain rfl : x = ByteArray.empty := by rw [← M.bytes_self x, hx0]; rfl
        go_enter Try.func35, Try.ntmps35
        go_wp2_with fail
        refine (rising_any _ _ _).mono ?_
        rintro e w1 ⟨rfl, rfl⟩
        rw [HR.out]
        go_wp2_with fail
        refine (isWord_any v _ hv).mono ?_
        rintro e w2 ⟨rfl, hb2⟩
        rw [HV.out]
        have hbb := HB0.out.trans (hb2.mono (by simp))
        have f := (Four.new w (.int .i64 a) (.int .i64 b) (.string v) (.string ByteArray.empty) 36).below hb2 (by simp)
        have c3 := f.c3
        clear hb2 f
        go_wp2
        go_ret
        exact ⟨ret_bool (by simp), hbb⟩
      · have hl0 : ¬ x.toList = [] := by rw [toList_nil]; exact hx0
        have hl1 : x.toList.isEmpty = false := by rw [List.isEmpty_eq_false_iff]; exact hl0
        go_enter Try.func35, Try.ntmps35
        go_wp2_with fail
        refine (rising_any _ _ _).mono ?_
        rintro e w1 ⟨rfl, rfl⟩
        rw [HR.out]
        go_wp2_with fail
        refine (isWord_any v _ hv).mono ?_
        rintro e w2 ⟨rfl, hb2⟩
        rw [HV.out]
        have hbb := HB0.out.trans (hb2.mono (by simp))
        have f := (Four.new w (.int .i64 a) (.int .i64 b) (.string v) (.string x) 36).below hb2 (by simp)
        have c3 := f.c3
        clear hb2 f
        go_wp2_with fail
        refine (isWord_any x _ hx).mono ?_
        rintro e w3 ⟨rfl, hb3⟩
        rw [HX.out]
        have hbb3 := hbb.trans (hb3.mono hbb.size)
        clear hb3 hbb c3
        go_wp2
        go_ret
        exact ⟨ret_bool (by simp [hx0]), hbb3⟩
theorem M.word_le {l : List UInt8} (h : M.word l = true) : l.length ≤ 16 := by
  simp [M.word] at h
  exact h.1.2
end Go.Proofs.Ytjbpjnnflcmmhaa
