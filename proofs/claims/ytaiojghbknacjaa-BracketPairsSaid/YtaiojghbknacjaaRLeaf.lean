/- The contracts of the document's strong, kind, ahead and between. Conditions: the slices read as lists, at most a thousand long; places lie in the list. -/
import Derived.Test.YtaiojghbknacjaaTwo
import Derived.Test.YtaiojghbknacjaaBrkR
namespace Go.Proofs.Ytaiojghbknacjaa
open Go.RowKit
set_option maxRecDepth 100000

theorem M.take_next' {l : List Int} {k : Nat} {x : Int} (h : l[k]? = some x) : (l.take (k + 1)).reverse = x :: (l.take k).reverse := by
  obtain ⟨hk, rfl⟩ := List.getElem?_eq_some_iff.1 h
  rw [List.take_succ_eq_append_getElem hk]
  simp
theorem M.sg_or (c : Int) : M.sg c = 13 ∨ M.sg c = 0 ∨ M.sg c = 1 := by unfold M.sg; (repeat' split) <;> simp
theorem refStrong_any (c : Int) (w : World) : Calls Try.prog 33 #[.int .i64 c] w fun r w' => r = .returned (.int .i64 (M.sg c)) ∧ w = w' := by
  have H := Lib.hid (show M.sg c = if c = 1 ∨ c = 3 ∨ c = 6 then 1 else if c = 0 then 0 else 13 from rfl)
  go_enter Try.func33, Try.ntmps33
  go_wp2_with fail
  all_goals (go_ret; exact ⟨ret_int (by rw [H.out]; simp_all), rfl⟩)
set_option maxHeartbeats 4000000 in
theorem refKind_any (A B : Option Addr) (ca cb n m i : Nat) (l : List Int) (ms : List (Int × Int)) (w : World) (hr : RdS .i64 w w.heap.size A l) (hn : l.length = n) (hl : n ≤ 1000) (hr2 : RdT w w.heap.size B ms) (hm : ms.length = m) (hl2 : m ≤ 1000) (hi : i < n) :
    Calls Try.prog 21 #[.slice A n ca, .slice B m cb, .int .i64 i] w fun r w' => r = .returned (.int .i64 (M.kd l ms i)) ∧ w = w' := by
  obtain ⟨ad, c, rfl, hcc, hc, -⟩ := rd_at hr (Below.refl _ _) (by omega : i < l.length)
  obtain ⟨R, hR⟩ : ∃ R, M.kd l ms i = R := ⟨_, rfl⟩
  rw [hR]
  unfold M.kd at hR
  rw [hc] at hR
  have hl1 : (n : Int) ≤ 1000 := by omega
  have hl3 : (m : Int) ≤ 1000 := by omega
  have hi0 : (0 : Int) ≤ i := by omega
  have hi1 : (i : Int) < n := by omega
  by_cases him : i < m
  · obtain ⟨ad2, a, b, rfl, hca, hcb, hab, -⟩ := two_at hr2 (Below.refl _ _) (by omega : i < ms.length)
    have hi2 : ¬ (m : Int) ≤ i := by omega
    rw [hab] at hR
    dsimp only at hR
    clear hr hr2 hn hm hc hab him hi
    by_cases h13 : c = 13
    · subst h13
      rw [if_pos rfl] at hR
      by_cases ha : a = 1 ∨ a = 2
      · rw [if_pos ha] at hR
        have H1 := Lib.hid hR
        clear hR
        rcases ha with rfl | rfl
        all_goals
          go_enter Try.func21, Try.ntmps21
          go_wp2_with fail
          go_ret
          exact ⟨ret_int H1.out, rfl⟩
      · rw [if_neg ha] at hR
        have H1 := Lib.hid hR
        clear hR
        by_cases h1 : a < 1
        · clear ha
          go_enter Try.func21, Try.ntmps21
          go_wp2_with fail
          go_ret
          exact ⟨ret_int H1.out, rfl⟩
        · have h2 : 2 < a := by omega
          clear ha
          go_enter Try.func21, Try.ntmps21
          go_wp2_with fail
          go_ret
          exact ⟨ret_int H1.out, rfl⟩
    · rw [if_neg (by intro e; injection e with e; exact h13 e)] at hR
      have H1 := Lib.hid hR
      have b13 : (c != 13) = true := by simp; omega
      clear hR h13
      go_enter Try.func21, Try.ntmps21
      go_wp2_with fail
      go_ret
      exact ⟨ret_int H1.out, rfl⟩
  · have hno : ms[i]? = none := List.getElem?_eq_none (by omega)
    rw [hno] at hR
    have H1 := Lib.hid (show 0 = R by rw [← hR]; split <;> rfl)
    have hi2 : (m : Int) ≤ i := by omega
    clear hR hno hr hr2 hn hm hc him hi
    go_enter Try.func21, Try.ntmps21
    go_wp2_with fail
    go_ret
    exact ⟨ret_int H1.out, rfl⟩
set_option maxHeartbeats 4000000 in
theorem refAhead_any (A : Option Addr) (ca n at_ : Nat) (l : List Int) (f : Int) (w : World) (hr : RdS .i64 w w.heap.size A l) (hn : l.length = n) (hl : n ≤ 1000) (hat : at_ ≤ n) :
    Calls Try.prog 25 #[.slice A n ca, .int .i64 at_, .int .i64 f] w fun r w' => r = .returned (.int .i64 (M.ahd f (l.take at_).reverse)) ∧ w = w' := by
  have HR := Lib.hid hr
  have HN := Lib.hid hn
  have hl1 : (n : Int) ≤ 1000 := by omega
  have ha1 : (at_ : Int) ≤ n := by omega
  have ha0 : (0 : Int) ≤ at_ := by omega
  obtain ⟨R, hR⟩ : ∃ R, M.ahd f (l.take at_).reverse = R := ⟨_, rfl⟩
  rw [hR]
  have HRR := Lib.hid hR
  clear hr hn hR
  go_enter Try.func25, Try.ntmps25
  have hw0 : IntKind.i64.wrap ((at_ : Int) - 1) = (at_ : Int) - 1 := by rw [IntKind.wrap_i64]; omega
  go_wp2_with fail
  go_loop [7] (fun v => ∃ (k : Nat) (q : Int), k ≤ at_ ∧ v = .int .i64 q ∧ q + 1 = k ∧ M.ahd f (l.take k).reverse = R) (fun v => (intOf v + 1).toNat)
  case atStart => exact ⟨at_, (at_ : Int) - 1, Nat.le_refl _, rfl, by omega, HRR.out⟩
  case round =>
    obtain ⟨k, q, hkm, rfl, hq, hto⟩ := hrel
    have HT := Lib.hid hto
    clear hto
    cases k with
    | zero =>
      have H1 := Lib.hid (show f = R from HT.out)
      have hq0 : ¬ 0 ≤ q := by omega
      clear hq
      go_wp2_with fail
      go_ret
      exact ⟨ret_int H1.out, rfl⟩
    | succ k =>
      obtain rfl : q = (k : Nat) := by omega
      have hk0' : (0 : Int) ≤ (k : Int) := by omega
      obtain ⟨ad2, x, rfl, hcx, hx, -⟩ := rd_at HR.out (Below.refl _ _) (by rw [HN.out]; omega : k < l.length)
      have hk1 : (k : Int) < (n : Int) := by omega
      have hd := M.take_next' hx
      have h1 := HT.out
      rw [hd] at h1
      have h2 : (if M.sg x = 13 then M.ahd f (l.take k).reverse else M.sg x) = R := h1
      have HS := Lib.hid (refStrong_any x w)
      obtain ⟨s, hs⟩ : ∃ s, M.sg x = s := ⟨_, rfl⟩
      rw [hs] at h2 HS
      have hw1 : IntKind.i64.wrap ((k : Int) - 1) = (k : Int) - 1 := by rw [IntKind.wrap_i64]; omega
      clear hx hd h1 hs hq
      by_cases h13 : s = 13
      · rw [if_pos h13] at h2
        have H1 := Lib.hid h2
        subst h13
        clear h2
        go_wp2_with fail
        refine HS.out.mono ?_
        rintro r w1 ⟨rfl, rfl⟩
        go_wp2_with fail
        go_round
        case rel => exact ⟨k, (k : Int) - 1, by omega, rfl, by omega, H1.out⟩
        case measure => simp [intOf]
      · rw [if_neg h13] at h2
        have H1 := Lib.hid h2
        have b13 : (s != 13) = true := by simp; omega
        clear h2 h13
        go_wp2_with fail
        refine HS.out.mono ?_
        rintro r w1 ⟨rfl, rfl⟩
        go_wp2_with fail
        go_ret
        exact ⟨ret_int H1.out, rfl⟩
end Go.Proofs.Ytaiojghbknacjaa
