/- The contract of the document's between. Conditions: the slice reads as a list, at most a thousand long; the places lie in it, one ahead of the other. -/
import Derived.Test.YtaiojghbknacjaaRLeaf
namespace Go.Proofs.Ytaiojghbknacjaa
open Go.RowKit
set_option maxRecDepth 100000

/-- A new block of two numbers, under a name. -/
theorem new_two (w : World) (a b : Int) (t : TypeId) : ∃ W : World, w.alloc (.cells #[.int .i64 a, .int .i64 b] t) = W ∧ Below w.heap.size w W ∧ W.cell? ⟨w.heap.size, 0, none⟩ = some (.int .i64 a) ∧ W.cell? ⟨w.heap.size, 1, none⟩ = some (.int .i64 b) ∧ W.frozen? ⟨w.heap.size, 0, none⟩ = false ∧ W.frozen? ⟨w.heap.size, 1, none⟩ = false ∧ w.heap.size < W.heap.size :=
  ⟨_, rfl, (Below.refl _ _).alloc (Nat.le_refl _) _, by simp [go_sem], by simp [go_sem], by simp [go_sem], by simp [go_sem], by simp⟩
set_option maxHeartbeats 4000000 in
theorem refBetw_any (A : Option Addr) (ca n p q : Nat) (l : List Int) (s : Int) (w : World) (hr : RdS .i64 w w.heap.size A l) (hn : l.length = n) (hl : n ≤ 1000) (hpq : p < q) (hq : q < n) :
    Calls Try.prog 24 #[.slice A n ca, .agg #[.int .i64 p, .int .i64 q], .int .i64 s] w fun r w' => r = .returned (.bool (M.btw s l (q - (p + 1)) (p + 1))) ∧ Below w.heap.size w w' := by
  obtain ⟨W1, hW1, hb1, e0, e1, -, -, -⟩ := new_two w p q 41
  have HR := Lib.hid ((hr.below hb1).more hb1.size)
  have HN := Lib.hid hn
  have HB1 := Lib.hid hb1
  obtain ⟨R, hR⟩ : ∃ R, M.btw s l (q - (p + 1)) (p + 1) = R := ⟨_, rfl⟩
  rw [hR]
  have HRR := Lib.hid hR
  have hl1 : (n : Int) ≤ 1000 := by omega
  have hq1 : (q : Int) < n := by omega
  have hp1 : (p : Int) < q := by omega
  have hp0 : (0 : Int) ≤ p := by omega
  clear hr hn hR hb1
  go_enter Try.func24, Try.ntmps24
  go_wp2_with fail
  go_loop [7] (fun v => ∃ k : Nat, p < k ∧ k ≤ q ∧ v = .int .i64 k ∧ M.btw s l (q - k) k = R) (fun v => q - (intOf v).toNat)
  case atStart => exact ⟨p + 1, by omega, by omega, by go_num, HRR.out⟩
  case round =>
    obtain ⟨k, hpk, hkq, rfl, hto⟩ := hrel
    have HT := Lib.hid hto
    have hk0 : (0 : Int) ≤ k := by omega
    clear hto
    by_cases hlt : k < q
    · have hk1 : (k : Int) < q := by omega
      have hk2 : (k : Int) < n := by omega
      obtain ⟨ad, x, rfl, hcx, hx, -⟩ := rd_at HR.out (Below.refl _ _) (by rw [HN.out]; omega : k < l.length)
      obtain ⟨m, hm⟩ : ∃ m, q - k = m + 1 := ⟨q - k - 1, by omega⟩
      have h1 := HT.out
      rw [hm] at h1
      have h2 : (if M.sg (l.getD k 0) = s then true else M.btw s l m (k + 1)) = R := h1
      rw [List.getD_eq_getElem?_getD, hx, show q - (k + 1) = m by omega |>.symm] at h2
      have h3 : (if M.sg x = s then true else M.btw s l (q - (k + 1)) (k + 1)) = R := h2
      have HS := Lib.hid (refStrong_any x W1)
      obtain ⟨y, hy⟩ : ∃ y, M.sg x = y := ⟨_, rfl⟩
      rw [hy] at h3 HS
      clear hx h1 h2 hy hm
      by_cases hys : y = s
      · rw [if_pos hys] at h3
        have H1 := Lib.hid h3
        have bs : (y == s) = true := by simp [hys]
        clear h3 hys
        go_wp2_with fail
        refine HS.out.mono ?_
        rintro r w1 ⟨rfl, rfl⟩
        go_wp2_with fail
        go_ret
        exact ⟨ret_bool H1.out, HB1.out⟩
      · rw [if_neg hys] at h3
        have H1 := Lib.hid h3
        have bs : (y == s) = false := by simp [hys]
        clear h3 hys
        go_wp2_with fail
        refine HS.out.mono ?_
        rintro r w1 ⟨rfl, rfl⟩
        go_wp2_with fail
        go_round
        case rel => exact ⟨k + 1, by omega, by omega, by go_num, H1.out⟩
        case measure => simp [intOf]; omega
    · obtain rfl : k = q := by omega
      have hk1 : ¬ (k : Int) < (k : Int) := by omega
      have h1 := HT.out
      rw [Nat.sub_self] at h1
      have H1 := Lib.hid (show false = R from h1)
      clear h1
      go_wp2_with fail
      go_ret
      exact ⟨ret_bool H1.out, HB1.out⟩
end Go.Proofs.Ytaiojghbknacjaa
