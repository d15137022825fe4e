/- The contract of the document's Same of pairs, at two slices that read as one list. Condition: at most a thousand long. -/
import Derived.Test.YtaiojghbknacjaaTwo
namespace Go.Proofs.Ytaiojghbknacjaa
open Go.RowKit
set_option maxRecDepth 100000

set_option maxHeartbeats 4000000 in
theorem samep_any (A B : Option Addr) (ca cb K : Nat) (l : List (Int × Int)) (w : World) (h1 : RdT w w.heap.size A l) (h2 : RdT w w.heap.size B l) (hK : l.length = K) (hl : K ≤ 1000) :
    Calls Try.prog 9 #[.slice A K ca, .slice B K cb] w fun e w' => e = .returned (.bool true) ∧ Below w.heap.size w w' := by
  have H1 := Lib.hid h1
  have H2 := Lib.hid h2
  have HK := Lib.hid hK
  have hKi : (K : Int) ≤ 1000 := by omega
  have bn : ((K : Int) != (K : Int)) = false := by simp
  clear h1 h2 hK
  go_enter Try.func9, Try.ntmps9
  go_wp2_with fail
  go_loopw [5] (fun v wr => ∃ k : Nat, k ≤ K ∧ v = .int .i64 k ∧ Below w.heap.size w wr) (fun v _ => K - (intOf v).toNat)
  case atStart => exact ⟨0, Nat.zero_le _, rfl, Below.refl _ _⟩
  case round =>
    obtain ⟨k, hk, rfl, hb⟩ := hrel
    have HB := Lib.hid hb
    have k0 : (0 : Int) ≤ k := by omega
    by_cases hlt : k < K
    · have k1 : (k : Int) < K := by omega
      obtain ⟨ad, a, b, rfl, c0, c1, hab, -⟩ := two_at H1.out hb (by rw [HK.out]; exact hlt)
      obtain ⟨ad2, a', b', rfl, d0, d1, hab', -⟩ := two_at H2.out hb (by rw [HK.out]; exact hlt)
      obtain ⟨rfl, rfl⟩ : a = a' ∧ b = b' := by rw [hab] at hab'; injection hab' with e; injection e with e1 e2; exact ⟨e1, e2⟩
      have hg := guard_arr2
      have hq := fun w => neq_arr2 w a b
      have c0' := fun d os => cell_regrown c0 d os
      have c1' := fun d os => cell_regrown c1 d os
      have d0' := fun d os => cell_regrown d0 d os
      have d1' := fun d os => cell_regrown d1 d os
      clear hb hab hab' c0 c1 d0 d1
      go_wp2_with fail
      refine wp_region_quiet_below (by kernel_rfl) (by kernel_rfl) ?_
      repeat (go_big_quiet_step (fail))
      refine wpQuiet_nil ?_
      intro _ hw'
      obtain ⟨⟨dq, osq⟩, hw4⟩ := hw'
      subst hw4
      have hbg := below_regrown wr dq osq
      obtain ⟨X, hX⟩ : ∃ Z, Sort.grow (redrawn wr dq) osq = Z := ⟨_, rfl⟩
      rw [hX] at hbg
      dsimp only
      rw [hX]
      have HX := Lib.hid (HB.out.trans (hbg.mono HB.out.size))
      clear hX hbg c0' c1' d0' d1'
      go_wp2_with fail
      go_roundw
      case rel => exact ⟨k + 1, by omega, by go_num, HX.out⟩
      case measure => simp [intOf]; omega
    · obtain rfl : k = K := by omega
      have hnk : ¬ (k : Int) < (k : Int) := by omega
      clear hb
      go_wp2_with fail
      go_ret
      exact ⟨rfl, HB.out⟩
end Go.Proofs.Ytaiojghbknacjaa
