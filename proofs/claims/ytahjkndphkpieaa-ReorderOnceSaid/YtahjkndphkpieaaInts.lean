/- The contracts of the document's Ints and of the statements' Same over the translation, at two slices that read as one list: true. -/
import Derived.Test.YtahjkndphkpieaaBase
namespace Go.Proofs.Ytahjkndphkpieaa
open Go.RowKit
set_option maxRecDepth 100000

set_option maxHeartbeats 1000000 in
theorem ints_same (A A' : Option Addr) (c c' n : Nat) (l : List Int) (w : World) (h1 : RdS .i64 w w.heap.size A l) (h2 : RdS .i64 w w.heap.size A' l) (hn : l.length = n) (hl : n ≤ 1000) :
    Calls Try.prog 15 #[.slice A n c, .slice A' n c'] w fun e w' => e = .returned (.bool true) ∧ Below w.heap.size w w' := by
  have H1 := Lib.hid h1
  have H2 := Lib.hid h2
  have HN := Lib.hid hn
  have hl1 : (n : Int) ≤ 1000 := by omega
  clear h1 h2 hn
  go_enter Try.func15, Try.ntmps15
  go_wp2_with fail
  go_loopw [5] (fun i wr => ∃ k : Nat, i = .int .i64 k ∧ k ≤ n ∧ Below w.heap.size w wr) (fun i _ => n - (intOf i).toNat)
  case atStart => exact ⟨0, rfl, Nat.zero_le _, Below.refl _ _⟩
  case round =>
    obtain ⟨k, rfl, hk, hb⟩ := hrel
    have HB := Lib.hid hb
    have hn := HN.out
    by_cases hlt : k < n
    · obtain ⟨ad, x, rfl, hcx, hx, hab⟩ := rd_at H1.out hb (by omega : k < l.length)
      obtain ⟨ad2, y, rfl, hcy, hy, hab2⟩ := rd_at H2.out hb (by omega : k < l.length)
      obtain rfl : x = y := by rw [hx] at hy; injection hy
      have k0 : (0 : Int) ≤ k := by omega
      have k1 : (k : Int) < n := by omega
      have cx := fun d os => cell_regrown hcx d os
      have cy := fun d os => cell_regrown hcy d os
      clear hb hx hy hab hab2 hn hcx hcy
      go_wp2_with fail
      refine wp_region_quiet_below (by kernel_rfl) (by kernel_rfl) ?_
      repeat (go_big_quiet_step (fail))
      refine wpQuiet_nil ?_
      intro _ hw'
      obtain ⟨⟨dq, osq⟩, hw4⟩ := hw'
      subst hw4
      have HB5 := Lib.hid (show Below w.heap.size w (Sort.grow (redrawn wr dq) osq) from HB.out.trans ((below_regrown wr dq osq).mono HB.out.size))
      obtain ⟨W2, hW2⟩ : ∃ W, Sort.grow (redrawn wr dq) osq = W := ⟨_, rfl⟩
      rw [hW2] at HB5
      dsimp only
      rw [hW2]
      clear hW2 cx cy
      go_wp2_with fail
      go_roundw
      case rel => exact ⟨k + 1, by go_num, by omega, HB5.out⟩
      case measure => simp [intOf]; omega
    · clear hb hn
      have k1 : ¬ (k : Int) < n := by omega
      go_wp2_with fail
      go_ret
      exact ⟨rfl, HB.out⟩
end Go.Proofs.Ytahjkndphkpieaa
