/- The contract of the document's next: the least level above the top's, odd or even. Condition: the machine is right, its top's level from 0 to 125. -/
import Derived.Test.YtdipaiflfhdpoaaMach
namespace Go.Proofs.Ytdipaiflfhdpoaa
open Go.RowKit

set_option maxHeartbeats 2000000 in
theorem next_any (base mb g cap n : Nat) (m : M.Mc) (odd : Int) (w : World) (h : MachAt w base mb g cap m) (hn : m.s.length = n + 1) (hl : n ≤ 10000) (h0 : 0 ≤ m.top.lv) (h1 : m.top.lv ≤ 125) :
    Calls Try.prog 45 #[.pointer (some ⟨mb, 0, none⟩), .int .i64 odd] w fun r w' => r = .returned (.int .i64 (m.next odd)) ∧ Below w.heap.size w w' := by
  have HT := Lib.hid (top_any base mb g cap n m w h hn hl)
  obtain ⟨t, ht⟩ : ∃ t, m.top = t := ⟨_, rfl⟩
  have HN := Lib.hid (show m.next odd = if (t.lv + 1) % 2 ≠ odd then t.lv + 1 + 1 else t.lv + 1 by rw [← ht]; rfl)
  rw [ht] at HT h0 h1
  obtain ⟨lv, ov, iso⟩ := t
  simp only at h0 h1 HN
  rw [show M.Ent.val ⟨lv, ov, iso⟩ = .agg #[.int .i64 lv, .int .i64 ov, .bool iso] from rfl] at HT
  have hw1 : IntKind.i64.wrap (lv + 1) = lv + 1 := by rw [IntKind.wrap_i64]; omega
  have hw2 : IntKind.i64.wrap (lv + 1 + 1) = lv + 1 + 1 := by rw [IntKind.wrap_i64]; omega
  have hw3 : IntKind.i64.wrap ((lv + 1).tmod 2) = (lv + 1) % 2 := by rw [Int.tmod_eq_emod_of_nonneg (by omega), IntKind.wrap_i64]; omega
  have hf : ∀ w : World, (Instr.field 65 (.agg #[.int .i64 lv, .int .i64 ov, .bool iso]) 0).run Try.prog w = .ok (.int .i64 lv) w := fun w => by kernel_rfl
  clear h hn ht
  go_enter Try.func45, Try.ntmps45
  go_wp2_with fail
  refine HT.out.mono ?_
  rintro r w1 ⟨rfl, hb⟩
  have HB := Lib.hid hb
  clear hb
  by_cases hc : (lv + 1) % 2 = odd
  · rw [if_neg (by omega)] at HN
    go_wp2_with fail
    go_ret
    exact ⟨by rw [HN.out]; rfl, HB.out⟩
  · rw [if_pos (by omega)] at HN
    go_wp2_with fail
    go_ret
    exact ⟨by rw [HN.out]; rfl, HB.out⟩
end Go.Proofs.Ytdipaiflfhdpoaa
