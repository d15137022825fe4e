/- The document's own count and Counts over the translation. Conditions: the slice reads as a list of kinds, at most a thousand long. -/
import Derived.Test.YtfackeiommiejaaCounts
namespace Go.Proofs.Ytfackeiommiejaa
open Go.RowKit

set_option maxHeartbeats 2000000 in
theorem refCount_any (A : Option Addr) (ca n : Nat) (l : List Int) (hn : l.length = n) (hl : n ≤ 1000) : ∀ (k : Nat) (w : World), RdS .i64 w w.heap.size A l → k < n →
    Calls Try.prog 20 #[.slice A n ca, .int .i64 k] w fun r w' => r = .returned (.int .i64 (M.st (l.take (k + 1))).b) ∧ w = w' := by
  intro k
  induction k with
  | zero =>
    intro w hr hk
    obtain ⟨m, hm⟩ : ∃ m, m = 0 := ⟨0, rfl⟩
    rw [← hm]
    obtain ⟨ad, x, rfl, hcx, hx, hab⟩ := rd_at hr (Below.refl _ _) (by omega : m < l.length)
    rw [M.st_last hx]
    have hst : (M.st (l.take m)).b = 11 := by rw [hm]; rfl
    rw [hst]
    have n0 : (0 : Int) ≤ m := by omega
    have n1 : (m : Int) < n := by omega
    have nz : ((m : Int) == 0) = true := by rw [beq_iff_eq]; omega
    have nz' : (m == 0) = true := by rw [beq_iff_eq]; omega
    have hb : M.bears 11 = false := by decide
    obtain ⟨ans, hans⟩ : ∃ c, M.cnt 11 x = c := ⟨_, rfl⟩
    rw [hans]
    unfold M.cnt at hans
    rw [hb] at hans
    have HANS := Lib.hid hans
    clear hr hk hx hab hst hb hans hn hl hm
    go_enter Try.func20, Try.ntmps20
    go_wp2
    all_goals
      go_ret
      exact ⟨ret_int (by rw [← HANS.out]; simp_all <;> omega), rfl⟩
  | succ k ih =>
    intro w hr hk
    have IH := Lib.hid (ih w hr (by omega))
    obtain ⟨m, hm⟩ : ∃ m, m = k + 1 := ⟨_, rfl⟩
    rw [← hm] at hk IH ⊢
    obtain ⟨ad, x, rfl, hcx, hx, hab⟩ := rd_at hr (Below.refl _ _) (by omega : m < l.length)
    rw [M.st_last hx]
    obtain ⟨a, ha⟩ : ∃ a, (M.st (l.take m)).b = a := ⟨_, rfl⟩
    rw [ha] at IH ⊢
    have n1 : (m : Int) < n := by omega
    have n0 : (0 : Int) ≤ m := by omega
    have nz : ((m : Int) == 0) = false := by rw [beq_eq_false_iff_ne]; omega
    have nz' : (m == 0) = false := by rw [beq_eq_false_iff_ne]; omega
    have HM := Lib.hid (show (m : Int) - 1 = k by omega)
    have m1 : (m : Int) ≤ 1000 := by omega
    obtain ⟨ans, hans⟩ : ∃ c, M.cnt a x = c := ⟨_, rfl⟩
    rw [hans]
    unfold M.cnt M.bears at hans
    have HANS := Lib.hid hans
    clear hr hk hx hab hans hn hl ih ha hm
    go_enter Try.func20, Try.ntmps20
    go_wp2_with (go_at_call 20; rw [HM.out]; with_reducible refine IH.out.mono ?_; rintro r w1 ⟨rfl, rfl⟩)
    all_goals
      go_ret
      exact ⟨ret_int (by rw [← HANS.out]; simp_all <;> omega), rfl⟩

set_option maxHeartbeats 4000000 in
theorem refCounts_any (A : Option Addr) (ca n : Nat) (l : List Int) (w : World) (hr : RdS .i64 w w.heap.size A l) (hn : l.length = n) (hl : n ≤ 1000) :
    Calls Try.prog 13 #[.slice A n ca] w (ListOut (M.cnts l) w) := by
  obtain ⟨i0, hi, hz0, hz1, hz2⟩ := info_parts Try.infoKind
  have HR := Lib.hid hr
  have HN := Lib.hid hn
  have hl1 : (n : Int) ≤ 1000 := by omega
  clear hr hn
  go_enter Try.func13, Try.ntmps13
  go_wp2_with fail
  go_loopw [3, 4] (fun o v wr => ∃ k : Nat, v = .int .i64 k ∧ k ≤ n ∧ wr.ownsRow w.heap.size 31 1 o (M.cntsTo l k).length ((M.cntsTo l k).map (Value.int .i64)) ∧ Below w.heap.size w wr) (fun _ v _ => n - (intOf v).toNat)
  case atStart => exact ⟨0, rfl, Nat.zero_le _, ⟨rfl, .inl ⟨rfl, rfl⟩⟩, Below.refl _ _⟩
  case round =>
    obtain ⟨k, rfl, hk, ho, hb⟩ := hrel
    rename Value => o
    have hn := HN.out
    have HB := Lib.hid hb
    have HO := Lib.hid ho
    have k0 : (0 : Int) ≤ k := by omega
    by_cases hlt : k < n
    · have k1 : (k : Int) < n := by omega
      obtain ⟨x, hx⟩ : ∃ x, (M.st (l.take (k + 1))).b = x := ⟨_, rfl⟩
      have HC := Lib.hid (by have := refCount_any A ca n l hn hl k wr ((HR.out.below hb).more hb.size) hlt; rw [hx] at this; exact this)
      have HNX := Lib.hid (show M.cntsTo l k ++ [x] = M.cntsTo l (k + 1) by rw [M.cntsTo_succ, hx])
      have hbs := hb.size
      clear hb ho hn hx
      go_wp2_with (first | (go_at_call 20; refine HC.out.mono ?_; rintro r w2 ⟨rfl, rfl⟩) | (at_builtin; refine wpList_append_own _ rfl _ _ 22 rfl w.heap.size 31 i0 (.int .i64 0) 1 8 Try.underlying22 hi hz0 hz1 hz2 rfl (by decide) _ _ _ rfl (World.ownsRow.alloc HO.out _) ⟨wr.heap.size, 0, none⟩ 1 1 [.int .i64 x] rfl rfl (one_new _ _ _) one_cell (by rw [M.cntsTo_len]; unfold maxLen; omega) (by rw [M.cntsTo_len]; omega) (by simp; omega) ?_))
      intro v4 w4 ho4 hg4 _
      have hb4 : Below w.heap.size w w4 := grow_below0 (HB.out.alloc hbs _) (World.ownsRow.alloc HO.out _) hg4 (by simp; omega)
      have HB4 := Lib.hid hb4
      have hlen : (M.cntsTo l k).length + 1 = (M.cntsTo l (k + 1)).length := by rw [M.cntsTo_len, M.cntsTo_len]
      have hmap : (M.cntsTo l k).map (Value.int .i64) ++ [Value.int .i64 x] = (M.cntsTo l (k + 1)).map (Value.int .i64) := by rw [← HNX.out, List.map_append]; rfl
      rw [hlen, hmap] at ho4
      have HO4 := Lib.hid ho4
      clear ho4 hg4 hb4 hlen hmap
      go_wp2_with fail
      go_roundw
      case rel => exact ⟨k + 1, by go_num, by omega, HO4.out, HB4.out⟩
      case measure => simp [intOf]; omega
    · obtain rfl : k = n := by omega
      obtain ⟨A', c', rfl, hr', hc', hm', hnn⟩ := reads_own ho
      have hcn : M.cntsTo l k = M.cnts l := by unfold M.cnts; rw [hn]
      rw [hcn] at hr' hc' ⊢
      have HF := Lib.hid (show RdS .i64 wr wr.heap.size A' (M.cnts l) ∧ (M.cnts l).length ≤ c' ∧ c' ≤ maxLen ∧ (A' = none → c' = 0) from ⟨hr', hc', hm', hnn⟩)
      clear hb ho hn hr' hc' hm' hnn HO hcn
      go_wp2_with fail
      go_ret
      obtain ⟨f2, f3, f4, f5⟩ := HF.out
      exact ⟨A', c', rfl, f2, f3, f4, f5, HB.out⟩
end Go.Proofs.Ytfackeiommiejaa
