/- The contracts of package weak's leaves: marked, joins, and the library's Index and Contains at a slice of classes. -/
import Derived.Test.YtanlclmlkpchfaaRRule
import Derived.Test.YtanlclmlkpchfaaCPlain
import Derived.Laws.OwnMore
namespace Go.Proofs.Ytanlclmlkpchfaa
open Go.RowKit
set_option maxRecDepth 100000

/-- What an NSM becomes behind a class. -/
def M.mkd (a : Int) : Int := if M.iso a then 13 else a
set_option maxHeartbeats 2000000 in
theorem marked_any (a : Int) (w : World) : Calls Try.prog 26 #[.int .i64 a] w fun r w' => r = .returned (.int .i64 (M.mkd a)) ∧ w = w' := by
  obtain ⟨ans, hans⟩ : ∃ x, M.mkd a = x := ⟨_, rfl⟩
  rw [hans]
  unfold M.mkd M.iso at hans
  have HANS := Lib.hid hans
  clear hans
  go_enter Try.func26, Try.ntmps26
  go_wp2
  all_goals (go_ret; exact ⟨ret_int (by rw [← HANS.out]; simp_all), rfl⟩)
set_option maxHeartbeats 2000000 in
theorem joins_any (c a : Int) (w : World) : Calls Try.prog 30 #[.int .i64 c, .int .i64 a] w fun r w' => r = .returned (.bool (M.jn c a)) ∧ w = w' := by
  obtain ⟨ans, hans⟩ : ∃ x, M.jn c a = x := ⟨_, rfl⟩
  rw [hans]
  unfold M.jn at hans
  have HANS := Lib.hid hans
  clear hans
  go_enter Try.func30, Try.ntmps30
  go_wp2
  all_goals (go_ret; exact ⟨ret_bool (by rw [← HANS.out, Bool.eq_iff_iff]; simp_all), rfl⟩)
set_option maxHeartbeats 2000000 in
theorem index_any (A : Option Addr) (ca n : Nat) (m : List Int) (c : Int) (w : World) (hr : RdS .i64 w w.heap.size A m) (hn : m.length = n) (hl : n ≤ 1000) :
    Calls Try.prog 31 #[.slice A n ca, .int .i64 c] w fun r w' => (∃ i : Int, r = .returned (.int .i64 i) ∧ (0 ≤ i ↔ c ∈ m)) ∧ w = w' := by
  have HR := Lib.hid hr
  have HN := Lib.hid hn
  have hl1 : (n : Int) ≤ 1000 := by omega
  clear hr hn
  go_enter Try.func31, Try.ntmps31
  go_wp2_with fail
  go_loopw [8] (fun v wr => ∃ k : Nat, v = .int .i64 k ∧ k ≤ n ∧ c ∉ m.take k ∧ wr = w) (fun v _ => n - (intOf v).toNat)
  case atStart => exact ⟨0, rfl, Nat.zero_le _, by simp, rfl⟩
  case round =>
    obtain ⟨k, rfl, hk, hno, rfl⟩ := hrel
    have HNO := Lib.hid hno
    have k0 : (0 : Int) ≤ k := by omega
    clear hno
    by_cases hlt : k < n
    · have k1 : (k : Int) < n := by omega
      obtain ⟨ad, x, rfl, hcx, hx, hab⟩ := rd_at HR.out (Below.refl _ _) (by rw [HN.out]; exact hlt : k < m.length)
      have HX := Lib.hid hx
      clear hx
      by_cases he : c = x
      · have hb : (c == x) = true := by simp [he]
        have HE := Lib.hid he
        clear he
        go_wp2_with fail
        go_ret
        exact ⟨⟨k, rfl, by simp only [k0, true_iff]; rw [HE.out]; exact List.mem_of_getElem? HX.out⟩, rfl⟩
      · have hb : (c == x) = false := by simp [he]
        have HE := Lib.hid he
        clear he
        go_wp2_with fail
        go_roundw
        case rel =>
          refine ⟨k + 1, by go_num, by omega, ?_, trivial⟩
          obtain ⟨hk', e⟩ := List.getElem?_eq_some_iff.1 HX.out
          rw [List.take_succ_eq_append_getElem hk', List.mem_append, not_or, e]
          exact ⟨HNO.out, by simpa using HE.out⟩
        case measure => simp [intOf]; omega
    · obtain rfl : k = n := by omega
      have k1 : ¬ (k : Int) < (k : Int) := by omega
      go_wp2_with fail
      go_ret
      refine ⟨⟨-1, rfl, ?_⟩, rfl⟩
      have h := HNO.out
      rw [← HN.out, List.take_length] at h
      simp [h]
theorem contains_any (A : Option Addr) (ca n : Nat) (m : List Int) (c : Int) (w : World) (hr : RdS .i64 w w.heap.size A m) (hn : m.length = n) (hl : n ≤ 1000) :
    Calls Try.prog 29 #[.slice A n ca, .int .i64 c] w fun r w' => r = .returned (.bool (decide (c ∈ m))) ∧ w = w' := by
  have HC := Lib.hid (index_any A ca n m c w hr hn hl)
  obtain ⟨ans, hans⟩ : ∃ x, decide (c ∈ m) = x := ⟨_, rfl⟩
  rw [hans]
  have HANS := Lib.hid hans
  clear hans hr hn
  go_enter Try.func29, Try.ntmps29
  go_wp2_with fail
  refine HC.out.mono ?_
  rintro r w1 ⟨⟨i, rfl, hi⟩, rfl⟩
  have HI := Lib.hid hi
  clear hi
  go_wp2_with fail
  go_ret
  exact ⟨ret_bool (by rw [← HANS.out]; simp only [decide_eq_decide]; exact HI.out), rfl⟩
end Go.Proofs.Ytanlclmlkpchfaa
