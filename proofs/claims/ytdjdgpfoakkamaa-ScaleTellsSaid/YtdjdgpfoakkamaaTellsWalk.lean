/- The walk of stage 4's law of what numbers tell: it answers true. Conditions: the arguments are those of words of eight bytes. -/
import Derived.Test.YtdjdgpfoakkamaaAlive
namespace Go.Proofs.Ytdjdgpfoakkamaa
open Go.RowKit

set_option maxHeartbeats 4000000 in
theorem tells_any (x y n : Int) (w : World) (hx0 : 0 ≤ x) (hx1 : x ≤ 18446744073709551615) (hy0 : 0 ≤ y) (hy1 : y ≤ 18446744073709551615) (hn0 : -9223372036854775808 ≤ n) (hn1 : n ≤ 9223372036854775807) :
    Calls Try.prog 3 #[.int .u64 x, .int .u64 y, .int .i64 n] w fun r w' => r = .returned (.bool true) ∧ w' = w := by
  have ha := cells_at x w hx0 hx1
  have hb := refCells_any x w hx0 hx1
  have hc := of_any n w hn0 hn1
  have hd := refOf_any n w
  have he := sort_at x w hx0 hx1
  have hf := refSort_any x w hx0 hx1
  have hg := order_at x y w hx0 hx1 hy0 hy1
  have hh := refOrder_any x y w hx0 hx1 hy0 hy1
  obtain ⟨s, hs⟩ : ∃ s, M.sortI x = s := ⟨_, rfl⟩
  obtain ⟨o, ho⟩ : ∃ o, M.orderI x y = o := ⟨_, rfl⟩
  obtain ⟨k, hk⟩ : ∃ k, M.cellsI x = k := ⟨_, rfl⟩
  obtain ⟨m, hm⟩ : ∃ m, M.ofI n = m := ⟨_, rfl⟩
  rw [hs] at he hf
  rw [ho] at hg hh
  rw [hk] at ha hb
  rw [hm] at hc hd
  clear hs ho hk hm
  cases k <;> cases m <;> simp only [M.cellsV, M.ofV] at ha hb hc hd
  all_goals
    have HA := Lib.hid ha
    have HB := Lib.hid hb
    have HC := Lib.hid hc
    have HD := Lib.hid hd
    have HE := Lib.hid he
    have HF := Lib.hid hf
    have HG := Lib.hid hg
    have HH := Lib.hid hh
    clear ha hb hc hd he hf hg hh
    go_enter Try.func3, Try.ntmps3
    go_wp2_with fail
    refine HA.out.mono ?_
    rintro r w2 ⟨rfl, rfl⟩
    go_wp2_with fail
    refine HB.out.mono ?_
    rintro r w2 ⟨rfl, rfl⟩
    go_wp2_with fail
    refine HC.out.mono ?_
    rintro r w2 ⟨rfl, rfl⟩
    go_wp2_with fail
    refine HD.out.mono ?_
    rintro r w2 ⟨rfl, rfl⟩
    go_wp2_with fail
    refine (alive_true _).mono ?_
    rintro r w2 ⟨rfl, rfl⟩
    go_wp2_with fail
    refine HE.out.mono ?_
    rintro r w2 ⟨rfl, rfl⟩
    go_wp2_with fail
    refine HF.out.mono ?_
    rintro r w2 ⟨rfl, rfl⟩
    go_wp2_with fail
    refine HG.out.mono ?_
    rintro r w2 ⟨rfl, rfl⟩
    go_wp2_with fail
    refine HH.out.mono ?_
    rintro r w2 ⟨rfl, rfl⟩
    go_wp2
    go_ret
    exact ⟨rfl, rfl⟩
end Go.Proofs.Ytdjdgpfoakkamaa
