/- The contract of package reorder's Apply. Conditions: the slice reads as a list of whole numbers, within its capacity, and takes at most 2^47 bytes. -/
import Derived.Test.YtahjkndphkpieaaCOrd
import Derived.Test.YtahjkndphkpieaaRApp
namespace Go.Proofs.Ytahjkndphkpieaa
open Go.RowKit
set_option maxRecDepth 100000

theorem crev_none (A : Option Addr) (c : Nat) (w : World) :
    Calls Try.prog 21 #[.slice A 0 c] w fun r w' => r = .returned (.tuple #[]) ∧ w = w' := by
  go_enter Try.func21, Try.ntmps21
  go_wp2_with fail
  go_loopw [2, 3] (fun i j wr => i = .int .i64 0 ∧ j = .int .i64 (-1) ∧ wr = w) (fun _ _ _ => 0)
  case atStart => exact ⟨rfl, by go_num, rfl⟩
  case round =>
    obtain ⟨rfl, rfl, rfl⟩ := hrel
    go_wp2_with fail
    go_end0
    exact ⟨rfl, rfl⟩
set_option maxHeartbeats 4000000 in
theorem capply_any (A : Option Addr) (ca n : Nat) (l : List Int) (rev : Bool) (w : World) (hr : RdS .i64 w w.heap.size A l) (hn : l.length = n) (hl : n * 8 ≤ 140737488351232) (hca : n ≤ ca) :
    Calls Try.prog 11 #[.slice A n ca, .bool rev] w (RowE 3 81 (M.ordOk l) (M.applied l rev) w) := by
  by_cases hok : M.ordOk l
  · have HO := Lib.hid (corder_ok A ca n l w hr hn hl hca hok)
    have HN := Lib.hid hn
    have HL := Lib.hid hl
    have HOK := Lib.hid hok
    clear hr hn hl hca hok
    cases rev with
    | false =>
      go_enter Try.func11, Try.ntmps11
      go_wp2_with fail
      refine HO.out.mono ?_
      rintro r w1 ⟨G, rfl, hb, hG, hbel⟩
      have HB := Lib.hid hb
      have HG := Lib.hid hG
      have HBEL := Lib.hid hbel
      clear hb hG hbel
      go_wp2_with fail
      go_returns
      refine ⟨HBEL.out, fun _ => ⟨_, rfl, ?_⟩, fun h => absurd HOK.out h⟩
      rw [M.applied_len, HN.out]
      exact HB.out.own (by rw [M.ints_len, M.order_len, HN.out]) (by unfold maxLen; have := HL.out; omega) HG.out
    | true =>
      go_enter Try.func11, Try.ntmps11
      go_wp2_with fail
      refine HO.out.mono ?_
      rintro r w1 ⟨G, rfl, hb, hG, hbel⟩
      have hlen : (M.ints (M.order l)).length = n := by rw [M.ints_len, M.order_len, HN.out]
      have hrev := crev_any ⟨G, 0, none⟩ G 0 n n _ w1 hb rfl (by omega) HL.out
      have hseg : M.seg (M.ints (M.order l)) 0 (0 + n) = M.applied l true := by rw [Nat.zero_add, ← hlen]; exact M.seg_whole _
      rw [hseg] at hrev
      have HREV := Lib.hid hrev
      have HG := Lib.hid hG
      have HBEL := Lib.hid hbel
      clear hb hG hbel hrev hseg hlen
      go_wp2_with fail
      refine HREV.out.mono ?_
      rintro r w2 ⟨rfl, hb2, ht2⟩
      have HB := Lib.hid hb2
      have HBEL2 := Lib.hid (HBEL.out.trans (ht2.below HG.out))
      clear hb2 ht2
      go_wp2_with fail
      go_returns
      refine ⟨HBEL2.out, fun _ => ⟨_, rfl, ?_⟩, fun h => absurd HOK.out h⟩
      rw [M.applied_len, HN.out]
      exact HB.out.own (by rw [M.applied_len, HN.out]) (by unfold maxLen; have := HL.out; omega) HG.out
  · have HO := Lib.hid (corder_no A ca n l w hr hn hl hok)
    have HOK := Lib.hid hok
    clear hr hn hl hca hok
    cases rev
    · go_enter Try.func11, Try.ntmps11
      go_wp2_with fail
      refine HO.out.mono ?_
      rintro r w1 ⟨hbel, -, hno⟩
      obtain rfl := hno HOK.out
      have HBEL := Lib.hid hbel
      clear hbel hno
      go_wp2_with fail
      go_returns
      exact ⟨HBEL.out, fun h => absurd h HOK.out, fun _ => rfl⟩
    · go_enter Try.func11, Try.ntmps11
      go_wp2_with fail
      refine HO.out.mono ?_
      rintro r w1 ⟨hbel, -, hno⟩
      obtain rfl := hno HOK.out
      have HBEL := Lib.hid hbel
      have HREV := Lib.hid (crev_none none 0 w1)
      clear hbel hno
      go_wp2_with fail
      refine HREV.out.mono ?_
      rintro r w2 ⟨rfl, rfl⟩
      go_wp2_with fail
      go_returns
      exact ⟨HBEL.out, fun h => absurd h HOK.out, fun _ => rfl⟩
end Go.Proofs.Ytahjkndphkpieaa
