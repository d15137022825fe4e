/- The contract of the document's Apply. Condition: the slice reads as a list of whole numbers, at most a thousand long. -/
import Derived.Test.YtahjkndphkpieaaROrd
namespace Go.Proofs.Ytahjkndphkpieaa
open Go.RowKit
set_option maxRecDepth 100000

def M.applied (l : List Int) (rev : Bool) : List Int := if rev then (M.ints (M.order l)).reverse else M.ints (M.order l)
theorem M.applied_len {l : List Int} {rev : Bool} : (M.applied l rev).length = l.length := by
  unfold M.applied
  split
  · rw [List.length_reverse, M.ints_len, M.order_len]
  · rw [M.ints_len, M.order_len]
theorem M.seg_whole (l : List Int) : M.seg l 0 l.length = l.reverse := by
  unfold M.seg
  simp
set_option maxHeartbeats 4000000 in
theorem refApply_any (A : Option Addr) (ca n : Nat) (l : List Int) (rev : Bool) (w : World) (hr : RdS .i64 w w.heap.size A l) (hn : l.length = n) (hl : n ≤ 1000) :
    Calls Try.prog 12 #[.slice A n ca, .bool rev] w (RowE 3 81 (M.ordOk l) (M.applied l rev) w) := by
  have HO := Lib.hid (refOrder_any A ca n l w hr hn hl)
  have HN := Lib.hid hn
  have hl1 : (n : Int) ≤ 1000 := by omega
  clear hr hn
  by_cases hok : M.ordOk l
  · have HOK := Lib.hid hok
    clear hok
    cases rev with
    | false =>
      go_enter Try.func12, Try.ntmps12
      go_wp2_with fail
      refine HO.out.mono ?_
      rintro r w1 ⟨hb, hy, -⟩
      obtain ⟨v, rfl, ho⟩ := hy HOK.out
      have HB := Lib.hid hb
      have HOW := Lib.hid ho
      clear hb hy ho
      go_wp2_with fail
      go_returns
      exact ⟨HB.out, fun _ => ⟨_, rfl, HOW.out⟩, fun h => absurd HOK.out h⟩
    | true =>
      go_enter Try.func12, Try.ntmps12
      go_wp2_with fail
      refine HO.out.mono ?_
      rintro r w1 ⟨hb, hy, -⟩
      obtain ⟨v, rfl, ho⟩ := hy HOK.out
      rw [M.ints_len, M.order_len, HN.out] at ho
      obtain ⟨Ao, co, rfl, hco, hmo, hAo, hgo⟩ := own_form ho
      have hlen : (M.ints (M.order l)).length = n := by rw [M.ints_len, M.order_len, HN.out]
      have ht := refTurn_any _ n 0 n w.heap.size _ w1 ho hlen (Nat.zero_le _) (Nat.le_refl _) hl
      have hw : M.seg (M.ints (M.order l)) 0 n = M.applied l true := by rw [← hlen]; exact M.seg_whole _
      rw [hw] at ht
      have HT := Lib.hid ht
      have HB := Lib.hid hb
      clear hb hy ho hco hmo hAo hgo hlen ht hw
      go_wp2_with fail
      refine HT.out.mono ?_
      rintro r w2 ⟨rfl, h5, hb5, -, -⟩
      have HB5 := Lib.hid (HB.out.trans hb5)
      have H5 := Lib.hid h5
      clear h5 hb5
      go_wp2_with fail
      go_returns
      refine ⟨HB5.out, fun _ => ⟨_, rfl, ?_⟩, fun h => absurd HOK.out h⟩
      rw [M.applied_len, HN.out]
      exact H5.out
  · have HOK := Lib.hid hok
    clear hok
    go_enter Try.func12, Try.ntmps12
    go_wp2_with fail
    refine HO.out.mono ?_
    rintro r w1 ⟨hb, -, hno⟩
    obtain rfl := hno HOK.out
    have HB := Lib.hid hb
    clear hb hno
    go_wp2_with fail
    go_returns
    exact ⟨HB.out, fun h => absurd h HOK.out, fun _ => rfl⟩
end Go.Proofs.Ytahjkndphkpieaa
