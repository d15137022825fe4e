/- The walk of the statement UtfReads over the translation: it answers true. Conditions: the slice reads as a list of bytes; the variable lengths holds the four rows of the program's text. -/
import Derived.Test.YtamlknnkahhfmaaDoorAlive
import Derived.Test.YtamlknnkahhfmaaDoorInts
import Derived.Test.YtamlknnkahhfmaaDoorRefDecode
namespace Go.Proofs.YtamlknnkahhfmaaDoor
open Go.RowKit

theorem refDecode_some (A : Option Addr) (cap : Nat) (bs l : List Int) (w : World) (hby : M.Bytes bs) (hrd : RdS .u8 w w.heap.size A bs) (hcap : bs.length ≤ cap) (hm : cap ≤ maxLen) (hlen : bs.length ≤ 100000) (he : M.dec bs = some l) :
    Calls Tryd.prog 16 #[.slice A bs.length cap] w (DecOut w l) := by
  refine (refDecode_any A cap bs w hby hrd hcap hm hlen).mono ?_
  rintro e w' ⟨⟨h, _⟩ | ⟨l', v, h, rfl, ho⟩, hb⟩
  · rw [h] at he; cases he
  · rw [he] at h
    obtain rfl : l = l' := by injection h
    obtain ⟨A', c', rfl, hr, h1, h2⟩ := reads_of_own ho
    exact ⟨A', c', rfl, hr, h1, h2, hb⟩
theorem refDecode_none (A : Option Addr) (cap : Nat) (bs : List Int) (w : World) (hby : M.Bytes bs) (hrd : RdS .u8 w w.heap.size A bs) (hcap : bs.length ≤ cap) (hm : cap ≤ maxLen) (hlen : bs.length ≤ 100000) (he : M.dec bs = none) :
    Calls Tryd.prog 16 #[.slice A bs.length cap] w fun e w' => e = .returned (.tuple #[.slice none 0 0, .int .i64 11]) ∧ Below w.heap.size w w' := by
  refine (refDecode_any A cap bs w hby hrd hcap hm hlen).mono ?_
  rintro e w' ⟨⟨_, h⟩ | ⟨bs', v, h, _⟩, hb⟩
  · exact ⟨h, hb⟩
  · rw [he] at h; cases h
theorem next_is (A : Option Addr) (cap : Nat) (bs : List Int) (c n y : Int) (w : World) (hl : LensOk w) (hby : M.Bytes bs) (hrd : RdS .u8 w w.heap.size A bs) (hcap : bs.length ≤ cap) (hm : cap ≤ maxLen) (hN : nextOut bs = .tuple #[.int .i64 c, .int .i64 n, .int .i64 y]) :
    Calls Tryd.prog 13 #[.slice A bs.length cap] w fun e w' => e = .returned (.tuple #[.int .i64 c, .int .i64 n, .int .i64 y]) ∧ Below w.heap.size w w' := by
  unfold nextOut at hN
  cases hf : M.firstM bs with
  | none =>
    rw [hf] at hN
    rw [← hN]
    exact next_none A cap bs w hl hby hrd hcap hm hf
  | some p =>
    obtain ⟨d, k⟩ := p
    rw [hf] at hN
    rw [← hN]
    exact next_some A cap bs d k w hl hby hrd hcap hm hf
theorem nextOut_form (bs : List Int) : ∃ c n y : Int, nextOut bs = .tuple #[.int .i64 c, .int .i64 n, .int .i64 y] := by
  unfold nextOut
  cases M.firstM bs with
  | none => exact ⟨_, _, _, rfl⟩
  | some p => exact ⟨_, _, _, rfl⟩
theorem wrongOut_form (bs : List Int) : ∃ (c : Int) (b : Bool), wrongOut bs = .tuple #[.int .i64 c, .bool b] := by
  unfold wrongOut
  cases M.wrong bs with
  | none => exact ⟨_, _, rfl⟩
  | some p => exact ⟨_, _, rfl⟩

set_option maxHeartbeats 1000000 in
theorem reads_long (A : Option Addr) (n c : Nat) (w : World) (hl : LensOk w) (hn : n ≤ maxLen) (h : 400 < n) :
    Calls Tryd.prog 4 #[.slice A n c] w fun e w' => e = .returned (.bool true) ∧ Below w.heap.size w w' := by
  have H := Lib.hid hl
  clear hl
  unfold maxLen at hn
  go_enter Tryd.func4, Tryd.ntmps4
  go_wp2_with fail
  refine (alive_true _ H.out).mono ?_
  rintro e w1 ⟨rfl, hb⟩
  go_wp2
  go_ret
  exact ⟨rfl, hb⟩

set_option maxHeartbeats 2000000 in
set_option maxRecDepth 100000 in
theorem reads_n (A : Option Addr) (cap : Nat) (bs : List Int) (w : World) (hl : LensOk w) (hby : M.Bytes bs) (hr : RdS .u8 w w.heap.size A bs) (hn : bs.length ≤ 400) (hc : bs.length ≤ cap) (hm : cap ≤ maxLen) (hd : M.dec bs = none) :
    Calls Tryd.prog 4 #[.slice A bs.length cap] w fun e w' => e = .returned (.bool true) ∧ Below w.heap.size w w' := by
  have H := Lib.hid hl
  have HB := Lib.hid hby
  have HR := Lib.hid hr
  have HD := Lib.hid hd
  clear hl hby hr hd
  obtain ⟨c0, n0, y0, hN⟩ := nextOut_form bs
  obtain ⟨k0, b0, hW⟩ := wrongOut_form bs
  have HN := Lib.hid hN
  have HW := Lib.hid hW
  clear hN hW
  have s0 := run_str w _ A bs bs.length cap rfl HR.out
  go_enter Tryd.func4, Tryd.ntmps4
  go_wp2_with fail
  refine (next_is A cap bs c0 n0 y0 w H.out HB.out HR.out hc hm HN.out).mono ?_
  rintro e w1 ⟨rfl, hb1⟩
  have hs1 := hb1.size
  clear s0
  go_wp2_with fail
  refine (refNext_any A cap bs w1 HB.out ((HR.out.below hb1).more hs1) hc hm).mono ?_
  rintro e w2 ⟨rfl, hb2⟩
  rw [HN.out]
  have hw2 : Below w.heap.size w w2 := hb1.trans (hb2.mono hs1)
  have hs2 := hw2.size
  clear hb1 hb2
  go_wp2_with fail
  refine (decode_none A cap bs w2 (H.out.below hw2 H.out.lt) HB.out ((HR.out.below hw2).more hs2) hc hm (by omega) HD.out).mono ?_
  rintro e w3 ⟨rfl, hb3⟩
  have hw3 : Below w.heap.size w w3 := hw2.trans (hb3.mono hs2)
  have hs3 := hw3.size
  go_wp2_with fail
  refine (refDecode_none A cap bs w3 HB.out ((HR.out.below hw3).more hs3) hc hm (by omega) HD.out).mono ?_
  rintro e w4 ⟨rfl, hb4⟩
  have hw4 : Below w.heap.size w w4 := hw3.trans (hb4.mono hs3)
  have hs4 := hw4.size
  go_wp2_with fail
  refine (wrong_any A cap bs w4 (H.out.below hw4 H.out.lt) HB.out ((HR.out.below hw4).more hs4) hc hm).mono ?_
  rintro e w5 ⟨rfl, hb5⟩
  rw [HW.out]
  have hw5 : Below w.heap.size w w5 := hw4.trans (hb5.mono hs4)
  have hs5 := hw5.size
  go_wp2_with fail
  refine (refWrong_any A cap bs w5 HB.out ((HR.out.below hw5).more hs5) hc hm).mono ?_
  rintro e w6 ⟨rfl, hb6⟩
  rw [HW.out]
  have hw6 : Below w.heap.size w w6 := hw5.trans (hb6.mono hs5)
  have hs6 := hw6.size
  have hb46 : Below w4.heap.size w4 w6 := hb5.trans (hb6.mono hb5.size)
  clear hb5 hb6
  go_wp2_with fail
  refine (alive_true _ (H.out.below hw6 H.out.lt)).mono ?_
  rintro e w7 ⟨rfl, hb7⟩
  have hw7 : Below w.heap.size w w7 := hw6.trans (hb7.mono hs6)
  have hb47 : Below w4.heap.size w4 w7 := hb46.trans (hb7.mono hb46.size)
  have hs7 := hw7.size
  clear hb46 hb7
  go_wp2_with fail
  refine (ints_below none none 0 0 [] 0 0 w7 (by simp) RdS.nil RdS.nil).mono ?_
  rintro e w8 ⟨rfl, hb8⟩
  have hw8 : Below w.heap.size w w8 := hw7.trans (hb8.mono hs7)
  have s8 := run_str w8 _ A bs bs.length cap rfl (HR.out.below hw8)
  go_wp2
  go_ret
  exact ⟨rfl, hw8⟩

set_option maxHeartbeats 2000000 in
set_option maxRecDepth 100000 in
theorem reads_s (A : Option Addr) (cap : Nat) (bs : List Int) (w : World) (hl : LensOk w) (hby : M.Bytes bs) (hr : RdS .u8 w w.heap.size A bs) (hn : bs.length ≤ 400) (hc : bs.length ≤ cap) (hm : cap ≤ maxLen) (l : List Int) (hd : M.dec bs = some l) :
    Calls Tryd.prog 4 #[.slice A bs.length cap] w fun e w' => e = .returned (.bool true) ∧ Below w.heap.size w w' := by
  have H := Lib.hid hl
  have HB := Lib.hid hby
  have HR := Lib.hid hr
  have HD := Lib.hid hd
  clear hl hby hr hd
  obtain ⟨c0, n0, y0, hN⟩ := nextOut_form bs
  obtain ⟨k0, b0, hW⟩ := wrongOut_form bs
  have HN := Lib.hid hN
  have HW := Lib.hid hW
  clear hN hW
  have s0 := run_str w _ A bs bs.length cap rfl HR.out
  go_enter Tryd.func4, Tryd.ntmps4
  go_wp2_with fail
  refine (next_is A cap bs c0 n0 y0 w H.out HB.out HR.out hc hm HN.out).mono ?_
  rintro e w1 ⟨rfl, hb1⟩
  have hs1 := hb1.size
  clear s0
  go_wp2_with fail
  refine (refNext_any A cap bs w1 HB.out ((HR.out.below hb1).more hs1) hc hm).mono ?_
  rintro e w2 ⟨rfl, hb2⟩
  rw [HN.out]
  have hw2 : Below w.heap.size w w2 := hb1.trans (hb2.mono hs1)
  have hs2 := hw2.size
  clear hb1 hb2
  go_wp2_with fail
  have hll := (M.enc_dec HB.out HD.out).2
  refine (decode_some A cap bs l w2 (H.out.below hw2 H.out.lt) HB.out ((HR.out.below hw2).more hs2) hc hm (by omega) HD.out).mono ?_
  rintro e w3 ⟨A3, c3, rfl, hr3, hx3, hm3, hb3⟩
  have HR3 := Lib.hid hr3
  clear hr3
  have hw3 : Below w.heap.size w w3 := hw2.trans (hb3.mono hs2)
  have hs3 := hw3.size
  go_wp2_with fail
  refine (refDecode_some A cap bs l w3 HB.out ((HR.out.below hw3).more hs3) hc hm (by omega) HD.out).mono ?_
  rintro e w4 ⟨A4, c4, rfl, hr4, hx4, hm4, hb4⟩
  have HR4 := Lib.hid hr4
  clear hr4
  have hw4 : Below w.heap.size w w4 := hw3.trans (hb4.mono hs3)
  have hs4 := hw4.size
  go_wp2_with fail
  refine (wrong_any A cap bs w4 (H.out.below hw4 H.out.lt) HB.out ((HR.out.below hw4).more hs4) hc hm).mono ?_
  rintro e w5 ⟨rfl, hb5⟩
  rw [HW.out]
  have hw5 : Below w.heap.size w w5 := hw4.trans (hb5.mono hs4)
  have hs5 := hw5.size
  go_wp2_with fail
  refine (refWrong_any A cap bs w5 HB.out ((HR.out.below hw5).more hs5) hc hm).mono ?_
  rintro e w6 ⟨rfl, hb6⟩
  rw [HW.out]
  have hw6 : Below w.heap.size w w6 := hw5.trans (hb6.mono hs5)
  have hs6 := hw6.size
  have hb46 : Below w4.heap.size w4 w6 := hb5.trans (hb6.mono hb5.size)
  clear hb5 hb6
  go_wp2_with fail
  refine (alive_true _ (H.out.below hw6 H.out.lt)).mono ?_
  rintro e w7 ⟨rfl, hb7⟩
  have hw7 : Below w.heap.size w w7 := hw6.trans (hb7.mono hs6)
  have hb47 : Below w4.heap.size w4 w7 := hb46.trans (hb7.mono hb46.size)
  have hs7 := hw7.size
  clear hb46 hb7
  go_wp2_with fail
  refine (ints_below A3 A4 c3 c4 l _ _ w7 (by omega) ((HR3.out.below hb4).below (hb47.mono hb4.size)) (HR4.out.below hb47)).mono ?_
  rintro e w8 ⟨rfl, hb8⟩
  have hw8 : Below w.heap.size w w8 := hw7.trans (hb8.mono hs7)
  have s8 := run_str w8 _ A bs bs.length cap rfl (HR.out.below hw8)
  go_wp2
  go_ret
  exact ⟨rfl, hw8⟩

theorem reads_any (A : Option Addr) (cap : Nat) (bs : List Int) (w : World) (hl : LensOk w) (hby : M.Bytes bs) (hr : RdS .u8 w w.heap.size A bs) (hc : bs.length ≤ cap) (hm : cap ≤ maxLen) :
    Calls Tryd.prog 4 #[.slice A bs.length cap] w fun e w' => e = .returned (.bool true) ∧ Below w.heap.size w w' := by
  by_cases h : 400 < bs.length
  · exact reads_long A _ cap w hl (Nat.le_trans hc hm) h
  · cases hd : M.dec bs with
    | none => exact reads_n A cap bs w hl hby hr (by omega) hc hm hd
    | some l => exact reads_s A cap bs w hl hby hr (by omega) hc hm l hd
end Go.Proofs.YtamlknnkahhfmaaDoor
