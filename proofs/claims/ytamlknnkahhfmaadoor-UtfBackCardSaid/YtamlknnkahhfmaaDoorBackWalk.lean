/- The walk of the statement UtfBack over the translation: it answers true. Conditions: the two slices read as lists; the variable lengths holds the four rows of the program's text. -/
import Derived.Test.YtamlknnkahhfmaaDoorAlive
import Derived.Test.YtamlknnkahhfmaaDoorMathD
import Derived.Test.YtamlknnkahhfmaaDoorInts
namespace Go.Proofs.YtamlknnkahhfmaaDoor
open Go.RowKit

set_option maxHeartbeats 1000000 in
theorem back_long (A A' : Option Addr) (n n' c c' : Nat) (w : World) (hl : LensOk w) (hn : n ≤ maxLen) (hn' : n' ≤ maxLen) (h : 400 < n ∨ 400 < n') :
    Calls Tryd.prog 5 #[.slice A n c, .slice A' n' c'] w fun e w' => e = .returned (.bool true) ∧ Below w.heap.size w w' := by
  have H := Lib.hid hl
  clear hl
  unfold maxLen at hn hn'
  by_cases h1 : 400 < n
  · clear h
    go_enter Tryd.func5, Tryd.ntmps5
    go_wp2_with fail
    refine (alive_true _ H.out).mono ?_
    rintro e w1 ⟨rfl, hb⟩
    go_wp2
    go_ret
    exact ⟨rfl, hb⟩
  · have h2 : 400 < n' := by omega
    clear h
    go_enter Tryd.func5, Tryd.ntmps5
    go_wp2_with fail
    refine (alive_true _ H.out).mono ?_
    rintro e w1 ⟨rfl, hb⟩
    go_wp2
    go_ret
    exact ⟨rfl, hb⟩

set_option maxHeartbeats 1000000 in
theorem back_nn (A A' : Option Addr) (c c' : Nat) (l b : List Int) (w : World) (hl : LensOk w) (hb : M.Bytes b) (hr : RdS .i64 w w.heap.size A l) (hr' : RdS .u8 w w.heap.size A' b) (hn : l.length ≤ 400) (hn' : b.length ≤ 400) (hc' : b.length ≤ c') (hm' : c' ≤ maxLen) (he : M.enc l = none) (hd : M.dec b = none) :
    Calls Tryd.prog 5 #[.slice A l.length c, .slice A' b.length c'] w fun e w' => e = .returned (.bool true) ∧ Below w.heap.size w w' := by
  have H := Lib.hid hl
  have HB := Lib.hid hb
  have HR := Lib.hid hr
  have HR' := Lib.hid hr'
  have HE := Lib.hid he
  have HD := Lib.hid hd
  clear hl hb hr hr' he hd
  go_enter Tryd.func5, Tryd.ntmps5
  go_wp2_with fail
  refine (encode_none A c l w H.out HR.out (by omega) HE.out).mono ?_
  rintro e w3 ⟨rfl, hw3⟩
  have hs3 := hw3.size
  go_wp2_with fail
  refine (decode_none A' c' b w3 (H.out.below hw3 H.out.lt) HB.out ((HR'.out.below hw3).more hs3) hc' hm' (by omega) HD.out).mono ?_
  rintro e w4 ⟨rfl, hb4⟩
  have hw4 : Below w.heap.size w w4 := hw3.trans (hb4.mono hs3)
  have hs4 := hw4.size
  clear hb4
  go_wp2_with fail
  refine (wrong_any A' c' b w4 (H.out.below hw4 H.out.lt) HB.out ((HR'.out.below hw4).more hs4) hc' hm').mono ?_
  rintro e w5 ⟨rfl, hb5⟩
  have hw5 : Below w.heap.size w w5 := hw4.trans (hb5.mono hs4)
  have hs5 := hw5.size
  clear hb5
  obtain ⟨k, hk⟩ : ∃ k, M.wrong b = some k := by
    cases hw : M.wrong b with
    | none => exact absurd HD.out ((M.wrong_dec b).1 hw)
    | some k => exact ⟨k, rfl⟩
  rw [show wrongOut b = .tuple #[.int .i64 k, .bool true] by rw [wrongOut, hk]]
  clear hk
  go_wp2_with fail
  refine (alive_true _ (H.out.below hw5 H.out.lt)).mono ?_
  rintro e w7 ⟨rfl, hb7⟩
  have hw7 : Below w.heap.size w w7 := hw5.trans (hb7.mono hw5.size)
  go_wp2
  go_ret
  exact ⟨rfl, hw7⟩

set_option maxHeartbeats 1000000 in
theorem back_ns (A A' : Option Addr) (c c' : Nat) (l b : List Int) (w : World) (hl : LensOk w) (hb : M.Bytes b) (hr : RdS .i64 w w.heap.size A l) (hr' : RdS .u8 w w.heap.size A' b) (hn : l.length ≤ 400) (hn' : b.length ≤ 400) (hc' : b.length ≤ c') (hm' : c' ≤ maxLen) (he : M.enc l = none) (m : List Int) (hd : M.dec b = some m) :
    Calls Tryd.prog 5 #[.slice A l.length c, .slice A' b.length c'] w fun e w' => e = .returned (.bool true) ∧ Below w.heap.size w w' := by
  have H := Lib.hid hl
  have HB := Lib.hid hb
  have HR := Lib.hid hr
  have HR' := Lib.hid hr'
  have HE := Lib.hid he
  have HD := Lib.hid hd
  clear hl hb hr hr' he hd
  go_enter Tryd.func5, Tryd.ntmps5
  go_wp2_with fail
  refine (encode_none A c l w H.out HR.out (by omega) HE.out).mono ?_
  rintro e w3 ⟨rfl, hw3⟩
  have hs3 := hw3.size
  go_wp2_with fail
  refine (decode_some A' c' b m w3 (H.out.below hw3 H.out.lt) HB.out ((HR'.out.below hw3).more hs3) hc' hm' (by omega) HD.out).mono ?_
  rintro e w4 ⟨A4, c4, rfl, hr4, hx4, hm4, hb4⟩
  have HR4 := Lib.hid hr4
  have hw4 : Below w.heap.size w w4 := hw3.trans (hb4.mono hs3)
  have hs4 := hw4.size
  clear hr4 hb4
  go_wp2_with fail
  refine (wrong_any A' c' b w4 (H.out.below hw4 H.out.lt) HB.out ((HR'.out.below hw4).more hs4) hc' hm').mono ?_
  rintro e w5 ⟨rfl, hb5⟩
  have hw5 : Below w.heap.size w w5 := hw4.trans (hb5.mono hs4)
  have hs5 := hw5.size
  have HR5 := Lib.hid ((HR4.out.below hb5).more hb5.size)
  clear hb5
  rw [show wrongOut b = .tuple #[.int .i64 0, .bool false] by rw [wrongOut, (M.wrong_dec b).2 (by rw [HD.out]; simp)]]
  obtain ⟨HE4, hlm⟩ := M.enc_dec HB.out HD.out
  have HEm := Lib.hid HE4
  clear HE4
  go_wp2_with fail
  refine (encode_some A4 c4 m b w5 (H.out.below hw5 H.out.lt) HR5.out (by omega) HEm.out).mono ?_
  rintro e w6 ⟨A6, c6, rfl, hr6, hx6, hm6, hb6⟩
  have hw6 : Below w.heap.size w w6 := hw5.trans (hb6.mono hs5)
  have HR6 := Lib.hid hr6
  clear hr6 hb6
  go_wp2_with fail
  refine (alive_true _ (H.out.below hw6 H.out.lt)).mono ?_
  rintro e w7 ⟨rfl, hb7⟩
  have hw7 : Below w.heap.size w w7 := hw6.trans (hb7.mono hw6.size)
  have s1 := run_str w7 _ A6 b b.length c6 rfl (HR6.out.below hb7)
  have s2 := run_str w7 _ A' b b.length c' rfl (HR'.out.below hw7)
  go_wp2
  go_ret
  exact ⟨rfl, hw7⟩

set_option maxHeartbeats 1000000 in
theorem back_sn (A A' : Option Addr) (c c' : Nat) (l b : List Int) (w : World) (hl : LensOk w) (hb : M.Bytes b) (hr : RdS .i64 w w.heap.size A l) (hr' : RdS .u8 w w.heap.size A' b) (hn : l.length ≤ 400) (hn' : b.length ≤ 400) (hc' : b.length ≤ c') (hm' : c' ≤ maxLen) (x : List Int) (he : M.enc l = some x) (hd : M.dec b = none) :
    Calls Tryd.prog 5 #[.slice A l.length c, .slice A' b.length c'] w fun e w' => e = .returned (.bool true) ∧ Below w.heap.size w w' := by
  have H := Lib.hid hl
  have HB := Lib.hid hb
  have HR := Lib.hid hr
  have HR' := Lib.hid hr'
  have HE := Lib.hid he
  have HD := Lib.hid hd
  clear hl hb hr hr' he hd
  go_enter Tryd.func5, Tryd.ntmps5
  go_wp2_with fail
  refine (encode_some A c l x w H.out HR.out (by omega) HE.out).mono ?_
  rintro e w1 ⟨A1, c1, rfl, hr1, hx1, hm1, hb1⟩
  have hlx : x.length ≤ 4 * l.length := M.enc_len HE.out
  have HR1 := Lib.hid hr1
  clear hr1
  go_wp2_with fail
  refine (decode_some A1 c1 x l w1 (H.out.below hb1 H.out.lt) (M.enc_range HE.out) HR1.out hx1 hm1 (by omega) (M.dec_enc HE.out)).mono ?_
  rintro e w2 ⟨A2, c2, rfl, hr2, hx2, hm2, hb2⟩
  have HR2 := Lib.hid hr2
  have hw2 : Below w.heap.size w w2 := hb1.trans (hb2.mono hb1.size)
  clear hr2
  go_wp2_with fail
  refine (ints_below A2 A c2 c l _ _ w2 (by omega) HR2.out (HR.out.below hw2)).mono ?_
  rintro e w3 ⟨rfl, hb3⟩
  have hw3 : Below w.heap.size w w3 := hw2.trans (hb3.mono hw2.size)
  clear hb1 hb2 hb3 hw2
  have hs3 := hw3.size
  go_wp2_with fail
  refine (decode_none A' c' b w3 (H.out.below hw3 H.out.lt) HB.out ((HR'.out.below hw3).more hs3) hc' hm' (by omega) HD.out).mono ?_
  rintro e w4 ⟨rfl, hb4⟩
  have hw4 : Below w.heap.size w w4 := hw3.trans (hb4.mono hs3)
  have hs4 := hw4.size
  clear hb4
  go_wp2_with fail
  refine (wrong_any A' c' b w4 (H.out.below hw4 H.out.lt) HB.out ((HR'.out.below hw4).more hs4) hc' hm').mono ?_
  rintro e w5 ⟨rfl, hb5⟩
  have hw5 : Below w.heap.size w w5 := hw4.trans (hb5.mono hs4)
  have hs5 := hw5.size
  clear hb5
  obtain ⟨k, hk⟩ : ∃ k, M.wrong b = some k := by
    cases hw : M.wrong b with
    | none => exact absurd HD.out ((M.wrong_dec b).1 hw)
    | some k => exact ⟨k, rfl⟩
  rw [show wrongOut b = .tuple #[.int .i64 k, .bool true] by rw [wrongOut, hk]]
  clear hk
  go_wp2_with fail
  refine (alive_true _ (H.out.below hw5 H.out.lt)).mono ?_
  rintro e w7 ⟨rfl, hb7⟩
  have hw7 : Below w.heap.size w w7 := hw5.trans (hb7.mono hw5.size)
  go_wp2
  go_ret
  exact ⟨rfl, hw7⟩

set_option maxHeartbeats 1000000 in
theorem back_ss (A A' : Option Addr) (c c' : Nat) (l b : List Int) (w : World) (hl : LensOk w) (hb : M.Bytes b) (hr : RdS .i64 w w.heap.size A l) (hr' : RdS .u8 w w.heap.size A' b) (hn : l.length ≤ 400) (hn' : b.length ≤ 400) (hc' : b.length ≤ c') (hm' : c' ≤ maxLen) (x : List Int) (he : M.enc l = some x) (m : List Int) (hd : M.dec b = some m) :
    Calls Tryd.prog 5 #[.slice A l.length c, .slice A' b.length c'] w fun e w' => e = .returned (.bool true) ∧ Below w.heap.size w w' := by
  have H := Lib.hid hl
  have HB := Lib.hid hb
  have HR := Lib.hid hr
  have HR' := Lib.hid hr'
  have HE := Lib.hid he
  have HD := Lib.hid hd
  clear hl hb hr hr' he hd
  go_enter Tryd.func5, Tryd.ntmps5
  go_wp2_with fail
  refine (encode_some A c l x w H.out HR.out (by omega) HE.out).mono ?_
  rintro e w1 ⟨A1, c1, rfl, hr1, hx1, hm1, hb1⟩
  have hlx : x.length ≤ 4 * l.length := M.enc_len HE.out
  have HR1 := Lib.hid hr1
  clear hr1
  go_wp2_with fail
  refine (decode_some A1 c1 x l w1 (H.out.below hb1 H.out.lt) (M.enc_range HE.out) HR1.out hx1 hm1 (by omega) (M.dec_enc HE.out)).mono ?_
  rintro e w2 ⟨A2, c2, rfl, hr2, hx2, hm2, hb2⟩
  have HR2 := Lib.hid hr2
  have hw2 : Below w.heap.size w w2 := hb1.trans (hb2.mono hb1.size)
  clear hr2
  go_wp2_with fail
  refine (ints_below A2 A c2 c l _ _ w2 (by omega) HR2.out (HR.out.below hw2)).mono ?_
  rintro e w3 ⟨rfl, hb3⟩
  have hw3 : Below w.heap.size w w3 := hw2.trans (hb3.mono hw2.size)
  clear hb1 hb2 hb3 hw2
  have hs3 := hw3.size
  go_wp2_with fail
  refine (decode_some A' c' b m w3 (H.out.below hw3 H.out.lt) HB.out ((HR'.out.below hw3).more hs3) hc' hm' (by omega) HD.out).mono ?_
  rintro e w4 ⟨A4, c4, rfl, hr4, hx4, hm4, hb4⟩
  have HR4 := Lib.hid hr4
  have hw4 : Below w.heap.size w w4 := hw3.trans (hb4.mono hs3)
  have hs4 := hw4.size
  clear hr4 hb4
  go_wp2_with fail
  refine (wrong_any A' c' b w4 (H.out.below hw4 H.out.lt) HB.out ((HR'.out.below hw4).more hs4) hc' hm').mono ?_
  rintro e w5 ⟨rfl, hb5⟩
  have hw5 : Below w.heap.size w w5 := hw4.trans (hb5.mono hs4)
  have hs5 := hw5.size
  have HR5 := Lib.hid ((HR4.out.below hb5).more hb5.size)
  clear hb5
  rw [show wrongOut b = .tuple #[.int .i64 0, .bool false] by rw [wrongOut, (M.wrong_dec b).2 (by rw [HD.out]; simp)]]
  obtain ⟨HE4, hlm⟩ := M.enc_dec HB.out HD.out
  have HEm := Lib.hid HE4
  clear HE4
  go_wp2_with fail
  refine (encode_some A4 c4 m b w5 (H.out.below hw5 H.out.lt) HR5.out (by omega) HEm.out).mono ?_
  rintro e w6 ⟨A6, c6, rfl, hr6, hx6, hm6, hb6⟩
  have hw6 : Below w.heap.size w w6 := hw5.trans (hb6.mono hs5)
  have HR6 := Lib.hid hr6
  clear hr6 hb6
  go_wp2_with fail
  refine (alive_true _ (H.out.below hw6 H.out.lt)).mono ?_
  rintro e w7 ⟨rfl, hb7⟩
  have hw7 : Below w.heap.size w w7 := hw6.trans (hb7.mono hw6.size)
  have s1 := run_str w7 _ A6 b b.length c6 rfl (HR6.out.below hb7)
  have s2 := run_str w7 _ A' b b.length c' rfl (HR'.out.below hw7)
  go_wp2
  go_ret
  exact ⟨rfl, hw7⟩

theorem back_any (A A' : Option Addr) (c c' : Nat) (l b : List Int) (w : World) (hl : LensOk w) (hb : M.Bytes b) (hr : RdS .i64 w w.heap.size A l) (hr' : RdS .u8 w w.heap.size A' b) (hc : l.length ≤ c) (hm : c ≤ maxLen) (hc' : b.length ≤ c') (hm' : c' ≤ maxLen) :
    Calls Tryd.prog 5 #[.slice A l.length c, .slice A' b.length c'] w fun e w' => e = .returned (.bool true) ∧ Below w.heap.size w w' := by
  by_cases h : 400 < l.length ∨ 400 < b.length
  · exact back_long A A' _ _ c c' w hl (Nat.le_trans hc hm) (Nat.le_trans hc' hm') h
  · have h1 : l.length ≤ 400 := by omega
    have h2 : b.length ≤ 400 := by omega
    cases he : M.enc l with
    | none => cases hd : M.dec b with
      | none => exact back_nn A A' c c' l b w hl hb hr hr' h1 h2 hc' hm' he hd
      | some m => exact back_ns A A' c c' l b w hl hb hr hr' h1 h2 hc' hm' he m hd
    | some x => cases hd : M.dec b with
      | none => exact back_sn A A' c c' l b w hl hb hr hr' h1 h2 hc' hm' x he hd
      | some m => exact back_ss A A' c c' l b w hl hb hr hr' h1 h2 hc' hm' x he m hd
end Go.Proofs.YtamlknnkahhfmaaDoor
