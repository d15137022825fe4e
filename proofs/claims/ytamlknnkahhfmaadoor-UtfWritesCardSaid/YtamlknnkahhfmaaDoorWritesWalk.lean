/- The walk of the statement UtfWrites over the translation: it answers true. Conditions: the slice reads as a list; the variable lengths holds the four rows of the program's text. -/
import Derived.Test.YtamlknnkahhfmaaDoorAlive
import Derived.Test.YtamlknnkahhfmaaDoorRefEncode
namespace Go.Proofs.YtamlknnkahhfmaaDoor
open Go.RowKit

theorem refEncode_some (A : Option Addr) (cap : Nat) (l bs : List Int) (w : World) (hrd : RdS .i64 w w.heap.size A l) (hlen : l.length ≤ 20000) (he : M.enc l = some bs) :
    Calls Tryd.prog 10 #[.slice A l.length cap] w (EncOut w bs) := by
  refine (refEncode_any A cap l w hrd hlen).mono ?_
  rintro e w' ⟨⟨h, _⟩ | ⟨bs', v, h, rfl, ho⟩, hb⟩
  · rw [h] at he; cases he
  · rw [he] at h
    obtain rfl : bs = bs' := by injection h
    obtain ⟨A', c', rfl, hr, h1, h2⟩ := reads_of_own ho
    exact ⟨A', c', rfl, hr, h1, h2, hb⟩
theorem refEncode_none (A : Option Addr) (cap : Nat) (l : List Int) (w : World) (hrd : RdS .i64 w w.heap.size A l) (hlen : l.length ≤ 20000) (he : M.enc l = none) :
    Calls Tryd.prog 10 #[.slice A l.length cap] w fun e w' => e = .returned (.tuple #[.slice none 0 0, .int .i64 11]) ∧ Below w.heap.size w w' := by
  refine (refEncode_any A cap l w hrd hlen).mono ?_
  rintro e w' ⟨⟨_, h⟩ | ⟨bs', v, h, _⟩, hb⟩
  · exact ⟨h, hb⟩
  · rw [he] at h; cases h

set_option maxHeartbeats 1000000 in
theorem writes_long (A : Option Addr) (n c : Nat) (x : Int) (w : World) (hl : LensOk w) (hn : n ≤ maxLen) (h : 400 < n) :
    Calls Tryd.prog 3 #[.slice A n c, .int .i64 x] w fun e w' => e = .returned (.bool true) ∧ Below w.heap.size w w' := by
  have H := Lib.hid hl
  clear hl
  unfold maxLen at hn
  go_enter Tryd.func3, Tryd.ntmps3
  go_wp2_with fail
  refine (alive_true _ H.out).mono ?_
  rintro e w1 ⟨rfl, hb⟩
  go_wp2
  go_ret
  exact ⟨rfl, hb⟩

set_option maxHeartbeats 1000000 in
theorem writes_n (A : Option Addr) (c : Nat) (l : List Int) (x : Int) (w : World) (hl : LensOk w) (hr : RdS .i64 w w.heap.size A l) (hn : l.length ≤ 400) (he : M.enc l = none) :
    Calls Tryd.prog 3 #[.slice A l.length c, .int .i64 x] w fun e w' => e = .returned (.bool true) ∧ Below w.heap.size w w' := by
  have H := Lib.hid hl
  have HR := Lib.hid hr
  have HE := Lib.hid he
  clear hl hr he
  go_enter Tryd.func3, Tryd.ntmps3
  go_wp2_with fail
  refine (encode_none A c l w H.out HR.out (by omega) HE.out).mono ?_
  rintro e w1 ⟨rfl, hb1⟩
  have hs1 := hb1.size
  go_wp2_with fail
  refine (refEncode_none A c l w1 ((HR.out.below hb1).more hs1) (by omega) HE.out).mono ?_
  rintro e w2 ⟨rfl, hb2⟩
  have hw2 : Below w.heap.size w w2 := hb1.trans (hb2.mono hs1)
  go_wp2_with fail
  refine (alive_true _ (H.out.below hw2 H.out.lt)).mono ?_
  rintro e w3 ⟨rfl, hb3⟩
  have hw3 : Below w.heap.size w w3 := hw2.trans (hb3.mono hw2.size)
  have s1 := run_str w3 0 none [] 0 0 rfl RdS.nil
  go_wp2_with fail
  refine (scalar_any x _).mono ?_
  rintro e w' ⟨rfl, rfl⟩
  go_wp2_with fail
  refine (refScalar_any x _).mono ?_
  rintro e w' ⟨rfl, rfl⟩
  go_wp2
  go_ret
  exact ⟨rfl, hw3⟩

set_option maxHeartbeats 1000000 in
theorem writes_s (A : Option Addr) (c : Nat) (l : List Int) (x : Int) (w : World) (hl : LensOk w) (hr : RdS .i64 w w.heap.size A l) (hn : l.length ≤ 400) (bs : List Int) (he : M.enc l = some bs) :
    Calls Tryd.prog 3 #[.slice A l.length c, .int .i64 x] w fun e w' => e = .returned (.bool true) ∧ Below w.heap.size w w' := by
  have H := Lib.hid hl
  have HR := Lib.hid hr
  have HE := Lib.hid he
  clear hl hr he
  go_enter Tryd.func3, Tryd.ntmps3
  go_wp2_with fail
  refine (encode_some A c l bs w H.out HR.out (by omega) HE.out).mono ?_
  rintro e w1 ⟨A1, c1, rfl, hr1, hx1, hm1, hb1⟩
  have HR1 := Lib.hid hr1
  clear hr1
  have hs1 := hb1.size
  go_wp2_with fail
  refine (refEncode_some A c l bs w1 ((HR.out.below hb1).more hs1) (by omega) HE.out).mono ?_
  rintro e w2 ⟨A2, c2, rfl, hr2, hx2, hm2, hb2⟩
  have HR2 := Lib.hid hr2
  clear hr2
  have hw2 : Below w.heap.size w w2 := hb1.trans (hb2.mono hs1)
  go_wp2_with fail
  refine (alive_true _ (H.out.below hw2 H.out.lt)).mono ?_
  rintro e w3 ⟨rfl, hb3⟩
  have hw3 : Below w.heap.size w w3 := hw2.trans (hb3.mono hw2.size)
  have s1 := run_str w3 _ A1 bs bs.length c1 rfl ((HR1.out.below hb2).below (hb3.mono hb2.size))
  have s2 := run_str w3 _ A2 bs bs.length c2 rfl (HR2.out.below hb3)
  go_wp2_with fail
  refine (scalar_any x _).mono ?_
  rintro e w' ⟨rfl, rfl⟩
  go_wp2_with fail
  refine (refScalar_any x _).mono ?_
  rintro e w' ⟨rfl, rfl⟩
  go_wp2
  go_ret
  exact ⟨rfl, hw3⟩

theorem writes_any (A : Option Addr) (c : Nat) (l : List Int) (x : Int) (w : World) (hl : LensOk w) (hr : RdS .i64 w w.heap.size A l) (hc : l.length ≤ c) (hm : c ≤ maxLen) :
    Calls Tryd.prog 3 #[.slice A l.length c, .int .i64 x] w fun e w' => e = .returned (.bool true) ∧ Below w.heap.size w w' := by
  by_cases h : 400 < l.length
  · exact writes_long A _ c x w hl (Nat.le_trans hc hm) h
  · cases he : M.enc l with
    | none => exact writes_n A c l x w hl hr (by omega) he
    | some bs => exact writes_s A c l x w hl hr (by omega) bs he
end Go.Proofs.YtamlknnkahhfmaaDoor
