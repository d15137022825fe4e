/- The contracts of package bracket's Pairs, at a thousand places at most, and of Resolve, at slices that take at most 2^47 bytes each. Conditions: the slices read as lists, within their capacities. -/
import Derived.Test.YtaiojghbknacjaaCRes
import Derived.Test.YtaiojghbknacjaaMarks
namespace Go.Proofs.Ytaiojghbknacjaa
open Go.RowKit

theorem cpairs_any (A B : Option Addr) (ca cb n m : Nat) (l : List Int) (ms : List (Int × Int)) (w : World) (hr : RdS .i64 w w.heap.size A l) (hn : l.length = n) (hl : n ≤ 1000) (hr2 : RdT w w.heap.size B ms) (hm : ms.length = m) (hl2 : m ≤ 1000) (_ : n ≤ ca) (_ : m ≤ cb) :
    Calls Try.prog 10 #[.slice A n ca, .slice B m cb] w (OutT 41 (M.prs l ms) w) :=
  cpairs_big A B ca cb n m l ms w hr hn (by omega) hr2 hm (by omega)
theorem cres_any (A B C : Option Addr) (ca cb cc n m k : Nat) (came l : List Int) (ms : List (Int × Int)) (lv f : Int) (w : World) (hr : RdS .i64 w w.heap.size A came) (hr2 : RdS .i64 w w.heap.size B l) (hr3 : RdT w w.heap.size C ms) (hn : came.length = n) (hm : l.length = m) (hk : ms.length = k) (hl : n * 8 ≤ 140737488351232) (hl2 : m * 8 ≤ 140737488351232) (hl3 : k * 16 ≤ 140737488351232) (_ : n ≤ ca) (_ : m ≤ cb) (_ : k ≤ cc) (_ : A = none → ca = 0) (_ : B = none → cb = 0) :
    Calls Try.prog 13 #[.slice A n ca, .slice B m cb, .slice C k cc, .int .i64 lv, .int .i64 f] w (ResOut (M.resOk came l lv f) (M.res came l ms lv f) w) := by
  by_cases h : M.resOk came l lv f
  · obtain rfl : m = n := by have := h.1; omega
    rcases Int.emod_two_eq lv with h2 | h2
    · exact cres_ok0 A B C ca cb cc m k came l ms lv f w hr hr2 hr3 hn hm hk hl hl3 h h2
    · exact cres_ok1 A B C ca cb cc m k came l ms lv f w hr hr2 hr3 hn hm hk hl hl3 h h2
  · exact cres_no A B C ca cb cc n m k came l _ lv f w hn hm hl hl2 h
end Go.Proofs.Ytaiojghbknacjaa
