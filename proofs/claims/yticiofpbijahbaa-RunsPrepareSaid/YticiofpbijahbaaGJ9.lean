/- The contract of the document's Prepare. Conditions: the slice reads as a list of classes, within its capacity, at most a thousand long. -/
import Derived.Test.YticiofpbijahbaaGJ6
import Derived.Test.YticiofpbijahbaaGU
import Derived.Test.YticiofpbijahbaaGR
section
namespace Go.Proofs.Yticiofpbijahbaa
open Go.RowKit
set_option maxRecDepth 100000

set_option maxHeartbeats 4000000 in
theorem refPrep_any (A : Option Addr) (ca n : Nat) (l : List Int) (b : Int) (w : World) (hr : RdS .i64 w w.heap.size A l) (hn : l.length = n) (hl : n ≤ 1000) (hca : n ≤ ca) :
    Calls Try.prog 13 #[.slice A n ca, .int .i64 b] w (PrepOut l b w) := by
  have HL := Lib.hid (lev_any A ca n l b w hr hn hl hca)
  have HR := Lib.hid hr
  have HN := Lib.hid hn
  clear hr hn hca
  by_cases hb : b = 0 ∨ b = 1
  · rw [M.levels_01 hb] at HL
    have HB := Lib.hid hb
    have hb0 : ¬ b < 0 := by omega
    clear hb
    go_enter Try.func13, Try.ntmps13
    go_wp2_with fail
    refine HL.out.mono ?_
    rintro r w1 hout
    obtain ⟨A1, c1, A2, c2, rfl, hr1, hr2, hc1, -, hb1⟩ := lev_rows hout
    rw [M.run_len, HN.out] at hc1
    rw [M.run_len, HN.out]
    have hbs := hb1.size
    have HS := Lib.hid (refSplit_any A A1 ca c1 n n l (M.levs l b) b w1 ((HR.out.below hb1).more hbs) HN.out hl hr1 (by rw [M.levs_len, HN.out]) hl)
    have HR2 := Lib.hid hr2
    have HB1 := Lib.hid hb1
    clear hr1 hr2 hb1 hout
    go_wp2_with fail
    refine HS.out.mono ?_
    rintro r w2 ⟨hb2, hok, -⟩
    obtain ⟨A3, c3, rfl, hq, hc3, hm3, hn3⟩ := hok (M.levs_fits HB.out)
    obtain ⟨K, hK⟩ : ∃ k, (M.seqs l (M.levs l b) b).length = k := ⟨_, rfl⟩
    rw [hK]
    have HK := Lib.hid hK
    have HQ := Lib.hid hq
    have HR3 := Lib.hid ((HR2.out.below hb2).more hb2.size)
    have HB2 := Lib.hid (HB1.out.trans (hb2.mono hbs))
    clear hb2 hok hq hc3 hm3 hn3 hK
    go_wp2_with fail
    go_returns
    exact ⟨HB2.out, fun _ => ⟨A3, c3, A2, c2, by rw [HK.out, HN.out]; rfl, HQ.out, HR3.out⟩, fun h => absurd HB.out h⟩
  · by_cases h1 : b < 0
    · have HB := Lib.hid hb
      clear hb
      go_enter Try.func13, Try.ntmps13
      go_wp2_with fail
      go_returns
      exact ⟨Below.refl _ _, fun h => absurd h HB.out, fun _ => rfl⟩
    · have hlv : M.levels l b = none := by unfold M.levels; rw [if_pos (by omega)]
      rw [hlv] at HL
      have HB := Lib.hid hb
      clear hb hlv
      go_enter Try.func13, Try.ntmps13
      go_wp2_with fail
      refine HL.out.mono ?_
      rintro r w1 ⟨rfl, hb1⟩
      have HB1 := Lib.hid hb1
      clear hb1
      go_wp2_with fail
      go_returns
      exact ⟨HB1.out, fun h => absurd h HB.out, fun _ => rfl⟩
end Go.Proofs.Yticiofpbijahbaa
end
