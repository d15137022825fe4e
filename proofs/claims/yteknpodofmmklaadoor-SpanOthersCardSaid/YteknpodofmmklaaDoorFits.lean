/- The contract of the statements' Fits: where it answers true, the spans are right, not too many, and their Rubies not too long. Condition: the slice reads as a list of spans whose fields are of their types. -/
import Derived.Test.YteknpodofmmklaaDoorAlive
import Derived.Test.YteknpodofmmklaaDoorOpen
namespace Go.Proofs.YteknpodofmmklaaDoor
open Go.RowKit

structure Fit (l : List M.S) (n : Int) : Prop where
  len : l.length ≤ 60
  lo : 0 ≤ n
  hi : n ≤ 1048576
  ruby : ∀ s ∈ l, s.r.size ≤ 200
  right : M.right l n = true
theorem szd_of {l : List M.S} (h : Typed l) (hr : ∀ s ∈ l, s.r.size ≤ 200) : Szd l := fun s hs => by
  obtain ⟨h1, h2, h3, _⟩ := h s hs
  exact ⟨⟨(i64_bounds h1).1, (i64_bounds h2).2⟩, u64_bounds h3, hr s hs⟩
theorem rt_lim {l : List M.S} {n : Int} (h : M.Rt n l) (hn : n ≤ 4000000) : Lim l := fun s hs => by
  obtain ⟨h1, h2, h3, h4⟩ := h.each s hs
  exact ⟨h1, h2, by omega, (M.ok_iff.1 h4).2⟩
theorem Fit.lim {l : List M.S} {n : Int} (h : Fit l n) : Lim l := rt_lim (M.right_iff.1 h.right).2 (by have := h.hi; omega)
/-- What Fits answers. -/
def FitOut (l : List M.S) (n : Int) (w : World) (r : Ending) (w' : World) : Prop := ∃ b, r = .returned (.bool b) ∧ (b = true → Fit l n) ∧ Below w.heap.size w w'
/-- The first k Rubies are short. -/
def RubyTo (l : List M.S) (k : Nat) : Prop := ∀ (j : Nat) (z : M.S), j < k → l[j]? = some z → z.r.size ≤ 200
theorem RubyTo.succ {l : List M.S} {k : Nat} {s : M.S} (h : RubyTo l k) (hs : l[k]? = some s) (hi : s.r.size ≤ 200) : RubyTo l (k + 1) := fun j z hj hz => by
  rcases Nat.lt_or_ge j k with h1 | h1
  · exact h j z h1 hz
  · obtain rfl : j = k := by omega
    rw [hs] at hz
    obtain rfl := Option.some.inj hz
    exact hi
theorem RubyTo.all {l : List M.S} (h : RubyTo l l.length) : ∀ s ∈ l, s.r.size ≤ 200 := fun s hs => by
  obtain ⟨j, hj⟩ := List.getElem?_of_mem hs
  exact h j s (List.getElem?_eq_some_iff.1 hj).1 hj

set_option maxRecDepth 100000 in
set_option maxHeartbeats 4000000 in
theorem fits_any (A : Option Addr) (ca : Nat) (l : List M.S) (n : Int) (w : World) (hr : RdP w w.heap.size A l) (hm : l.length ≤ maxLen) (ht : Typed l) :
    Calls Tryd.prog 18 #[.slice A l.length ca, .int .i64 n] w (FitOut l n w) := by
  unfold maxLen at hm
  have HR := Lib.hid hr
  have HT := Lib.hid ht
  clear hr ht
  by_cases h60 : 60 < l.length
  · have h61 : (60 : Int) < (l.length : Int) := by omega
    go_enter Tryd.func18, Tryd.ntmps18
    go_wp2_with fail
    go_ret
    exact ⟨false, rfl, (fun h => by cases h), Below.refl _ _⟩
  · have h61 : (l.length : Int) ≤ 60 := by omega
    by_cases hn0 : n < 0
    · go_enter Tryd.func18, Tryd.ntmps18
      go_wp2_with fail
      go_ret
      exact ⟨false, rfl, (fun h => by cases h), Below.refl _ _⟩
    · by_cases hn1 : 1048576 < n
      · go_enter Tryd.func18, Tryd.ntmps18
        go_wp2_with fail
        go_ret
        exact ⟨false, rfl, (fun h => by cases h), Below.refl _ _⟩
      · go_enter Tryd.func18, Tryd.ntmps18
        go_wp2_with fail
        go_loopw [5] (fun v wr => ∃ k : Nat, k ≤ l.length ∧ v = .int .i64 k ∧ RubyTo l k ∧ Below w.heap.size w wr) (fun v _ => l.length - (intOf v).toNat)
        case atStart => exact ⟨0, Nat.zero_le _, rfl, fun j z hj => absurd hj (Nat.not_lt_zero j), Below.refl _ _⟩
        case round =>
          obtain ⟨k, hk, rfl, hru, hbr⟩ := hrel
          have HU := Lib.hid hru
          have HB := Lib.hid hbr
          have hbs := hbr.size
          clear hru hbr
          by_cases hlt : k < l.length
          · obtain ⟨s, hs⟩ : ∃ s, l[k]? = some s := ⟨_, List.getElem?_eq_getElem hlt⟩
            obtain ⟨ad, rfl, hab, c0, c1, c2, c3, c4, c5⟩ := HR.out.below HB.out k s hs
            have hk1 : (0 : Int) ≤ (k : Int) := by omega
            have hk2 : (k : Int) < (l.length : Int) := by omega
            have hz := (HT.out s (List.mem_of_getElem? hs)).2.2.2
            unfold maxLen at hz
            by_cases h200 : 200 < s.r.size
            · have h201 : (200 : Int) < (s.r.size : Int) := by omega
              clear hs
              go_wp2_with fail
              go_ret
              exact ⟨false, rfl, (fun h => by cases h), HB.out⟩
            · have h201 : (s.r.size : Int) ≤ 200 := by omega
              have HU2 := Lib.hid (HU.out.succ hs (by omega))
              clear hs
              go_wp2_with fail
              go_roundw
              case rel => exact ⟨k + 1, by omega, by go_num, HU2.out, HB.out⟩
              case measure => simp [intOf]; omega
          · obtain rfl : k = l.length := by omega
            have hru := RubyTo.all HU.out
            have HW := Lib.hid (refRight_any A ca l n wr (HR.out.after HB.out) (by omega) (szd_of HT.out hru))
            have HRU := Lib.hid hru
            clear hru
            go_wp2_with fail
            refine HW.out.mono ?_
            rintro r w1 ⟨rfl, hb1⟩
            have HB1 := Lib.hid (HB.out.trans (hb1.mono hbs))
            clear hb1
            go_wp2_with fail
            go_ret
            exact ⟨_, rfl, fun h => ⟨by omega, by omega, by omega, HRU.out, h⟩, HB1.out⟩
end Go.Proofs.YteknpodofmmklaaDoor
