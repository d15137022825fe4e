/- The contracts of the library's IndexFunc over At's closure, of span's At and Style, and of the document's At and Style. Conditions: the slice reads as a list of at most sixty spans. -/
import Derived.Test.YteknpodofmmklaaDoorClos
import Derived.WalkSpells
namespace Go.Proofs.YteknpodofmmklaaDoor
open Go.RowKit

theorem M.at_step {l : List M.S} {k : Nat} {s : M.S} {i : Int} (hs : l[k]? = some s) (h : ∀ j z, j < k → l[j]? = some z → z.has i = false) (hi : s.has i = true) : M.atI l i = some k := by
  unfold M.atI
  rw [List.findIdx?_eq_some_iff_getElem]
  obtain ⟨hk, rfl⟩ := List.getElem?_eq_some_iff.1 hs
  exact ⟨hk, hi, fun j hj => by rw [h j _ hj (List.getElem?_eq_getElem (by omega))]; simp⟩
theorem M.at_none {l : List M.S} {i : Int} (h : ∀ j z, j < l.length → l[j]? = some z → z.has i = false) : M.atI l i = none := by
  unfold M.atI
  rw [List.findIdx?_eq_none_iff]
  intro z hz
  obtain ⟨j, hj⟩ := List.getElem?_of_mem hz
  exact h j z (List.getElem?_eq_some_iff.1 hj).1 hj
theorem M.at_lt {l : List M.S} {i : Int} {k : Nat} (h : M.atI l i = some k) : k < l.length := by
  unfold M.atI at h
  rw [List.findIdx?_eq_some_iff_getElem] at h
  exact h.1
/-- None of the first k has it. -/
def NoneTo (l : List M.S) (i : Int) (k : Nat) : Prop := ∀ j z, j < k → l[j]? = some z → z.has i = false
theorem NoneTo.succ {l : List M.S} {i : Int} {k : Nat} {s : M.S} (h : NoneTo l i k) (hs : l[k]? = some s) (hi : s.has i = false) : NoneTo l i (k + 1) := fun j z hj hz => by
  rcases Nat.lt_or_ge j k with h1 | h1
  · exact h j z h1 hz
  · obtain rfl : j = k := by omega
    rw [hs] at hz
    obtain rfl := Option.some.inj hz
    exact hi
def M.idxV (o : Option Nat) : Int := match o with | some k => (k : Int) | none => -1

set_option maxRecDepth 100000 in
set_option maxHeartbeats 2000000 in
theorem index_any (A : Option Addr) (ca : Nat) (l : List M.S) (i : Int) (b : Nat) (w : World) (hr : RdP w w.heap.size A l) (hm : l.length ≤ 60) (hc : w.cell? ⟨b, 0, none⟩ = some (.int .i64 i)) (hb : b < w.heap.size) :
    Calls Tryd.prog 25 #[.slice A l.length ca, .func (.func 26) #[] #[.pointer (some ⟨b, 0, none⟩)]] w fun r w' => r = .returned (.int .i64 (M.idxV (M.atI l i))) ∧ Below w.heap.size w w' := by
  have HR := Lib.hid hr
  have HC := Lib.hid hc
  clear hr hc
  go_enter Tryd.func25, Tryd.ntmps25
  go_wp2
  go_loopw [8] (fun v wr => ∃ k : Nat, k ≤ l.length ∧ v = .int .i64 k ∧ NoneTo l i k ∧ Below w.heap.size w wr) (fun v _ => l.length - (intOf v).toNat)
  case atStart => exact ⟨0, Nat.zero_le _, rfl, fun j z hj => absurd hj (Nat.not_lt_zero j), Below.refl _ _⟩
  case round =>
    obtain ⟨k, hk, rfl, hno, hbr⟩ := hrel
    have HNO := Lib.hid hno
    have HB := Lib.hid hbr
    have hbs := hbr.size
    clear hno hbr
    by_cases hlt : k < l.length
    · obtain ⟨s, hs⟩ : ∃ s, l[k]? = some s := ⟨_, List.getElem?_eq_getElem hlt⟩
      obtain ⟨ad, rfl, hab, c0, c1, c2, c3, c4, c5⟩ := HR.out.below HB.out k s hs
      have hk1 : (0 : Int) ≤ (k : Int) := by omega
      have hk2 : (k : Int) < (l.length : Int) := by omega
      have HS := Lib.hid hs
      have HCL := Lib.hid (has_any s i b wr ((HB.out.cell (p := ⟨b, 0, none⟩) hb).trans HC.out) (by omega))
      clear hs
      go_wp2_with fail
      refine HCL.out.mono ?_
      rintro r w1 ⟨rfl, hb1⟩
      have HB1 := Lib.hid (HB.out.trans (hb1.mono hbs))
      clear hb1
      cases hi : s.has i
      · have HN := Lib.hid (HNO.out.succ HS.out hi)
        clear hi
        go_wp2_with fail
        go_roundw
        case rel => exact ⟨k + 1, by omega, by go_num, HN.out, HB1.out⟩
        case measure => simp [intOf]; omega
      · have HA := Lib.hid (M.at_step HS.out HNO.out hi)
        clear hi
        go_wp2_with fail
        go_ret
        exact ⟨ret_int (by rw [HA.out]; rfl), HB1.out⟩
    · obtain rfl : k = l.length := by omega
      have HA := Lib.hid (M.at_none HNO.out)
      go_wp2_with fail
      go_ret
      exact ⟨ret_int (by rw [HA.out]; rfl), HB.out⟩

def M.atV (o : Option Nat) : Value := match o with | some k => .tuple #[.int .i64 (k : Int), .bool true] | none => .tuple #[.int .i64 0, .bool false]
set_option maxHeartbeats 2000000 in
theorem at_any (A : Option Addr) (ca : Nat) (l : List M.S) (i : Int) (w : World) (hr : RdP w w.heap.size A l) (hm : l.length ≤ 60) :
    Calls Tryd.prog 11 #[.slice A l.length ca, .int .i64 i] w fun r w' => r = .returned (M.atV (M.atI l i)) ∧ Below w.heap.size w w' := by
  have hmf : ∀ (fn : Fn) (first cap : Array Value) (w : World), (Instr.makeFunc fn first cap).run Tryd.prog w = .ok (.func fn first cap) w := fun _ _ _ _ => rfl
  obtain ⟨W, hW⟩ : ∃ W, w.alloc (.cells #[.int .i64 i] 3) = W := ⟨_, rfl⟩
  have hbW : Below w.heap.size w W := by rw [← hW]; exact (Below.refl _ _).alloc (Nat.le_refl _) _
  have hsz : w.heap.size < W.heap.size := by rw [← hW]; simp
  have HI := Lib.hid (index_any A ca l i w.heap.size W (hr.after hbW) hm (by rw [← hW]; simp [go_sem]) hsz)
  have HB := Lib.hid hbW
  clear hbW hr
  go_enter Tryd.func11, Tryd.ntmps11
  go_wp2_with fail
  refine HI.out.mono ?_
  rintro r w1 ⟨rfl, hb1⟩
  have HB1 := Lib.hid (HB.out.trans (hb1.mono (by omega)))
  clear hb1
  cases ha : M.atI l i with
  | none =>
    have HA := Lib.hid ha
    clear ha
    dsimp only [M.idxV]
    go_wp2_with fail
    go_ret2
    exact ⟨by rw [HA.out]; rfl, HB1.out⟩
  | some k =>
    have HA := Lib.hid ha
    clear ha
    dsimp only [M.idxV]
    have h0 : (0 : Int) ≤ (k : Int) := by omega
    go_wp2_with fail
    go_ret2
    exact ⟨by rw [HA.out]; rfl, HB1.out⟩

set_option maxRecDepth 100000 in
set_option maxHeartbeats 2000000 in
theorem refAt_any (A : Option Addr) (ca : Nat) (l : List M.S) (i : Int) (w : World) (hr : RdP w w.heap.size A l) (hm : l.length ≤ 60) :
    Calls Tryd.prog 12 #[.slice A l.length ca, .int .i64 i] w fun r w' => r = .returned (M.atV (M.atI l i)) ∧ w' = w := by
  have HR := Lib.hid hr
  clear hr
  go_enter Tryd.func12, Tryd.ntmps12
  go_wp2
  go_loop [6] (fun v => ∃ k : Nat, k ≤ l.length ∧ v = .int .i64 k ∧ NoneTo l i k) (fun v => l.length - (intOf v).toNat)
  case atStart => exact ⟨0, Nat.zero_le _, rfl, fun j z hj => absurd hj (Nat.not_lt_zero j)⟩
  case round =>
    obtain ⟨k, hk, rfl, hno⟩ := hrel
    have HNO := Lib.hid hno
    clear hno
    by_cases hlt : k < l.length
    · obtain ⟨s, hs⟩ : ∃ s, l[k]? = some s := ⟨_, List.getElem?_eq_getElem hlt⟩
      obtain ⟨ad, rfl, hab, c0, c1, c2, c3, c4, c5⟩ := HR.out k s hs
      have hk1 : (0 : Int) ≤ (k : Int) := by omega
      have hk2 : (k : Int) < (l.length : Int) := by omega
      by_cases h1 : s.f ≤ i
      · by_cases h2 : i < s.t
        · have HA := Lib.hid (M.at_step hs HNO.out (M.has_iff.2 ⟨h1, h2⟩))
          clear hs
          go_wp2_with fail
          go_ret2
          exact ⟨by rw [HA.out]; rfl, rfl⟩
        · have HN := Lib.hid (HNO.out.succ hs (by unfold M.S.has; rw [decide_eq_false h2]; simp))
          clear hs
          go_wp2_with fail
          go_round
          case rel => exact ⟨k + 1, by omega, by go_num, HN.out⟩
          case measure => simp [intOf]; omega
      · have HN := Lib.hid (HNO.out.succ hs (by unfold M.S.has; rw [decide_eq_false h1]; simp))
        clear hs
        go_wp2_with fail
        go_round
        case rel => exact ⟨k + 1, by omega, by go_num, HN.out⟩
        case measure => simp [intOf]; omega
    · obtain rfl : k = l.length := by omega
      have HA := Lib.hid (M.at_none HNO.out)
      go_wp2_with fail
      go_ret2
      exact ⟨by rw [HA.out]; rfl, rfl⟩

set_option maxRecDepth 100000 in
set_option maxHeartbeats 2000000 in
theorem look_any (A : Option Addr) (ca : Nat) (l : List M.S) (i : Int) (w : World) (hr : RdP w w.heap.size A l) (hm : l.length ≤ 60) :
    Calls Tryd.prog 16 #[.slice A l.length ca, .int .i64 i] w fun r w' => r = .returned (M.look l i).val ∧ Below w.heap.size w w' := by
  obtain ⟨W, hW, hbW, hZ, -⟩ := zero_span w
  have hsz : w.heap.size < W.heap.size := by rw [← hW]; simp
  have HI := Lib.hid (at_any A ca l i W (hr.after hbW) hm)
  have HR := Lib.hid (hr.after hbW)
  have HZ := Lib.hid hZ
  have HB := Lib.hid hbW
  clear hbW hr hZ
  go_enter Tryd.func16, Tryd.ntmps16
  go_wp2_with fail
  refine HI.out.mono ?_
  rintro r w1 ⟨rfl, hb1⟩
  have hbw := HB.out.trans (hb1.mono (Nat.le_of_lt hsz))
  have hZ1 := HZ.out.below hb1 hsz
  have HR1 := Lib.hid (HR.out.after hb1)
  have hsz1 : w.heap.size < w1.heap.size := Nat.lt_of_lt_of_le hsz hb1.size
  clear hb1
  cases ha : M.atI l i with
  | none =>
    have HA := Lib.hid (M.look_none ha)
    have HBW := Lib.hid hbw
    clear ha hbw
    dsimp only [M.atV]
    go_wp2_with fail
    refine (plain_any _).mono ?_
    rintro r w2 ⟨rfl, hb2⟩
    have HBW2 := Lib.hid (HBW.out.trans (hb2.mono HBW.out.size))
    obtain ⟨z0, z1, z2, z3, z4, z5, y0, y1, y2, y3, y4, y5⟩ := hZ1.below hb2 hsz1
    dsimp only [M.zeroS] at z0 z1 z2 z3 z4 z5
    clear hb2 hZ1
    unfold M.S.val M.zeroS
    dsimp only
    go_wp2_with fail
    refine bodyPost_ret (v := M.zeroS.val) (by simp [results, Tryd.results16, go_sem, M.S.val, M.zeroS, z0, z1, z2, z3, z4, z5]) rfl ⟨by rw [HA.out], ?_⟩
    exact below_six HBW2.out (Nat.le_refl _)
  | some k =>
    have hk := M.at_lt ha
    obtain ⟨s, hs⟩ : ∃ s, l[k]? = some s := ⟨_, List.getElem?_eq_getElem hk⟩
    have HA := Lib.hid (M.look_at ha hs)
    have HBW := Lib.hid hbw
    obtain ⟨ad, rfl, hab, c0, c1, c2, c3, c4, c5⟩ := HR1.out k s hs
    have hk1 : (0 : Int) ≤ (k : Int) := by omega
    have hk2 : (k : Int) < (l.length : Int) := by omega
    clear ha hbw hs
    dsimp only [M.atV]
    go_wp2_with fail
    refine (style_any s _).mono ?_
    rintro r w2 ⟨rfl, hb2⟩
    have HBW2 := Lib.hid (HBW.out.trans (hb2.mono HBW.out.size))
    obtain ⟨z0, z1, z2, z3, z4, z5, y0, y1, y2, y3, y4, y5⟩ := hZ1.below hb2 hsz1
    clear hb2 hZ1 c0 c1 c2 c3 c4 c5
    unfold M.S.val M.S.bare
    dsimp only
    go_wp2_with fail
    refine bodyPost_ret (v := s.bare.val) (by simp [results, Tryd.results16, go_sem, M.S.val, M.S.bare, z0, z1, z2, z3, z4, z5]) rfl ⟨by rw [HA.out], ?_⟩
    exact below_six HBW2.out (Nat.le_refl _)

set_option maxRecDepth 100000 in
set_option maxHeartbeats 2000000 in
theorem refLook_any (A : Option Addr) (ca : Nat) (l : List M.S) (i : Int) (w : World) (hr : RdP w w.heap.size A l) (hm : l.length ≤ 60) :
    Calls Tryd.prog 17 #[.slice A l.length ca, .int .i64 i] w fun r w' => r = .returned (M.look l i).val ∧ Below w.heap.size w w' := by
  obtain ⟨W, hW, hbW, hZ, -⟩ := zero_span w
  have hsz : w.heap.size < W.heap.size := by rw [← hW]; simp
  have HI := Lib.hid (refAt_any A ca l i W (hr.after hbW) hm)
  have HR := Lib.hid (hr.after hbW)
  have HZ := Lib.hid hZ
  have HB := Lib.hid hbW
  clear hbW hr hZ
  go_enter Tryd.func17, Tryd.ntmps17
  go_wp2_with fail
  refine HI.out.mono ?_
  rintro r w1 ⟨rfl, rfl⟩
  have hbw := HB.out
  have hZ1 := HZ.out
  have HR1 := Lib.hid HR.out
  have hsz1 : w.heap.size < w1.heap.size := hsz
  cases ha : M.atI l i with
  | none =>
    have HA := Lib.hid (M.look_none ha)
    have HBW2 := Lib.hid hbw
    obtain ⟨z0, z1, z2, z3, z4, z5, y0, y1, y2, y3, y4, y5⟩ := hZ1
    clear ha hbw
    dsimp only [M.zeroS] at z0 z1 z2 z3 z4 z5
    dsimp only [M.atV]
    go_wp2_with fail
    refine bodyPost_ret (v := M.zeroS.val) (by simp [results, Tryd.results17, go_sem, M.S.val, M.zeroS, z0, z1, z2, z3, z4, z5]) rfl ⟨by rw [HA.out], ?_⟩
    exact below_six HBW2.out (Nat.le_refl _)
  | some k =>
    have hk := M.at_lt ha
    obtain ⟨s, hs⟩ : ∃ s, l[k]? = some s := ⟨_, List.getElem?_eq_getElem hk⟩
    have HA := Lib.hid (M.look_at ha hs)
    have HBW := Lib.hid hbw
    obtain ⟨ad, rfl, hab, c0, c1, c2, c3, c4, c5⟩ := HR1.out k s hs
    have hk1 : (0 : Int) ≤ (k : Int) := by omega
    have hk2 : (k : Int) < (l.length : Int) := by omega
    clear ha hbw hs
    dsimp only [M.atV]
    go_wp2_with fail
    refine (bare_any s _).mono ?_
    rintro r w2 ⟨rfl, hb2⟩
    have HBW2 := Lib.hid (HBW.out.trans (hb2.mono HBW.out.size))
    obtain ⟨z0, z1, z2, z3, z4, z5, y0, y1, y2, y3, y4, y5⟩ := hZ1.below hb2 hsz1
    clear hb2 hZ1 c0 c1 c2 c3 c4 c5
    unfold M.S.val M.S.bare
    dsimp only
    go_wp2_with fail
    refine bodyPost_ret (v := s.bare.val) (by simp [results, Tryd.results17, go_sem, M.S.val, M.S.bare, z0, z1, z2, z3, z4, z5]) rfl ⟨by rw [HA.out], ?_⟩
    exact below_six HBW2.out (Nat.le_refl _)

end Go.Proofs.YteknpodofmmklaaDoor
