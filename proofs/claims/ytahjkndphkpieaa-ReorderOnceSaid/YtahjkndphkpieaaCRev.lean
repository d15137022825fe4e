/- The contract of the library's Reverse at whole numbers, of a stretch of a block of one's own. Conditions: the stretch lies in the block, and takes at most 2^47 bytes. -/
import Derived.Test.YtahjkndphkpieaaCBk
import Derived.BigRegion
namespace Go.Proofs.Ytahjkndphkpieaa
open Go.RowKit
set_option maxRecDepth 100000

theorem M.add_form (G f x : Nat) : (⟨G, f, none⟩ : Addr).add x = ⟨G, f + x, none⟩ := by
  unfold Addr.add
  split
  · rename_i h
    rw [h]
    rfl
  · rfl
theorem Turned.drew {w w' : World} {G : Nat} (h : Turned w w' G) : Turned w w'.drew G := ⟨h.os, h.tape, h.output, h.size, h.block⟩
set_option maxHeartbeats 8000000 in
theorem crev_any (a : Addr) (G f m c : Nat) (O : List Int) (w : World) (hb : BlockAt w G 3 O) (ha : a = ⟨G, f, none⟩) (hfm : f + m ≤ O.length) (hl : m * 8 ≤ 140737488351232) :
    Calls Try.prog 21 #[.slice (some a) m c] w fun r w' => r = .returned (.tuple #[]) ∧ BlockAt w' G 3 (M.seg O f (f + m)) ∧ Turned w w' G := by
  have HB := Lib.hid hb
  have HA := Lib.hid ha
  have HF := Lib.hid hfm
  have hl1 : (m : Int) ≤ 17592186043904 := by omega
  clear hb ha hl
  go_enter Try.func21, Try.ntmps21
  go_wp2_with fail
  go_loopw [2, 3] (fun i j wr => ∃ (k : Nat) (X : List Int), i = .int .i64 k ∧ j = .int .i64 ((m : Int) - 1 - k) ∧ k + k ≤ m ∧ X.length = O.length ∧ M.TrnTo O f (f + m) k X ∧ BlockAt wr G 3 X ∧ Turned w wr G) (fun i _ _ => m - (intOf i).toNat)
  case atStart => exact ⟨0, O, rfl, by go_num, Nat.zero_le _, rfl, .start, HB.out, .refl _ _⟩
  case round =>
    obtain ⟨k, X, rfl, rfl, hk, hX, hto, hrow, ht⟩ := hrel
    have HT := Lib.hid ht
    have HX := Lib.hid hX
    have HTO := Lib.hid hto
    have k0 : (0 : Int) ≤ k := by omega
    by_cases hlt : k + k + 1 < m
    · obtain ⟨y, hy⟩ : ∃ y : Nat, (m : Int) - 1 - k = y := ⟨m - 1 - k, by omega⟩
      rw [hy]
      have hky : (k : Int) < y := by omega
      have hym : (y : Int) < m := by omega
      have hkm : (k : Int) < m := by omega
      have y0 : (0 : Int) ≤ y := by omega
      obtain ⟨p, hp⟩ : ∃ p, X[f + k]? = some p := ⟨_, List.getElem?_eq_getElem (by omega)⟩
      obtain ⟨q, hq⟩ : ∃ q, X[f + y]? = some q := ⟨_, List.getElem?_eq_getElem (by omega)⟩
      have e0 : a.add k = ⟨G, f + k, none⟩ := by rw [HA.out]; exact M.add_form _ _ _
      have e1 : a.add y = ⟨G, f + y, none⟩ := by rw [HA.out]; exact M.add_form _ _ _
      have E0 := Lib.hid e0
      have E1 := Lib.hid e1
      have c0 : wr.cell? (a.add k) = some (.int .i64 p) := by rw [e0]; exact hrow.cell hp
      have c1 : wr.cell? (a.add y) = some (.int .i64 q) := by rw [e1]; exact hrow.cell hq
      have f0 : wr.frozen? (a.add k) = false := by rw [e0]; exact hrow.frozen
      have f1 : wr.frozen? (a.add y) = false := by rw [e1]; exact hrow.frozen
      have g0 : (wr.setCell (a.add y) (.int .i64 p)).frozen? (a.add k) = false := by rw [e0, e1]; exact (hrow.set p).frozen
      have g1 : (wr.setCell (a.add k) (.int .i64 q)).frozen? (a.add y) = false := by rw [e0, e1]; exact (hrow.set q).frozen
      have hne : a.add k ≠ a.add y := by rw [e0, e1]; intro h; injection h with _ h _; omega
      have hne2 : a.add y ≠ a.add k := Ne.symm hne
      have hyz : f + y = f + m - k - 1 := by omega
      have hst := hto.step (a := p) (b := q) hX (by omega) HF.out (by exact hp) (by rw [← hyz]; exact hq)
      rw [← hyz] at hst
      have hr1 := (hrow.set (k := f + k) q).set (k := f + y) p
      have hr2 := (hrow.set (k := f + y) p).set (k := f + k) q
      rw [List.set_comm _ _ (by omega : f + y ≠ f + k)] at hr2
      have ht1 := (ht.setCell (f + k) (.int .i64 q)).setCell (f + y) (.int .i64 p)
      have ht2 := (ht.setCell (f + y) (.int .i64 p)).setCell (f + k) (.int .i64 q)
      rw [← e0, ← e1] at hr1 hr2 ht1 ht2
      have HR := Lib.hid (And.intro (And.intro hr1 ht1) (And.intro hr2 ht2))
      have HST := Lib.hid hst
      have HY := Lib.hid hy
      have HLT := Lib.hid hlt
      have y1 : (y : Int) - 1 = (m : Int) - 1 - ((k + 1 : Nat) : Int) := by omega
      have Y1 := Lib.hid y1
      clear hto hrow ht hX hp hq hr1 hr2 ht1 ht2 hst hyz e0 e1 hy hlt y1 hk hfm
      go_wp2_with fail
      go_region
      all_goals
        refine (by assumption : ∀ a x, Code.wp Try.prog _ _ a x → _) _ _ ?_
        go_wp2_with fail
        go_roundw
        case rel => exact ⟨k + 1, _, by go_num, by have := Y1.out; go_num, by have := HLT.out; omega, by rw [List.length_set, List.length_set, HX.out], HST.out, by first | exact HR.out.1.1 | exact HR.out.2.1, by first | exact HR.out.1.2.drew | exact HR.out.2.2.drew⟩
        case measure => have := HLT.out; simp [intOf]; omega
    · have h1 : ¬ (k : Int) < (m : Int) - 1 - k := by omega
      have hd := hto.done (by omega) HF.out (by omega) (by omega)
      rw [hd] at hrow
      have HROW := Lib.hid hrow
      obtain ⟨y, hy⟩ : ∃ y : Int, (m : Int) - 1 - k = y := ⟨_, rfl⟩
      rw [hy] at h1 ⊢
      clear hto hrow ht hX hd hk hy
      go_wp2_with fail
      go_end0
      exact ⟨rfl, HROW.out, HT.out⟩
end Go.Proofs.Ytahjkndphkpieaa
