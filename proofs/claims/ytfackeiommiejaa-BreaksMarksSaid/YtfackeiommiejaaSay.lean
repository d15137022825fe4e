/- The list of the rules of package breaks, and what the first of them says that speaks of two clusters, over the translation. -/
import Derived.Test.YtfackeiommiejaaRules
import Derived.Laws.EntriesVeiled
namespace Go.Proofs.Ytfackeiommiejaa
open Go.RowKit

/-- The rules' cells. -/
def ruleVals : List Value := [.func (.func 29) #[] #[], .int .i64 0, .func (.func 30) #[] #[], .int .i64 2, .func (.func 31) #[] #[], .int .i64 0, .func (.func 32) #[] #[], .int .i64 1, .func (.func 33) #[] #[], .int .i64 0, .func (.func 34) #[] #[], .int .i64 0, .func (.func 35) #[] #[], .int .i64 1, .func (.func 36) #[] #[], .int .i64 0, .func (.func 37) #[] #[], .int .i64 0, .func (.func 38) #[] #[], .int .i64 0, .func (.func 40) #[] #[], .int .i64 0]
/-- The rules lie in block B. -/
def RulesIn (w : World) (B : Nat) : Prop := w.heap[B]? = some (.cells ruleVals.toArray 49 (0, 0))
theorem RulesIn.below {w w' : World} {B n : Nat} (h : RulesIn w B) (hb : Below n w w') (hB : B < n) : RulesIn w' B := (hb.block B hB).trans h
theorem RulesIn.cell {w : World} {B : Nat} (h : RulesIn w B) (j : Nat) (v : Value) (hj : ruleVals[j]? = some v) : w.cell? ⟨B, j, none⟩ = some v := by
  unfold World.cell?
  rw [show w.heap[B]? = _ from h]
  simp [hj]

set_option maxRecDepth 100000 in
set_option maxHeartbeats 2000000 in
theorem rules_any (w : World) : Calls Try.prog 24 #[] w fun r w' => r = .returned (.slice (some ⟨w.heap.size, 0, none⟩) 11 11) ∧ w.heap.size < w'.heap.size ∧ RulesIn w' w.heap.size ∧ Below w.heap.size w w' := by
  obtain ⟨W1, hW1⟩ : ∃ W1, w.alloc (.cells ruleVals.toArray 49) = W1 := ⟨_, rfl⟩
  have hb : Below w.heap.size w W1 := by rw [← hW1]; exact (Below.refl _ _).alloc (Nat.le_refl _) _
  have hr : RulesIn W1 w.heap.size := by rw [← hW1]; exact World.alloc_heap_new w _
  have hs : w.heap.size < W1.heap.size := by rw [← hW1]; simp
  have HF := Lib.hid (show w.heap.size < W1.heap.size ∧ RulesIn W1 w.heap.size ∧ Below w.heap.size w W1 from ⟨hs, hr, hb⟩)
  unfold ruleVals at hW1
  have HW1 := Lib.hid hW1
  clear hW1 hb hr hs
  go_enter Try.func24, Try.ntmps24
  go_wp2
  go_ret
  rw [HW1.out]
  exact ⟨rfl, HF.out⟩

set_option maxRecDepth 100000 in
set_option maxHeartbeats 8000000 in
theorem say_any (B : Nat) (p : M.P) (w : World) (hB : B < w.heap.size) (hr : RulesIn w B) : Calls Try.prog 27 #[.slice (some ⟨B, 0, none⟩) 11 11, p.val] w fun r w' => r = .returned (.int .i64 (M.say p)) ∧ Below w.heap.size w w' := by
  obtain ⟨ans, hans⟩ : ∃ x, M.say p = x := ⟨_, rfl⟩
  rw [hans]
  have HANS := Lib.hid hans
  have hpv : p.val = .agg #[.int .i64 p.a, .int .i64 p.b, .int .i64 p.h, .bool p.m] := rfl
  obtain ⟨pa, hpa⟩ : ∃ x, p.a = x := ⟨_, rfl⟩
  obtain ⟨pb, hpb⟩ : ∃ x, p.b = x := ⟨_, rfl⟩
  obtain ⟨ph, hph⟩ : ∃ x, p.h = x := ⟨_, rfl⟩
  obtain ⟨pm, hpm⟩ : ∃ x, p.m = x := ⟨_, rfl⟩
  rw [hpa, hpb, hph, hpm] at hpv
  rw [hpv]
  have HPV := Lib.hid hpv
  obtain ⟨W1, hW1⟩ : ∃ W1, w.alloc (.cells #[.int .i64 pa, .int .i64 pb, .int .i64 ph, .bool pm] 44) = W1 := ⟨_, rfl⟩
  have hb : Below w.heap.size w W1 := by rw [← hW1]; exact (Below.refl _ _).alloc (Nat.le_refl _) _
  have hs : W1.heap.size = w.heap.size + 1 := by rw [← hW1]; simp
  have hnew : W1.heap[w.heap.size]? = some (.cells #[.int .i64 pa, .int .i64 pb, .int .i64 ph, .bool pm] 44 (0, 0)) := by rw [← hW1]; exact World.alloc_heap_new w _
  have hc : ∀ j v, #[Value.int .i64 pa, .int .i64 pb, .int .i64 ph, .bool pm][j]? = some v → W1.cell? ⟨w.heap.size, j, none⟩ = some v := fun j v hj => by
    unfold World.cell?
    rw [hnew]
    simpa using hj
  have hc0 := hc 0 _ rfl
  have hc1 := hc 1 _ rfl
  have hc2 := hc 2 _ rfl
  have hc3 := hc 3 _ rfl
  have HC := Lib.hid (show W1.cell? ⟨w.heap.size, 0, none⟩ = some (.int .i64 pa) ∧ W1.cell? ⟨w.heap.size, 1, none⟩ = some (.int .i64 pb) ∧ W1.cell? ⟨w.heap.size, 2, none⟩ = some (.int .i64 ph) ∧ W1.cell? ⟨w.heap.size, 3, none⟩ = some (.bool pm) from ⟨hc0, hc1, hc2, hc3⟩)
  have HR := Lib.hid (hr.below hb hB)
  have HB := Lib.hid hb
  have HS := Lib.hid hs
  have HW1 := Lib.hid hW1
  clear hW1 hb hr hs hnew hc hc0 hc1 hc2 hc3 hpa hpb hph hpm hpv hans
  go_enter Try.func27, Try.ntmps27
  go_wp2_with fail
  rw [HW1.out]
  go_loopw [9] (fun v wr => ∃ k : Nat, v = .int .i64 k ∧ k ≤ 11 ∧ M.say p = M.sayFrom p (11 - k) k ∧ Below W1.heap.size W1 wr) (fun v _ => 11 - (intOf v).toNat)
  case atStart => exact ⟨0, rfl, by omega, rfl, Below.refl _ _⟩
  case round =>
    obtain ⟨k, rfl, hk, hsay, hb⟩ := hrel
    obtain ⟨c0, c1, c2, c3⟩ := HC.out
    have hsz := HS.out
    have d0 := (hb.cell (p := ⟨w.heap.size, 0, none⟩) (by rw [hsz]; exact Nat.lt_succ_self _)).trans c0
    have d1 := (hb.cell (p := ⟨w.heap.size, 1, none⟩) (by rw [hsz]; exact Nat.lt_succ_self _)).trans c1
    have d2 := (hb.cell (p := ⟨w.heap.size, 2, none⟩) (by rw [hsz]; exact Nat.lt_succ_self _)).trans c2
    have d3 := (hb.cell (p := ⟨w.heap.size, 3, none⟩) (by rw [hsz]; exact Nat.lt_succ_self _)).trans c3
    have HB2 := Lib.hid hb
    have HSAY := Lib.hid hsay
    have hri := (HR.out.below hb (by omega : B < W1.heap.size)).cell
    have hwsz : w.heap.size < wr.heap.size := by have := hb.size; omega
    clear hb hsay c0 c1 c2 c3 hsz
    rcases (show k = 0 ∨ k = 1 ∨ k = 2 ∨ k = 3 ∨ k = 4 ∨ k = 5 ∨ k = 6 ∨ k = 7 ∨ k = 8 ∨ k = 9 ∨ k = 10 ∨ k = 11 by omega) with rfl | rfl | rfl | rfl | rfl | rfl | rfl | rfl | rfl | rfl | rfl | rfl
    · have e0 := hri 0 _ rfl
      have e1 := hri 1 _ rfl
      clear hri
      have HRL := Lib.hid (rule1_any p)
      rw [HPV.out] at HRL
      cases hrl : M.rl 0 p
      · rw [hrl] at HRL
        have HN := Lib.hid (HSAY.out.trans (M.sayFrom_no hrl))
        clear hrl
        go_wp2_with fail
        refine (HRL.out _).mono ?_
        rintro r w2 ⟨rfl, hb2⟩
        have HB3 := Lib.hid (HB2.out.trans ((((Below.refl _ _).alloc (Nat.le_refl _) _).trans (hb2.mono (by simp))).mono HB2.out.size))
        clear hb2
        go_wp2_with fail
        go_roundw
        case rel => exact ⟨1, rfl, by omega, HN.out, HB3.out⟩
        case measure => simp [intOf]
      · rw [hrl] at HRL
        have HN := Lib.hid ((HANS.out.symm.trans HSAY.out).trans (M.sayFrom_yes hrl))
        clear hrl
        go_wp2_with fail
        refine (HRL.out _).mono ?_
        rintro r w2 ⟨rfl, hb2⟩
        have e4 := (hb2.cell (p := ⟨wr.heap.size, 1, none⟩) (by simp))
        simp only [go_sem] at e4
        have HB3 := Lib.hid (HB2.out.trans ((((Below.refl _ _).alloc (Nat.le_refl _) _).trans (hb2.mono (by simp))).mono HB2.out.size))
        clear hb2
        go_wp2_with fail
        go_ret
        exact ⟨by rw [HN.out]; rfl, HB.out.trans (HB3.out.mono HB.out.size)⟩
    · have e0 := hri 2 _ rfl
      have e1 := hri 3 _ rfl
      clear hri
      have HRL := Lib.hid (rule2_any p)
      rw [HPV.out] at HRL
      cases hrl : M.rl 1 p
      · rw [hrl] at HRL
        have HN := Lib.hid (HSAY.out.trans (M.sayFrom_no hrl))
        clear hrl
        go_wp2_with fail
        refine (HRL.out _).mono ?_
        rintro r w2 ⟨rfl, hb2⟩
        have HB3 := Lib.hid (HB2.out.trans ((((Below.refl _ _).alloc (Nat.le_refl _) _).trans (hb2.mono (by simp))).mono HB2.out.size))
        clear hb2
        go_wp2_with fail
        go_roundw
        case rel => exact ⟨2, rfl, by omega, HN.out, HB3.out⟩
        case measure => simp [intOf]
      · rw [hrl] at HRL
        have HN := Lib.hid ((HANS.out.symm.trans HSAY.out).trans (M.sayFrom_yes hrl))
        clear hrl
        go_wp2_with fail
        refine (HRL.out _).mono ?_
        rintro r w2 ⟨rfl, hb2⟩
        have e4 := (hb2.cell (p := ⟨wr.heap.size, 1, none⟩) (by simp))
        simp only [go_sem] at e4
        have HB3 := Lib.hid (HB2.out.trans ((((Below.refl _ _).alloc (Nat.le_refl _) _).trans (hb2.mono (by simp))).mono HB2.out.size))
        clear hb2
        go_wp2_with fail
        go_ret
        exact ⟨by rw [HN.out]; rfl, HB.out.trans (HB3.out.mono HB.out.size)⟩
    · have e0 := hri 4 _ rfl
      have e1 := hri 5 _ rfl
      clear hri
      have HRL := Lib.hid (rule3_any p)
      rw [HPV.out] at HRL
      cases hrl : M.rl 2 p
      · rw [hrl] at HRL
        have HN := Lib.hid (HSAY.out.trans (M.sayFrom_no hrl))
        clear hrl
        go_wp2_with fail
        refine (HRL.out _).mono ?_
        rintro r w2 ⟨rfl, hb2⟩
        have HB3 := Lib.hid (HB2.out.trans ((((Below.refl _ _).alloc (Nat.le_refl _) _).trans (hb2.mono (by simp))).mono HB2.out.size))
        clear hb2
        go_wp2_with fail
        go_roundw
        case rel => exact ⟨3, rfl, by omega, HN.out, HB3.out⟩
        case measure => simp [intOf]
      · rw [hrl] at HRL
        have HN := Lib.hid ((HANS.out.symm.trans HSAY.out).trans (M.sayFrom_yes hrl))
        clear hrl
        go_wp2_with fail
        refine (HRL.out _).mono ?_
        rintro r w2 ⟨rfl, hb2⟩
        have e4 := (hb2.cell (p := ⟨wr.heap.size, 1, none⟩) (by simp))
        simp only [go_sem] at e4
        have HB3 := Lib.hid (HB2.out.trans ((((Below.refl _ _).alloc (Nat.le_refl _) _).trans (hb2.mono (by simp))).mono HB2.out.size))
        clear hb2
        go_wp2_with fail
        go_ret
        exact ⟨by rw [HN.out]; rfl, HB.out.trans (HB3.out.mono HB.out.size)⟩
    · have e0 := hri 6 _ rfl
      have e1 := hri 7 _ rfl
      clear hri
      have HRL := Lib.hid (rule4_any p)
      rw [HPV.out] at HRL
      cases hrl : M.rl 3 p
      · rw [hrl] at HRL
        have HN := Lib.hid (HSAY.out.trans (M.sayFrom_no hrl))
        clear hrl
        go_wp2_with fail
        refine (HRL.out _).mono ?_
        rintro r w2 ⟨rfl, hb2⟩
        have HB3 := Lib.hid (HB2.out.trans ((((Below.refl _ _).alloc (Nat.le_refl _) _).trans (hb2.mono (by simp))).mono HB2.out.size))
        clear hb2
        go_wp2_with fail
        go_roundw
        case rel => exact ⟨4, rfl, by omega, HN.out, HB3.out⟩
        case measure => simp [intOf]
      · rw [hrl] at HRL
        have HN := Lib.hid ((HANS.out.symm.trans HSAY.out).trans (M.sayFrom_yes hrl))
        clear hrl
        go_wp2_with fail
        refine (HRL.out _).mono ?_
        rintro r w2 ⟨rfl, hb2⟩
        have e4 := (hb2.cell (p := ⟨wr.heap.size, 1, none⟩) (by simp))
        simp only [go_sem] at e4
        have HB3 := Lib.hid (HB2.out.trans ((((Below.refl _ _).alloc (Nat.le_refl _) _).trans (hb2.mono (by simp))).mono HB2.out.size))
        clear hb2
        go_wp2_with fail
        go_ret
        exact ⟨by rw [HN.out]; rfl, HB.out.trans (HB3.out.mono HB.out.size)⟩
    · have e0 := hri 8 _ rfl
      have e1 := hri 9 _ rfl
      clear hri
      have HRL := Lib.hid (rule5_any p)
      rw [HPV.out] at HRL
      cases hrl : M.rl 4 p
      · rw [hrl] at HRL
        have HN := Lib.hid (HSAY.out.trans (M.sayFrom_no hrl))
        clear hrl
        go_wp2_with fail
        refine (HRL.out _).mono ?_
        rintro r w2 ⟨rfl, hb2⟩
        have HB3 := Lib.hid (HB2.out.trans ((((Below.refl _ _).alloc (Nat.le_refl _) _).trans (hb2.mono (by simp))).mono HB2.out.size))
        clear hb2
        go_wp2_with fail
        go_roundw
        case rel => exact ⟨5, rfl, by omega, HN.out, HB3.out⟩
        case measure => simp [intOf]
      · rw [hrl] at HRL
        have HN := Lib.hid ((HANS.out.symm.trans HSAY.out).trans (M.sayFrom_yes hrl))
        clear hrl
        go_wp2_with fail
        refine (HRL.out _).mono ?_
        rintro r w2 ⟨rfl, hb2⟩
        have e4 := (hb2.cell (p := ⟨wr.heap.size, 1, none⟩) (by simp))
        simp only [go_sem] at e4
        have HB3 := Lib.hid (HB2.out.trans ((((Below.refl _ _).alloc (Nat.le_refl _) _).trans (hb2.mono (by simp))).mono HB2.out.size))
        clear hb2
        go_wp2_with fail
        go_ret
        exact ⟨by rw [HN.out]; rfl, HB.out.trans (HB3.out.mono HB.out.size)⟩
    · have e0 := hri 10 _ rfl
      have e1 := hri 11 _ rfl
      clear hri
      have HRL := Lib.hid (rule6_any p)
      rw [HPV.out] at HRL
      cases hrl : M.rl 5 p
      · rw [hrl] at HRL
        have HN := Lib.hid (HSAY.out.trans (M.sayFrom_no hrl))
        clear hrl
        go_wp2_with fail
        refine (HRL.out _).mono ?_
        rintro r w2 ⟨rfl, hb2⟩
        have HB3 := Lib.hid (HB2.out.trans ((((Below.refl _ _).alloc (Nat.le_refl _) _).trans (hb2.mono (by simp))).mono HB2.out.size))
        clear hb2
        go_wp2_with fail
        go_roundw
        case rel => exact ⟨6, rfl, by omega, HN.out, HB3.out⟩
        case measure => simp [intOf]
      · rw [hrl] at HRL
        have HN := Lib.hid ((HANS.out.symm.trans HSAY.out).trans (M.sayFrom_yes hrl))
        clear hrl
        go_wp2_with fail
        refine (HRL.out _).mono ?_
        rintro r w2 ⟨rfl, hb2⟩
        have e4 := (hb2.cell (p := ⟨wr.heap.size, 1, none⟩) (by simp))
        simp only [go_sem] at e4
        have HB3 := Lib.hid (HB2.out.trans ((((Below.refl _ _).alloc (Nat.le_refl _) _).trans (hb2.mono (by simp))).mono HB2.out.size))
        clear hb2
        go_wp2_with fail
        go_ret
        exact ⟨by rw [HN.out]; rfl, HB.out.trans (HB3.out.mono HB.out.size)⟩
    · have e0 := hri 12 _ rfl
      have e1 := hri 13 _ rfl
      clear hri
      have HRL := Lib.hid (rule7_any p)
      rw [HPV.out] at HRL
      cases hrl : M.rl 6 p
      · rw [hrl] at HRL
        have HN := Lib.hid (HSAY.out.trans (M.sayFrom_no hrl))
        clear hrl
        go_wp2_with fail
        refine (HRL.out _).mono ?_
        rintro r w2 ⟨rfl, hb2⟩
        have HB3 := Lib.hid (HB2.out.trans ((((Below.refl _ _).alloc (Nat.le_refl _) _).trans (hb2.mono (by simp))).mono HB2.out.size))
        clear hb2
        go_wp2_with fail
        go_roundw
        case rel => exact ⟨7, rfl, by omega, HN.out, HB3.out⟩
        case measure => simp [intOf]
      · rw [hrl] at HRL
        have HN := Lib.hid ((HANS.out.symm.trans HSAY.out).trans (M.sayFrom_yes hrl))
        clear hrl
        go_wp2_with fail
        refine (HRL.out _).mono ?_
        rintro r w2 ⟨rfl, hb2⟩
        have e4 := (hb2.cell (p := ⟨wr.heap.size, 1, none⟩) (by simp))
        simp only [go_sem] at e4
        have HB3 := Lib.hid (HB2.out.trans ((((Below.refl _ _).alloc (Nat.le_refl _) _).trans (hb2.mono (by simp))).mono HB2.out.size))
        clear hb2
        go_wp2_with fail
        go_ret
        exact ⟨by rw [HN.out]; rfl, HB.out.trans (HB3.out.mono HB.out.size)⟩
    · have e0 := hri 14 _ rfl
      have e1 := hri 15 _ rfl
      clear hri
      have HRL := Lib.hid (rule8_any p)
      rw [HPV.out] at HRL
      cases hrl : M.rl 7 p
      · rw [hrl] at HRL
        have HN := Lib.hid (HSAY.out.trans (M.sayFrom_no hrl))
        clear hrl
        go_wp2_with fail
        refine (HRL.out _).mono ?_
        rintro r w2 ⟨rfl, hb2⟩
        have HB3 := Lib.hid (HB2.out.trans ((((Below.refl _ _).alloc (Nat.le_refl _) _).trans (hb2.mono (by simp))).mono HB2.out.size))
        clear hb2
        go_wp2_with fail
        go_roundw
        case rel => exact ⟨8, rfl, by omega, HN.out, HB3.out⟩
        case measure => simp [intOf]
      · rw [hrl] at HRL
        have HN := Lib.hid ((HANS.out.symm.trans HSAY.out).trans (M.sayFrom_yes hrl))
        clear hrl
        go_wp2_with fail
        refine (HRL.out _).mono ?_
        rintro r w2 ⟨rfl, hb2⟩
        have e4 := (hb2.cell (p := ⟨wr.heap.size, 1, none⟩) (by simp))
        simp only [go_sem] at e4
        have HB3 := Lib.hid (HB2.out.trans ((((Below.refl _ _).alloc (Nat.le_refl _) _).trans (hb2.mono (by simp))).mono HB2.out.size))
        clear hb2
        go_wp2_with fail
        go_ret
        exact ⟨by rw [HN.out]; rfl, HB.out.trans (HB3.out.mono HB.out.size)⟩
    · have e0 := hri 16 _ rfl
      have e1 := hri 17 _ rfl
      clear hri
      have HRL := Lib.hid (rule9_any p)
      rw [HPV.out] at HRL
      cases hrl : M.rl 8 p
      · rw [hrl] at HRL
        have HN := Lib.hid (HSAY.out.trans (M.sayFrom_no hrl))
        clear hrl
        go_wp2_with fail
        refine (HRL.out _).mono ?_
        rintro r w2 ⟨rfl, hb2⟩
        have HB3 := Lib.hid (HB2.out.trans ((((Below.refl _ _).alloc (Nat.le_refl _) _).trans (hb2.mono (by simp))).mono HB2.out.size))
        clear hb2
        go_wp2_with fail
        go_roundw
        case rel => exact ⟨9, rfl, by omega, HN.out, HB3.out⟩
        case measure => simp [intOf]
      · rw [hrl] at HRL
        have HN := Lib.hid ((HANS.out.symm.trans HSAY.out).trans (M.sayFrom_yes hrl))
        clear hrl
        go_wp2_with fail
        refine (HRL.out _).mono ?_
        rintro r w2 ⟨rfl, hb2⟩
        have e4 := (hb2.cell (p := ⟨wr.heap.size, 1, none⟩) (by simp))
        simp only [go_sem] at e4
        have HB3 := Lib.hid (HB2.out.trans ((((Below.refl _ _).alloc (Nat.le_refl _) _).trans (hb2.mono (by simp))).mono HB2.out.size))
        clear hb2
        go_wp2_with fail
        go_ret
        exact ⟨by rw [HN.out]; rfl, HB.out.trans (HB3.out.mono HB.out.size)⟩
    · have e0 := hri 18 _ rfl
      have e1 := hri 19 _ rfl
      clear hri
      have HRL := Lib.hid (rule10_any p)
      rw [HPV.out] at HRL
      cases hrl : M.rl 9 p
      · rw [hrl] at HRL
        have HN := Lib.hid (HSAY.out.trans (M.sayFrom_no hrl))
        clear hrl
        go_wp2_with fail
        refine (HRL.out _).mono ?_
        rintro r w2 ⟨rfl, hb2⟩
        have HB3 := Lib.hid (HB2.out.trans ((((Below.refl _ _).alloc (Nat.le_refl _) _).trans (hb2.mono (by simp))).mono HB2.out.size))
        clear hb2
        go_wp2_with fail
        go_roundw
        case rel => exact ⟨10, rfl, by omega, HN.out, HB3.out⟩
        case measure => simp [intOf]
      · rw [hrl] at HRL
        have HN := Lib.hid ((HANS.out.symm.trans HSAY.out).trans (M.sayFrom_yes hrl))
        clear hrl
        go_wp2_with fail
        refine (HRL.out _).mono ?_
        rintro r w2 ⟨rfl, hb2⟩
        have e4 := (hb2.cell (p := ⟨wr.heap.size, 1, none⟩) (by simp))
        simp only [go_sem] at e4
        have HB3 := Lib.hid (HB2.out.trans ((((Below.refl _ _).alloc (Nat.le_refl _) _).trans (hb2.mono (by simp))).mono HB2.out.size))
        clear hb2
        go_wp2_with fail
        go_ret
        exact ⟨by rw [HN.out]; rfl, HB.out.trans (HB3.out.mono HB.out.size)⟩
    · have e0 := hri 20 _ rfl
      have e1 := hri 21 _ rfl
      clear hri
      have HRL := Lib.hid (rule11_any p)
      rw [HPV.out] at HRL
      cases hrl : M.rl 10 p
      · rw [hrl] at HRL
        have HN := Lib.hid (HSAY.out.trans (M.sayFrom_no hrl))
        clear hrl
        go_wp2_with fail
        refine (HRL.out _).mono ?_
        rintro r w2 ⟨rfl, hb2⟩
        have HB3 := Lib.hid (HB2.out.trans ((((Below.refl _ _).alloc (Nat.le_refl _) _).trans (hb2.mono (by simp))).mono HB2.out.size))
        clear hb2
        go_wp2_with fail
        go_roundw
        case rel => exact ⟨11, rfl, by omega, HN.out, HB3.out⟩
        case measure => simp [intOf]
      · rw [hrl] at HRL
        have HN := Lib.hid ((HANS.out.symm.trans HSAY.out).trans (M.sayFrom_yes hrl))
        clear hrl
        go_wp2_with fail
        refine (HRL.out _).mono ?_
        rintro r w2 ⟨rfl, hb2⟩
        have e4 := (hb2.cell (p := ⟨wr.heap.size, 1, none⟩) (by simp))
        simp only [go_sem] at e4
        have HB3 := Lib.hid (HB2.out.trans ((((Below.refl _ _).alloc (Nat.le_refl _) _).trans (hb2.mono (by simp))).mono HB2.out.size))
        clear hb2
        go_wp2_with fail
        go_ret
        exact ⟨by rw [HN.out]; rfl, HB.out.trans (HB3.out.mono HB.out.size)⟩
    · have HN := Lib.hid (HANS.out.symm.trans HSAY.out)
      clear hri
      go_wp2_with fail
      go_ret
      exact ⟨by rw [HN.out]; rfl, HB.out.trans (HB2.out.mono HB.out.size)⟩
end Go.Proofs.Ytfackeiommiejaa
