/- The contract of the document's isolate. Condition: the machine is right, its top's level from 0 to 125, its counts small. -/
import Derived.Test.YtdipaiflfhdpoaaEmbed
namespace Go.Proofs.Ytdipaiflfhdpoaa
open Go.RowKit

set_option maxHeartbeats 4000000 in
theorem isolate_any (base mb g cap n : Nat) (m : M.Mc) (odd : Int) (w : World) (h : MachAt w base mb g cap m) (hn : m.s.length = n + 1) (hl : n ≤ 5000) (h0 : 0 ≤ m.top.lv) (h1 : m.top.lv ≤ 125) (ho0 : 0 ≤ m.o) (ho1 : m.o ≤ 100000) (hv0 : 0 ≤ m.v) (hv1 : m.v ≤ 100000) :
    Calls Try.prog 35 #[.pointer (some ⟨mb, 0, none⟩), .int .i64 odd] w fun r w' => r = .returned (.tuple #[]) ∧ MachOut base mb g (m.isolate odd) w w' := by
  obtain ⟨i0, hi, hz0, hz1, hz2⟩ := info_parts Try.infoEnt
  have HX := Lib.hid (next_any base mb g cap n m odd w h hn (by omega) h0 h1)
  have hbm : base ≤ w.heap.size := by have := h.lo; have := h.lt; omega
  have HH := Lib.hid h
  obtain ⟨N, hN⟩ : ∃ N, m.next odd = N := ⟨_, rfl⟩
  rw [hN] at HX
  have HM := Lib.hid (show m.isolate odd = if N ≤ 125 ∧ m.o = 0 ∧ m.e = 0 then { m with v := m.v + 1, s := ⟨N, 13, true⟩ :: m.s } else { m with o := m.o + 1 } by rw [← hN]; rfl)
  have HN := Lib.hid hn
  obtain ⟨O, hO⟩ : ∃ O, m.o = O := ⟨_, rfl⟩
  obtain ⟨E, hE⟩ : ∃ E, m.e = E := ⟨_, rfl⟩
  obtain ⟨V, hV⟩ : ∃ V, m.v = V := ⟨_, rfl⟩
  rw [hO, hE, hV] at HM
  rw [hO] at ho0 ho1
  rw [hV] at hv0 hv1
  have HO := Lib.hid hO
  have HE := Lib.hid hE
  have HV := Lib.hid hV
  have hw1 : IntKind.i64.wrap (O + 1) = O + 1 := by rw [IntKind.wrap_i64]; omega
  have hw2 : IntKind.i64.wrap (V + 1) = V + 1 := by rw [IntKind.wrap_i64]; omega
  clear h hn hN hO hE hV h0 h1
  go_enter Try.func35, Try.ntmps35
  go_wp2_with fail
  refine HX.out.mono ?_
  rintro r w1 ⟨rfl, hb⟩
  have h1 := HH.out.below hb
  have k0 := h1.c0
  have k1 := h1.c1
  have k2 := h1.c2
  have k3 := h1.c3
  have k4 := h1.f0
  have k5 := h1.f1
  have k6 := h1.f3
  rw [HN.out] at k0
  rw [HO.out] at k1
  rw [HE.out] at k2
  rw [HV.out] at k3
  have HB := Lib.hid hb
  have H1 := Lib.hid h1
  clear h1 hb
  by_cases hr : N ≤ 125 ∧ O = 0 ∧ E = 0
  · rw [if_pos hr] at HM
    obtain ⟨hr1, rfl, rfl⟩ := hr
    have H2 := Lib.hid (H1.out.setV (V + 1))
    have HR := Lib.hid H2.out.row
    have hmb := H1.out.lt
    have hmb2 := H1.out.lo
    go_wp2_with (at_builtin; refine wpList_append_lies _ rfl _ _ 75 rfl base 65 i0 _ 3 24 Try.underlying75 hi hz0 hz1 hz2 rfl (by decide) _ _ _ rfl (World.ownsRow.alloc (HN.out ▸ HR.out) _) ⟨w1.heap.size, 0, none⟩ 1 1 (M.Ent.cells ⟨N, 13, true⟩) rfl rfl (by have q := ent_cells (w1.setCell ⟨mb, 3, none⟩ (.int .i64 (V + 1))) ⟨N, 13, true⟩ 65; simpa [World.setCell] using q) (ent_one ⟨N, 13, true⟩) (by omega) (by unfold maxLen; omega) (by omega) (by simp [World.setCell]; omega) (w1.heap.size + 1) (by simp [World.setCell]) ?_)
    intro g2 cap2 w3 hown hgrow hat _
    have hat2 : some g = some g2 ∨ g2 = (w1.setCell ⟨mb, 3, none⟩ (.int .i64 (V + 1))).heap.size + 1 := by simpa [World.setCell, Value.ownBlock] using hat
    have hp := pushed_block (o := .cells #[.int .i64 N, .int .i64 13, .bool true] 65) H2.out hgrow
    have j0 := H2.out.c0
    have j4 := H2.out.f0
    rw [HN.out] at j0
    have x0 := (World.cell?_of_block (a := ⟨mb, 0, none⟩) hp).trans j0
    have y0 := (World.frozen?_of_block (a := ⟨mb, 0, none⟩) hp).trans j4
    have HP := Lib.hid (MachAt.pushed (s' := ⟨N, 13, true⟩ :: m.s) H2.out hgrow (by rw [List.length_cons, HN.out]) (by rw [List.reverse_cons]; unfold OwnN; rw [cellsN_snoc]; exact hown) hat2)
    clear hown hgrow hat hat2 hp k0 k1 k2 k3 k4 k5 k6 j0 j4
    go_wp2_with fail
    go_returns
    refine ⟨rfl, ?_⟩
    rw [HM.out]
    have hq := HP.out
    obtain ⟨q1, q2⟩ := hq
    rw [HO.out, HE.out] at q1
    exact ⟨g2, cap2, q1, ((Spun.of_below HB.out mb g).setCell 3 _).trans q2⟩
  · rw [if_neg hr] at HM
    have HF := Lib.hid (show MachOut base mb g ⟨m.s, O + 1, E, V⟩ w (w1.setCell ⟨mb, 1, none⟩ (.int .i64 (O + 1))) from ⟨g, cap, by have q := H1.out.setO (O + 1); rw [HE.out, HV.out] at q; exact q, (Spun.of_below HB.out mb g).setCell 1 _⟩)
    by_cases hN : N ≤ 125
    · by_cases hO : O = 0
      · subst hO
        have hE : ¬ E = 0 := fun e => hr ⟨hN, rfl, e⟩
        clear hr
        go_wp2_with fail
        go_returns
        exact ⟨rfl, by rw [HM.out]; exact HF.out⟩
      · clear hr
        go_wp2_with fail
        go_returns
        exact ⟨rfl, by rw [HM.out]; exact HF.out⟩
    · clear hr
      go_wp2_with fail
      go_returns
      exact ⟨rfl, by rw [HM.out]; exact HF.out⟩
end Go.Proofs.Ytdipaiflfhdpoaa
