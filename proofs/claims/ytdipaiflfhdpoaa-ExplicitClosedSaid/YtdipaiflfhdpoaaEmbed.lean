/- The contract of the document's embed. Condition: the machine is right, its top's level from 0 to 125, its counts small. -/
import Derived.Test.YtdipaiflfhdpoaaPush
import Derived.Handy
namespace Go.Proofs.Ytdipaiflfhdpoaa
open Go.RowKit

set_option maxHeartbeats 4000000 in
theorem embed_any (base mb g cap n : Nat) (m : M.Mc) (odd ov : Int) (w : World) (h : MachAt w base mb g cap m) (hn : m.s.length = n + 1) (hl : n ≤ 5000) (h0 : 0 ≤ m.top.lv) (h1 : m.top.lv ≤ 125) (he0 : 0 ≤ m.e) (he1 : m.e ≤ 100000) :
    Calls Try.prog 43 #[.pointer (some ⟨mb, 0, none⟩), .int .i64 odd, .int .i64 ov] w fun r w' => r = .returned (.tuple #[]) ∧ MachOut base mb g (m.embed odd ov) w w' := by
  obtain ⟨i0, hi, hz0, hz1, hz2⟩ := info_parts Try.infoEnt
  have HX := Lib.hid (next_any base mb g cap n m odd w h hn (by omega) h0 h1)
  have hbm : base ≤ w.heap.size := by have := h.lo; have := h.lt; omega
  have HH := Lib.hid h
  obtain ⟨N, hN⟩ : ∃ N, m.next odd = N := ⟨_, rfl⟩
  rw [hN] at HX
  have HM := Lib.hid (show m.embed odd ov = if N ≤ 125 ∧ m.o = 0 ∧ m.e = 0 then { m with s := ⟨N, ov, false⟩ :: m.s } else if m.o = 0 then { m with e := m.e + 1 } else m by rw [← hN]; rfl)
  have HN := Lib.hid hn
  obtain ⟨O, hO⟩ : ∃ O, m.o = O := ⟨_, rfl⟩
  obtain ⟨E, hE⟩ : ∃ E, m.e = E := ⟨_, rfl⟩
  rw [hO, hE] at HM
  rw [hE] at he0 he1
  have HO := Lib.hid hO
  have HE := Lib.hid hE
  have hw1 : IntKind.i64.wrap (E + 1) = E + 1 := by rw [IntKind.wrap_i64]; omega
  clear h hn hN hO hE h0 h1
  go_enter Try.func43, Try.ntmps43
  go_wp2_with fail
  refine HX.out.mono ?_
  rintro r w1 ⟨rfl, hb⟩
  have h1 := HH.out.below hb
  have k0 := h1.c0
  have k1 := h1.c1
  have k2 := h1.c2
  have k4 := h1.f0
  have k5 := h1.f2
  rw [HN.out] at k0
  rw [HO.out] at k1
  rw [HE.out] at k2
  have HB := Lib.hid hb
  have H1 := Lib.hid h1
  clear h1 hb
  by_cases hr : N ≤ 125 ∧ O = 0 ∧ E = 0
  · rw [if_pos hr] at HM
    obtain ⟨hr1, rfl, rfl⟩ := hr
    have HR := Lib.hid H1.out.row
    have hmb := H1.out.lt
    have hmb2 := H1.out.lo
    go_wp2_with (at_builtin; refine wpList_append_lies _ rfl _ _ 75 rfl base 65 i0 _ 3 24 Try.underlying75 hi hz0 hz1 hz2 rfl (by decide) _ _ _ rfl (World.ownsRow.alloc (HN.out ▸ HR.out) _) ⟨w1.heap.size, 0, none⟩ 1 1 (M.Ent.cells ⟨N, ov, false⟩) rfl rfl (ent_cells _ ⟨N, ov, false⟩ _) (ent_one ⟨N, ov, false⟩) (by omega) (by unfold maxLen; omega) (by omega) (by simp; omega) (w1.heap.size + 1) (by simp) ?_)
    intro g2 cap2 w3 hown hgrow hat _
    have hp := pushed_block (o := .cells #[.int .i64 N, .int .i64 ov, .bool false] 65) H1.out hgrow
    have x0 := (World.cell?_of_block (a := ⟨mb, 0, none⟩) hp).trans k0
    have y0 := (World.frozen?_of_block (a := ⟨mb, 0, none⟩) hp).trans k4
    have HP := Lib.hid (MachAt.pushed (s' := ⟨N, ov, false⟩ :: m.s) H1.out hgrow (by rw [List.length_cons, HN.out]) (by rw [List.reverse_cons]; unfold OwnN; rw [cellsN_snoc]; exact hown) hat)
    clear hown hgrow hat hp k0 k1 k2 k4 k5
    go_wp2_with fail
    go_returns
    refine ⟨rfl, ?_⟩
    rw [HM.out]
    have hq := HP.out
    obtain ⟨q1, q2⟩ := hq
    rw [HO.out, HE.out] at q1
    exact ⟨g2, cap2, q1, (Spun.of_below HB.out mb g).trans q2⟩
  · rw [if_neg hr] at HM
    by_cases hO : O = 0
    · rw [if_pos hO] at HM
      subst hO
      by_cases hN : N ≤ 125
      · have hE : ¬ E = 0 := fun e => hr ⟨hN, rfl, e⟩
        clear hr
        go_wp2_with fail
        go_returns
        refine ⟨rfl, ?_⟩
        rw [HM.out]
        exact ⟨g, cap, by have q := H1.out.setE (E + 1); rw [HO.out] at q; exact q, (Spun.of_below HB.out mb g).setCell 2 _⟩
      · clear hr
        go_wp2_with fail
        go_returns
        refine ⟨rfl, ?_⟩
        rw [HM.out]
        exact ⟨g, cap, by have q := H1.out.setE (E + 1); rw [HO.out] at q; exact q, (Spun.of_below HB.out mb g).setCell 2 _⟩
    · rw [if_neg hO] at HM
      clear hr
      by_cases hN : N ≤ 125
      · go_wp2_with fail
        go_returns
        refine ⟨rfl, ?_⟩
        rw [HM.out]
        exact ⟨g, cap, H1.out, Spun.of_below HB.out mb g⟩
      · go_wp2_with fail
        go_returns
        refine ⟨rfl, ?_⟩
        rw [HM.out]
        exact ⟨g, cap, H1.out, Spun.of_below HB.out mb g⟩
end Go.Proofs.Ytdipaiflfhdpoaa
