/- The contract of the document's pop. Condition: the machine is right, its counts small. -/
import Derived.Test.YtdipaiflfhdpoaaIsolate
namespace Go.Proofs.Ytdipaiflfhdpoaa
open Go.RowKit

/-- The stack's top is taken off. -/
theorem MachAt.popped {w : World} {base mb g cap n : Nat} {m : M.Mc} (h : MachAt w base mb g cap m) (hn : m.s.length = n + 1) :
    MachAt (w.setCell ⟨mb, 0, none⟩ (.slice (some ⟨g, 0, none⟩) n cap)) base mb g cap { m with s := m.s.tail } := by
  obtain ⟨s, o, e, v⟩ := m
  cases s with
  | nil => cases hn
  | cons t r =>
    have hn' : r.length = n := by simpa using hn
    subst hn'
    refine h.setS (s' := r) rfl ?_ h.ne
    have q : OwnN w base g (r.length + 1) cap (t :: r).reverse := h.row
    rw [List.reverse_cons] at q
    unfold OwnN at q ⊢
    rw [cellsN_snoc] at q
    exact ownsRow_pop (by rw [cellsN_length, List.length_reverse]) q
theorem MachAt.room {w : World} {base mb g cap : Nat} {m : M.Mc} (h : MachAt w base mb g cap m) : m.s.length ≤ cap ∧ cap ≤ maxLen := by
  rcases h.row.2 with ⟨h0, _⟩ | ⟨g', cap', cur, hv, _, _, hn, hm, _⟩
  · cases h0
  · cases hv
    exact ⟨hn, hm⟩
set_option maxHeartbeats 4000000 in
theorem pop_any (base mb g cap n : Nat) (m : M.Mc) (w : World) (h : MachAt w base mb g cap m) (hn : m.s.length = n + 1) (hl : n ≤ 5000) (he1 : m.e ≤ 100000) :
    Calls Try.prog 44 #[.pointer (some ⟨mb, 0, none⟩)] w fun r w' => r = .returned (.tuple #[]) ∧ MachOut base mb g m.pop w w' := by
  have HT := Lib.hid (top_any base mb g cap n m w h hn (by omega))
  have HH := Lib.hid h
  have HN := Lib.hid hn
  obtain ⟨t, ht⟩ : ∃ t, m.top = t := ⟨_, rfl⟩
  have HM := Lib.hid (show m.pop = if 0 < m.o then m else if 0 < m.e then { m with e := m.e - 1 } else if 1 < m.s.length ∧ t.iso = false then { m with s := m.s.tail } else m by rw [← ht]; rfl)
  rw [ht] at HT
  obtain ⟨lv, ov, iso⟩ := t
  rw [show M.Ent.val ⟨lv, ov, iso⟩ = .agg #[.int .i64 lv, .int .i64 ov, .bool iso] from rfl] at HT
  obtain ⟨O, hO⟩ : ∃ O, m.o = O := ⟨_, rfl⟩
  obtain ⟨E, hE⟩ : ∃ E, m.e = E := ⟨_, rfl⟩
  rw [hO, hE, hn] at HM
  rw [hE] at he1
  have k0 := h.c0
  have k1 := h.c1
  have k2 := h.c2
  have k4 := h.f0
  have k5 := h.f2
  have hroom := h.room
  rw [hn] at k0 hroom
  rw [hO] at k1
  rw [hE] at k2
  obtain ⟨hc1, hc2⟩ := hroom
  have HO := Lib.hid hO
  have HE := Lib.hid hE
  have hf : ∀ w : World, (Instr.field 65 (.agg #[.int .i64 lv, .int .i64 ov, .bool iso]) 2).run Try.prog w = .ok (.bool iso) w := fun w => by kernel_rfl
  clear h hn ht hO hE
  go_enter Try.func44, Try.ntmps44
  by_cases hO : 0 < O
  · rw [if_pos hO] at HM
    go_wp2_with fail
    go_returns
    exact ⟨rfl, by rw [HM.out]; exact ⟨g, cap, HH.out, Spun.refl _ _ _⟩⟩
  · rw [if_neg hO] at HM
    by_cases hE : 0 < E
    · rw [if_pos hE] at HM
      have hw1 : IntKind.i64.wrap (E - 1) = E - 1 := by rw [IntKind.wrap_i64]; omega
      go_wp2_with fail
      go_returns
      exact ⟨rfl, by rw [HM.out]; exact ⟨g, cap, by have q := HH.out.setE (E - 1); rw [HO.out] at q; exact q, (Spun.refl _ _ _).setCell 2 _⟩⟩
    · rw [if_neg hE] at HM
      by_cases hn1 : n = 0
      · subst hn1
        rw [if_neg (by omega)] at HM
        go_wp2_with fail
        go_returns
        exact ⟨rfl, by rw [HM.out]; exact ⟨g, cap, HH.out, Spun.refl _ _ _⟩⟩
      · have hn2 : (1 : Int) < (n : Int) + 1 := by omega
        go_wp2_with fail
        refine HT.out.mono ?_
        rintro r w1 ⟨rfl, hb⟩
        have h1 := HH.out.below hb
        have HS := Lib.hid (Spun.of_below hb mb g)
        have j0 := h1.c0
        have j4 := h1.f0
        rw [HN.out] at j0
        have H1 := Lib.hid h1
        clear h1 hb k0 k1 k2 k4 k5
        cases iso with
        | true =>
          rw [if_neg (by simp)] at HM
          go_wp2_with fail
          go_returns
          exact ⟨rfl, by rw [HM.out]; exact ⟨g, cap, H1.out, HS.out⟩⟩
        | false =>
          rw [if_pos ⟨by omega, rfl⟩] at HM
          have hw1 : IntKind.i64.wrap ((n : Int) + 1 - 1) = (n : Int) := by rw [IntKind.wrap_i64]; omega
          have hw2 : IntKind.i64.wrap (n : Int) = (n : Int) := by rw [IntKind.wrap_i64]; omega
          have hc3 : (n : Int) ≤ (cap : Int) := by omega
          have hc4 : n ≤ cap := by omega
          have hn0 : (0 : Int) ≤ (n : Int) := by omega
          have HP := Lib.hid (H1.out.drew.popped HN.out)
          go_wp2_with fail
          go_still_tail 14, (by kernel_rfl)
          change wpList _ _ _ _ _ w1.drew
          have j0' : w1.drew.cell? ⟨mb, 0, none⟩ = some (.slice (some ⟨g, 0, none⟩) (n + 1) cap) := j0
          go_wp2_with fail
          go_returns
          refine ⟨rfl, ?_⟩
          rw [HM.out]
          exact ⟨g, cap, by have q := HP.out; rw [HO.out, HE.out] at q; exact q, HS.out.drew.setCell 0 _⟩
end Go.Proofs.Ytdipaiflfhdpoaa
