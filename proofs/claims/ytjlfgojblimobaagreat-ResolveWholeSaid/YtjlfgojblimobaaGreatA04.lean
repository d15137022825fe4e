/- The contract of the document's embed. Condition: the machine is right, its top's level from 0 to 125, its counts small. -/
/- The contract of the document's isolate. Condition: the machine is right, its top's level from 0 to 125, its counts small. -/
/- The contract of the document's pop. Condition: the machine is right, its counts small. -/
/- The contract of the document's closed. Condition: the machine is right, its counts small; it counts its isolates. -/
/- What the document's Levels knows of its machine behind k classes: it is right, and its counts are small. No function of the program is walked here. -/
/- The contracts of the document's does and fresh. Condition: the machine is right, its counts small. -/
/- The state of the document's Levels in memory: two rows and a machine, each apart from the others, and the steps that keep it. No function of the program is walked here. -/
import Derived.Test.YtjlfgojblimobaaGreatA03
import Derived.Handy
section
namespace Go.Proofs.YtjlfgojblimobaaGreat
open Go.RowKit
set_option maxRecDepth 100000

set_option maxHeartbeats 4000000 in
theorem embed_any (base mb g cap n : Nat) (m : M.Mc) (odd ov : Int) (w : World) (h : MachAt w base mb g cap m) (hn : m.s.length = n + 1) (hl : n ≤ 5000) (h0 : 0 ≤ m.top.lv) (h1 : m.top.lv ≤ 125) (he0 : 0 ≤ m.e) (he1 : m.e ≤ 100000) :
    Calls Tryz.prog 124 #[.pointer (some ⟨mb, 0, none⟩), .int .i64 odd, .int .i64 ov] w fun r w' => r = .returned (.tuple #[]) ∧ MachOut base mb g (m.embed odd ov) w w' := by
  obtain ⟨i0, hi, hz0, hz1, hz2⟩ := info_parts Tryz.infoEnt
  have HX := Lib.hid (next_any base mb g cap n m odd w h hn (by omega) h0 h1)
  have hbm : base ≤ w.heap.size := by have := h.lo; have := h.lt; omega
  have HH := Lib.hid h
  obtain ⟨N, hN⟩ : ∃ N, m.next odd = N := ⟨_, rfl⟩
  rw [hN] at HX
  have HM := Lib.hid (show m.embed odd ov = if N ≤ 125 ∧ m.o = 0 ∧ m.e = 0 then { m with s := ⟨N, ov, false⟩ :: m.s } else if m.o = 0 then { m with e := m.e + 1 } else m by rw [← hN]; rfl)
  have HN := Lib.hid hn
  obtain ⟨O, hO⟩ : ∃ O, m.o = O := ⟨_, rfl⟩
  obtain ⟨E, hE⟩ : ∃ E, m.e = E := ⟨_, rfl⟩
  rw [hO, hE] at HM
  rw [hE] at he0 he1
  have HO := Lib.hid hO
  have HE := Lib.hid hE
  have hw1 : IntKind.i64.wrap (E + 1) = E + 1 := by rw [IntKind.wrap_i64]; omega
  clear h hn hN hO hE h0 h1
  go_enter Tryz.func124, Tryz.ntmps124
  go_wp2_with fail
  refine HX.out.mono ?_
  rintro r w1 ⟨rfl, hb⟩
  have h1 := HH.out.below hb
  have k0 := h1.c0
  have k1 := h1.c1
  have k2 := h1.c2
  have k4 := h1.f0
  have k5 := h1.f2
  rw [HN.out] at k0
  rw [HO.out] at k1
  rw [HE.out] at k2
  have HB := Lib.hid hb
  have H1 := Lib.hid h1
  clear h1 hb
  by_cases hr : N ≤ 125 ∧ O = 0 ∧ E = 0
  · rw [if_pos hr] at HM
    obtain ⟨hr1, rfl, rfl⟩ := hr
    have HR := Lib.hid H1.out.row
    have hmb := H1.out.lt
    have hmb2 := H1.out.lo
    go_wp2_with (at_builtin; refine wpList_append_lies _ rfl _ _ 168 rfl base 142 i0 _ 3 24 Tryz.underlying168 hi hz0 hz1 hz2 rfl (by decide) _ _ _ rfl (World.ownsRow.alloc (HN.out ▸ HR.out) _) ⟨w1.heap.size, 0, none⟩ 1 1 (M.Ent.cells ⟨N, ov, false⟩) rfl rfl (ent_cells _ ⟨N, ov, false⟩ _) (ent_one ⟨N, ov, false⟩) (by omega) (by unfold maxLen; omega) (by omega) (by simp; omega) (w1.heap.size + 1) (by simp) ?_)
    intro g2 cap2 w3 hown hgrow hat _
    have hp := pushed_block (o := .cells #[.int .i64 N, .int .i64 ov, .bool false] 142) H1.out hgrow
    have x0 := (World.cell?_of_block (a := ⟨mb, 0, none⟩) hp).trans k0
    have y0 := (World.frozen?_of_block (a := ⟨mb, 0, none⟩) hp).trans k4
    have HP := Lib.hid (MachAt.pushed (s' := ⟨N, ov, false⟩ :: m.s) H1.out hgrow (by rw [List.length_cons, HN.out]) (by rw [List.reverse_cons]; unfold OwnN; rw [cellsN_snoc]; exact hown) hat)
    clear hown hgrow hat hp k0 k1 k2 k4 k5
    go_wp2_with fail
    go_returns
    refine ⟨rfl, ?_⟩
    rw [HM.out]
    have hq := HP.out
    obtain ⟨q1, q2⟩ := hq
    rw [HO.out, HE.out] at q1
    exact ⟨g2, cap2, q1, (Spun.of_below HB.out mb g).trans q2⟩
  · rw [if_neg hr] at HM
    by_cases hO : O = 0
    · rw [if_pos hO] at HM
      subst hO
      by_cases hN : N ≤ 125
      · have hE : ¬ E = 0 := fun e => hr ⟨hN, rfl, e⟩
        clear hr
        go_wp2_with fail
        go_returns
        refine ⟨rfl, ?_⟩
        rw [HM.out]
        exact ⟨g, cap, by have q := H1.out.setE (E + 1); rw [HO.out] at q; exact q, (Spun.of_below HB.out mb g).setCell 2 _⟩
      · clear hr
        go_wp2_with fail
        go_returns
        refine ⟨rfl, ?_⟩
        rw [HM.out]
        exact ⟨g, cap, by have q := H1.out.setE (E + 1); rw [HO.out] at q; exact q, (Spun.of_below HB.out mb g).setCell 2 _⟩
    · rw [if_neg hO] at HM
      clear hr
      by_cases hN : N ≤ 125
      · go_wp2_with fail
        go_returns
        refine ⟨rfl, ?_⟩
        rw [HM.out]
        exact ⟨g, cap, H1.out, Spun.of_below HB.out mb g⟩
      · go_wp2_with fail
        go_returns
        refine ⟨rfl, ?_⟩
        rw [HM.out]
        exact ⟨g, cap, H1.out, Spun.of_below HB.out mb g⟩
end Go.Proofs.YtjlfgojblimobaaGreat
end

section
namespace Go.Proofs.YtjlfgojblimobaaGreat
open Go.RowKit
set_option maxRecDepth 100000

set_option maxHeartbeats 4000000 in
theorem isolate_any (base mb g cap n : Nat) (m : M.Mc) (odd : Int) (w : World) (h : MachAt w base mb g cap m) (hn : m.s.length = n + 1) (hl : n ≤ 5000) (h0 : 0 ≤ m.top.lv) (h1 : m.top.lv ≤ 125) (ho0 : 0 ≤ m.o) (ho1 : m.o ≤ 100000) (hv0 : 0 ≤ m.v) (hv1 : m.v ≤ 100000) :
    Calls Tryz.prog 91 #[.pointer (some ⟨mb, 0, none⟩), .int .i64 odd] w fun r w' => r = .returned (.tuple #[]) ∧ MachOut base mb g (m.isolate odd) w w' := by
  obtain ⟨i0, hi, hz0, hz1, hz2⟩ := info_parts Tryz.infoEnt
  have HX := Lib.hid (next_any base mb g cap n m odd w h hn (by omega) h0 h1)
  have hbm : base ≤ w.heap.size := by have := h.lo; have := h.lt; omega
  have HH := Lib.hid h
  obtain ⟨N, hN⟩ : ∃ N, m.next odd = N := ⟨_, rfl⟩
  rw [hN] at HX
  have HM := Lib.hid (show m.isolate odd = if N ≤ 125 ∧ m.o = 0 ∧ m.e = 0 then { m with v := m.v + 1, s := ⟨N, 13, true⟩ :: m.s } else { m with o := m.o + 1 } by rw [← hN]; rfl)
  have HN := Lib.hid hn
  obtain ⟨O, hO⟩ : ∃ O, m.o = O := ⟨_, rfl⟩
  obtain ⟨E, hE⟩ : ∃ E, m.e = E := ⟨_, rfl⟩
  obtain ⟨V, hV⟩ : ∃ V, m.v = V := ⟨_, rfl⟩
  rw [hO, hE, hV] at HM
  rw [hO] at ho0 ho1
  rw [hV] at hv0 hv1
  have HO := Lib.hid hO
  have HE := Lib.hid hE
  have HV := Lib.hid hV
  have hw1 : IntKind.i64.wrap (O + 1) = O + 1 := by rw [IntKind.wrap_i64]; omega
  have hw2 : IntKind.i64.wrap (V + 1) = V + 1 := by rw [IntKind.wrap_i64]; omega
  clear h hn hN hO hE hV h0 h1
  go_enter Tryz.func91, Tryz.ntmps91
  go_wp2_with fail
  refine HX.out.mono ?_
  rintro r w1 ⟨rfl, hb⟩
  have h1 := HH.out.below hb
  have k0 := h1.c0
  have k1 := h1.c1
  have k2 := h1.c2
  have k3 := h1.c3
  have k4 := h1.f0
  have k5 := h1.f1
  have k6 := h1.f3
  rw [HN.out] at k0
  rw [HO.out] at k1
  rw [HE.out] at k2
  rw [HV.out] at k3
  have HB := Lib.hid hb
  have H1 := Lib.hid h1
  clear h1 hb
  by_cases hr : N ≤ 125 ∧ O = 0 ∧ E = 0
  · rw [if_pos hr] at HM
    obtain ⟨hr1, rfl, rfl⟩ := hr
    have H2 := Lib.hid (H1.out.setV (V + 1))
    have HR := Lib.hid H2.out.row
    have hmb := H1.out.lt
    have hmb2 := H1.out.lo
    go_wp2_with (at_builtin; refine wpList_append_lies _ rfl _ _ 168 rfl base 142 i0 _ 3 24 Tryz.underlying168 hi hz0 hz1 hz2 rfl (by decide) _ _ _ rfl (World.ownsRow.alloc (HN.out ▸ HR.out) _) ⟨w1.heap.size, 0, none⟩ 1 1 (M.Ent.cells ⟨N, 13, true⟩) rfl rfl (by have q := ent_cells (w1.setCell ⟨mb, 3, none⟩ (.int .i64 (V + 1))) ⟨N, 13, true⟩ 142; simpa [World.setCell] using q) (ent_one ⟨N, 13, true⟩) (by omega) (by unfold maxLen; omega) (by omega) (by simp [World.setCell]; omega) (w1.heap.size + 1) (by simp [World.setCell]) ?_)
    intro g2 cap2 w3 hown hgrow hat _
    have hat2 : some g = some g2 ∨ g2 = (w1.setCell ⟨mb, 3, none⟩ (.int .i64 (V + 1))).heap.size + 1 := by simpa [World.setCell, Value.ownBlock] using hat
    have hp := pushed_block (o := .cells #[.int .i64 N, .int .i64 13, .bool true] 142) H2.out hgrow
    have j0 := H2.out.c0
    have j4 := H2.out.f0
    rw [HN.out] at j0
    have x0 := (World.cell?_of_block (a := ⟨mb, 0, none⟩) hp).trans j0
    have y0 := (World.frozen?_of_block (a := ⟨mb, 0, none⟩) hp).trans j4
    have HP := Lib.hid (MachAt.pushed (s' := ⟨N, 13, true⟩ :: m.s) H2.out hgrow (by rw [List.length_cons, HN.out]) (by rw [List.reverse_cons]; unfold OwnN; rw [cellsN_snoc]; exact hown) hat2)
    clear hown hgrow hat hat2 hp k0 k1 k2 k3 k4 k5 k6 j0 j4
    go_wp2_with fail
    go_returns
    refine ⟨rfl, ?_⟩
    rw [HM.out]
    have hq := HP.out
    obtain ⟨q1, q2⟩ := hq
    rw [HO.out, HE.out] at q1
    exact ⟨g2, cap2, q1, ((Spun.of_below HB.out mb g).setCell 3 _).trans q2⟩
  · rw [if_neg hr] at HM
    have HF := Lib.hid (show MachOut base mb g ⟨m.s, O + 1, E, V⟩ w (w1.setCell ⟨mb, 1, none⟩ (.int .i64 (O + 1))) from ⟨g, cap, by have q := H1.out.setO (O + 1); rw [HE.out, HV.out] at q; exact q, (Spun.of_below HB.out mb g).setCell 1 _⟩)
    by_cases hN : N ≤ 125
    · by_cases hO : O = 0
      · subst hO
        have hE : ¬ E = 0 := fun e => hr ⟨hN, rfl, e⟩
        clear hr
        go_wp2_with fail
        go_returns
        exact ⟨rfl, by rw [HM.out]; exact HF.out⟩
      · clear hr
        go_wp2_with fail
        go_returns
        exact ⟨rfl, by rw [HM.out]; exact HF.out⟩
    · clear hr
      go_wp2_with fail
      go_returns
      exact ⟨rfl, by rw [HM.out]; exact HF.out⟩
end Go.Proofs.YtjlfgojblimobaaGreat
end

section
namespace Go.Proofs.YtjlfgojblimobaaGreat
open Go.RowKit
set_option maxRecDepth 100000

theorem MachAt.popped {w : World} {base mb g cap n : Nat} {m : M.Mc} (h : MachAt w base mb g cap m) (hn : m.s.length = n + 1) :
    MachAt (w.setCell ⟨mb, 0, none⟩ (.slice (some ⟨g, 0, none⟩) n cap)) base mb g cap { m with s := m.s.tail } := by
  obtain ⟨s, o, e, v⟩ := m
  cases s with
  | nil => cases hn
  | cons t r =>
    have hn' : r.length = n := by simpa using hn
    subst hn'
    refine h.setS (s' := r) rfl ?_ h.ne
    have q : OwnN w base g (r.length + 1) cap (t :: r).reverse := h.row
    rw [List.reverse_cons] at q
    unfold OwnN at q ⊢
    rw [cellsN_snoc] at q
    exact ownsRow_pop (by rw [cellsN_length, List.length_reverse]) q
theorem MachAt.room {w : World} {base mb g cap : Nat} {m : M.Mc} (h : MachAt w base mb g cap m) : m.s.length ≤ cap ∧ cap ≤ maxLen := by
  rcases h.row.2 with ⟨h0, _⟩ | ⟨g', cap', cur, hv, _, _, hn, hm, _⟩
  · cases h0
  · cases hv
    exact ⟨hn, hm⟩
set_option maxHeartbeats 4000000 in
theorem pop_any (base mb g cap n : Nat) (m : M.Mc) (w : World) (h : MachAt w base mb g cap m) (hn : m.s.length = n + 1) (hl : n ≤ 5000) (he1 : m.e ≤ 100000) :
    Calls Tryz.prog 125 #[.pointer (some ⟨mb, 0, none⟩)] w fun r w' => r = .returned (.tuple #[]) ∧ MachOut base mb g m.pop w w' := by
  have HT := Lib.hid (top_any base mb g cap n m w h hn (by omega))
  have HH := Lib.hid h
  have HN := Lib.hid hn
  obtain ⟨t, ht⟩ : ∃ t, m.top = t := ⟨_, rfl⟩
  have HM := Lib.hid (show m.pop = if 0 < m.o then m else if 0 < m.e then { m with e := m.e - 1 } else if 1 < m.s.length ∧ t.iso = false then { m with s := m.s.tail } else m by rw [← ht]; rfl)
  rw [ht] at HT
  obtain ⟨lv, ov, iso⟩ := t
  rw [show M.Ent.val ⟨lv, ov, iso⟩ = .agg #[.int .i64 lv, .int .i64 ov, .bool iso] from rfl] at HT
  obtain ⟨O, hO⟩ : ∃ O, m.o = O := ⟨_, rfl⟩
  obtain ⟨E, hE⟩ : ∃ E, m.e = E := ⟨_, rfl⟩
  rw [hO, hE, hn] at HM
  rw [hE] at he1
  have k0 := h.c0
  have k1 := h.c1
  have k2 := h.c2
  have k4 := h.f0
  have k5 := h.f2
  have hroom := h.room
  rw [hn] at k0 hroom
  rw [hO] at k1
  rw [hE] at k2
  obtain ⟨hc1, hc2⟩ := hroom
  have HO := Lib.hid hO
  have HE := Lib.hid hE
  have hf : ∀ w : World, (Instr.field 142 (.agg #[.int .i64 lv, .int .i64 ov, .bool iso]) 2).run Tryz.prog w = .ok (.bool iso) w := fun w => by kernel_rfl
  clear h hn ht hO hE
  go_enter Tryz.func125, Tryz.ntmps125
  by_cases hO : 0 < O
  · rw [if_pos hO] at HM
    go_wp2_with fail
    go_returns
    exact ⟨rfl, by rw [HM.out]; exact ⟨g, cap, HH.out, Spun.refl _ _ _⟩⟩
  · rw [if_neg hO] at HM
    by_cases hE : 0 < E
    · rw [if_pos hE] at HM
      have hw1 : IntKind.i64.wrap (E - 1) = E - 1 := by rw [IntKind.wrap_i64]; omega
      go_wp2_with fail
      go_returns
      exact ⟨rfl, by rw [HM.out]; exact ⟨g, cap, by have q := HH.out.setE (E - 1); rw [HO.out] at q; exact q, (Spun.refl _ _ _).setCell 2 _⟩⟩
    · rw [if_neg hE] at HM
      by_cases hn1 : n = 0
      · subst hn1
        rw [if_neg (by omega)] at HM
        go_wp2_with fail
        go_returns
        exact ⟨rfl, by rw [HM.out]; exact ⟨g, cap, HH.out, Spun.refl _ _ _⟩⟩
      · have hn2 : (1 : Int) < (n : Int) + 1 := by omega
        go_wp2_with fail
        refine HT.out.mono ?_
        rintro r w1 ⟨rfl, hb⟩
        have h1 := HH.out.below hb
        have HS := Lib.hid (Spun.of_below hb mb g)
        have j0 := h1.c0
        have j4 := h1.f0
        rw [HN.out] at j0
        have H1 := Lib.hid h1
        clear h1 hb k0 k1 k2 k4 k5
        cases iso with
        | true =>
          rw [if_neg (by simp)] at HM
          go_wp2_with fail
          go_returns
          exact ⟨rfl, by rw [HM.out]; exact ⟨g, cap, H1.out, HS.out⟩⟩
        | false =>
          rw [if_pos ⟨by omega, rfl⟩] at HM
          have hw1 : IntKind.i64.wrap ((n : Int) + 1 - 1) = (n : Int) := by rw [IntKind.wrap_i64]; omega
          have hw2 : IntKind.i64.wrap (n : Int) = (n : Int) := by rw [IntKind.wrap_i64]; omega
          have hc3 : (n : Int) ≤ (cap : Int) := by omega
          have hc4 : n ≤ cap := by omega
          have hn0 : (0 : Int) ≤ (n : Int) := by omega
          have HP := Lib.hid (H1.out.drew.popped HN.out)
          go_wp2_with fail
          go_still_tail 14, (by kernel_rfl)
          change wpList _ _ _ _ _ w1.drew
          have j0' : w1.drew.cell? ⟨mb, 0, none⟩ = some (.slice (some ⟨g, 0, none⟩) (n + 1) cap) := j0
          go_wp2_with fail
          go_returns
          refine ⟨rfl, ?_⟩
          rw [HM.out]
          exact ⟨g, cap, by have q := HP.out; rw [HO.out, HE.out] at q; exact q, HS.out.drew.setCell 0 _⟩
end Go.Proofs.YtjlfgojblimobaaGreat
end

section
namespace Go.Proofs.YtjlfgojblimobaaGreat
open Go.RowKit
set_option maxRecDepth 100000

def sliceLen : Option Value → Nat | some (.slice _ n _) => n | _ => 0
theorem drop_here (t : List M.Ent) (x : M.Ent) (r : List M.Ent) (ht : ∀ y ∈ t, y.iso = false) (hx : x.iso = true) : (t ++ x :: r).dropWhile (fun y => !y.iso) = x :: r := by
  induction t with
  | nil => rw [List.nil_append, List.dropWhile_cons_of_neg (by simp [hx])]
  | cons y t ih => rw [List.cons_append, List.dropWhile_cons_of_pos (by simp [ht y (List.mem_cons_self ..)]), ih (fun z hz => ht z (List.mem_cons_of_mem _ hz))]
structure Shut (base mb g cap : Nat) (m : M.Mc) (w wr : World) (t u : List M.Ent) : Prop where
  eq : m.s = t ++ u
  off : ∀ x ∈ t, x.iso = false
  cnt : 0 < u.countP (·.iso)
  at_ : MachAt wr base mb g cap { m with e := 0, s := u }
  spun : Spun w wr mb g g

set_option maxHeartbeats 4000000 in
theorem closed_any (base mb g cap : Nat) (m : M.Mc) (w : World) (h : MachAt w base mb g cap m) (hl : m.s.length ≤ 5000) (ho1 : m.o ≤ 100000) (hv0 : 0 ≤ m.v) (hv1 : m.v ≤ 100000) (hcnt : m.v = (m.s.countP (·.iso) : Nat)) :
    Calls Tryz.prog 88 #[.pointer (some ⟨mb, 0, none⟩)] w fun r w' => r = .returned (.tuple #[]) ∧ MachOut base mb g m.closed w w' := by
  have HH := Lib.hid h
  have HM := Lib.hid (show m.closed = if 0 < m.o then { m with o := m.o - 1 } else if m.v = 0 then m else { m with e := 0, s := (m.s.dropWhile fun x => !x.iso).tail, v := m.v - 1 } from rfl)
  obtain ⟨O, hO⟩ : ∃ O, m.o = O := ⟨_, rfl⟩
  obtain ⟨V, hV⟩ : ∃ V, m.v = V := ⟨_, rfl⟩
  rw [hO, hV] at HM
  rw [hO] at ho1
  rw [hV] at hv0 hv1 hcnt
  have k1 := h.c1
  have k2 := h.c2
  have k3 := h.c3
  have k5 := h.f1
  have k6 := h.f2
  rw [hO] at k1
  rw [hV] at k3
  have HO := Lib.hid hO
  have HV := Lib.hid hV
  have HL := Lib.hid hl
  have HC := Lib.hid hcnt
  clear h hO hV hl hcnt
  go_enter Tryz.func88, Tryz.ntmps88
  by_cases hO : 0 < O
  · rw [if_pos hO] at HM
    have hw1 : IntKind.i64.wrap (O - 1) = O - 1 := by rw [IntKind.wrap_i64]; omega
    go_wp2_with fail
    go_returns
    exact ⟨rfl, by rw [HM.out]; exact ⟨g, cap, by have q := HH.out.setO (O - 1); rw [HV.out] at q; exact q, (Spun.refl _ _ _).setCell 1 _⟩⟩
  · rw [if_neg hO] at HM
    by_cases hV : V = 0
    · rw [if_pos hV] at HM
      subst hV
      go_wp2_with fail
      go_returns
      exact ⟨rfl, by rw [HM.out]; exact ⟨g, cap, HH.out, Spun.refl _ _ _⟩⟩
    · rw [if_neg hV] at HM
      have HS := Lib.hid (show Shut base mb g cap m w (w.setCell ⟨mb, 2, none⟩ (.int .i64 0)) [] m.s from
        ⟨rfl, fun x hx => (by cases hx), by have := HC.out; omega, HH.out.setE 0, (Spun.refl _ _ _).setCell 2 _⟩)
      go_wp2_with fail
      go_loopw [] (fun wr => ∃ t u, Shut base mb g cap m w wr t u) (fun wr => sliceLen (wr.cell? ⟨mb, 0, none⟩))
      case atStart => exact ⟨[], m.s, HS.out⟩
      case round =>
        obtain ⟨t, u, hs⟩ := hrel
        have HR := Lib.hid hs
        clear hs
        cases u with
        | nil => exact absurd HR.out.cnt (by simp)
        | cons x r =>
          obtain ⟨lv, ov, iso⟩ := x
          obtain ⟨n, hn⟩ : ∃ n, r.length = n := ⟨_, rfl⟩
          have hl : n ≤ 5000 := by have h1 := HR.out.eq; have h2 := HL.out; rw [h1] at h2; simp at h2; omega
          have hn' : (⟨⟨lv, ov, iso⟩ :: r, m.o, 0, m.v⟩ : M.Mc).s.length = n + 1 := by show r.length + 1 = _; rw [hn]
          have HT := Lib.hid (show Calls Tryz.prog 89 #[.pointer (some ⟨mb, 0, none⟩)] wr fun q w' => q = .returned (.agg #[.int .i64 lv, .int .i64 ov, .bool iso]) ∧ Below wr.heap.size wr w' from
            top_any base mb g cap n ⟨⟨lv, ov, iso⟩ :: r, m.o, 0, m.v⟩ wr HR.out.at_ hn' (by omega))
          have hf : ∀ w : World, (Instr.field 142 (.agg #[.int .i64 lv, .int .i64 ov, .bool iso]) 2).run Tryz.prog w = .ok (.bool iso) w := fun w => by kernel_rfl
          have HN := Lib.hid hn'
          have hw1 : IntKind.i64.wrap ((n : Int) + 1 - 1) = (n : Int) := by rw [IntKind.wrap_i64]; omega
          have hw2 : IntKind.i64.wrap (n : Int) = (n : Int) := by rw [IntKind.wrap_i64]; omega
          have hn0 : (0 : Int) ≤ (n : Int) := by omega
          have z0 : wr.cell? ⟨mb, 0, none⟩ = some (.slice (some ⟨g, 0, none⟩) (n + 1) cap) := by have q := HR.out.at_.c0; rw [hn'] at q; exact q
          have HZ := Lib.hid (show sliceLen (wr.cell? ⟨mb, 0, none⟩) = n + 1 by rw [z0]; rfl)
          have HN2 := Lib.hid hn
          clear k1 k2 k3 k5 k6 hn' hn z0
          go_wp2_with fail
          refine HT.out.mono ?_
          rintro q w1 ⟨rfl, hb⟩
          have h1 := HR.out.at_.below hb
          have HS1 := Lib.hid (HR.out.spun.trans (Spun.of_below hb mb g))
          have j0 : w1.drew.cell? ⟨mb, 0, none⟩ = some (.slice (some ⟨g, 0, none⟩) (n + 1) cap) := by have q := h1.c0; rw [HN.out] at q; exact q
          have j00 : w1.cell? ⟨mb, 0, none⟩ = some (.slice (some ⟨g, 0, none⟩) (n + 1) cap) := j0
          have j3 : w1.cell? ⟨mb, 3, none⟩ = some (.int .i64 V) := by have q := h1.c3; rw [← HV.out]; exact q
          have j4 : w1.frozen? ⟨mb, 0, none⟩ = false := h1.f0
          have j5 : w1.frozen? ⟨mb, 3, none⟩ = false := h1.f3
          have hroom := h1.room
          rw [HN.out] at hroom
          obtain ⟨hc1, hc2⟩ := hroom
          have hc3 : (n : Int) ≤ (cap : Int) := by omega
          have hc4 : n ≤ cap := by omega
          have HP := Lib.hid (h1.drew.popped HN.out)
          clear h1 hb
          cases iso with
          | true =>
            have hw3 : IntKind.i64.wrap (V - 1) = V - 1 := by rw [IntKind.wrap_i64]; omega
            have HQ := Lib.hid (HP.out.setV (V - 1))
            go_wp2_with fail
            go_still_tail 14, (by kernel_rfl)
            change wpList _ _ _ _ _ w1.drew
            go_wp2_with fail
            go_returns
            refine ⟨rfl, ?_⟩
            rw [HM.out]
            have hd := drop_here t ⟨lv, ov, true⟩ r HR.out.off rfl
            rw [← HR.out.eq] at hd
            rw [hd]
            exact ⟨g, cap, by have q := HQ.out; rw [HO.out] at q; exact q, (HS1.out.drew.setCell 0 _).setCell 3 _⟩
          | false =>
            go_wp2_with fail
            go_still_tail 14, (by kernel_rfl)
            change wpList _ _ _ _ _ w1.drew
            go_wp2_with fail
            go_roundw
            case rel =>
              refine ⟨t ++ [⟨lv, ov, false⟩], r, ⟨?_, ?_, ?_, HP.out, HS1.out.drew.setCell 0 _⟩⟩
              · rw [HR.out.eq]; simp
              · intro y hy
                rcases List.mem_append.1 hy with hy | hy
                · exact HR.out.off y hy
                · obtain rfl := List.mem_singleton.1 hy
                  rfl
              · have := HR.out.cnt
                rw [List.countP_cons_of_neg (by simp)] at this
                exact this
            case measure =>
              rw [HZ.out]
              have q : ((w1.setCell ⟨mb, 0, none⟩ (.slice (some ⟨g, 0, none⟩) n cap)).drew).cell? ⟨mb, 0, none⟩ = some (.slice (some ⟨g, 0, none⟩) n cap) := World.cell?_setCell_same _ _ _ j00
              rw [q]
              show n < n + 1
              omega
end Go.Proofs.YtjlfgojblimobaaGreat
end

section
namespace Go.Proofs.YtjlfgojblimobaaGreat
open Go.RowKit

namespace M
structure Mc.Fit (b : Int) (m : Mc) (k : Nat) : Prop where
  ok : m.Ok b
  len : m.s.length ≤ k + 1
  o1 : m.o ≤ k
  e1 : m.e ≤ k
theorem fresh_fit {b : Int} (h : b ≤ 125) (k : Nat) : (fresh b).Fit b k := ⟨fresh_ok h, by simp [fresh], by simp [fresh], by simp [fresh]⟩
theorem Mc.Fit.more {b : Int} {m : Mc} {k : Nat} (h : m.Fit b k) : m.Fit b (k + 1) := ⟨h.ok, by have := h.len; omega, by have := h.o1; omega, by have := h.e1; omega⟩
theorem Mc.Fit.embed {b : Int} {m : Mc} {k : Nat} (h : m.Fit b k) (odd ov : Int) : (m.embed odd ov).Fit b (k + 1) := by
  refine ⟨h.ok.embed _ _, ?_, ?_, ?_⟩ <;>
  · have h1 := h.len
    have h2 := h.o1
    have h3 := h.e1
    unfold Mc.embed
    (repeat' split) <;> simp <;> omega
theorem Mc.Fit.isolate {b : Int} {m : Mc} {k : Nat} (h : m.Fit b k) (odd : Int) : (m.isolate odd).Fit b (k + 1) := by
  refine ⟨h.ok.isolate _, ?_, ?_, ?_⟩ <;>
  · have h1 := h.len
    have h2 := h.o1
    have h3 := h.e1
    unfold Mc.isolate
    (repeat' split) <;> simp <;> omega
theorem Mc.Fit.pop {b : Int} {m : Mc} {k : Nat} (h : m.Fit b k) : m.pop.Fit b k := by
  refine ⟨h.ok.pop, ?_, ?_, ?_⟩ <;>
  · have h1 := h.len
    have h2 := h.o1
    have h3 := h.e1
    unfold Mc.pop
    (repeat' split) <;> simp <;> omega
theorem drop_le (s : List Ent) : (s.dropWhile fun x => !x.iso).length ≤ s.length := by
  induction s with
  | nil => simp
  | cons x r ih =>
    rw [List.dropWhile_cons]
    split
    · exact Nat.le_succ_of_le ih
    · exact Nat.le_refl _
theorem Mc.Fit.closed {b : Int} {m : Mc} {k : Nat} (h : m.Fit b k) : m.closed.Fit b k := by
  refine ⟨h.ok.closed, ?_, ?_, ?_⟩ <;>
  · have h1 := h.len
    have h2 := h.o1
    have h3 := h.e1
    have h4 := drop_le m.s
    unfold Mc.closed
    (repeat' split) <;> simp <;> omega
theorem Mc.Fit.does {b : Int} {m : Mc} {k : Nat} (h : m.Fit b k) (c : Int) : (m.does c).Fit b (k + 1) := by
  unfold Mc.does
  (repeat' split) <;> first | exact h.embed _ _ | exact h.pop.more | exact h.more
theorem Mc.Fit.turn {b odd : Int} {m : Mc} {k : Nat} (hb : b ≤ 125) (h : m.Fit b k) (c : Int) : (m.turn b odd c).Fit b (k + 1) := by
  unfold Mc.turn
  (repeat' split) <;> first | exact h.does _ | exact fresh_fit hb _ | exact h.closed.more | exact h.isolate _ | exact h.more
theorem Mc.Fit.size {b : Int} {m : Mc} {k : Nat} (h : m.Fit b k) : ∃ n, m.s.length = n + 1 ∧ n ≤ k := by
  obtain ⟨x, y, hs, _⟩ := h.ok.bot
  have h1 := h.len
  refine ⟨m.s.length - 1, ?_, by omega⟩
  rw [hs]
  simp
theorem Mc.Fit.top {b : Int} {m : Mc} {k : Nat} (h : m.Fit b k) (hb : 0 ≤ b) : 0 ≤ m.top.lv ∧ m.top.lv ≤ 125 := by
  have := h.ok.lvs _ h.ok.top_mem
  exact ⟨by omega, this.2⟩
theorem Mc.Fit.v0 {b : Int} {m : Mc} {k : Nat} (h : m.Fit b k) : 0 ≤ m.v ∧ m.v ≤ k + 1 := by
  have h1 := h.ok.cnt
  have h2 : m.s.countP (·.iso) ≤ m.s.length := List.countP_le_length
  have h3 := h.len
  have e : List.countP Ent.iso m.s = m.s.countP (·.iso) := rfl
  omega
end M
end Go.Proofs.YtjlfgojblimobaaGreat
end

section
namespace Go.Proofs.YtjlfgojblimobaaGreat
open Go.RowKit
set_option maxRecDepth 100000

set_option maxHeartbeats 4000000 in
theorem does_any (base mb g cap k : Nat) (m : M.Mc) (b c : Int) (w : World) (h : MachAt w base mb g cap m) (hf : m.Fit b k) (hk : k ≤ 5000) (hb : 0 ≤ b) :
    Calls Tryz.prog 87 #[.pointer (some ⟨mb, 0, none⟩), .int .i64 c] w fun r w' => r = .returned (.tuple #[]) ∧ MachOut base mb g (m.does c) w w' := by
  obtain ⟨n, hn, hnk⟩ := hf.size
  obtain ⟨t0, t1⟩ := hf.top hb
  have he0 := hf.ok.e0
  have he1 := hf.e1
  have HE := fun (odd ov : Int) => Lib.hid (embed_any base mb g cap n m odd ov w h hn (by omega) t0 t1 he0 (by omega))
  have HP := Lib.hid (pop_any base mb g cap n m w h hn (by omega) (by omega))
  have HH := Lib.hid h
  have HM := Lib.hid (show m.does c = if c = 16 then m.embed 1 13 else if c = 14 then m.embed 0 13 else if c = 17 then m.embed 1 1 else if c = 15 then m.embed 0 0 else if c = 18 then m.pop else m from rfl)
  clear h hn hf hb he0 he1 t0 t1
  go_enter Tryz.func87, Tryz.ntmps87
  by_cases h1 : c = 16
  · rw [if_pos h1] at HM
    subst h1
    go_wp2_with fail
    refine (HE 1 13).out.mono ?_
    rintro r w1 ⟨rfl, hout⟩
    rw [← HM.out] at hout
    have HO := Lib.hid hout
    clear hout
    go_wp2_with fail
    go_returns
    exact ⟨rfl, HO.out⟩
  · rw [if_neg h1] at HM
    by_cases h2 : c = 14
    · rw [if_pos h2] at HM
      subst h2
      go_wp2_with fail
      refine (HE 0 13).out.mono ?_
      rintro r w1 ⟨rfl, hout⟩
      rw [← HM.out] at hout
      have HO := Lib.hid hout
      clear hout
      go_wp2_with fail
      go_returns
      exact ⟨rfl, HO.out⟩
    · rw [if_neg h2] at HM
      by_cases h3 : c = 17
      · rw [if_pos h3] at HM
        subst h3
        go_wp2_with fail
        refine (HE 1 1).out.mono ?_
        rintro r w1 ⟨rfl, hout⟩
        rw [← HM.out] at hout
        have HO := Lib.hid hout
        clear hout
        go_wp2_with fail
        go_returns
        exact ⟨rfl, HO.out⟩
      · rw [if_neg h3] at HM
        by_cases h4 : c = 15
        · rw [if_pos h4] at HM
          subst h4
          go_wp2_with fail
          refine (HE 0 0).out.mono ?_
          rintro r w1 ⟨rfl, hout⟩
          rw [← HM.out] at hout
          have HO := Lib.hid hout
          clear hout
          go_wp2_with fail
          go_returns
          exact ⟨rfl, HO.out⟩
        · rw [if_neg h4] at HM
          by_cases h5 : c = 18
          · rw [if_pos h5] at HM
            subst h5
            go_wp2_with fail
            refine HP.out.mono ?_
            rintro r w1 ⟨rfl, hout⟩
            rw [← HM.out] at hout
            have HO := Lib.hid hout
            clear hout
            go_wp2_with fail
            go_returns
            exact ⟨rfl, HO.out⟩
          · rw [if_neg h5] at HM
            go_wp2_with fail
            go_returns
            exact ⟨rfl, by rw [HM.out]; exact ⟨g, cap, HH.out, Spun.refl _ _ _⟩⟩
def MachNew (b : Int) (w : World) (r : Ending) (w' : World) : Prop :=
  ∃ mb g cap, r = .returned (.pointer (some ⟨mb, 0, none⟩)) ∧ MachAt w' w.heap.size mb g cap (M.fresh b) ∧ Below w.heap.size w w'
theorem fresh_at (b : Int) (w : World) (t : TypeId) : MachAt ((w.alloc (.cells #[.int .i64 b, .int .i64 13, .bool false] 142)).alloc (.cells #[.slice (some ⟨w.heap.size, 0, none⟩) 1 1, .int .i64 0, .int .i64 0, .int .i64 0] t)) w.heap.size (w.heap.size + 1) w.heap.size 1 (M.fresh b) := by
  obtain ⟨W, hW⟩ : ∃ W, w.alloc (.cells #[.int .i64 b, .int .i64 13, .bool false] 142) = W := ⟨_, rfl⟩
  have hs : W.heap.size = w.heap.size + 1 := by rw [← hW]; simp
  have hg : W.heap[w.heap.size]? = some (.cells #[.int .i64 b, .int .i64 13, .bool false] 142 (0, 0)) := by rw [← hW]; exact World.alloc_heap_new w _
  rw [hW, ← hs]
  have hn : (W.alloc (.cells #[.slice (some ⟨w.heap.size, 0, none⟩) 1 1, .int .i64 0, .int .i64 0, .int .i64 0] t)).heap[W.heap.size]? = some (.cells #[.slice (some ⟨w.heap.size, 0, none⟩) 1 1, .int .i64 0, .int .i64 0, .int .i64 0] t (0, 0)) := World.alloc_heap_new W _
  have hg2 := (Below.heap_alloc W (.cells #[.slice (some ⟨w.heap.size, 0, none⟩) 1 1, .int .i64 0, .int .i64 0, .int .i64 0] t) w.heap.size (by omega)).trans hg
  refine ⟨?_, ?_, ?_, ?_, ?_, ?_, ?_, ?_, ⟨rfl, .inr ⟨w.heap.size, 1, #[.int .i64 b, .int .i64 13, .bool false], rfl, Nat.le_refl _, hg2, Nat.le_refl _, by unfold maxLen; omega, rfl, rfl⟩⟩, by omega, by simp, by omega⟩
  all_goals (first | (unfold World.cell?; rw [hn]; rfl) | (unfold World.frozen?; rw [hn]; rfl))
set_option maxHeartbeats 4000000 in
theorem fresh_any (b : Int) (w : World) : Calls Tryz.prog 85 #[.int .i64 b] w (MachNew b w) := by
  go_enter Tryz.func85, Tryz.ntmps85
  go_wp2_with fail
  go_ret
  exact ⟨_, _, _, rfl, fresh_at b w _, ((Below.refl _ _).alloc (Nat.le_refl _) _).alloc (by simp) _⟩
end Go.Proofs.YtjlfgojblimobaaGreat
end

section
namespace Go.Proofs.YtjlfgojblimobaaGreat
open Go.RowKit

structure LvAt (B : Nat) (w wr : World) (ta tb : TypeId) (va vb : Value) (ja jb : Nat) (la lb : List Int) (mb g cap : Nat) (m : M.Mc) : Prop where
  below : Below B w wr
  ra : wr.ownsRow B ta 1 va ja (la.map (Value.int .i64))
  rb : wr.ownsRow B tb 1 vb jb (lb.map (Value.int .i64))
  mach : MachAt wr B mb g cap m
  am : va.ownBlock ≠ some mb
  ag : va.ownBlock ≠ some g
  bm : vb.ownBlock ≠ some mb
  bg : vb.ownBlock ≠ some g
  ab : ∀ q, va.ownBlock = some q → vb.ownBlock ≠ some q
theorem row_same {w w' : World} {base size k : Nat} {e : TypeId} {v : Value} {xs : List Value} (h : w.ownsRow base e size v k xs) (hb : ∀ q, v.ownBlock = some q → w'.heap[q]? = w.heap[q]?) : w'.ownsRow base e size v k xs := by
  refine ⟨h.1, ?_⟩
  rcases h.2 with h1 | ⟨g, cap, cur, hv, hbg, hg, rest⟩
  · exact .inl h1
  · exact .inr ⟨g, cap, cur, hv, hbg, by rw [hb g (by rw [hv]; rfl)]; exact hg, rest⟩
theorem MachAt.same {w w' : World} {base mb g cap : Nat} {m : M.Mc} (h : MachAt w base mb g cap m) (hs : w.heap.size ≤ w'.heap.size) (h1 : w'.heap[mb]? = w.heap[mb]?) (h2 : w'.heap[g]? = w.heap[g]?) : MachAt w' base mb g cap m := by
  obtain ⟨c0, c1, c2, c3, f0, f1, f2, f3, row, lo, lt, ne⟩ := h
  have C := fun (k : Nat) => World.cell?_of_block (a := ⟨mb, k, none⟩) h1
  have F := fun (k : Nat) => World.frozen?_of_block (a := ⟨mb, k, none⟩) h1
  exact ⟨(C 0).trans c0, (C 1).trans c1, (C 2).trans c2, (C 3).trans c3, (F 0).trans f0, (F 1).trans f1, (F 2).trans f2, (F 3).trans f3,
    row_same row (fun q hq => by simp [Value.ownBlock] at hq; subst hq; exact h2), lo, Nat.lt_of_lt_of_le lt hs, ne⟩
section
variable {B : Nat} {w wr w3 : World} {ta tb : TypeId} {va vb : Value} {ja jb : Nat} {la lb : List Int} {mb g cap : Nat} {m : M.Mc}
theorem LvAt.le (h : LvAt B w wr ta tb va vb ja jb la lb mb g cap m) : B ≤ wr.heap.size := by
  have := h.mach.lo
  have := h.mach.lt
  omega
theorem LvAt.later (h : LvAt B w wr ta tb va vb ja jb la lb mb g cap m) (hb : Below wr.heap.size wr w3) : LvAt B w w3 ta tb va vb ja jb la lb mb g cap m :=
  ⟨h.below.trans (hb.mono h.le), own_below h.ra hb, own_below h.rb hb, h.mach.below hb, h.am, h.ag, h.bm, h.bg, h.ab⟩
theorem LvAt.turn (h : LvAt B w wr ta tb va vb ja jb la lb mb g cap m) {g' cap' : Nat} {m' : M.Mc} (hm : MachAt w3 B mb g' cap' m') (hs : Spun wr w3 mb g g') : LvAt B w w3 ta tb va vb ja jb la lb mb g' cap' m' := by
  have ka : ∀ q, va.ownBlock = some q → q < wr.heap.size ∧ q ≠ mb ∧ q ≠ g := fun q hq => ⟨(World.ownsRow.lt h.ra q hq).2, fun e => h.am (by rw [hq, e]), fun e => h.ag (by rw [hq, e])⟩
  have kb : ∀ q, vb.ownBlock = some q → q < wr.heap.size ∧ q ≠ mb ∧ q ≠ g := fun q hq => ⟨(World.ownsRow.lt h.rb q hq).2, fun e => h.bm (by rw [hq, e]), fun e => h.bg (by rw [hq, e])⟩
  refine ⟨h.below.trans (hs.below h.mach.lo h.mach.glo.1 h.le), row_same h.ra (fun q hq => hs.block q (ka q hq).1 (ka q hq).2.1 (ka q hq).2.2), row_same h.rb (fun q hq => hs.block q (kb q hq).1 (kb q hq).2.1 (kb q hq).2.2), hm, h.am, ?_, h.bm, ?_, h.ab⟩
  · intro e
    have := ka g' e
    rcases hs.new with h1 | h1 <;> omega
  · intro e
    have := kb g' e
    rcases hs.new with h1 | h1 <;> omega
theorem LvAt.anew (h : LvAt B w wr ta tb va vb ja jb la lb mb g cap m) {mb' g' cap' : Nat} {m' : M.Mc} (hm : MachAt w3 wr.heap.size mb' g' cap' m') (hb : Below wr.heap.size wr w3) : LvAt B w w3 ta tb va vb ja jb la lb mb' g' cap' m' := by
  have ka : ∀ q, va.ownBlock = some q → q < wr.heap.size := fun q hq => (World.ownsRow.lt h.ra q hq).2
  have kb : ∀ q, vb.ownBlock = some q → q < wr.heap.size := fun q hq => (World.ownsRow.lt h.rb q hq).2
  have hl := h.le
  have h1 := hm.lo
  have h2 := hm.glo.1
  obtain ⟨c0, c1, c2, c3, f0, f1, f2, f3, row, lo, lt, ne⟩ := hm
  refine ⟨h.below.trans (hb.mono hl), own_below h.ra hb, own_below h.rb hb, ⟨c0, c1, c2, c3, f0, f1, f2, f3, own_base row hl, by omega, lt, ne⟩, ?_, ?_, ?_, ?_, h.ab⟩
  · intro e; have := ka _ e; omega
  · intro e; have := ka _ e; omega
  · intro e; have := kb _ e; omega
  · intro e; have := kb _ e; omega
theorem LvAt.pushA (h : LvAt B w wr ta tb va vb ja jb la lb mb g cap m) {x : Int} {q c : Nat} {o : Obj} (hown : w3.ownsRow B ta 1 (.slice (some ⟨q, 0, none⟩) (ja + 1) c) (ja + 1) (la.map (Value.int .i64) ++ [.int .i64 x]))
    (hg : (wr.alloc o).grownBy w3 va.ownBlock) (hat : va.ownBlock = some q ∨ q = wr.heap.size + 1) : LvAt B w w3 ta tb (.slice (some ⟨q, 0, none⟩) (ja + 1) c) vb (ja + 1) jb (la ++ [x]) lb mb g cap m := by
  have hl := h.le
  have kb : ∀ q, vb.ownBlock = some q → q < wr.heap.size := fun q hq => (World.ownsRow.lt h.rb q hq).2
  have hm1 := h.mach.lt
  have hm2 := h.mach.glo.2
  have hsz : wr.heap.size + 1 ≤ w3.heap.size := by simpa using hg.size
  have K : ∀ b, b < wr.heap.size → va.ownBlock ≠ some b → w3.heap[b]? = wr.heap[b]? := fun b hb hne => (hg.block b (by simp; omega) (fun e => hne e.symm)).trans (Below.heap_alloc _ _ _ hb)
  refine ⟨(h.below.alloc hl o).grown hg (by simp; omega) (fun k hk => (World.ownsRow.lt h.ra k hk).1), by rw [List.map_append]; exact hown, row_same h.rb (fun b hb => K b (kb b hb) (fun e => h.ab b e hb)), h.mach.same (by omega) (K mb hm1 h.am) (K g hm2 h.ag), ?_, ?_, h.bm, h.bg, ?_⟩
  · intro e
    have e2 : q = mb := by simpa [Value.ownBlock] using e
    rcases hat with h1 | h1
    · exact h.am (by rw [h1, e2])
    · omega
  · intro e
    have e2 : q = g := by simpa [Value.ownBlock] using e
    rcases hat with h1 | h1
    · exact h.ag (by rw [h1, e2])
    · omega
  · intro b e e3
    have e2 : q = b := by simpa [Value.ownBlock] using e
    rcases hat with h1 | h1
    · exact h.ab b (by rw [h1, e2]) e3
    · have := kb b e3; omega
theorem LvAt.pushB (h : LvAt B w wr ta tb va vb ja jb la lb mb g cap m) {x : Int} {q c : Nat} {o : Obj} (hown : w3.ownsRow B tb 1 (.slice (some ⟨q, 0, none⟩) (jb + 1) c) (jb + 1) (lb.map (Value.int .i64) ++ [.int .i64 x]))
    (hg : (wr.alloc o).grownBy w3 vb.ownBlock) (hat : vb.ownBlock = some q ∨ q = wr.heap.size + 1) : LvAt B w w3 ta tb va (.slice (some ⟨q, 0, none⟩) (jb + 1) c) ja (jb + 1) la (lb ++ [x]) mb g cap m := by
  have hl := h.le
  have ka : ∀ q, va.ownBlock = some q → q < wr.heap.size := fun q hq => (World.ownsRow.lt h.ra q hq).2
  have hm1 := h.mach.lt
  have hm2 := h.mach.glo.2
  have hsz : wr.heap.size + 1 ≤ w3.heap.size := by simpa using hg.size
  have K : ∀ b, b < wr.heap.size → vb.ownBlock ≠ some b → w3.heap[b]? = wr.heap[b]? := fun b hb hne => (hg.block b (by simp; omega) (fun e => hne e.symm)).trans (Below.heap_alloc _ _ _ hb)
  refine ⟨(h.below.alloc hl o).grown hg (by simp; omega) (fun k hk => (World.ownsRow.lt h.rb k hk).1), row_same h.ra (fun b hb => K b (ka b hb) (fun e => h.ab b hb e)), by rw [List.map_append]; exact hown, h.mach.same (by omega) (K mb hm1 h.bm) (K g hm2 h.bg), h.am, h.ag, ?_, ?_, ?_⟩
  · intro e
    have e2 : q = mb := by simpa [Value.ownBlock] using e
    rcases hat with h1 | h1
    · exact h.bm (by rw [h1, e2])
    · omega
  · intro e
    have e2 : q = g := by simpa [Value.ownBlock] using e
    rcases hat with h1 | h1
    · exact h.bg (by rw [h1, e2])
    · omega
  · intro b e3 e
    have e2 : q = b := by simpa [Value.ownBlock] using e
    rcases hat with h1 | h1
    · exact h.ab b e3 (by rw [h1, e2])
    · have := ka b e3; omega
end
end Go.Proofs.YtjlfgojblimobaaGreat
end
