/- The contract of the document's closed. Condition: the machine is right, its counts small; it counts its isolates. -/
import Derived.Test.YtdipaiflfhdpoaaPop
namespace Go.Proofs.Ytdipaiflfhdpoaa
open Go.RowKit

def sliceLen : Option Value → Nat | some (.slice _ n _) => n | _ => 0
theorem drop_here (t : List M.Ent) (x : M.Ent) (r : List M.Ent) (ht : ∀ y ∈ t, y.iso = false) (hx : x.iso = true) : (t ++ x :: r).dropWhile (fun y => !y.iso) = x :: r := by
  induction t with
  | nil => rw [List.nil_append, List.dropWhile_cons_of_neg (by simp [hx])]
  | cons y t ih => rw [List.cons_append, List.dropWhile_cons_of_pos (by simp [ht y (List.mem_cons_self ..)]), ih (fun z hz => ht z (List.mem_cons_of_mem _ hz))]
/-- Where the loop stands: some entries are off, and the machine holds the rest. -/
structure Shut (base mb g cap : Nat) (m : M.Mc) (w wr : World) (t u : List M.Ent) : Prop where
  eq : m.s = t ++ u
  off : ∀ x ∈ t, x.iso = false
  cnt : 0 < u.countP (·.iso)
  at_ : MachAt wr base mb g cap { m with e := 0, s := u }
  spun : Spun w wr mb g g

set_option maxHeartbeats 4000000 in
theorem closed_any (base mb g cap : Nat) (m : M.Mc) (w : World) (h : MachAt w base mb g cap m) (hl : m.s.length ≤ 5000) (ho1 : m.o ≤ 100000) (hv0 : 0 ≤ m.v) (hv1 : m.v ≤ 100000) (hcnt : m.v = (m.s.countP (·.iso) : Nat)) :
    Calls Try.prog 32 #[.pointer (some ⟨mb, 0, none⟩)] w fun r w' => r = .returned (.tuple #[]) ∧ MachOut base mb g m.closed w w' := by
  have HH := Lib.hid h
  have HM := Lib.hid (show m.closed = if 0 < m.o then { m with o := m.o - 1 } else if m.v = 0 then m else { m with e := 0, s := (m.s.dropWhile fun x => !x.iso).tail, v := m.v - 1 } from rfl)
  obtain ⟨O, hO⟩ : ∃ O, m.o = O := ⟨_, rfl⟩
  obtain ⟨V, hV⟩ : ∃ V, m.v = V := ⟨_, rfl⟩
  rw [hO, hV] at HM
  rw [hO] at ho1
  rw [hV] at hv0 hv1 hcnt
  have k1 := h.c1
  have k2 := h.c2
  have k3 := h.c3
  have k5 := h.f1
  have k6 := h.f2
  rw [hO] at k1
  rw [hV] at k3
  have HO := Lib.hid hO
  have HV := Lib.hid hV
  have HL := Lib.hid hl
  have HC := Lib.hid hcnt
  clear h hO hV hl hcnt
  go_enter Try.func32, Try.ntmps32
  by_cases hO : 0 < O
  · rw [if_pos hO] at HM
    have hw1 : IntKind.i64.wrap (O - 1) = O - 1 := by rw [IntKind.wrap_i64]; omega
    go_wp2_with fail
    go_returns
    exact ⟨rfl, by rw [HM.out]; exact ⟨g, cap, by have q := HH.out.setO (O - 1); rw [HV.out] at q; exact q, (Spun.refl _ _ _).setCell 1 _⟩⟩
  · rw [if_neg hO] at HM
    by_cases hV : V = 0
    · rw [if_pos hV] at HM
      subst hV
      go_wp2_with fail
      go_returns
      exact ⟨rfl, by rw [HM.out]; exact ⟨g, cap, HH.out, Spun.refl _ _ _⟩⟩
    · rw [if_neg hV] at HM
      have HS := Lib.hid (show Shut base mb g cap m w (w.setCell ⟨mb, 2, none⟩ (.int .i64 0)) [] m.s from
        ⟨rfl, fun x hx => (by cases hx), by have := HC.out; omega, HH.out.setE 0, (Spun.refl _ _ _).setCell 2 _⟩)
      go_wp2_with fail
      go_loopw [] (fun wr => ∃ t u, Shut base mb g cap m w wr t u) (fun wr => sliceLen (wr.cell? ⟨mb, 0, none⟩))
      case atStart => exact ⟨[], m.s, HS.out⟩
      case round =>
        obtain ⟨t, u, hs⟩ := hrel
        have HR := Lib.hid hs
        clear hs
        cases u with
        | nil => exact absurd HR.out.cnt (by simp)
        | cons x r =>
          obtain ⟨lv, ov, iso⟩ := x
          obtain ⟨n, hn⟩ : ∃ n, r.length = n := ⟨_, rfl⟩
          have hl : n ≤ 5000 := by have h1 := HR.out.eq; have h2 := HL.out; rw [h1] at h2; simp at h2; omega
          have hn' : (⟨⟨lv, ov, iso⟩ :: r, m.o, 0, m.v⟩ : M.Mc).s.length = n + 1 := by show r.length + 1 = _; rw [hn]
          have HT := Lib.hid (show Calls Try.prog 33 #[.pointer (some ⟨mb, 0, none⟩)] wr fun q w' => q = .returned (.agg #[.int .i64 lv, .int .i64 ov, .bool iso]) ∧ Below wr.heap.size wr w' from
            top_any base mb g cap n ⟨⟨lv, ov, iso⟩ :: r, m.o, 0, m.v⟩ wr HR.out.at_ hn' (by omega))
          have hf : ∀ w : World, (Instr.field 65 (.agg #[.int .i64 lv, .int .i64 ov, .bool iso]) 2).run Try.prog w = .ok (.bool iso) w := fun w => by kernel_rfl
          have HN := Lib.hid hn'
          have hw1 : IntKind.i64.wrap ((n : Int) + 1 - 1) = (n : Int) := by rw [IntKind.wrap_i64]; omega
          have hw2 : IntKind.i64.wrap (n : Int) = (n : Int) := by rw [IntKind.wrap_i64]; omega
          have hn0 : (0 : Int) ≤ (n : Int) := by omega
          have z0 : wr.cell? ⟨mb, 0, none⟩ = some (.slice (some ⟨g, 0, none⟩) (n + 1) cap) := by have q := HR.out.at_.c0; rw [hn'] at q; exact q
          have HZ := Lib.hid (show sliceLen (wr.cell? ⟨mb, 0, none⟩) = n + 1 by rw [z0]; rfl)
          have HN2 := Lib.hid hn
          clear k1 k2 k3 k5 k6 hn' hn z0
          go_wp2_with fail
          refine HT.out.mono ?_
          rintro q w1 ⟨rfl, hb⟩
          have h1 := HR.out.at_.below hb
          have HS1 := Lib.hid (HR.out.spun.trans (Spun.of_below hb mb g))
          have j0 : w1.drew.cell? ⟨mb, 0, none⟩ = some (.slice (some ⟨g, 0, none⟩) (n + 1) cap) := by have q := h1.c0; rw [HN.out] at q; exact q
          have j00 : w1.cell? ⟨mb, 0, none⟩ = some (.slice (some ⟨g, 0, none⟩) (n + 1) cap) := j0
          have j3 : w1.cell? ⟨mb, 3, none⟩ = some (.int .i64 V) := by have q := h1.c3; rw [← HV.out]; exact q
          have j4 : w1.frozen? ⟨mb, 0, none⟩ = false := h1.f0
          have j5 : w1.frozen? ⟨mb, 3, none⟩ = false := h1.f3
          have hroom := h1.room
          rw [HN.out] at hroom
          obtain ⟨hc1, hc2⟩ := hroom
          have hc3 : (n : Int) ≤ (cap : Int) := by omega
          have hc4 : n ≤ cap := by omega
          have HP := Lib.hid (h1.drew.popped HN.out)
          clear h1 hb
          cases iso with
          | true =>
            have hw3 : IntKind.i64.wrap (V - 1) = V - 1 := by rw [IntKind.wrap_i64]; omega
            have HQ := Lib.hid (HP.out.setV (V - 1))
            go_wp2_with fail
            go_still_tail 14, (by kernel_rfl)
            change wpList _ _ _ _ _ w1.drew
            go_wp2_with fail
            go_returns
            refine ⟨rfl, ?_⟩
            rw [HM.out]
            have hd := drop_here t ⟨lv, ov, true⟩ r HR.out.off rfl
            rw [← HR.out.eq] at hd
            rw [hd]
            exact ⟨g, cap, by have q := HQ.out; rw [HO.out] at q; exact q, (HS1.out.drew.setCell 0 _).setCell 3 _⟩
          | false =>
            go_wp2_with fail
            go_still_tail 14, (by kernel_rfl)
            change wpList _ _ _ _ _ w1.drew
            go_wp2_with fail
            go_roundw
            case rel =>
              refine ⟨t ++ [⟨lv, ov, false⟩], r, ⟨?_, ?_, ?_, HP.out, HS1.out.drew.setCell 0 _⟩⟩
              · rw [HR.out.eq]; simp
              · intro y hy
                rcases List.mem_append.1 hy with hy | hy
                · exact HR.out.off y hy
                · obtain rfl := List.mem_singleton.1 hy
                  rfl
              · have := HR.out.cnt
                rw [List.countP_cons_of_neg (by simp)] at this
                exact this
            case measure =>
              rw [HZ.out]
              have q : ((w1.setCell ⟨mb, 0, none⟩ (.slice (some ⟨g, 0, none⟩) n cap)).drew).cell? ⟨mb, 0, none⟩ = some (.slice (some ⟨g, 0, none⟩) n cap) := World.cell?_setCell_same _ _ _ j00
              rw [q]
              show n < n + 1
              omega
end Go.Proofs.Ytdipaiflfhdpoaa
