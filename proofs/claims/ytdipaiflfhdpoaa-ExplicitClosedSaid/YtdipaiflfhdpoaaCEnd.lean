/- The contracts of the walk's endIsolate and endEmbedding: what PDI and PDF do. Condition: the walk is right, its counts small, its overrides known. -/
import Derived.Test.YtdipaiflfhdpoaaCIsolate
namespace Go.Proofs.Ytdipaiflfhdpoaa
open Go.RowKit

def M.Mc.Ov (m : M.Mc) : Prop := ∀ x ∈ m.s, x.ov = 13 ∨ x.ov = 0 ∨ x.ov = 1
theorem M.Mc.Ov.top {m : M.Mc} (h : m.Ov) (hs : m.s ≠ []) : m.top.ov = 13 ∨ m.top.ov = 0 ∨ m.top.ov = 1 := by
  unfold M.Mc.top
  cases hm : m.s with
  | nil => exact absurd hm hs
  | cons x r => exact h x (by rw [hm]; exact List.mem_cons_self ..)
theorem M.Mc.Ok.ne_nil {b : Int} {m : M.Mc} (h : m.Ok b) : m.s ≠ [] := by
  obtain ⟨x, y, hs, _⟩ := h.bot
  rw [hs]
  simp
theorem mem_drop {s : List M.Ent} {x : M.Ent} {p : M.Ent → Bool} (h : x ∈ s.dropWhile p) : x ∈ s := (List.dropWhile_suffix p).subset h
theorem M.Mc.Ov.closed {m : M.Mc} (h : m.Ov) : m.closed.Ov := by
  unfold M.Mc.closed
  split
  · exact h
  · split
    · exact h
    · exact fun x hx => h x (mem_drop (List.mem_of_mem_tail hx))
theorem M.Mc.Ov.pop {m : M.Mc} (h : m.Ov) : m.pop.Ov := by
  unfold M.Mc.pop
  (repeat' split) <;> first | exact h | exact fun x hx => h x (List.mem_of_mem_tail hx)
theorem M.Mc.Ov.isolate {m : M.Mc} (h : m.Ov) (odd : Int) : (m.isolate odd).Ov := by
  unfold M.Mc.isolate
  split
  · intro x hx
    rcases List.mem_cons.1 hx with rfl | hx
    · exact .inl rfl
    · exact h x hx
  · exact h
theorem M.Mc.Ov.embed {m : M.Mc} (h : m.Ov) (odd : Int) {ov : Int} (ho : ov = 13 ∨ ov = 0 ∨ ov = 1) : (m.embed odd ov).Ov := by
  unfold M.Mc.embed
  (repeat' split)
  · intro x hx
    rcases List.mem_cons.1 hx with rfl | hx
    · exact ho
    · exact h x hx
  · exact h
  · exact h
theorem M.Mc.Ov.turn {m : M.Mc} (h : m.Ov) (b odd c : Int) : (m.turn b odd c).Ov := by
  unfold M.Mc.turn
  split
  · unfold M.Mc.does
    (repeat' split) <;> first | exact h.embed _ (by decide) | exact h.pop | exact h
  · (repeat' split) <;> first | exact h.closed | exact h.isolate _ | exact h | (intro x hx; obtain rfl := List.mem_singleton.1 hx; exact .inl rfl)

/-- Where the loop stands: some entries are off, and the walk holds the rest. -/
structure ShutC (base mb g cap : Nat) (b : Int) (m : M.Mc) (w wr : World) (t u : List M.Ent) : Prop where
  eq : m.s = t ++ u
  off : ∀ x ∈ t, x.iso = false
  cnt : 0 < u.countP (·.iso)
  at_ : WalkAt wr base mb g cap b { m with e := 0, s := u }
  spun : Spun w wr mb g g

set_option maxHeartbeats 8000000 in
theorem cend_any (base mb g cap k : Nat) (b : Int) (m : M.Mc) (f : Int) (w : World) (h : WalkAt w base mb g cap b m) (hf : m.Fit b k) (hk : k ≤ 5000) (hov : m.Ov) :
    Calls Try.prog 38 #[.pointer (some ⟨mb, 0, none⟩), .agg #[.int .i64 22, .int .i64 f]] w (StepOut base mb g b m.closed m.closed.top.lv (if m.closed.top.ov ≠ 13 then m.closed.top.ov else 22) w) := by
  have hok := hf.ok.closed
  obtain ⟨nq, hnq, hnk⟩ := hf.closed.size
  have hov2 := hov.closed.top hok.ne_nil
  have HST := fun g2 cap2 W h => Lib.hid (cstay_any base mb g2 cap2 nq b m.closed 22 f W h hnq (by omega) hov2)
  obtain ⟨cls, hcls⟩ : ∃ x, (if m.closed.top.ov ≠ 13 then m.closed.top.ov else (22 : Int)) = x := ⟨_, rfl⟩
  obtain ⟨lev, hlev⟩ : ∃ x, m.closed.top.lv = x := ⟨_, rfl⟩
  rw [hcls, hlev] at HST
  rw [hcls, hlev]
  have HM := Lib.hid (show m.closed = if 0 < m.o then { m with o := m.o - 1 } else if m.v = 0 then m else { m with e := 0, s := (m.s.dropWhile fun x => !x.iso).tail, v := m.v - 1 } from rfl)
  obtain ⟨M2, hM2⟩ : ∃ x, m.closed = x := ⟨_, rfl⟩
  rw [hM2] at HST HM ⊢
  have ho1 := hf.o1
  obtain ⟨hv0, hv1⟩ := hf.v0
  have hcnt := hf.ok.cnt
  have hl := hf.len
  obtain ⟨W, hW⟩ : ∃ W, w.alloc (.cells #[.int .i64 22, .int .i64 f] 56) = W := ⟨_, rfl⟩
  have hbl : Below w.heap.size w W := by rw [← hW]; exact (Below.refl _ _).alloc (Nat.le_refl _) _
  have hWs : W.heap.size = w.heap.size + 1 := by rw [← hW]; simp
  have z0 : W.cell? ⟨w.heap.size, 0, none⟩ = some (.int .i64 22) := by rw [← hW]; simp [go_sem]
  have z1 : W.cell? ⟨w.heap.size, 1, none⟩ = some (.int .i64 f) := by rw [← hW]; simp [go_sem]
  have h1 := h.below hbl
  obtain ⟨O, hO⟩ : ∃ O, m.o = O := ⟨_, rfl⟩
  obtain ⟨V, hV⟩ : ∃ V, m.v = V := ⟨_, rfl⟩
  rw [hO, hV] at HM
  rw [hO] at ho1
  rw [hV] at hv0 hv1 hcnt
  have k1 := h1.c3
  have k2 := h1.c4
  have k3 := h1.c2
  have k5 := h1.f 3 (by omega)
  have k6 := h1.f 4 (by omega)
  rw [hO] at k1
  rw [hV] at k3
  have H1 := Lib.hid h1
  have HB := Lib.hid hbl
  have HO := Lib.hid hO
  have HV := Lib.hid hV
  have HL := Lib.hid hl
  have HC := Lib.hid hcnt
  have hbox : w.heap.size < W.heap.size := by omega
  have hmw : mb < w.heap.size := h.lt
  have hgw : g < w.heap.size := h.glo.2
  clear h h1 hO hV hl hcnt hok hnq hov2 hcls hlev hM2 hf hov hbl hWs
  go_enter Try.func38, Try.ntmps38
  by_cases hO : 0 < O
  · rw [if_pos hO] at HM
    have hw1 : IntKind.i64.wrap (O - 1) = O - 1 := by rw [IntKind.wrap_i64]; omega
    have HW2 := Lib.hid (show WalkAt (W.setCell ⟨mb, 3, none⟩ (.int .i64 (O - 1))) base mb g cap b M2 by rw [HM.out]; have q := H1.out.setO (O - 1); rw [HV.out] at q; exact q)
    have hne : w.heap.size ≠ mb := by omega
    go_wp2_with fail
    refine (HST g cap _ HW2.out).out.mono ?_
    rintro r w3 ⟨rfl, hb3⟩
    have HB3 := Lib.hid hb3
    clear hb3
    go_wp2_with fail
    go_ret2
    exact ⟨rfl, g, cap, HW2.out.below HB3.out, ((Spun.of_below HB.out mb g).setCell 3 _).trans (Spun.of_below HB3.out mb g)⟩
  · rw [if_neg hO] at HM
    by_cases hV : V = 0
    · rw [if_pos hV] at HM
      have HW2 := Lib.hid (show WalkAt W base mb g cap b M2 by rw [HM.out]; exact H1.out)
      subst hV
      go_wp2_with fail
      refine (HST g cap _ HW2.out).out.mono ?_
      rintro r w3 ⟨rfl, hb3⟩
      have HB3 := Lib.hid hb3
      clear hb3
      go_wp2_with fail
      go_ret2
      exact ⟨rfl, g, cap, HW2.out.below HB3.out, (Spun.of_below HB.out mb g).trans (Spun.of_below HB3.out mb g)⟩
    · rw [if_neg hV] at HM
      have HS := Lib.hid (show ShutC base mb g cap b m W (W.setCell ⟨mb, 4, none⟩ (.int .i64 0)) [] m.s from
        ⟨rfl, fun x hx => (by cases hx), by have := HC.out; omega, H1.out.setE 0, (Spun.refl _ _ _).setCell 4 _⟩)
      have hV2 : 0 < V := by omega
      go_wp2_with fail
      go_loopw [] (fun wr => ∃ t u, ShutC base mb g cap b m W wr t u) (fun wr => sliceLen (wr.cell? ⟨mb, 1, none⟩))
      case atStart => exact ⟨[], m.s, HS.out⟩
      case round =>
        obtain ⟨t, u, hs⟩ := hrel
        have HR := Lib.hid hs
        clear hs
        cases u with
        | nil => exact absurd HR.out.cnt (by simp)
        | cons x r =>
          obtain ⟨lv, ov, iso⟩ := x
          obtain ⟨n, hn⟩ : ∃ n, r.length = n := ⟨_, rfl⟩
          have hl : n ≤ 5001 := by have h1 := HR.out.eq; have h2 := HL.out; rw [h1] at h2; simp at h2; omega
          have hn' : (⟨⟨lv, ov, iso⟩ :: r, m.o, 0, m.v⟩ : M.Mc).s.length = n + 1 := by show r.length + 1 = _; rw [hn]
          obtain ⟨ow, how⟩ : ∃ x, M.ovc ov = x := ⟨_, rfl⟩
          have HT := Lib.hid (show Calls Try.prog 42 #[.pointer (some ⟨mb, 0, none⟩)] wr fun q w' => q = .returned (.agg #[.int .i64 lv, .int .i64 ow, .bool iso]) ∧ Below wr.heap.size wr w' by
            rw [← how]; exact ctop_any base mb g cap n b ⟨⟨lv, ov, iso⟩ :: r, m.o, 0, m.v⟩ wr HR.out.at_ hn' (by omega))
          have HPP := fun W h => Lib.hid (cpop_any base mb g cap n b ⟨⟨lv, ov, iso⟩ :: r, m.o, 0, m.v⟩ W h hn' (by omega))
          have hfl : ∀ w : World, (Instr.field 70 (.agg #[.int .i64 lv, .int .i64 ow, .bool iso]) 2).run Try.prog w = .ok (.bool iso) w := fun w => by kernel_rfl
          have HZ := Lib.hid (show sliceLen (wr.cell? ⟨mb, 1, none⟩) = n + 1 by have q := HR.out.at_.c1; rw [hn'] at q; rw [q]; rfl)
          have HN2 := Lib.hid hn
          clear k1 k2 k3 k5 k6 hn' hn how
          go_wp2_with fail
          refine HT.out.mono ?_
          rintro q w1 ⟨rfl, hb⟩
          have HH1 := Lib.hid (HR.out.at_.below hb)
          have HS1 := Lib.hid (HR.out.spun.trans (Spun.of_below hb mb g))
          clear hb
          cases iso with
          | true =>
            go_wp2_with fail
            refine (HPP _ HH1.out).out.mono ?_
            rintro q w2 ⟨rfl, hw2, hs2⟩
            have hs2 : Spun w1 w2 mb g g := hs2
            have c2 : w2.cell? ⟨mb, 2, none⟩ = some (.int .i64 V) := by have q := hw2.c2; rw [← HV.out]; exact q
            have f2 := hw2.f 2 (by omega)
            have hw3 : IntKind.i64.wrap (V - 1) = V - 1 := by rw [IntKind.wrap_i64]; omega
            have HQ := Lib.hid (show WalkAt (w2.setCell ⟨mb, 2, none⟩ (.int .i64 (V - 1))) base mb g cap b M2 by
              have q := hw2.setV (V - 1)
              rw [HM.out]
              have hd := drop_here t ⟨lv, ov, true⟩ r HR.out.off rfl
              rw [← HR.out.eq] at hd
              rw [hd]
              rw [HO.out] at q
              exact q)
            have HS2 := Lib.hid (HS1.out.trans hs2)
            have x0 : w2.cell? ⟨w.heap.size, 0, none⟩ = some (.int .i64 22) := (HS2.out.cell _ _ hbox (by omega) (by omega)).trans z0
            have x1 : w2.cell? ⟨w.heap.size, 1, none⟩ = some (.int .i64 f) := (HS2.out.cell _ _ hbox (by omega) (by omega)).trans z1
            have hne : w.heap.size ≠ mb := by omega
            clear hw2 hs2 z0 z1
            go_wp2_with fail
            refine (HST g cap _ HQ.out).out.mono ?_
            rintro q w3 ⟨rfl, hb3⟩
            have HB3 := Lib.hid hb3
            clear hb3
            go_wp2_with fail
            go_ret2
            exact ⟨rfl, g, cap, HQ.out.below HB3.out, (((Spun.of_below HB.out mb g).trans HS2.out).setCell 2 _).trans (Spun.of_below HB3.out mb g)⟩
          | false =>
            go_wp2_with fail
            refine (HPP _ HH1.out).out.mono ?_
            rintro q w2 ⟨rfl, hw2, hs2⟩
            have HW2 := Lib.hid hw2
            have HS2 := Lib.hid (HS1.out.trans hs2)
            clear hw2 hs2
            go_wp2_with fail
            go_roundw
            case rel =>
              refine ⟨t ++ [⟨lv, ov, false⟩], r, ⟨?_, ?_, ?_, HW2.out, HS2.out⟩⟩
              · rw [HR.out.eq]; simp
              · intro y hy
                rcases List.mem_append.1 hy with hy | hy
                · exact HR.out.off y hy
                · obtain rfl := List.mem_singleton.1 hy
                  rfl
              · have := HR.out.cnt
                rw [List.countP_cons_of_neg (by simp)] at this
                exact this
            case measure =>
              rw [HZ.out]
              have q := HW2.out.c1
              rw [q]
              have e := HN2.out
              show r.length < n + 1
              omega
end Go.Proofs.Ytdipaiflfhdpoaa
