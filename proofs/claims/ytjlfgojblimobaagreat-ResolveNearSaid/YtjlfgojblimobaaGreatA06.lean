/- The contracts of the walk's stay and remove. Condition: the walk is right, its overrides known. -/
/- The contract of the walk's embed: what RLE, LRE, RLO and LRO do. Condition: the walk is right, its counts small. -/
/- The contract of the walk's beginIsolate: what RLI, LRI and FSI do. Condition: the walk is right, its counts small, its overrides known. -/
/- The contracts of the walk's endIsolate and endEmbedding: what PDI and PDF do. Condition: the walk is right, its counts small, its overrides known. -/
/- The contracts of the walk's endEmbedding, of begun and of beginAnew: what PDF and B do. Condition: the walk is right, its counts small. -/
/- The contract of the walk's beginAnew: what B does. Condition: the walk is right. -/
import Derived.Test.YtjlfgojblimobaaGreatA05
section
namespace Go.Proofs.YtjlfgojblimobaaGreat
open Go.RowKit
set_option maxRecDepth 100000

theorem ovc_cases {m : M.Mc} (h : m.top.ov = 13 ∨ m.top.ov = 0 ∨ m.top.ov = 1) (c : Int) : (M.ovc m.top.ov = -1 ∧ (if m.top.ov ≠ 13 then m.top.ov else c) = c) ∨ (M.ovc m.top.ov ≠ -1 ∧ (if m.top.ov ≠ 13 then m.top.ov else c) = M.ovc m.top.ov) := by
  unfold M.ovc
  rcases h with h | h | h <;> rw [h] <;> simp
set_option maxHeartbeats 4000000 in
theorem cstay_any (base mb g cap n : Nat) (b : Int) (m : M.Mc) (c f : Int) (w : World) (h : WalkAt w base mb g cap b m) (hn : m.s.length = n + 1) (hl : n ≤ 10000) (ho : m.top.ov = 13 ∨ m.top.ov = 0 ∨ m.top.ov = 1) :
    Calls Tryz.prog 38 #[.pointer (some ⟨mb, 0, none⟩), .agg #[.int .i64 c, .int .i64 f]] w fun r w' => r = .returned (.tuple #[.int .i64 m.top.lv, .int .i64 (if m.top.ov ≠ 13 then m.top.ov else c)]) ∧ Below w.heap.size w w' := by
  obtain ⟨W, hW⟩ : ∃ W, w.alloc (.cells #[.int .i64 c, .int .i64 f] 80) = W := ⟨_, rfl⟩
  have hb : Below w.heap.size w W := by rw [← hW]; exact (Below.refl _ _).alloc (Nat.le_refl _) _
  have hWs : W.heap.size = w.heap.size + 1 := by rw [← hW]; simp
  have z0 : W.cell? ⟨w.heap.size, 0, none⟩ = some (.int .i64 c) := by rw [← hW]; simp [go_sem]
  have HT := Lib.hid (ctop_any base mb g cap n b m W (h.below hb) hn hl)
  have hcase := ovc_cases ho c
  obtain ⟨cls, hcls⟩ : ∃ x, (if m.top.ov ≠ 13 then m.top.ov else c) = x := ⟨_, rfl⟩
  obtain ⟨lv, hlv⟩ : ∃ x, m.top.lv = x := ⟨_, rfl⟩
  obtain ⟨ov, hov⟩ : ∃ x, M.ovc m.top.ov = x := ⟨_, rfl⟩
  obtain ⟨iso, hiso⟩ : ∃ x, m.top.iso = x := ⟨_, rfl⟩
  rw [hlv, hov, hiso] at HT
  rw [hcls, hov] at hcase
  rw [hlv, hcls]
  have HB := Lib.hid hb
  have HWS := Lib.hid hWs
  clear h hn hlv hov hiso hcls hb ho hWs
  go_enter Tryz.func38, Tryz.ntmps38
  go_wp2_with fail
  refine HT.out.mono ?_
  rintro r w1 ⟨rfl, hb⟩
  have x0 : w1.cell? ⟨w.heap.size, 0, none⟩ = some (.int .i64 c) := (hb.cell (p := ⟨w.heap.size, 0, none⟩) (by rw [HWS.out]; simp)).trans z0
  have hlt : w.heap.size < w1.heap.size := by have := hb.size; have := HWS.out; omega
  have HB1 := Lib.hid (HB.out.trans (hb.mono HB.out.size))
  clear hb z0
  rcases hcase with ⟨rfl, rfl⟩ | ⟨hne, rfl⟩
  · go_wp2_with fail
    go_quiet (fail)
    go_wp2_with fail
    go_ret2
    exact ⟨rfl, drewN_below (HB1.out.alloc HB1.out.size _) _⟩
  · go_wp2_with fail
    go_quiet (fail)
    go_wp2_with fail
    go_ret2
    exact ⟨rfl, drewN_below (HB1.out.alloc HB1.out.size _) _⟩
set_option maxHeartbeats 4000000 in
theorem cremove_any (mb : Nat) (c f : Int) (w : World) :
    Calls Tryz.prog 66 #[.pointer (some ⟨mb, 0, none⟩), .agg #[.int .i64 c, .int .i64 f]] w fun r w' => r = .returned (.tuple #[.int .i64 (-1), .int .i64 c]) ∧ Below w.heap.size w w' := by
  obtain ⟨W, hW⟩ : ∃ W, w.alloc (.cells #[.int .i64 c, .int .i64 f] 80) = W := ⟨_, rfl⟩
  have hb : Below w.heap.size w W := by rw [← hW]; exact (Below.refl _ _).alloc (Nat.le_refl _) _
  have z0 : W.cell? ⟨w.heap.size, 0, none⟩ = some (.int .i64 c) := by rw [← hW]; simp [go_sem]
  have HB := Lib.hid hb
  clear hb
  go_enter Tryz.func66, Tryz.ntmps66
  go_wp2_with fail
  go_quiet (fail)
  go_wp2_with fail
  go_ret2
  exact ⟨rfl, drewN_below HB.out _⟩
end Go.Proofs.YtjlfgojblimobaaGreat
end

section
namespace Go.Proofs.YtjlfgojblimobaaGreat
open Go.RowKit
set_option maxRecDepth 100000

def StepOut (base mb g : Nat) (b : Int) (m : M.Mc) (lev cls : Int) (w : World) (r : Ending) (w' : World) : Prop := r = .returned (.tuple #[.int .i64 lev, .int .i64 cls]) ∧ WalkOut base mb g b m w w'
theorem M.Mc.roomE_iff {m : M.Mc} (h0 : 0 ≤ m.o) (h1 : 0 ≤ m.e) (odd : Int) : m.roomE (m.next odd) = true ↔ m.room odd := by
  unfold M.Mc.roomE M.Mc.room
  simp
  omega
theorem M.Mc.embed_eq {m : M.Mc} (h0 : 0 ≤ m.o) (h1 : 0 ≤ m.e) (odd ov : Int) : m.embed odd ov = if m.roomE (m.next odd) = true then m.pushM ⟨m.next odd, ov, false⟩ else if m.o = 0 then { m with e := m.e + 1 } else m := by
  unfold M.Mc.embed
  by_cases h : m.room odd
  · have h2 := (M.Mc.roomE_iff h0 h1 odd).2 h
    rw [if_pos h, if_pos h2]
    unfold M.Mc.pushM
    rw [if_pos h2]
  · have h2 : ¬ m.roomE (m.next odd) = true := fun q => h ((M.Mc.roomE_iff h0 h1 odd).1 q)
    rw [if_neg h, if_neg h2]
theorem M.Mc.isolate_eq {m : M.Mc} (h0 : 0 ≤ m.o) (h1 : 0 ≤ m.e) (odd : Int) : m.isolate odd = if m.roomE (m.next odd) = true then { m.pushM ⟨m.next odd, 13, true⟩ with v := m.v + 1 } else { m with o := m.o + 1 } := by
  unfold M.Mc.isolate
  by_cases h : m.room odd
  · have h2 := (M.Mc.roomE_iff h0 h1 odd).2 h
    rw [if_pos h, if_pos h2]
    unfold M.Mc.pushM
    rw [if_pos h2]
  · have h2 : ¬ m.roomE (m.next odd) = true := fun q => h ((M.Mc.roomE_iff h0 h1 odd).1 q)
    rw [if_neg h, if_neg h2]
theorem Spun.cell {w w' : World} {mb g g' : Nat} (h : Spun w w' mb g g') (b k : Nat) (h0 : b < w.heap.size) (h1 : b ≠ mb) (h2 : b ≠ g) : w'.cell? ⟨b, k, none⟩ = w.cell? ⟨b, k, none⟩ :=
  World.cell?_of_block (h.block b h0 h1 h2)
theorem pushM_false {m : M.Mc} {e : M.Ent} (h : m.roomE e.lv = false) : m.pushM e = m := by unfold M.Mc.pushM; rw [if_neg (by rw [h]; simp)]
set_option maxHeartbeats 4000000 in
theorem cembed_any (base mb g cap k : Nat) (b : Int) (m : M.Mc) (c f odd ov : Int) (hc : M.asks c odd (M.ovc ov) false) (w : World) (h : WalkAt w base mb g cap b m) (hf : m.Fit b k) (hk : k ≤ 5000) (hb : 0 ≤ b) :
    Calls Tryz.prog 61 #[.pointer (some ⟨mb, 0, none⟩), .agg #[.int .i64 c, .int .i64 f]] w (StepOut base mb g b (m.embed odd ov) (-1) c w) := by
  obtain ⟨n, hn, hnk⟩ := hf.size
  obtain ⟨t0, t1⟩ := hf.top hb
  have he1 := hf.e1
  have ho1 := hf.o1
  have HM := Lib.hid (M.Mc.embed_eq hf.ok.o0 hf.ok.e0 odd ov)
  have ho0 := hf.ok.o0
  have he0 := hf.ok.e0
  obtain ⟨W, hW⟩ : ∃ W, w.alloc (.cells #[.int .i64 c, .int .i64 f] 80) = W := ⟨_, rfl⟩
  have hbl : Below w.heap.size w W := by rw [← hW]; exact (Below.refl _ _).alloc (Nat.le_refl _) _
  have hWs : W.heap.size = w.heap.size + 1 := by rw [← hW]; simp
  have z0 : W.cell? ⟨w.heap.size, 0, none⟩ = some (.int .i64 c) := by rw [← hW]; simp [go_sem]
  have z1 : W.cell? ⟨w.heap.size, 1, none⟩ = some (.int .i64 f) := by rw [← hW]; simp [go_sem]
  have h1 := h.below hbl
  have HA := Lib.hid (casked_any base mb g cap n b m c odd (M.ovc ov) false hc W h1 hn (by omega) t0 t1)
  obtain ⟨N, hN⟩ : ∃ N, m.next odd = N := ⟨_, rfl⟩
  obtain ⟨ow, how⟩ : ∃ x, M.ovc ov = x := ⟨_, rfl⟩
  rw [hN] at HM
  rw [hN, how] at HA
  have HP := fun W h => Lib.hid (cpush_any base mb g cap n b m N ow false ⟨N, ov, false⟩ (by rw [← how]; rfl) rfl W h hn (by omega))
  obtain ⟨room, hroom⟩ : ∃ x, m.roomE N = x := ⟨_, rfl⟩
  have HR := Lib.hid hroom
  rw [hroom] at HM
  have H1 := Lib.hid h1
  have HB := Lib.hid hbl
  have HWS := Lib.hid hWs
  have hmb : mb < w.heap.size := h.lt
  have hg : g < w.heap.size := h.glo.2
  obtain ⟨O, hO⟩ : ∃ O, m.o = O := ⟨_, rfl⟩
  obtain ⟨E, hE⟩ : ∃ E, m.e = E := ⟨_, rfl⟩
  rw [hO] at ho0 ho1 HM
  rw [hE] at he0 he1 HM
  have HO := Lib.hid hO
  have HE := Lib.hid hE
  have hw1 : IntKind.i64.wrap (E + 1) = E + 1 := by rw [IntKind.wrap_i64]; omega
  clear h hf hn hbl hWs h1 hN how hroom hO hE hc t0 t1
  go_enter Tryz.func61, Tryz.ntmps61
  go_wp2_with fail
  refine HA.out.mono ?_
  rintro r w1 ⟨rfl, hb1⟩
  have h2 := H1.out.below hb1
  have y0 : w1.cell? ⟨w.heap.size, 0, none⟩ = some (.int .i64 c) := (hb1.cell (p := ⟨w.heap.size, 0, none⟩) (by rw [HWS.out]; simp)).trans z0
  have y1 : w1.cell? ⟨w.heap.size, 1, none⟩ = some (.int .i64 f) := (hb1.cell (p := ⟨w.heap.size, 1, none⟩) (by rw [HWS.out]; simp)).trans z1
  have HX := Lib.hid (HP w1 h2).out
  have HB1 := Lib.hid (HB.out.trans (hb1.mono HB.out.size))
  have hlt1 : w.heap.size < w1.heap.size := by have := hb1.size; have := HWS.out; omega
  clear hb1 h2 z0 z1
  go_wp2_with fail
  refine HX.out.mono ?_
  rintro r w2 ⟨hr, g2, cap2, hw2, hs2⟩
  rw [show (⟨N, ov, false⟩ : M.Ent).lv = N from rfl, HR.out] at hr
  subst hr
  have x0 : w2.cell? ⟨w.heap.size, 0, none⟩ = some (.int .i64 c) := (hs2.cell _ _ hlt1 (by omega) (by omega)).trans y0
  have x1 : w2.cell? ⟨w.heap.size, 1, none⟩ = some (.int .i64 f) := (hs2.cell _ _ hlt1 (by omega) (by omega)).trans y1
  have HW2 := Lib.hid hw2
  have HS2 := Lib.hid ((Spun.of_below HB1.out mb g).trans hs2)
  cases room with
  | true =>
    rw [if_pos rfl] at HM
    clear hw2 hs2 y0 y1
    go_wp2_with fail
    refine (cremove_any mb c f w2).mono ?_
    rintro r w3 ⟨rfl, hb3⟩
    have HB3 := Lib.hid hb3
    clear hb3
    go_wp2_with fail
    go_ret2
    exact ⟨rfl, by rw [HM.out]; exact ⟨g2, cap2, HW2.out.below HB3.out, HS2.out.trans (Spun.of_below HB3.out mb g2)⟩⟩
  | false =>
    rw [if_neg (by simp)] at HM
    have hpf : m.pushM ⟨N, ov, false⟩ = m := pushM_false HR.out
    rw [hpf] at hw2 HW2
    have c3 := hw2.c3
    have c4 := hw2.c4
    have f4 := hw2.f 4 (by omega)
    rw [HO.out] at c3
    rw [HE.out] at c4
    have hmb2 := hw2.lt
    clear hw2 hs2 y0 y1 hpf
    by_cases hO0 : O = 0
    · rw [if_pos hO0] at HM
      subst hO0
      have HW3 := Lib.hid (HW2.out.setE (E + 1))
      have hne : w.heap.size ≠ mb := by omega
      have HX2 := fun W => Lib.hid (cremove_any mb c f W)
      go_wp2_with fail
      refine (HX2 _).out.mono ?_
      rintro r w3 ⟨rfl, hb3⟩
      have HB3 := Lib.hid hb3
      clear hb3
      go_wp2_with fail
      go_ret2
      exact ⟨rfl, by rw [HM.out]; exact ⟨g2, cap2, by have q := HW3.out.below HB3.out; rw [HO.out] at q; exact q, (HS2.out.setCell 4 _).trans (Spun.of_below HB3.out mb g2)⟩⟩
    · rw [if_neg hO0] at HM
      have HX2 := fun W => Lib.hid (cremove_any mb c f W)
      go_wp2_with fail
      refine (HX2 _).out.mono ?_
      rintro r w3 ⟨rfl, hb3⟩
      have HB3 := Lib.hid hb3
      clear hb3
      go_wp2_with fail
      go_ret2
      exact ⟨rfl, by rw [HM.out]; exact ⟨g2, cap2, HW2.out.below HB3.out, HS2.out.trans (Spun.of_below HB3.out mb g2)⟩⟩
end Go.Proofs.YtjlfgojblimobaaGreat
end

section
namespace Go.Proofs.YtjlfgojblimobaaGreat
open Go.RowKit
set_option maxRecDepth 100000

theorem asks_iso {c f : Int} (h : c = 19 ∨ c = 20 ∨ c = 21) : M.asks (M.sidedC c f) (M.oddOf c f) (M.ovc 13) true := by
  unfold M.asks M.sidedC M.oddOf M.ovc
  rcases h with rfl | rfl | rfl
  · simp
  · simp
  · by_cases h1 : f = 1 <;> simp [h1]
set_option maxHeartbeats 4000000 in
theorem cisolate_any (base mb g cap k : Nat) (b : Int) (m : M.Mc) (c f : Int) (hc : c = 19 ∨ c = 20 ∨ c = 21) (w : World) (h : WalkAt w base mb g cap b m) (hf : m.Fit b k) (hk : k ≤ 5000) (hb : 0 ≤ b) (hov : m.top.ov = 13 ∨ m.top.ov = 0 ∨ m.top.ov = 1) :
    Calls Tryz.prog 62 #[.pointer (some ⟨mb, 0, none⟩), .agg #[.int .i64 c, .int .i64 f]] w (StepOut base mb g b (m.isolate (M.oddOf c f)) m.top.lv (if m.top.ov ≠ 13 then m.top.ov else c) w) := by
  obtain ⟨n, hn, hnk⟩ := hf.size
  obtain ⟨t0, t1⟩ := hf.top hb
  have ho1 := hf.o1
  obtain ⟨hv0, hv1⟩ := hf.v0
  have hasks := asks_iso (f := f) hc
  obtain ⟨odd, hodd⟩ : ∃ x, M.oddOf c f = x := ⟨_, rfl⟩
  obtain ⟨sc, hsc⟩ : ∃ x, M.sidedC c f = x := ⟨_, rfl⟩
  rw [hodd] at hasks ⊢
  rw [hsc] at hasks
  have HM := Lib.hid (M.Mc.isolate_eq hf.ok.o0 hf.ok.e0 odd)
  have ho0 := hf.ok.o0
  obtain ⟨W, hW⟩ : ∃ W, w.alloc (.cells #[.int .i64 c, .int .i64 f] 80) = W := ⟨_, rfl⟩
  have hbl : Below w.heap.size w W := by rw [← hW]; exact (Below.refl _ _).alloc (Nat.le_refl _) _
  have hWs : W.heap.size = w.heap.size + 1 := by rw [← hW]; simp
  have z0 : W.cell? ⟨w.heap.size, 0, none⟩ = some (.int .i64 c) := by rw [← hW]; simp [go_sem]
  have z1 : W.cell? ⟨w.heap.size, 1, none⟩ = some (.int .i64 f) := by rw [← hW]; simp [go_sem]
  have h1 := h.below hbl
  have HST := Lib.hid (cstay_any base mb g cap n b m c f W h1 hn (by omega) hov)
  have HSD := fun W => Lib.hid (csided_any c f W)
  obtain ⟨cls, hcls⟩ : ∃ x, (if m.top.ov ≠ 13 then m.top.ov else c) = x := ⟨_, rfl⟩
  obtain ⟨lv, hlv⟩ : ∃ x, m.top.lv = x := ⟨_, rfl⟩
  rw [hcls, hlv] at HST
  rw [hcls, hlv]
  rw [hsc] at HSD
  have HA := fun W h => Lib.hid (casked_any base mb g cap n b m sc odd (M.ovc 13) true hasks W h hn (by omega) t0 t1)
  obtain ⟨N, hN⟩ : ∃ N, m.next odd = N := ⟨_, rfl⟩
  rw [hN] at HM
  rw [hN, show M.ovc 13 = -1 from rfl] at HA
  have HP := fun W h => Lib.hid (cpush_any base mb g cap n b m N (-1) true ⟨N, 13, true⟩ rfl rfl W h hn (by omega))
  obtain ⟨room, hroom⟩ : ∃ x, m.roomE N = x := ⟨_, rfl⟩
  have HR := Lib.hid hroom
  rw [hroom] at HM
  have H1 := Lib.hid h1
  have HB := Lib.hid hbl
  have HWS := Lib.hid hWs
  have hmb : mb < w.heap.size := h.lt
  have hg : g < w.heap.size := h.glo.2
  obtain ⟨O, hO⟩ : ∃ O, m.o = O := ⟨_, rfl⟩
  obtain ⟨V, hV⟩ : ∃ V, m.v = V := ⟨_, rfl⟩
  rw [hO] at ho0 ho1
  rw [hV] at hv0 hv1
  have HO := Lib.hid hO
  have HV := Lib.hid hV
  have hw1 : IntKind.i64.wrap (O + 1) = O + 1 := by rw [IntKind.wrap_i64]; omega
  have hw2 : IntKind.i64.wrap (V + 1) = V + 1 := by rw [IntKind.wrap_i64]; omega
  clear h hf hn hbl hWs h1 hN hroom hO hV hc t0 t1 hodd hsc hasks hcls hlv hov
  go_enter Tryz.func62, Tryz.ntmps62
  go_wp2_with fail
  refine HST.out.mono ?_
  rintro r w1 ⟨rfl, hb1⟩
  have HH2 := Lib.hid (H1.out.below hb1)
  have y0 : w1.cell? ⟨w.heap.size, 0, none⟩ = some (.int .i64 c) := (hb1.cell (p := ⟨w.heap.size, 0, none⟩) (by rw [HWS.out]; simp)).trans z0
  have y1 : w1.cell? ⟨w.heap.size, 1, none⟩ = some (.int .i64 f) := (hb1.cell (p := ⟨w.heap.size, 1, none⟩) (by rw [HWS.out]; simp)).trans z1
  have HB1 := Lib.hid (HB.out.trans (hb1.mono HB.out.size))
  have hlt1 : w.heap.size < w1.heap.size := by have := hb1.size; have := HWS.out; omega
  clear hb1 z0 z1
  go_wp2_with fail
  refine (HSD _).out.mono ?_
  rintro r w2 ⟨rfl, hb2⟩
  have HH3 := Lib.hid (HH2.out.below hb2)
  have HB2 := Lib.hid (HB1.out.trans (hb2.mono HB1.out.size))
  clear hb2 y0 y1 hlt1
  go_wp2_with fail
  refine (HA _ HH3.out).out.mono ?_
  rintro r w3 ⟨rfl, hb3⟩
  have HH4 := Lib.hid (HH3.out.below hb3)
  have HB3 := Lib.hid (HB2.out.trans (hb3.mono HB2.out.size))
  clear hb3
  go_wp2_with fail
  refine (HP _ HH4.out).out.mono ?_
  rintro r w4 ⟨hr, g2, cap2, hw4, hs4⟩
  rw [show (⟨N, 13, true⟩ : M.Ent).lv = N from rfl, HR.out] at hr
  subst hr
  have HW4 := Lib.hid hw4
  have HS4 := Lib.hid ((Spun.of_below HB3.out mb g).trans hs4)
  clear hs4
  cases room with
  | true =>
    rw [if_pos rfl] at HM
    have c2 := hw4.c2
    have f2 := hw4.f 2 (by omega)
    have hpv : (m.pushM ⟨N, 13, true⟩).v = V := by rw [← HV.out]; unfold M.Mc.pushM; split <;> rfl
    rw [hpv] at c2
    have HW5 := Lib.hid (hw4.setV (V + 1))
    clear hw4 hpv
    go_wp2_with fail
    go_ret2
    exact ⟨rfl, by rw [HM.out, HV.out]; exact ⟨g2, cap2, HW5.out, HS4.out.setCell 2 _⟩⟩
  | false =>
    rw [if_neg (by simp)] at HM
    have hpf : m.pushM ⟨N, 13, true⟩ = m := pushM_false HR.out
    rw [hpf] at hw4 HW4
    have c3 := hw4.c3
    have f3 := hw4.f 3 (by omega)
    rw [HO.out] at c3
    have HW5 := Lib.hid (hw4.setO (O + 1))
    clear hw4 hpf
    go_wp2_with fail
    go_ret2
    exact ⟨rfl, by rw [HM.out, HO.out]; exact ⟨g2, cap2, HW5.out, HS4.out.setCell 3 _⟩⟩
end Go.Proofs.YtjlfgojblimobaaGreat
end

section
namespace Go.Proofs.YtjlfgojblimobaaGreat
open Go.RowKit
set_option maxRecDepth 100000

def M.Mc.Ov (m : M.Mc) : Prop := ∀ x ∈ m.s, x.ov = 13 ∨ x.ov = 0 ∨ x.ov = 1
theorem M.Mc.Ov.top {m : M.Mc} (h : m.Ov) (hs : m.s ≠ []) : m.top.ov = 13 ∨ m.top.ov = 0 ∨ m.top.ov = 1 := by
  unfold M.Mc.top
  cases hm : m.s with
  | nil => exact absurd hm hs
  | cons x r => exact h x (by rw [hm]; exact List.mem_cons_self ..)
theorem M.Mc.Ok.ne_nil {b : Int} {m : M.Mc} (h : m.Ok b) : m.s ≠ [] := by
  obtain ⟨x, y, hs, _⟩ := h.bot
  rw [hs]
  simp
theorem mem_drop {s : List M.Ent} {x : M.Ent} {p : M.Ent → Bool} (h : x ∈ s.dropWhile p) : x ∈ s := (List.dropWhile_suffix p).subset h
theorem M.Mc.Ov.closed {m : M.Mc} (h : m.Ov) : m.closed.Ov := by
  unfold M.Mc.closed
  split
  · exact h
  · split
    · exact h
    · exact fun x hx => h x (mem_drop (List.mem_of_mem_tail hx))
theorem M.Mc.Ov.pop {m : M.Mc} (h : m.Ov) : m.pop.Ov := by
  unfold M.Mc.pop
  (repeat' split) <;> first | exact h | exact fun x hx => h x (List.mem_of_mem_tail hx)
theorem M.Mc.Ov.isolate {m : M.Mc} (h : m.Ov) (odd : Int) : (m.isolate odd).Ov := by
  unfold M.Mc.isolate
  split
  · intro x hx
    rcases List.mem_cons.1 hx with rfl | hx
    · exact .inl rfl
    · exact h x hx
  · exact h
theorem M.Mc.Ov.embed {m : M.Mc} (h : m.Ov) (odd : Int) {ov : Int} (ho : ov = 13 ∨ ov = 0 ∨ ov = 1) : (m.embed odd ov).Ov := by
  unfold M.Mc.embed
  (repeat' split)
  · intro x hx
    rcases List.mem_cons.1 hx with rfl | hx
    · exact ho
    · exact h x hx
  · exact h
  · exact h
theorem M.Mc.Ov.turn {m : M.Mc} (h : m.Ov) (b odd c : Int) : (m.turn b odd c).Ov := by
  unfold M.Mc.turn
  split
  · unfold M.Mc.does
    (repeat' split) <;> first | exact h.embed _ (by decide) | exact h.pop | exact h
  · (repeat' split) <;> first | exact h.closed | exact h.isolate _ | exact h | (intro x hx; obtain rfl := List.mem_singleton.1 hx; exact .inl rfl)

structure ShutC (base mb g cap : Nat) (b : Int) (m : M.Mc) (w wr : World) (t u : List M.Ent) : Prop where
  eq : m.s = t ++ u
  off : ∀ x ∈ t, x.iso = false
  cnt : 0 < u.countP (·.iso)
  at_ : WalkAt wr base mb g cap b { m with e := 0, s := u }
  spun : Spun w wr mb g g

set_option maxHeartbeats 8000000 in
theorem cend_any (base mb g cap k : Nat) (b : Int) (m : M.Mc) (f : Int) (w : World) (h : WalkAt w base mb g cap b m) (hf : m.Fit b k) (hk : k ≤ 5000) (hov : m.Ov) :
    Calls Tryz.prog 63 #[.pointer (some ⟨mb, 0, none⟩), .agg #[.int .i64 22, .int .i64 f]] w (StepOut base mb g b m.closed m.closed.top.lv (if m.closed.top.ov ≠ 13 then m.closed.top.ov else 22) w) := by
  have hok := hf.ok.closed
  obtain ⟨nq, hnq, hnk⟩ := hf.closed.size
  have hov2 := hov.closed.top hok.ne_nil
  have HST := fun g2 cap2 W h => Lib.hid (cstay_any base mb g2 cap2 nq b m.closed 22 f W h hnq (by omega) hov2)
  obtain ⟨cls, hcls⟩ : ∃ x, (if m.closed.top.ov ≠ 13 then m.closed.top.ov else (22 : Int)) = x := ⟨_, rfl⟩
  obtain ⟨lev, hlev⟩ : ∃ x, m.closed.top.lv = x := ⟨_, rfl⟩
  rw [hcls, hlev] at HST
  rw [hcls, hlev]
  have HM := Lib.hid (show m.closed = if 0 < m.o then { m with o := m.o - 1 } else if m.v = 0 then m else { m with e := 0, s := (m.s.dropWhile fun x => !x.iso).tail, v := m.v - 1 } from rfl)
  obtain ⟨M2, hM2⟩ : ∃ x, m.closed = x := ⟨_, rfl⟩
  rw [hM2] at HST HM ⊢
  have ho1 := hf.o1
  obtain ⟨hv0, hv1⟩ := hf.v0
  have hcnt := hf.ok.cnt
  have hl := hf.len
  obtain ⟨W, hW⟩ : ∃ W, w.alloc (.cells #[.int .i64 22, .int .i64 f] 80) = W := ⟨_, rfl⟩
  have hbl : Below w.heap.size w W := by rw [← hW]; exact (Below.refl _ _).alloc (Nat.le_refl _) _
  have hWs : W.heap.size = w.heap.size + 1 := by rw [← hW]; simp
  have z0 : W.cell? ⟨w.heap.size, 0, none⟩ = some (.int .i64 22) := by rw [← hW]; simp [go_sem]
  have z1 : W.cell? ⟨w.heap.size, 1, none⟩ = some (.int .i64 f) := by rw [← hW]; simp [go_sem]
  have h1 := h.below hbl
  obtain ⟨O, hO⟩ : ∃ O, m.o = O := ⟨_, rfl⟩
  obtain ⟨V, hV⟩ : ∃ V, m.v = V := ⟨_, rfl⟩
  rw [hO, hV] at HM
  rw [hO] at ho1
  rw [hV] at hv0 hv1 hcnt
  have k1 := h1.c3
  have k2 := h1.c4
  have k3 := h1.c2
  have k5 := h1.f 3 (by omega)
  have k6 := h1.f 4 (by omega)
  rw [hO] at k1
  rw [hV] at k3
  have H1 := Lib.hid h1
  have HB := Lib.hid hbl
  have HO := Lib.hid hO
  have HV := Lib.hid hV
  have HL := Lib.hid hl
  have HC := Lib.hid hcnt
  have hbox : w.heap.size < W.heap.size := by omega
  have hmw : mb < w.heap.size := h.lt
  have hgw : g < w.heap.size := h.glo.2
  clear h h1 hO hV hl hcnt hok hnq hov2 hcls hlev hM2 hf hov hbl hWs
  go_enter Tryz.func63, Tryz.ntmps63
  by_cases hO : 0 < O
  · rw [if_pos hO] at HM
    have hw1 : IntKind.i64.wrap (O - 1) = O - 1 := by rw [IntKind.wrap_i64]; omega
    have HW2 := Lib.hid (show WalkAt (W.setCell ⟨mb, 3, none⟩ (.int .i64 (O - 1))) base mb g cap b M2 by rw [HM.out]; have q := H1.out.setO (O - 1); rw [HV.out] at q; exact q)
    have hne : w.heap.size ≠ mb := by omega
    go_wp2_with fail
    refine (HST g cap _ HW2.out).out.mono ?_
    rintro r w3 ⟨rfl, hb3⟩
    have HB3 := Lib.hid hb3
    clear hb3
    go_wp2_with fail
    go_ret2
    exact ⟨rfl, g, cap, HW2.out.below HB3.out, ((Spun.of_below HB.out mb g).setCell 3 _).trans (Spun.of_below HB3.out mb g)⟩
  · rw [if_neg hO] at HM
    by_cases hV : V = 0
    · rw [if_pos hV] at HM
      have HW2 := Lib.hid (show WalkAt W base mb g cap b M2 by rw [HM.out]; exact H1.out)
      subst hV
      go_wp2_with fail
      refine (HST g cap _ HW2.out).out.mono ?_
      rintro r w3 ⟨rfl, hb3⟩
      have HB3 := Lib.hid hb3
      clear hb3
      go_wp2_with fail
      go_ret2
      exact ⟨rfl, g, cap, HW2.out.below HB3.out, (Spun.of_below HB.out mb g).trans (Spun.of_below HB3.out mb g)⟩
    · rw [if_neg hV] at HM
      have HS := Lib.hid (show ShutC base mb g cap b m W (W.setCell ⟨mb, 4, none⟩ (.int .i64 0)) [] m.s from
        ⟨rfl, fun x hx => (by cases hx), by have := HC.out; omega, H1.out.setE 0, (Spun.refl _ _ _).setCell 4 _⟩)
      have hV2 : 0 < V := by omega
      go_wp2_with fail
      go_loopw [] (fun wr => ∃ t u, ShutC base mb g cap b m W wr t u) (fun wr => sliceLen (wr.cell? ⟨mb, 1, none⟩))
      case atStart => exact ⟨[], m.s, HS.out⟩
      case round =>
        obtain ⟨t, u, hs⟩ := hrel
        have HR := Lib.hid hs
        clear hs
        cases u with
        | nil => exact absurd HR.out.cnt (by simp)
        | cons x r =>
          obtain ⟨lv, ov, iso⟩ := x
          obtain ⟨n, hn⟩ : ∃ n, r.length = n := ⟨_, rfl⟩
          have hl : n ≤ 5001 := by have h1 := HR.out.eq; have h2 := HL.out; rw [h1] at h2; simp at h2; omega
          have hn' : (⟨⟨lv, ov, iso⟩ :: r, m.o, 0, m.v⟩ : M.Mc).s.length = n + 1 := by show r.length + 1 = _; rw [hn]
          obtain ⟨ow, how⟩ : ∃ x, M.ovc ov = x := ⟨_, rfl⟩
          have HT := Lib.hid (show Calls Tryz.prog 67 #[.pointer (some ⟨mb, 0, none⟩)] wr fun q w' => q = .returned (.agg #[.int .i64 lv, .int .i64 ow, .bool iso]) ∧ Below wr.heap.size wr w' by
            rw [← how]; exact ctop_any base mb g cap n b ⟨⟨lv, ov, iso⟩ :: r, m.o, 0, m.v⟩ wr HR.out.at_ hn' (by omega))
          have HPP := fun W h => Lib.hid (cpop_any base mb g cap n b ⟨⟨lv, ov, iso⟩ :: r, m.o, 0, m.v⟩ W h hn' (by omega))
          have hfl : ∀ w : World, (Instr.field 109 (.agg #[.int .i64 lv, .int .i64 ow, .bool iso]) 2).run Tryz.prog w = .ok (.bool iso) w := fun w => by kernel_rfl
          have HZ := Lib.hid (show sliceLen (wr.cell? ⟨mb, 1, none⟩) = n + 1 by have q := HR.out.at_.c1; rw [hn'] at q; rw [q]; rfl)
          have HN2 := Lib.hid hn
          clear k1 k2 k3 k5 k6 hn' hn how
          go_wp2_with fail
          refine HT.out.mono ?_
          rintro q w1 ⟨rfl, hb⟩
          have HH1 := Lib.hid (HR.out.at_.below hb)
          have HS1 := Lib.hid (HR.out.spun.trans (Spun.of_below hb mb g))
          clear hb
          cases iso with
          | true =>
            go_wp2_with fail
            refine (HPP _ HH1.out).out.mono ?_
            rintro q w2 ⟨rfl, hw2, hs2⟩
            have hs2 : Spun w1 w2 mb g g := hs2
            have c2 : w2.cell? ⟨mb, 2, none⟩ = some (.int .i64 V) := by have q := hw2.c2; rw [← HV.out]; exact q
            have f2 := hw2.f 2 (by omega)
            have hw3 : IntKind.i64.wrap (V - 1) = V - 1 := by rw [IntKind.wrap_i64]; omega
            have HQ := Lib.hid (show WalkAt (w2.setCell ⟨mb, 2, none⟩ (.int .i64 (V - 1))) base mb g cap b M2 by
              have q := hw2.setV (V - 1)
              rw [HM.out]
              have hd := drop_here t ⟨lv, ov, true⟩ r HR.out.off rfl
              rw [← HR.out.eq] at hd
              rw [hd]
              rw [HO.out] at q
              exact q)
            have HS2 := Lib.hid (HS1.out.trans hs2)
            have x0 : w2.cell? ⟨w.heap.size, 0, none⟩ = some (.int .i64 22) := (HS2.out.cell _ _ hbox (by omega) (by omega)).trans z0
            have x1 : w2.cell? ⟨w.heap.size, 1, none⟩ = some (.int .i64 f) := (HS2.out.cell _ _ hbox (by omega) (by omega)).trans z1
            have hne : w.heap.size ≠ mb := by omega
            clear hw2 hs2 z0 z1
            go_wp2_with fail
            refine (HST g cap _ HQ.out).out.mono ?_
            rintro q w3 ⟨rfl, hb3⟩
            have HB3 := Lib.hid hb3
            clear hb3
            go_wp2_with fail
            go_ret2
            exact ⟨rfl, g, cap, HQ.out.below HB3.out, (((Spun.of_below HB.out mb g).trans HS2.out).setCell 2 _).trans (Spun.of_below HB3.out mb g)⟩
          | false =>
            go_wp2_with fail
            refine (HPP _ HH1.out).out.mono ?_
            rintro q w2 ⟨rfl, hw2, hs2⟩
            have HW2 := Lib.hid hw2
            have HS2 := Lib.hid (HS1.out.trans hs2)
            clear hw2 hs2
            go_wp2_with fail
            go_roundw
            case rel =>
              refine ⟨t ++ [⟨lv, ov, false⟩], r, ⟨?_, ?_, ?_, HW2.out, HS2.out⟩⟩
              · rw [HR.out.eq]; simp
              · intro y hy
                rcases List.mem_append.1 hy with hy | hy
                · exact HR.out.off y hy
                · obtain rfl := List.mem_singleton.1 hy
                  rfl
              · have := HR.out.cnt
                rw [List.countP_cons_of_neg (by simp)] at this
                exact this
            case measure =>
              rw [HZ.out]
              have q := HW2.out.c1
              rw [q]
              have e := HN2.out
              show r.length < n + 1
              omega
end Go.Proofs.YtjlfgojblimobaaGreat
end

section
namespace Go.Proofs.YtjlfgojblimobaaGreat
open Go.RowKit
set_option maxRecDepth 100000

set_option maxHeartbeats 8000000 in
theorem cpdf_any (base mb g cap k : Nat) (b : Int) (m : M.Mc) (c f : Int) (w : World) (h : WalkAt w base mb g cap b m) (hf : m.Fit b k) (hk : k ≤ 5000) :
    Calls Tryz.prog 64 #[.pointer (some ⟨mb, 0, none⟩), .agg #[.int .i64 c, .int .i64 f]] w (StepOut base mb g b m.pop (-1) c w) := by
  obtain ⟨n, hn, hnk⟩ := hf.size
  have he1 := hf.e1
  have hRM := fun W => Lib.hid (cremove_any mb c f W)
  obtain ⟨W, hW⟩ : ∃ W, w.alloc (.cells #[.int .i64 c, .int .i64 f] 80) = W := ⟨_, rfl⟩
  have hbl : Below w.heap.size w W := by rw [← hW]; exact (Below.refl _ _).alloc (Nat.le_refl _) _
  have hWs : W.heap.size = w.heap.size + 1 := by rw [← hW]; simp
  have z0 : W.cell? ⟨w.heap.size, 0, none⟩ = some (.int .i64 c) := by rw [← hW]; simp [go_sem]
  have z1 : W.cell? ⟨w.heap.size, 1, none⟩ = some (.int .i64 f) := by rw [← hW]; simp [go_sem]
  have h1 := h.below hbl
  obtain ⟨t, ht⟩ : ∃ t, m.top = t := ⟨_, rfl⟩
  have HT := Lib.hid (ctop_any base mb g cap n b m W h1 hn (by omega))
  have HPP := fun W h => Lib.hid (cpop_any base mb g cap n b m W h hn (by omega))
  have HM := Lib.hid (show m.pop = if 0 < m.o then m else if 0 < m.e then { m with e := m.e - 1 } else if 1 < m.s.length ∧ t.iso = false then { m with s := m.s.tail } else m by rw [← ht]; rfl)
  rw [ht] at HT
  obtain ⟨lv, ov, iso⟩ := t
  obtain ⟨ow, how⟩ : ∃ x, M.ovc ov = x := ⟨_, rfl⟩
  rw [show (⟨lv, ov, iso⟩ : M.Ent).lv = lv from rfl, show (⟨lv, ov, iso⟩ : M.Ent).ov = ov from rfl, show (⟨lv, ov, iso⟩ : M.Ent).iso = iso from rfl, how] at HT
  rw [show (⟨lv, ov, iso⟩ : M.Ent).iso = iso from rfl] at HM
  have hfl : ∀ w : World, (Instr.field 109 (.agg #[.int .i64 lv, .int .i64 ow, .bool iso]) 2).run Tryz.prog w = .ok (.bool iso) w := fun w => by kernel_rfl
  obtain ⟨O, hO⟩ : ∃ O, m.o = O := ⟨_, rfl⟩
  obtain ⟨E, hE⟩ : ∃ E, m.e = E := ⟨_, rfl⟩
  rw [hO, hE, hn] at HM
  rw [hE] at he1
  have k1 := h1.c3
  have k2 := h1.c4
  have k5 := h1.f 4 (by omega)
  rw [hO] at k1
  rw [hE] at k2
  have H1 := Lib.hid h1
  have HB := Lib.hid hbl
  have HO := Lib.hid hO
  have HE := Lib.hid hE
  have HN := Lib.hid hn
  have hbox : w.heap.size < W.heap.size := by omega
  have hmw : mb < w.heap.size := h.lt
  have hgw : g < w.heap.size := h.glo.2
  clear h h1 hO hE hf hbl hWs hn ht how
  go_enter Tryz.func64, Tryz.ntmps64
  by_cases hO : 0 < O
  · rw [if_pos hO] at HM
    go_wp2_with fail
    refine (hRM _).out.mono ?_
    rintro r w3 ⟨rfl, hb3⟩
    have HB3 := Lib.hid hb3
    clear hb3
    go_wp2_with fail
    go_ret2
    exact ⟨rfl, by rw [HM.out]; exact ⟨g, cap, H1.out.below HB3.out, (Spun.of_below HB.out mb g).trans (Spun.of_below HB3.out mb g)⟩⟩
  · rw [if_neg hO] at HM
    by_cases hE : 0 < E
    · rw [if_pos hE] at HM
      have hw1 : IntKind.i64.wrap (E - 1) = E - 1 := by rw [IntKind.wrap_i64]; omega
      have HW2 := Lib.hid (H1.out.setE (E - 1))
      have hne : w.heap.size ≠ mb := by omega
      go_wp2_with fail
      refine (hRM _).out.mono ?_
      rintro r w3 ⟨rfl, hb3⟩
      have HB3 := Lib.hid hb3
      clear hb3
      go_wp2_with fail
      go_ret2
      exact ⟨rfl, by rw [HM.out]; exact ⟨g, cap, by have q := HW2.out.below HB3.out; rw [HO.out] at q; exact q, ((Spun.of_below HB.out mb g).setCell 4 _).trans (Spun.of_below HB3.out mb g)⟩⟩
    · rw [if_neg hE] at HM
      go_wp2_with fail
      refine HT.out.mono ?_
      rintro r w1 ⟨rfl, hb⟩
      have HH1 := Lib.hid (H1.out.below hb)
      have HS1 := Lib.hid ((Spun.of_below HB.out mb g).trans (Spun.of_below hb mb g))
      have x0 : w1.cell? ⟨w.heap.size, 0, none⟩ = some (.int .i64 c) := (hb.cell (p := ⟨w.heap.size, 0, none⟩) hbox).trans z0
      have x1 : w1.cell? ⟨w.heap.size, 1, none⟩ = some (.int .i64 f) := (hb.cell (p := ⟨w.heap.size, 1, none⟩) hbox).trans z1
      have j1 := HH1.out.c1
      rw [HN.out] at j1
      have hbox1 : w.heap.size < w1.heap.size := by have := hb.size; omega
      clear hb z0 z1 k1 k2 k5
      cases iso with
      | true =>
        rw [if_neg (by simp)] at HM
        go_wp2_with fail
        refine (hRM _).out.mono ?_
        rintro r w3 ⟨rfl, hb3⟩
        have HB3 := Lib.hid hb3
        clear hb3
        go_wp2_with fail
        go_ret2
        exact ⟨rfl, by rw [HM.out]; exact ⟨g, cap, HH1.out.below HB3.out, HS1.out.trans (Spun.of_below HB3.out mb g)⟩⟩
      | false =>
        by_cases hn1 : n = 0
        · subst hn1
          rw [if_neg (by omega)] at HM
          go_wp2_with fail
          refine (hRM _).out.mono ?_
          rintro r w3 ⟨rfl, hb3⟩
          have HB3 := Lib.hid hb3
          clear hb3
          go_wp2_with fail
          go_ret2
          exact ⟨rfl, by rw [HM.out]; exact ⟨g, cap, HH1.out.below HB3.out, HS1.out.trans (Spun.of_below HB3.out mb g)⟩⟩
        · rw [if_pos ⟨by omega, rfl⟩] at HM
          have hn2 : (1 : Int) < (n : Int) + 1 := by omega
          go_wp2_with fail
          refine (HPP _ HH1.out).out.mono ?_
          rintro q w2 ⟨rfl, hw2, hs2⟩
          have y0 : w2.cell? ⟨w.heap.size, 0, none⟩ = some (.int .i64 c) := (hs2.cell _ _ hbox1 (by omega) (by omega)).trans x0
          have y1 : w2.cell? ⟨w.heap.size, 1, none⟩ = some (.int .i64 f) := (hs2.cell _ _ hbox1 (by omega) (by omega)).trans x1
          have HW2 := Lib.hid hw2
          have HS2 := Lib.hid (HS1.out.trans hs2)
          clear hw2 hs2 x0 x1 j1
          go_wp2_with fail
          refine (hRM _).out.mono ?_
          rintro r w3 ⟨rfl, hb3⟩
          have HB3 := Lib.hid hb3
          clear hb3
          go_wp2_with fail
          go_ret2
          exact ⟨rfl, by rw [HM.out]; exact ⟨g, cap, by have q := HW2.out.below HB3.out; rw [HO.out, HE.out] at q; exact q, HS2.out.trans (Spun.of_below HB3.out mb g)⟩⟩

def WalkNew (b : Int) (w : World) (r : Ending) (w' : World) : Prop :=
  ∃ mb g cap, r = .returned (.pointer (some ⟨mb, 0, none⟩)) ∧ WalkAt w' w.heap.size mb g cap b (M.fresh b) ∧ Below w.heap.size w w'
theorem begun_at (b : Int) (w : World) (t : TypeId) : WalkAt ((w.alloc (.cells #[.int .i64 b, .int .i64 (-1), .bool false] 109)).alloc (.cells #[.int .i64 b, .slice (some ⟨w.heap.size, 0, none⟩) 1 1, .int .i64 0, .int .i64 0, .int .i64 0] t)) w.heap.size (w.heap.size + 1) w.heap.size 1 b (M.fresh b) := by
  obtain ⟨W, hW⟩ : ∃ W, w.alloc (.cells #[.int .i64 b, .int .i64 (-1), .bool false] 109) = W := ⟨_, rfl⟩
  have hs : W.heap.size = w.heap.size + 1 := by rw [← hW]; simp
  have hg : W.heap[w.heap.size]? = some (.cells #[.int .i64 b, .int .i64 (-1), .bool false] 109 (0, 0)) := by rw [← hW]; exact World.alloc_heap_new w _
  rw [hW, ← hs]
  have hn : (W.alloc (.cells #[.int .i64 b, .slice (some ⟨w.heap.size, 0, none⟩) 1 1, .int .i64 0, .int .i64 0, .int .i64 0] t)).heap[W.heap.size]? = some (.cells #[.int .i64 b, .slice (some ⟨w.heap.size, 0, none⟩) 1 1, .int .i64 0, .int .i64 0, .int .i64 0] t (0, 0)) := World.alloc_heap_new W _
  have hg2 := (Below.heap_alloc W (.cells #[.int .i64 b, .slice (some ⟨w.heap.size, 0, none⟩) 1 1, .int .i64 0, .int .i64 0, .int .i64 0] t) w.heap.size (by omega)).trans hg
  refine ⟨?_, ?_, ?_, ?_, ?_, fun k hk => ?_, ⟨rfl, .inr ⟨w.heap.size, 1, #[.int .i64 b, .int .i64 (-1), .bool false], rfl, Nat.le_refl _, hg2, Nat.le_refl _, by unfold maxLen; omega, rfl, rfl⟩⟩, by omega, by simp, by omega⟩
  case refine_6 => unfold World.frozen?; rw [hn]; simp
  all_goals (unfold World.cell?; rw [hn]; rfl)
set_option maxHeartbeats 4000000 in
theorem begun_any (b : Int) (w : World) : Calls Tryz.prog 34 #[.int .i64 b] w (WalkNew b w) := by
  go_enter Tryz.func34, Tryz.ntmps34
  go_wp2_with fail
  go_ret
  exact ⟨_, _, _, rfl, begun_at b w _, ((Below.refl _ _).alloc (Nat.le_refl _) _).alloc (by simp) _⟩
end Go.Proofs.YtjlfgojblimobaaGreat
end

section
namespace Go.Proofs.YtjlfgojblimobaaGreat
open Go.RowKit
set_option maxRecDepth 100000

theorem WalkAt.anew {w w2 : World} {base mb g cap B2 mb2 g2 cap2 : Nat} {b : Int} {m : M.Mc} (h : WalkAt w base mb g cap b m) (h2 : WalkAt w2 B2 mb2 g2 cap2 b (M.fresh b)) (hb : Below w.heap.size w w2) (hB : w.heap.size ≤ B2) :
    WalkAt (((((w2.setCell ⟨mb, 0, none⟩ (.int .i64 b)).setCell ⟨mb, 1, none⟩ (.slice (some ⟨g2, 0, none⟩) 1 cap2)).setCell ⟨mb, 2, none⟩ (.int .i64 0)).setCell ⟨mb, 3, none⟩ (.int .i64 0)).setCell ⟨mb, 4, none⟩ (.int .i64 0)) base mb g2 cap2 b (M.fresh b) ∧
    Spun w (((((w2.setCell ⟨mb, 0, none⟩ (.int .i64 b)).setCell ⟨mb, 1, none⟩ (.slice (some ⟨g2, 0, none⟩) 1 cap2)).setCell ⟨mb, 2, none⟩ (.int .i64 0)).setCell ⟨mb, 3, none⟩ (.int .i64 0)).setCell ⟨mb, 4, none⟩ (.int .i64 0)) mb g g2 := by
  have hlt := h.lt
  have hlo := h.lo
  have hg2 := h2.glo.1
  have hg3 := h2.glo.2
  have hne : mb ≠ g2 := by omega
  have h1 := h.below hb
  have hrow : OwnC w2 base g2 1 cap2 (M.fresh b).s.reverse := own_base h2.row (by omega)
  refine ⟨?_, ?_⟩
  · have q0 := World.cell?_setCell_same w2 _ (.int .i64 b) h1.c0
    have s0 := rowC_set (mb := mb) (k := 0) hrow hne (.int .i64 b)
    have s1 := rowC_set (mb := mb) (k := 1) s0 hne (.slice (some ⟨g2, 0, none⟩) 1 cap2)
    have s2 := rowC_set (mb := mb) (k := 2) s1 hne (.int .i64 0)
    have s3 := rowC_set (mb := mb) (k := 3) s2 hne (.int .i64 0)
    have s4 := rowC_set (mb := mb) (k := 4) s3 hne (.int .i64 0)
    obtain ⟨c0, c1, c2, c3, c4, f, row, lo, lt, ne⟩ := h1
    have o0 : (⟨mb, 0, none⟩ : Addr) ≠ ⟨mb, 1, none⟩ := off_ne (by omega)
    refine ⟨?_, ?_, ?_, ?_, ?_, fun k hk => ?_, s4, lo, by simpa [World.setCell] using lt, hne⟩
    · rw [World.cell?_setCell_other _ _ _ _ (off_ne (by omega)), World.cell?_setCell_other _ _ _ _ (off_ne (by omega)), World.cell?_setCell_other _ _ _ _ (off_ne (by omega)), World.cell?_setCell_other _ _ _ _ (off_ne (by omega))]
      exact q0
    · rw [World.cell?_setCell_other _ _ _ _ (off_ne (by omega)), World.cell?_setCell_other _ _ _ _ (off_ne (by omega)), World.cell?_setCell_other _ _ _ _ (off_ne (by omega))]
      exact World.cell?_setCell_same _ _ _ (by rw [World.cell?_setCell_other _ _ _ _ (off_ne (by omega))]; exact c1)
    · rw [World.cell?_setCell_other _ _ _ _ (off_ne (by omega)), World.cell?_setCell_other _ _ _ _ (off_ne (by omega))]
      exact World.cell?_setCell_same _ _ _ (by rw [World.cell?_setCell_other _ _ _ _ (off_ne (by omega)), World.cell?_setCell_other _ _ _ _ (off_ne (by omega))]; exact c2)
    · rw [World.cell?_setCell_other _ _ _ _ (off_ne (by omega))]
      exact World.cell?_setCell_same _ _ _ (by rw [World.cell?_setCell_other _ _ _ _ (off_ne (by omega)), World.cell?_setCell_other _ _ _ _ (off_ne (by omega)), World.cell?_setCell_other _ _ _ _ (off_ne (by omega))]; exact c3)
    · exact World.cell?_setCell_same _ _ _ (by rw [World.cell?_setCell_other _ _ _ _ (off_ne (by omega)), World.cell?_setCell_other _ _ _ _ (off_ne (by omega)), World.cell?_setCell_other _ _ _ _ (off_ne (by omega)), World.cell?_setCell_other _ _ _ _ (off_ne (by omega))]; exact c4)
    · rw [World.frozen?_setCell, World.frozen?_setCell, World.frozen?_setCell, World.frozen?_setCell, World.frozen?_setCell]
      exact f k hk
  · have q : Spun w w2 mb g g2 := ⟨hb.os, hb.tape, hb.output, hb.size, fun b hb1 _ _ => hb.block b hb1, .inr (by omega)⟩
    exact ((((q.setCell 0 _).setCell 1 _).setCell 2 _).setCell 3 _).setCell 4 _
set_option maxHeartbeats 8000000 in
theorem canew_any (base mb g cap : Nat) (b : Int) (m : M.Mc) (c f : Int) (w : World) (h : WalkAt w base mb g cap b m) :
    Calls Tryz.prog 65 #[.pointer (some ⟨mb, 0, none⟩), .agg #[.int .i64 c, .int .i64 f]] w (StepOut base mb g b (M.fresh b) b c w) := by
  obtain ⟨W, hW⟩ : ∃ W, w.alloc (.cells #[.int .i64 c, .int .i64 f] 80) = W := ⟨_, rfl⟩
  have hbl : Below w.heap.size w W := by rw [← hW]; exact (Below.refl _ _).alloc (Nat.le_refl _) _
  have hWs : W.heap.size = w.heap.size + 1 := by rw [← hW]; simp
  have z0 : W.cell? ⟨w.heap.size, 0, none⟩ = some (.int .i64 c) := by rw [← hW]; simp [go_sem]
  have z1 : W.cell? ⟨w.heap.size, 1, none⟩ = some (.int .i64 f) := by rw [← hW]; simp [go_sem]
  have h1 := h.below hbl
  have k0 := h1.c0
  have HBN := Lib.hid (begun_any b W)
  have HST := fun g2 cap2 W h => Lib.hid (cstay_any base mb g2 cap2 0 b (M.fresh b) c f W h rfl (by omega) (.inl rfl))
  have HB := Lib.hid hbl
  have HH := Lib.hid h1
  have hmw : mb < w.heap.size := h.lt
  have hbox : w.heap.size < W.heap.size := by omega
  clear h h1 hbl hWs
  go_enter Tryz.func65, Tryz.ntmps65
  go_wp2_with fail
  refine HBN.out.mono ?_
  rintro r w2 ⟨mb2, g2, cap2, rfl, hn, hb2⟩
  have x0 : w2.cell? ⟨w.heap.size, 0, none⟩ = some (.int .i64 c) := (hb2.cell (p := ⟨w.heap.size, 0, none⟩) hbox).trans z0
  have x1 : w2.cell? ⟨w.heap.size, 1, none⟩ = some (.int .i64 f) := (hb2.cell (p := ⟨w.heap.size, 1, none⟩) hbox).trans z1
  have HA := Lib.hid (HH.out.anew hn hb2 (Nat.le_refl _))
  have d0 := hn.c0
  have d1 : w2.cell? ⟨mb2, 1, none⟩ = some (.slice (some ⟨g2, 0, none⟩) 1 cap2) := hn.c1
  have d2 : w2.cell? ⟨mb2, 2, none⟩ = some (.int .i64 0) := hn.c2
  have d3 : w2.cell? ⟨mb2, 3, none⟩ = some (.int .i64 0) := hn.c3
  have d4 : w2.cell? ⟨mb2, 4, none⟩ = some (.int .i64 0) := hn.c4
  have hh2 := HH.out.below hb2
  have e0 := hh2.c0
  have e1 := hh2.c1
  have e2 := hh2.c2
  have e3 := hh2.c3
  have e4 := hh2.c4
  have f0 := hh2.f 0 (by omega)
  have f1 := hh2.f 1 (by omega)
  have f2 := hh2.f 2 (by omega)
  have f3 := hh2.f 3 (by omega)
  have f4 := hh2.f 4 (by omega)
  have hne : w.heap.size ≠ mb := by omega
  clear z0 z1 hn hb2 hh2 k0
  go_wp2_with fail
  refine (HST g2 cap2 _ HA.out.1).out.mono ?_
  rintro r w3 ⟨rfl, hb3⟩
  have HB3 := Lib.hid hb3
  clear hb3
  go_wp2_with fail
  go_ret2
  exact ⟨rfl, g2, cap2, HA.out.1.below HB3.out, ((Spun.of_below HB.out mb g).trans HA.out.2).trans (Spun.of_below HB3.out mb g2)⟩
end Go.Proofs.YtjlfgojblimobaaGreat
end
