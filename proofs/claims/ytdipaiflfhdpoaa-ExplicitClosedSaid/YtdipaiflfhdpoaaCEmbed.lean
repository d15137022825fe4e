/- The contract of the walk's embed: what RLE, LRE, RLO and LRO do. Condition: the walk is right, its counts small. -/
import Derived.Test.YtdipaiflfhdpoaaCStay
namespace Go.Proofs.Ytdipaiflfhdpoaa
open Go.RowKit

/-- What a class does: it answers a level and a class, and turns the walk. -/
def StepOut (base mb g : Nat) (b : Int) (m : M.Mc) (lev cls : Int) (w : World) (r : Ending) (w' : World) : Prop := r = .returned (.tuple #[.int .i64 lev, .int .i64 cls]) ∧ WalkOut base mb g b m w w'
theorem M.Mc.roomE_iff {m : M.Mc} (h0 : 0 ≤ m.o) (h1 : 0 ≤ m.e) (odd : Int) : m.roomE (m.next odd) = true ↔ m.room odd := by
  unfold M.Mc.roomE M.Mc.room
  simp
  omega
theorem M.Mc.embed_eq {m : M.Mc} (h0 : 0 ≤ m.o) (h1 : 0 ≤ m.e) (odd ov : Int) : m.embed odd ov = if m.roomE (m.next odd) = true then m.pushM ⟨m.next odd, ov, false⟩ else if m.o = 0 then { m with e := m.e + 1 } else m := by
  unfold M.Mc.embed
  by_cases h : m.room odd
  · have h2 := (M.Mc.roomE_iff h0 h1 odd).2 h
    rw [if_pos h, if_pos h2]
    unfold M.Mc.pushM
    rw [if_pos h2]
  · have h2 : ¬ m.roomE (m.next odd) = true := fun q => h ((M.Mc.roomE_iff h0 h1 odd).1 q)
    rw [if_neg h, if_neg h2]
theorem M.Mc.isolate_eq {m : M.Mc} (h0 : 0 ≤ m.o) (h1 : 0 ≤ m.e) (odd : Int) : m.isolate odd = if m.roomE (m.next odd) = true then { m.pushM ⟨m.next odd, 13, true⟩ with v := m.v + 1 } else { m with o := m.o + 1 } := by
  unfold M.Mc.isolate
  by_cases h : m.room odd
  · have h2 := (M.Mc.roomE_iff h0 h1 odd).2 h
    rw [if_pos h, if_pos h2]
    unfold M.Mc.pushM
    rw [if_pos h2]
  · have h2 : ¬ m.roomE (m.next odd) = true := fun q => h ((M.Mc.roomE_iff h0 h1 odd).1 q)
    rw [if_neg h, if_neg h2]
theorem Spun.cell {w w' : World} {mb g g' : Nat} (h : Spun w w' mb g g') (b k : Nat) (h0 : b < w.heap.size) (h1 : b ≠ mb) (h2 : b ≠ g) : w'.cell? ⟨b, k, none⟩ = w.cell? ⟨b, k, none⟩ :=
  World.cell?_of_block (h.block b h0 h1 h2)
theorem pushM_false {m : M.Mc} {e : M.Ent} (h : m.roomE e.lv = false) : m.pushM e = m := by unfold M.Mc.pushM; rw [if_neg (by rw [h]; simp)]
set_option maxHeartbeats 4000000 in
theorem cembed_any (base mb g cap k : Nat) (b : Int) (m : M.Mc) (c f odd ov : Int) (hc : M.asks c odd (M.ovc ov) false) (w : World) (h : WalkAt w base mb g cap b m) (hf : m.Fit b k) (hk : k ≤ 5000) (hb : 0 ≤ b) :
    Calls Try.prog 36 #[.pointer (some ⟨mb, 0, none⟩), .agg #[.int .i64 c, .int .i64 f]] w (StepOut base mb g b (m.embed odd ov) (-1) c w) := by
  obtain ⟨n, hn, hnk⟩ := hf.size
  obtain ⟨t0, t1⟩ := hf.top hb
  have he1 := hf.e1
  have ho1 := hf.o1
  have HM := Lib.hid (M.Mc.embed_eq hf.ok.o0 hf.ok.e0 odd ov)
  have ho0 := hf.ok.o0
  have he0 := hf.ok.e0
  obtain ⟨W, hW⟩ : ∃ W, w.alloc (.cells #[.int .i64 c, .int .i64 f] 56) = W := ⟨_, rfl⟩
  have hbl : Below w.heap.size w W := by rw [← hW]; exact (Below.refl _ _).alloc (Nat.le_refl _) _
  have hWs : W.heap.size = w.heap.size + 1 := by rw [← hW]; simp
  have z0 : W.cell? ⟨w.heap.size, 0, none⟩ = some (.int .i64 c) := by rw [← hW]; simp [go_sem]
  have z1 : W.cell? ⟨w.heap.size, 1, none⟩ = some (.int .i64 f) := by rw [← hW]; simp [go_sem]
  have h1 := h.below hbl
  have HA := Lib.hid (casked_any base mb g cap n b m c odd (M.ovc ov) false hc W h1 hn (by omega) t0 t1)
  obtain ⟨N, hN⟩ : ∃ N, m.next odd = N := ⟨_, rfl⟩
  obtain ⟨ow, how⟩ : ∃ x, M.ovc ov = x := ⟨_, rfl⟩
  rw [hN] at HM
  rw [hN, how] at HA
  have HP := fun W h => Lib.hid (cpush_any base mb g cap n b m N ow false ⟨N, ov, false⟩ (by rw [← how]; rfl) rfl W h hn (by omega))
  obtain ⟨room, hroom⟩ : ∃ x, m.roomE N = x := ⟨_, rfl⟩
  have HR := Lib.hid hroom
  rw [hroom] at HM
  have H1 := Lib.hid h1
  have HB := Lib.hid hbl
  have HWS := Lib.hid hWs
  have hmb : mb < w.heap.size := h.lt
  have hg : g < w.heap.size := h.glo.2
  obtain ⟨O, hO⟩ : ∃ O, m.o = O := ⟨_, rfl⟩
  obtain ⟨E, hE⟩ : ∃ E, m.e = E := ⟨_, rfl⟩
  rw [hO] at ho0 ho1 HM
  rw [hE] at he0 he1 HM
  have HO := Lib.hid hO
  have HE := Lib.hid hE
  have hw1 : IntKind.i64.wrap (E + 1) = E + 1 := by rw [IntKind.wrap_i64]; omega
  clear h hf hn hbl hWs h1 hN how hroom hO hE hc t0 t1
  go_enter Try.func36, Try.ntmps36
  go_wp2_with fail
  refine HA.out.mono ?_
  rintro r w1 ⟨rfl, hb1⟩
  have h2 := H1.out.below hb1
  have y0 : w1.cell? ⟨w.heap.size, 0, none⟩ = some (.int .i64 c) := (hb1.cell (p := ⟨w.heap.size, 0, none⟩) (by rw [HWS.out]; simp)).trans z0
  have y1 : w1.cell? ⟨w.heap.size, 1, none⟩ = some (.int .i64 f) := (hb1.cell (p := ⟨w.heap.size, 1, none⟩) (by rw [HWS.out]; simp)).trans z1
  have HX := Lib.hid (HP w1 h2).out
  have HB1 := Lib.hid (HB.out.trans (hb1.mono HB.out.size))
  have hlt1 : w.heap.size < w1.heap.size := by have := hb1.size; have := HWS.out; omega
  clear hb1 h2 z0 z1
  go_wp2_with fail
  refine HX.out.mono ?_
  rintro r w2 ⟨hr, g2, cap2, hw2, hs2⟩
  rw [show (⟨N, ov, false⟩ : M.Ent).lv = N from rfl, HR.out] at hr
  subst hr
  have x0 : w2.cell? ⟨w.heap.size, 0, none⟩ = some (.int .i64 c) := (hs2.cell _ _ hlt1 (by omega) (by omega)).trans y0
  have x1 : w2.cell? ⟨w.heap.size, 1, none⟩ = some (.int .i64 f) := (hs2.cell _ _ hlt1 (by omega) (by omega)).trans y1
  have HW2 := Lib.hid hw2
  have HS2 := Lib.hid ((Spun.of_below HB1.out mb g).trans hs2)
  cases room with
  | true =>
    rw [if_pos rfl] at HM
    clear hw2 hs2 y0 y1
    go_wp2_with fail
    refine (cremove_any mb c f w2).mono ?_
    rintro r w3 ⟨rfl, hb3⟩
    have HB3 := Lib.hid hb3
    clear hb3
    go_wp2_with fail
    go_ret2
    exact ⟨rfl, by rw [HM.out]; exact ⟨g2, cap2, HW2.out.below HB3.out, HS2.out.trans (Spun.of_below HB3.out mb g2)⟩⟩
  | false =>
    rw [if_neg (by simp)] at HM
    have hpf : m.pushM ⟨N, ov, false⟩ = m := pushM_false HR.out
    rw [hpf] at hw2 HW2
    have c3 := hw2.c3
    have c4 := hw2.c4
    have f4 := hw2.f 4 (by omega)
    rw [HO.out] at c3
    rw [HE.out] at c4
    have hmb2 := hw2.lt
    clear hw2 hs2 y0 y1 hpf
    by_cases hO0 : O = 0
    · rw [if_pos hO0] at HM
      subst hO0
      have HW3 := Lib.hid (HW2.out.setE (E + 1))
      have hne : w.heap.size ≠ mb := by omega
      have HX2 := fun W => Lib.hid (cremove_any mb c f W)
      go_wp2_with fail
      refine (HX2 _).out.mono ?_
      rintro r w3 ⟨rfl, hb3⟩
      have HB3 := Lib.hid hb3
      clear hb3
      go_wp2_with fail
      go_ret2
      exact ⟨rfl, by rw [HM.out]; exact ⟨g2, cap2, by have q := HW3.out.below HB3.out; rw [HO.out] at q; exact q, (HS2.out.setCell 4 _).trans (Spun.of_below HB3.out mb g2)⟩⟩
    · rw [if_neg hO0] at HM
      have HX2 := fun W => Lib.hid (cremove_any mb c f W)
      go_wp2_with fail
      refine (HX2 _).out.mono ?_
      rintro r w3 ⟨rfl, hb3⟩
      have HB3 := Lib.hid hb3
      clear hb3
      go_wp2_with fail
      go_ret2
      exact ⟨rfl, by rw [HM.out]; exact ⟨g2, cap2, HW2.out.below HB3.out, HS2.out.trans (Spun.of_below HB3.out mb g2)⟩⟩
end Go.Proofs.Ytdipaiflfhdpoaa
