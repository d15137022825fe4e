/- The contract of the walk's beginIsolate: what RLI, LRI and FSI do. Condition: the walk is right, its counts small, its overrides known. -/
import Derived.Test.YtdipaiflfhdpoaaCEmbed
namespace Go.Proofs.Ytdipaiflfhdpoaa
open Go.RowKit

theorem asks_iso {c f : Int} (h : c = 19 ∨ c = 20 ∨ c = 21) : M.asks (M.sidedC c f) (M.oddOf c f) (M.ovc 13) true := by
  unfold M.asks M.sidedC M.oddOf M.ovc
  rcases h with rfl | rfl | rfl
  · simp
  · simp
  · by_cases h1 : f = 1 <;> simp [h1]
set_option maxHeartbeats 4000000 in
theorem cisolate_any (base mb g cap k : Nat) (b : Int) (m : M.Mc) (c f : Int) (hc : c = 19 ∨ c = 20 ∨ c = 21) (w : World) (h : WalkAt w base mb g cap b m) (hf : m.Fit b k) (hk : k ≤ 5000) (hb : 0 ≤ b) (hov : m.top.ov = 13 ∨ m.top.ov = 0 ∨ m.top.ov = 1) :
    Calls Try.prog 37 #[.pointer (some ⟨mb, 0, none⟩), .agg #[.int .i64 c, .int .i64 f]] w (StepOut base mb g b (m.isolate (M.oddOf c f)) m.top.lv (if m.top.ov ≠ 13 then m.top.ov else c) w) := by
  obtain ⟨n, hn, hnk⟩ := hf.size
  obtain ⟨t0, t1⟩ := hf.top hb
  have ho1 := hf.o1
  obtain ⟨hv0, hv1⟩ := hf.v0
  have hasks := asks_iso (f := f) hc
  obtain ⟨odd, hodd⟩ : ∃ x, M.oddOf c f = x := ⟨_, rfl⟩
  obtain ⟨sc, hsc⟩ : ∃ x, M.sidedC c f = x := ⟨_, rfl⟩
  rw [hodd] at hasks ⊢
  rw [hsc] at hasks
  have HM := Lib.hid (M.Mc.isolate_eq hf.ok.o0 hf.ok.e0 odd)
  have ho0 := hf.ok.o0
  obtain ⟨W, hW⟩ : ∃ W, w.alloc (.cells #[.int .i64 c, .int .i64 f] 56) = W := ⟨_, rfl⟩
  have hbl : Below w.heap.size w W := by rw [← hW]; exact (Below.refl _ _).alloc (Nat.le_refl _) _
  have hWs : W.heap.size = w.heap.size + 1 := by rw [← hW]; simp
  have z0 : W.cell? ⟨w.heap.size, 0, none⟩ = some (.int .i64 c) := by rw [← hW]; simp [go_sem]
  have z1 : W.cell? ⟨w.heap.size, 1, none⟩ = some (.int .i64 f) := by rw [← hW]; simp [go_sem]
  have h1 := h.below hbl
  have HST := Lib.hid (cstay_any base mb g cap n b m c f W h1 hn (by omega) hov)
  have HSD := fun W => Lib.hid (csided_any c f W)
  obtain ⟨cls, hcls⟩ : ∃ x, (if m.top.ov ≠ 13 then m.top.ov else c) = x := ⟨_, rfl⟩
  obtain ⟨lv, hlv⟩ : ∃ x, m.top.lv = x := ⟨_, rfl⟩
  rw [hcls, hlv] at HST
  rw [hcls, hlv]
  rw [hsc] at HSD
  have HA := fun W h => Lib.hid (casked_any base mb g cap n b m sc odd (M.ovc 13) true hasks W h hn (by omega) t0 t1)
  obtain ⟨N, hN⟩ : ∃ N, m.next odd = N := ⟨_, rfl⟩
  rw [hN] at HM
  rw [hN, show M.ovc 13 = -1 from rfl] at HA
  have HP := fun W h => Lib.hid (cpush_any base mb g cap n b m N (-1) true ⟨N, 13, true⟩ rfl rfl W h hn (by omega))
  obtain ⟨room, hroom⟩ : ∃ x, m.roomE N = x := ⟨_, rfl⟩
  have HR := Lib.hid hroom
  rw [hroom] at HM
  have H1 := Lib.hid h1
  have HB := Lib.hid hbl
  have HWS := Lib.hid hWs
  have hmb : mb < w.heap.size := h.lt
  have hg : g < w.heap.size := h.glo.2
  obtain ⟨O, hO⟩ : ∃ O, m.o = O := ⟨_, rfl⟩
  obtain ⟨V, hV⟩ : ∃ V, m.v = V := ⟨_, rfl⟩
  rw [hO] at ho0 ho1
  rw [hV] at hv0 hv1
  have HO := Lib.hid hO
  have HV := Lib.hid hV
  have hw1 : IntKind.i64.wrap (O + 1) = O + 1 := by rw [IntKind.wrap_i64]; omega
  have hw2 : IntKind.i64.wrap (V + 1) = V + 1 := by rw [IntKind.wrap_i64]; omega
  clear h hf hn hbl hWs h1 hN hroom hO hV hc t0 t1 hodd hsc hasks hcls hlv hov
  go_enter Try.func37, Try.ntmps37
  go_wp2_with fail
  refine HST.out.mono ?_
  rintro r w1 ⟨rfl, hb1⟩
  have HH2 := Lib.hid (H1.out.below hb1)
  have y0 : w1.cell? ⟨w.heap.size, 0, none⟩ = some (.int .i64 c) := (hb1.cell (p := ⟨w.heap.size, 0, none⟩) (by rw [HWS.out]; simp)).trans z0
  have y1 : w1.cell? ⟨w.heap.size, 1, none⟩ = some (.int .i64 f) := (hb1.cell (p := ⟨w.heap.size, 1, none⟩) (by rw [HWS.out]; simp)).trans z1
  have HB1 := Lib.hid (HB.out.trans (hb1.mono HB.out.size))
  have hlt1 : w.heap.size < w1.heap.size := by have := hb1.size; have := HWS.out; omega
  clear hb1 z0 z1
  go_wp2_with fail
  refine (HSD _).out.mono ?_
  rintro r w2 ⟨rfl, hb2⟩
  have HH3 := Lib.hid (HH2.out.below hb2)
  have HB2 := Lib.hid (HB1.out.trans (hb2.mono HB1.out.size))
  clear hb2 y0 y1 hlt1
  go_wp2_with fail
  refine (HA _ HH3.out).out.mono ?_
  rintro r w3 ⟨rfl, hb3⟩
  have HH4 := Lib.hid (HH3.out.below hb3)
  have HB3 := Lib.hid (HB2.out.trans (hb3.mono HB2.out.size))
  clear hb3
  go_wp2_with fail
  refine (HP _ HH4.out).out.mono ?_
  rintro r w4 ⟨hr, g2, cap2, hw4, hs4⟩
  rw [show (⟨N, 13, true⟩ : M.Ent).lv = N from rfl, HR.out] at hr
  subst hr
  have HW4 := Lib.hid hw4
  have HS4 := Lib.hid ((Spun.of_below HB3.out mb g).trans hs4)
  clear hs4
  cases room with
  | true =>
    rw [if_pos rfl] at HM
    have c2 := hw4.c2
    have f2 := hw4.f 2 (by omega)
    have hpv : (m.pushM ⟨N, 13, true⟩).v = V := by rw [← HV.out]; unfold M.Mc.pushM; split <;> rfl
    rw [hpv] at c2
    have HW5 := Lib.hid (hw4.setV (V + 1))
    clear hw4 hpv
    go_wp2_with fail
    go_ret2
    exact ⟨rfl, by rw [HM.out, HV.out]; exact ⟨g2, cap2, HW5.out, HS4.out.setCell 2 _⟩⟩
  | false =>
    rw [if_neg (by simp)] at HM
    have hpf : m.pushM ⟨N, 13, true⟩ = m := pushM_false HR.out
    rw [hpf] at hw4 HW4
    have c3 := hw4.c3
    have f3 := hw4.f 3 (by omega)
    rw [HO.out] at c3
    have HW5 := Lib.hid (hw4.setO (O + 1))
    clear hw4 hpf
    go_wp2_with fail
    go_ret2
    exact ⟨rfl, by rw [HM.out, HO.out]; exact ⟨g2, cap2, HW5.out, HS4.out.setCell 3 _⟩⟩
end Go.Proofs.Ytdipaiflfhdpoaa
