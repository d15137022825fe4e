/- The library's merge of two stretches that rise, by the code's Order, over the translation: by induction on how many words they have. Conditions: the words are of eight bytes. -/
import Derived.Test.YtdjdgpfoakkamaaMergeRight
namespace Go.Proofs.Ytdjdgpfoakkamaa
open Go.RowKit

theorem M.parts {u1 u2 v1 v2 t1 t2 : List Int} (hu : M.Sor (u1 ++ u2)) (hv : M.Sor (v1 ++ v2)) (K1 : ∀ x ∈ u2, ∀ y ∈ v1, M.rk y < M.rk x) (K2 : ∀ x ∈ u1, ∀ y ∈ v2, M.rk x ≤ M.rk y) (h1 : M.St (u1 ++ v1) t1) (s1 : M.Sor t1) (h2 : M.St (u2 ++ v2) t2) (s2 : M.Sor t2) :
    M.Sor (t1 ++ t2) ∧ M.St ((u1 ++ u2) ++ (v1 ++ v2)) (t1 ++ t2) := by
  obtain ⟨a1, a2, a3⟩ := M.Sor.app.1 hu
  obtain ⟨b1, b2, b3⟩ := M.Sor.app.1 hv
  refine ⟨M.Sor.app.2 ⟨s1, s2, fun x hx y hy => ?_⟩, ?_⟩
  · rcases List.mem_append.1 (h1.mem.2 hx) with k | k <;> rcases List.mem_append.1 (h2.mem.2 hy) with j | j
    · exact a3 x k y j
    · exact K2 x k y j
    · exact Int.le_of_lt (K1 y j x k)
    · exact b3 x k y j
  · refine M.St.trans ?_ (h1.app h2)
    have h3 : M.St (u2 ++ v1) (v1 ++ u2) := M.St.turn (fun x hx y hy => by have := K1 x hx y hy; omega)
    have h4 := (M.St.refl u1).app (h3.app (M.St.refl v2))
    simpa using h4

/-- Each merge of fewer words than N is right. -/
def MergeAll (N : Nat) : Prop := ∀ (g a m b len ca : Nat) (p u v s : List Int) (w : World), u.length + v.length < N → Row w g (p ++ (u ++ (v ++ s))) → p.length = a → a + u.length = m → m + v.length = b → b + s.length = len → len ≤ 1000 → 0 < u.length → 0 < v.length → M.Wd u → M.Wd v → M.Sor u → M.Sor v →
  Calls Try.prog 41 #[.slice (some ⟨g, 0, none⟩) len ca, .int .i64 a, .int .i64 m, .int .i64 b, ordV] w (MergeOut g p (u ++ v) s w)

set_option maxRecDepth 100000 in
set_option maxHeartbeats 16000000 in
theorem symStep_any (N : Nat) (IH : MergeAll N) (g a m b len ca : Nat) (p u v s : List Int) (w : World) (hN : u.length + v.length ≤ N) (hr : Row w g (p ++ (u ++ (v ++ s)))) (hp : p.length = a) (hm : a + u.length = m) (hb : m + v.length = b) (hl : b + s.length = len) (hc : len ≤ 1000) (h2u : 2 ≤ u.length) (h2v : 2 ≤ v.length) (hwu : M.Wd u) (hwv : M.Wd v) (hu : M.Sor u) (hv : M.Sor v) :
    Calls Try.prog 41 #[.slice (some ⟨g, 0, none⟩) len ca, .int .i64 a, .int .i64 m, .int .i64 b, ordV] w (MergeOut g p (u ++ v) s w) := by
  have HI := Lib.hid IH
  have HR := Lib.hid hr
  have HWU := Lib.hid hwu
  have HWV := Lib.hid hwv
  have HU := Lib.hid hu
  have HV := Lib.hid hv
  have HP := Lib.hid hp
  have HSZ := Lib.hid (show a + u.length = m ∧ m + v.length = b ∧ b + s.length = len ∧ len ≤ 1000 ∧ 2 ≤ u.length ∧ 2 ≤ v.length ∧ u.length + v.length ≤ N from ⟨hm, hb, hl, hc, h2u, h2v, hN⟩)
  obtain ⟨md, hmd0⟩ : ∃ md, (a + b) / 2 = md := ⟨_, rfl⟩
  obtain ⟨n, hn0⟩ : ∃ n, md + m = n := ⟨_, rfl⟩
  obtain ⟨pn, hpn0⟩ : ∃ pn, n - 1 = pn := ⟨_, rfl⟩
  have hmd : ((a : Int) + b) / 2 = md := by omega
  have hn : (md : Int) + m = n := by omega
  have hpn : (n : Int) - 1 = pn := by omega
  have HMD := Lib.hid (show (a + b) / 2 = md ∧ md + m = n ∧ n - 1 = pn from ⟨hmd0, hn0, hpn0⟩)
  have a0 : (0 : Int) ≤ a := by omega
  have a1 : (a : Int) + 2 ≤ m := by omega
  have b1 : (m : Int) + 2 ≤ b := by omega
  have b2 : (b : Int) ≤ len := by omega
  have b3 : (len : Int) ≤ 1000 := by omega
  have e0 : ((m : Int) - a == 1) = false := by rw [beq_eq_false_iff_ne]; omega
  have e1 : ((b : Int) - m == 1) = false := by rw [beq_eq_false_iff_ne]; omega
  have d1 : (a : Int) < md := by omega
  have d2 : (md : Int) < b := by omega
  by_cases hlt : md < m
  · have hst : (n : Int) - b = (n - b : Nat) := by omega
    have hlt' : (md : Int) < m := by omega
    obtain ⟨st0, hst0⟩ : ∃ st0, n - b = st0 := ⟨_, rfl⟩
    rw [hst0] at hst
    have HF := Lib.hid (show a ≤ st0 ∧ st0 ≤ md ∧ md ≤ md ∧ md ≤ m ∧ n ≤ b + st0 ∧ (md = md ∨ md = m) ∧ (st0 = a ∨ st0 + b = n) from ⟨by omega, by omega, by omega, by omega, by omega, .inl rfl, by omega⟩)
    have s0 : (a : Int) ≤ st0 := by omega
    have s1 : (st0 : Int) ≤ md := by omega
    have s2 : (md : Int) ≤ m := by omega
    clear IH hr hp hm hb hl h2u h2v hwu hwv hu hv hN hmd0 hn0 hpn0 hst0 hlt
    go_enter Try.func41, Try.ntmps41
    go_wp2_with fail
    go_loopw [20, 21] (fun y z wr => ∃ (i j : Nat), y = .int .i64 i ∧ z = .int .i64 j ∧ st0 ≤ i ∧ i ≤ j ∧ j ≤ md ∧ (∀ c x y, st0 ≤ c → c < i → u[c - a]? = some x → v[md - 1 - c]? = some y → M.rk x ≤ M.rk y) ∧ (∀ c x y, j ≤ c → c < md → u[c - a]? = some x → v[md - 1 - c]? = some y → M.rk y < M.rk x) ∧ Row wr g (p ++ (u ++ (v ++ s))) ∧ Below g w wr) (fun y z _ => (intOf z - intOf y).toNat)
    case atStart => exact ⟨st0, md, rfl, rfl, Nat.le_refl _, by have := HF.out; omega, Nat.le_refl _, (fun c x y h h' => by omega), (fun c x y h h' => by omega), HR.out, Below.refl _ _⟩
    case round =>
      obtain ⟨i, j, rfl, rfl, hsi, hij, hjr, k1, k2, hr, hb⟩ := hrel
      have K1 := Lib.hid k1
      have K2 := Lib.hid k2
      have HB := Lib.hid hb
      clear k1 k2 hb
      have hf := HF.out
      have hsz := HSZ.out
      have hmdo := HMD.out
      have hpl := HP.out
      have c5 : (a : Int) ≤ i := by omega
      have c6 : (j : Int) ≤ md := by omega
      have c7 : (j : Int) ≤ m := by omega
      by_cases hlt : i < j
      · obtain ⟨c, hh⟩ : ∃ c, (i + j) / 2 = c := ⟨_, rfl⟩
        obtain ⟨d, hd⟩ : ∃ d, pn - c = d := ⟨_, rfl⟩
        have hci : i ≤ c := by omega
        have hcj : c < j := by omega
        obtain ⟨x, hx⟩ : ∃ x, u[c - a]? = some x := ⟨_, List.getElem?_eq_getElem (by omega)⟩
        obtain ⟨y, hy⟩ : ∃ y, v[md - 1 - c]? = some y := ⟨_, List.getElem?_eq_getElem (by omega)⟩
        have hxw := HWU.out x (List.mem_of_getElem? hx)
        have hyw := HWV.out y (List.mem_of_getElem? hy)
        have hcx := row_at hr (i := c) (x := x) (by
          rw [List.getElem?_append_right (by omega), show c - p.length = c - a by omega, List.getElem?_append_left (by omega)]
          exact hx)
        have hcy := row_at hr (i := d) (x := y) (by
          rw [List.getElem?_append_right (by omega), List.getElem?_append_right (by omega), show d - p.length - u.length = md - 1 - c by omega, List.getElem?_append_left (by omega)]
          exact hy)
        have C0 := fun d os => order_below y x (Sort.grow (redrawn wr d) os) hyw.1 hyw.2 hxw.1 hxw.2
        have eh : ((i : Int) + (j : Int)) / 2 = (c : Int) := by omega
        have ed : (pn : Int) - c = d := by omega
        have c1 : (i : Int) < j := by omega
        have c3 : (c : Int) < m := by omega
        have c4 : (0 : Int) ≤ (c : Int) := by omega
        have c8 : (d : Int) < len := by omega
        have c9 : (0 : Int) ≤ d := by omega
        have HHI := Lib.hid (show st0 ≤ i ∧ i ≤ c ∧ c < j ∧ j ≤ md from ⟨hsi, hci, hcj, hjr⟩)
        have HUVW := Lib.hid (show ∀ e x' y', u[e - a]? = some x' → v[md - 1 - e]? = some y' → a ≤ e → (e ≤ c → e < md → M.rk x' ≤ M.rk x ∧ M.rk y ≤ M.rk y') ∧ (c ≤ e → M.rk x ≤ M.rk x' ∧ M.rk y' ≤ M.rk y) from fun e x' y' h1 h2 h3 => ⟨fun h h' => ⟨HU.out.at (by omega) h1 hx, HV.out.at (by omega) hy h2⟩, fun h => ⟨HU.out.at (by omega) hx h1, HV.out.at (by omega) h2 hy⟩⟩)
        by_cases hyx : M.rk y < M.rk x
        · have e : M.signI (M.rk y) (M.rk x) = -1 := by unfold M.signI; rw [if_pos hyx]
          rw [e] at C0
          have C1 := Lib.hid (fun d os => Calls.regrown_of (C0 d os))
          have cx := fun d os => cell_regrown hcx d os
          have cy := fun d os => cell_regrown hcy d os
          have HN := Lib.hid (show ∀ e x y, c ≤ e → e < md → u[e - a]? = some x → v[md - 1 - e]? = some y → M.rk y < M.rk x from fun e x' y' h1 h2 h3 h4 => by
            obtain ⟨z1, z2⟩ := (HUVW.out e x' y' h3 h4 (by omega)).2 h1
            omega)
          have HRR := Lib.hid hr
          clear hr hcx hcy C0 e hyx hx hy hyw hxw hpl hci hcj hh hij hjr hlt hd hsi hf hsz hmdo
          go_wp2_with fail
          refine wp_region_quiet_below (by kernel_rfl) (by kernel_rfl) ?_
          repeat (go_big_quiet_step (with_reducible exact C1.out _ _))
          refine wpQuiet_nil ?_
          intro _ hw'
          obtain ⟨⟨dq, osq⟩, hw4⟩ := hw'
          subst hw4
          have hbq := below_regrown wr dq osq
          have HR5 := Lib.hid (HRR.out.below hbq HRR.out.b)
          have HB5 := Lib.hid (show Below g w (Sort.grow (redrawn wr dq) osq) from HB.out.trans (hbq.mono (Nat.le_of_lt HRR.out.b)))
          clear cx cy hbq
          go_wp2_with fail
          go_roundw
          case rel =>
            obtain ⟨z1, z2, z3, z4⟩ := HHI.out
            exact ⟨i, c, rfl, rfl, z1, z2, by omega, K1.out, HN.out, HR5.out, HB5.out⟩
          case measure =>
            obtain ⟨z1, z2, z3, z4⟩ := HHI.out
            simp [intOf]
            omega
        · obtain ⟨e, he⟩ : ∃ e, M.signI (M.rk y) (M.rk x) = e := ⟨_, rfl⟩
          have e0 : ¬ e < 0 := by rw [← he, signI_lt]; exact hyx
          have e3 : 0 ≤ e := by omega
          have e4 : decide (e < 0) = false := decide_eq_false e0
          rw [he] at C0
          have C1 := Lib.hid (fun d os => Calls.regrown_of (C0 d os))
          have cx := fun d os => cell_regrown hcx d os
          have cy := fun d os => cell_regrown hcy d os
          have HN := Lib.hid (show ∀ e x y, st0 ≤ e → e < c + 1 → u[e - a]? = some x → v[md - 1 - e]? = some y → M.rk x ≤ M.rk y from fun e x' y' h1 h2 h3 h4 => by
            obtain ⟨z1, z2⟩ := (HUVW.out e x' y' h3 h4 (by omega)).1 (by omega) (by omega)
            omega)
          have HRR := Lib.hid hr
          clear hr hcx hcy C0 he hyx hx hy hyw hxw hpl hci hcj hh hij hjr hlt hd hsi hf hsz hmdo
          go_wp2_with fail
          refine wp_region_quiet_below (by kernel_rfl) (by kernel_rfl) ?_
          repeat (go_big_quiet_step (with_reducible exact C1.out _ _))
          refine wpQuiet_nil ?_
          intro _ hw'
          obtain ⟨⟨dq, osq⟩, hw4⟩ := hw'
          subst hw4
          have hbq := below_regrown wr dq osq
          have HR5 := Lib.hid (HRR.out.below hbq HRR.out.b)
          have HB5 := Lib.hid (show Below g w (Sort.grow (redrawn wr dq) osq) from HB.out.trans (hbq.mono (Nat.le_of_lt HRR.out.b)))
          clear cx cy hbq
          go_wp2_with fail
          go_roundw
          case rel =>
            obtain ⟨z1, z2, z3, z4⟩ := HHI.out
            exact ⟨c + 1, j, by go_num, rfl, by omega, by omega, z4, HN.out, K2.out, HR5.out, HB5.out⟩
          case measure =>
            obtain ⟨z1, z2, z3, z4⟩ := HHI.out
            simp [intOf]
            omega
      · obtain rfl : i = j := by omega
        obtain ⟨en, hen0⟩ : ∃ en, n - i = en := ⟨_, rfl⟩
        have hen : (n : Int) - i = en := by omega
        obtain ⟨u1, u2, hu12, hl1, hl2⟩ : ∃ u1 u2, u = u1 ++ u2 ∧ u1.length = i - a ∧ u2.length = m - i := ⟨u.take (i - a), u.drop (i - a), by simp, by simp; omega, by simp; omega⟩
        obtain ⟨v1, v2, hv12, hl3, hl4⟩ : ∃ v1 v2, v = v1 ++ v2 ∧ v1.length = md - i ∧ v2.length = b - en := ⟨v.take (md - i), v.drop (md - i), by simp, by simp; omega, by simp; omega⟩
        have q1 : ∀ x ∈ u2, ∀ y ∈ v1, M.rk y < M.rk x := fun x hx y hy => by
          obtain ⟨k, hk, hkx⟩ := List.mem_iff_getElem.1 hx
          obtain ⟨l, hl, hly⟩ := List.mem_iff_getElem.1 hy
          have ex : u[i - a + k]? = some x := by
            rw [hu12, List.getElem?_append_right (by omega), show i - a + k - u1.length = k by omega]
            exact List.getElem?_eq_some_iff.2 ⟨hk, hkx⟩
          have ey : v[l]? = some y := by
            rw [hv12, List.getElem?_append_left hl]
            exact List.getElem?_eq_some_iff.2 ⟨hl, hly⟩
          obtain ⟨x0, hx0⟩ : ∃ z, u[i - a]? = some z := ⟨_, List.getElem?_eq_getElem (by omega)⟩
          obtain ⟨y0, hy0⟩ : ∃ z, v[md - 1 - i]? = some z := ⟨_, List.getElem?_eq_getElem (by omega)⟩
          have z1 := K2.out i x0 y0 (by omega) (by omega) hx0 hy0
          have z2 := HU.out.at (by omega) hx0 ex
          have z3 := HV.out.at (by omega) ey hy0
          omega
        have q2 : ∀ x ∈ u1, ∀ y ∈ v2, M.rk x ≤ M.rk y := fun x hx y hy => by
          obtain ⟨k, hk, hkx⟩ := List.mem_iff_getElem.1 hx
          obtain ⟨l, hl, hly⟩ := List.mem_iff_getElem.1 hy
          have ex : u[k]? = some x := by
            rw [hu12, List.getElem?_append_left hk]
            exact List.getElem?_eq_some_iff.2 ⟨hk, hkx⟩
          have ey : v[md - i + l]? = some y := by
            rw [hv12, List.getElem?_append_right (by omega), show md - i + l - v1.length = l by omega]
            exact List.getElem?_eq_some_iff.2 ⟨hl, hly⟩
          obtain ⟨x0, hx0⟩ : ∃ z, u[i - 1 - a]? = some z := ⟨_, List.getElem?_eq_getElem (by omega)⟩
          obtain ⟨y0, hy0⟩ : ∃ z, v[md - 1 - (i - 1)]? = some z := ⟨_, List.getElem?_eq_getElem (by omega)⟩
          have z1 := K1.out (i - 1) x0 y0 (by omega) (by omega) hx0 hy0
          have z2 := HU.out.at (by omega) ex hx0
          have z3 := HV.out.at (by omega) hy0 ey
          omega
        have hsu := HU.out
        have hsv := HV.out
        have hwu := HWU.out
        have hwv := HWV.out
        rw [hu12] at hsu hwu hr
        rw [hv12] at hsv hwv hr
        have HPARTS := Lib.hid (fun (t1 t2 : List Int) => M.parts (t1 := t1) (t2 := t2) hsu hsv q1 q2)
        have HS1 := Lib.hid (M.Sor.app.1 hsu)
        have HS2 := Lib.hid (M.Sor.app.1 hsv)
        have HW1 := Lib.hid (show M.Wd u1 ∧ M.Wd u2 ∧ M.Wd v1 ∧ M.Wd v2 from ⟨fun x hx => hwu x (by simp [hx]), fun x hx => hwu x (by simp [hx]), fun x hx => hwv x (by simp [hx]), fun x hx => hwv x (by simp [hx])⟩)
        have HUV := Lib.hid (show u ++ v = (u1 ++ u2) ++ (v1 ++ v2) by rw [hu12, hv12])
        have HRR := Lib.hid (show Row wr g ((p ++ u1) ++ (u2 ++ (v1 ++ (v2 ++ s)))) by simpa using hr)
        have HLN := Lib.hid (show u1.length = i - a ∧ u2.length = m - i ∧ v1.length = md - i ∧ v2.length = b - en ∧ a ≤ i ∧ i ≤ m ∧ i ≤ md ∧ en = n - i ∧ md + m = n ∧ en ≤ b ∧ p.length = a ∧ b + s.length = len ∧ len ≤ 1000 ∧ a + u.length = m ∧ m + v.length = b ∧ u.length + v.length ≤ N ∧ a < md ∧ md < b from ⟨hl1, hl2, hl3, hl4, by omega, by omega, by omega, by omega, by omega, by omega, by omega, by omega, by omega, by omega, by omega, by omega, by omega, by omega⟩)
        have w1 : (a : Int) ≤ i := by omega
        have w2 : (en : Int) ≤ b := by omega
        have w3 : (0 : Int) ≤ en := by omega
        have tri : (i < m ∧ i < md ∧ (a < i ∨ a = i) ∧ (en < b ∨ en = b)) ∨ (i < m ∧ i = md ∧ a < i ∧ en = m) ∨ (i = m ∧ i < md ∧ en = md) ∨ (i = m ∧ i = md ∧ en = md) := by omega
        clear hr hsu hsv hwu hwv q1 q2 hu12 hv12 hl1 hl2 hl3 hl4 hen0 hlt hij hjr hsi hf hsz hmdo hpl
        rcases tri with ⟨t1, t2, t3 | t3, t4 | t4⟩ | ⟨t1, t2, t3, t4⟩ | ⟨t1, t2, t4⟩ | ⟨t1, t2, t4⟩
        · have f1 : (i : Int) < m := by omega
          have f2 : (m : Int) < en := by have := HLN.out; omega
          have f4 : (i : Int) < md := by omega
          have f5 : (md : Int) < en := by have := HLN.out; omega
          have f3 : (a : Int) < i := by omega
          have f6 : (en : Int) < b := by omega
          clear t1 t2 t3 t4
          have HC1 := Lib.hid (rotate_any g i m en len ca (p ++ u1) u2 v1 (v2 ++ s) ordV wr HRR.out (by have := HLN.out; simp; omega) (by have := HLN.out; omega) (by have := HLN.out; omega) (by have := HLN.out; omega) (by have := HLN.out; omega) (by have := HLN.out; simp; omega) hc)
          go_wp2_with fail
          refine HC1.out.mono ?_
          rintro r w1 ⟨rfl, hr1, hb1⟩
          have HR1 := Lib.hid (show Row w1 g (p ++ (u1 ++ (v1 ++ (u2 ++ (v2 ++ s))))) by simpa using hr1)
          have HB1 := Lib.hid (HB.out.trans hb1)
          clear hr1 hb1
          have HC2 := Lib.hid (HI.out g a i md len ca p u1 v1 (u2 ++ (v2 ++ s)) w1 (by have := HLN.out; omega) HR1.out (by have := HLN.out; omega) (by have := HLN.out; omega) (by have := HLN.out; omega) (by have := HLN.out; simp; omega) hc (by have := HLN.out; omega) (by have := HLN.out; omega) HW1.out.1 HW1.out.2.2.1 HS1.out.1 HS2.out.1)
          go_wp2_with fail
          refine HC2.out.mono ?_
          rintro r w2 ⟨rfl, t1, hr2, hs1, ht1, hb2⟩
          have HR2 := Lib.hid hr2
          have HT1 := Lib.hid (show M.Sor t1 ∧ M.St (u1 ++ v1) t1 from ⟨hs1, ht1⟩)
          have HB2 := Lib.hid (HB1.out.trans hb2)
          clear hr2 hs1 ht1 hb2
          have HC3 := Lib.hid (HI.out g md en b len ca (p ++ t1) u2 v2 s w2 (by have := HLN.out; omega) (by simpa using HR2.out) (by have := HLN.out; have h2 := HT1.out.2.len; simp at h2; simp; omega) (by have := HLN.out; omega) (by have := HLN.out; omega) (by have := HLN.out; omega) hc (by have := HLN.out; omega) (by have := HLN.out; omega) HW1.out.2.1 HW1.out.2.2.2 HS1.out.2.1 HS2.out.2.1)
          go_wp2_with fail
          refine HC3.out.mono ?_
          rintro r w3 ⟨rfl, t2, hr3, hs2, ht2, hb3⟩
          have HR3 := Lib.hid (show Row w3 g (p ++ ((t1 ++ t2) ++ s)) by simpa using hr3)
          have HT2 := Lib.hid (show M.Sor t2 ∧ M.St (u2 ++ v2) t2 from ⟨hs2, ht2⟩)
          have HB3 := Lib.hid (HB2.out.trans hb3)
          clear hr3 hs2 ht2 hb3
          go_wp2_with fail
          go_end0
          obtain ⟨x1, x2⟩ := HPARTS.out t1 t2 HT1.out.2 HT1.out.1 HT2.out.2 HT2.out.1
          exact ⟨rfl, t1 ++ t2, HR3.out, x1, by rw [HUV.out]; exact x2, HB3.out⟩
        · have f1 : (i : Int) < m := by omega
          have f2 : (m : Int) < en := by have := HLN.out; omega
          have f4 : (i : Int) < md := by omega
          have f5 : (md : Int) < en := by have := HLN.out; omega
          have f3 : (a : Int) < i := by omega
          have f6 : ¬ (en : Int) < b := by omega
          have HE2 := Lib.hid (show u2 = [] ∨ v2 = [] from .inr (List.eq_nil_of_length_eq_zero (by have := HLN.out; omega)))
          clear t1 t2 t3 t4
          have HC1 := Lib.hid (rotate_any g i m en len ca (p ++ u1) u2 v1 (v2 ++ s) ordV wr HRR.out (by have := HLN.out; simp; omega) (by have := HLN.out; omega) (by have := HLN.out; omega) (by have := HLN.out; omega) (by have := HLN.out; omega) (by have := HLN.out; simp; omega) hc)
          go_wp2_with fail
          refine HC1.out.mono ?_
          rintro r w1 ⟨rfl, hr1, hb1⟩
          have HR1 := Lib.hid (show Row w1 g (p ++ (u1 ++ (v1 ++ (u2 ++ (v2 ++ s))))) by simpa using hr1)
          have HB1 := Lib.hid (HB.out.trans hb1)
          clear hr1 hb1
          have HC2 := Lib.hid (HI.out g a i md len ca p u1 v1 (u2 ++ (v2 ++ s)) w1 (by have := HLN.out; omega) HR1.out (by have := HLN.out; omega) (by have := HLN.out; omega) (by have := HLN.out; omega) (by have := HLN.out; simp; omega) hc (by have := HLN.out; omega) (by have := HLN.out; omega) HW1.out.1 HW1.out.2.2.1 HS1.out.1 HS2.out.1)
          go_wp2_with fail
          refine HC2.out.mono ?_
          rintro r w2 ⟨rfl, t1, hr2, hs1, ht1, hb2⟩
          have HR2 := Lib.hid hr2
          have HT1 := Lib.hid (show M.Sor t1 ∧ M.St (u1 ++ v1) t1 from ⟨hs1, ht1⟩)
          have HB2 := Lib.hid (HB1.out.trans hb2)
          clear hr2 hs1 ht1 hb2
          obtain ⟨t2, ht2⟩ : ∃ t2, u2 ++ v2 = t2 := ⟨_, rfl⟩
          have HR3 := Lib.hid (show Row w2 g (p ++ ((t1 ++ t2) ++ s)) by rw [← ht2]; simpa using HR2.out)
          have HT2 := Lib.hid (show M.Sor t2 ∧ M.St (u2 ++ v2) t2 from ⟨by
            rw [← ht2]
            rcases HE2.out with k | k
            · subst k; simpa using HS2.out.2.1
            · subst k; simpa using HS1.out.2.1, by rw [ht2]; exact M.St.refl _⟩)
          have HB3 := HB2
          clear ht2
          go_wp2_with fail
          go_end0
          obtain ⟨x1, x2⟩ := HPARTS.out t1 t2 HT1.out.2 HT1.out.1 HT2.out.2 HT2.out.1
          exact ⟨rfl, t1 ++ t2, HR3.out, x1, by rw [HUV.out]; exact x2, HB3.out⟩
        · have f1 : (i : Int) < m := by omega
          have f2 : (m : Int) < en := by have := HLN.out; omega
          have f4 : (i : Int) < md := by omega
          have f5 : (md : Int) < en := by have := HLN.out; omega
          have f3 : ¬ (a : Int) < i := by omega
          have f6 : (en : Int) < b := by omega
          have HE1 := Lib.hid (show u1 = [] ∨ v1 = [] from .inl (List.eq_nil_of_length_eq_zero (by have := HLN.out; omega)))
          clear t1 t2 t3 t4
          exfalso
          have := HLN.out
          omega
        · have f1 : (i : Int) < m := by omega
          have f2 : (m : Int) < en := by have := HLN.out; omega
          have f4 : (i : Int) < md := by omega
          have f5 : (md : Int) < en := by have := HLN.out; omega
          have f3 : ¬ (a : Int) < i := by omega
          have f6 : ¬ (en : Int) < b := by omega
          have HE1 := Lib.hid (show u1 = [] ∨ v1 = [] from .inl (List.eq_nil_of_length_eq_zero (by have := HLN.out; omega)))
          have HE2 := Lib.hid (show u2 = [] ∨ v2 = [] from .inr (List.eq_nil_of_length_eq_zero (by have := HLN.out; omega)))
          clear t1 t2 t3 t4
          have HC1 := Lib.hid (rotate_any g i m en len ca (p ++ u1) u2 v1 (v2 ++ s) ordV wr HRR.out (by have := HLN.out; simp; omega) (by have := HLN.out; omega) (by have := HLN.out; omega) (by have := HLN.out; omega) (by have := HLN.out; omega) (by have := HLN.out; simp; omega) hc)
          go_wp2_with fail
          refine HC1.out.mono ?_
          rintro r w1 ⟨rfl, hr1, hb1⟩
          have HR1 := Lib.hid (show Row w1 g (p ++ (u1 ++ (v1 ++ (u2 ++ (v2 ++ s))))) by simpa using hr1)
          have HB1 := Lib.hid (HB.out.trans hb1)
          clear hr1 hb1
          obtain ⟨t1, ht1⟩ : ∃ t1, u1 ++ v1 = t1 := ⟨_, rfl⟩
          have HR2 := Lib.hid (show Row w1 g (p ++ (t1 ++ (u2 ++ (v2 ++ s)))) by rw [← ht1]; simpa using HR1.out)
          have HT1 := Lib.hid (show M.Sor t1 ∧ M.St (u1 ++ v1) t1 from ⟨by
            rw [← ht1]
            rcases HE1.out with k | k
            · subst k; simpa using HS2.out.1
            · subst k; simpa using HS1.out.1, by rw [ht1]; exact M.St.refl _⟩)
          have HB2 := HB1
          clear ht1
          obtain ⟨t2, ht2⟩ : ∃ t2, u2 ++ v2 = t2 := ⟨_, rfl⟩
          have HR3 := Lib.hid (show Row w1 g (p ++ ((t1 ++ t2) ++ s)) by rw [← ht2]; simpa using HR2.out)
          have HT2 := Lib.hid (show M.Sor t2 ∧ M.St (u2 ++ v2) t2 from ⟨by
            rw [← ht2]
            rcases HE2.out with k | k
            · subst k; simpa using HS2.out.2.1
            · subst k; simpa using HS1.out.2.1, by rw [ht2]; exact M.St.refl _⟩)
          have HB3 := HB2
          clear ht2
          go_wp2_with fail
          go_end0
          obtain ⟨x1, x2⟩ := HPARTS.out t1 t2 HT1.out.2 HT1.out.1 HT2.out.2 HT2.out.1
          exact ⟨rfl, t1 ++ t2, HR3.out, x1, by rw [HUV.out]; exact x2, HB3.out⟩
        · have f1 : (i : Int) < m := by omega
          have f2 : ¬ (m : Int) < en := by omega
          have f3 : (a : Int) < i := by omega
          have f4 : ¬ (i : Int) < md := by omega
          have f5 : (md : Int) < en := by omega
          have f6 : (en : Int) < b := by have := HLN.out; omega
          have HE := Lib.hid (show u2 = [] ∨ v1 = [] from .inr (List.eq_nil_of_length_eq_zero (by have := HLN.out; omega)))
          have HE1 := Lib.hid (show u1 = [] ∨ v1 = [] from .inr (List.eq_nil_of_length_eq_zero (by have := HLN.out; omega)))
          clear t1 t2 t3 t4
          have HB1 := HB
          have HR1 := Lib.hid (show Row wr g (p ++ (u1 ++ (v1 ++ (u2 ++ (v2 ++ s))))) by
            have h1 := HRR.out
            rcases HE.out with k | k
            · subst k; simpa using h1
            · subst k; simpa using h1)
          obtain ⟨t1, ht1⟩ : ∃ t1, u1 ++ v1 = t1 := ⟨_, rfl⟩
          have HR2 := Lib.hid (show Row wr g (p ++ (t1 ++ (u2 ++ (v2 ++ s)))) by rw [← ht1]; simpa using HR1.out)
          have HT1 := Lib.hid (show M.Sor t1 ∧ M.St (u1 ++ v1) t1 from ⟨by
            rw [← ht1]
            rcases HE1.out with k | k
            · subst k; simpa using HS2.out.1
            · subst k; simpa using HS1.out.1, by rw [ht1]; exact M.St.refl _⟩)
          have HB2 := HB1
          clear ht1
          have HC3 := Lib.hid (HI.out g md en b len ca (p ++ t1) u2 v2 s wr (by have := HLN.out; omega) (by simpa using HR2.out) (by have := HLN.out; have h2 := HT1.out.2.len; simp at h2; simp; omega) (by have := HLN.out; omega) (by have := HLN.out; omega) (by have := HLN.out; omega) hc (by have := HLN.out; omega) (by have := HLN.out; omega) HW1.out.2.1 HW1.out.2.2.2 HS1.out.2.1 HS2.out.2.1)
          go_wp2_with fail
          refine HC3.out.mono ?_
          rintro r w3 ⟨rfl, t2, hr3, hs2, ht2, hb3⟩
          have HR3 := Lib.hid (show Row w3 g (p ++ ((t1 ++ t2) ++ s)) by simpa using hr3)
          have HT2 := Lib.hid (show M.Sor t2 ∧ M.St (u2 ++ v2) t2 from ⟨hs2, ht2⟩)
          have HB3 := Lib.hid (HB2.out.trans hb3)
          clear hr3 hs2 ht2 hb3
          go_wp2_with fail
          go_end0
          obtain ⟨x1, x2⟩ := HPARTS.out t1 t2 HT1.out.2 HT1.out.1 HT2.out.2 HT2.out.1
          exact ⟨rfl, t1 ++ t2, HR3.out, x1, by rw [HUV.out]; exact x2, HB3.out⟩
        · have f1 : ¬ (i : Int) < m := by omega
          have f2 : (m : Int) < en := by omega
          have f3 : (a : Int) < i := by omega
          have f4 : (i : Int) < md := by omega
          have f5 : ¬ (md : Int) < en := by omega
          have f6 : (en : Int) < b := by omega
          have HE := Lib.hid (show u2 = [] ∨ v1 = [] from .inl (List.eq_nil_of_length_eq_zero (by have := HLN.out; omega)))
          have HE2 := Lib.hid (show u2 = [] ∨ v2 = [] from .inl (List.eq_nil_of_length_eq_zero (by have := HLN.out; omega)))
          clear t1 t2 t4
          exfalso
          have := HLN.out
          omega
        · have f1 : ¬ (i : Int) < m := by omega
          have f2 : ¬ (m : Int) < en := by omega
          have f3 : (a : Int) < i := by omega
          have f4 : ¬ (i : Int) < md := by omega
          have f5 : ¬ (md : Int) < en := by omega
          have f6 : (en : Int) < b := by omega
          have HE := Lib.hid (show u2 = [] ∨ v1 = [] from .inl (List.eq_nil_of_length_eq_zero (by have := HLN.out; omega)))
          have HE1 := Lib.hid (show u1 = [] ∨ v1 = [] from .inr (List.eq_nil_of_length_eq_zero (by have := HLN.out; omega)))
          have HE2 := Lib.hid (show u2 = [] ∨ v2 = [] from .inl (List.eq_nil_of_length_eq_zero (by have := HLN.out; omega)))
          clear t1 t2 t4
          have HB1 := HB
          have HR1 := Lib.hid (show Row wr g (p ++ (u1 ++ (v1 ++ (u2 ++ (v2 ++ s))))) by
            have h1 := HRR.out
            rcases HE.out with k | k
            · subst k; simpa using h1
            · subst k; simpa using h1)
          obtain ⟨t1, ht1⟩ : ∃ t1, u1 ++ v1 = t1 := ⟨_, rfl⟩
          have HR2 := Lib.hid (show Row wr g (p ++ (t1 ++ (u2 ++ (v2 ++ s)))) by rw [← ht1]; simpa using HR1.out)
          have HT1 := Lib.hid (show M.Sor t1 ∧ M.St (u1 ++ v1) t1 from ⟨by
            rw [← ht1]
            rcases HE1.out with k | k
            · subst k; simpa using HS2.out.1
            · subst k; simpa using HS1.out.1, by rw [ht1]; exact M.St.refl _⟩)
          have HB2 := HB1
          clear ht1
          obtain ⟨t2, ht2⟩ : ∃ t2, u2 ++ v2 = t2 := ⟨_, rfl⟩
          have HR3 := Lib.hid (show Row wr g (p ++ ((t1 ++ t2) ++ s)) by rw [← ht2]; simpa using HR2.out)
          have HT2 := Lib.hid (show M.Sor t2 ∧ M.St (u2 ++ v2) t2 from ⟨by
            rw [← ht2]
            rcases HE2.out with k | k
            · subst k; simpa using HS2.out.2.1
            · subst k; simpa using HS1.out.2.1, by rw [ht2]; exact M.St.refl _⟩)
          have HB3 := HB2
          clear ht2
          go_wp2_with fail
          go_end0
          obtain ⟨x1, x2⟩ := HPARTS.out t1 t2 HT1.out.2 HT1.out.1 HT2.out.2 HT2.out.1
          exact ⟨rfl, t1 ++ t2, HR3.out, x1, by rw [HUV.out]; exact x2, HB3.out⟩
  · have hlt' : ¬ (md : Int) < m := by omega
    have HF := Lib.hid (show a ≤ a ∧ a ≤ m ∧ m ≤ md ∧ m ≤ m ∧ n ≤ b + a ∧ (m = md ∨ m = m) ∧ (a = a ∨ a + b = n) from ⟨by omega, by omega, by omega, by omega, by omega, .inr rfl, .inl rfl⟩)
    have s2 : (m : Int) ≤ md := by omega
    clear IH hr hp hm hb hl h2u h2v hwu hwv hu hv hN hmd0 hn0 hpn0 hlt
    go_enter Try.func41, Try.ntmps41
    go_wp2_with fail
    go_loopw [20, 21] (fun y z wr => ∃ (i j : Nat), y = .int .i64 i ∧ z = .int .i64 j ∧ a ≤ i ∧ i ≤ j ∧ j ≤ m ∧ (∀ c x y, a ≤ c → c < i → u[c - a]? = some x → v[md - 1 - c]? = some y → M.rk x ≤ M.rk y) ∧ (∀ c x y, j ≤ c → c < m → u[c - a]? = some x → v[md - 1 - c]? = some y → M.rk y < M.rk x) ∧ Row wr g (p ++ (u ++ (v ++ s))) ∧ Below g w wr) (fun y z _ => (intOf z - intOf y).toNat)
    case atStart => exact ⟨a, m, rfl, rfl, Nat.le_refl _, by have := HF.out; omega, Nat.le_refl _, (fun c x y h h' => by omega), (fun c x y h h' => by omega), HR.out, Below.refl _ _⟩
    case round =>
      obtain ⟨i, j, rfl, rfl, hsi, hij, hjr, k1, k2, hr, hb⟩ := hrel
      have K1 := Lib.hid k1
      have K2 := Lib.hid k2
      have HB := Lib.hid hb
      clear k1 k2 hb
      have hf := HF.out
      have hsz := HSZ.out
      have hmdo := HMD.out
      have hpl := HP.out
      have c5 : (a : Int) ≤ i := by omega
      have c6 : (j : Int) ≤ md := by omega
      have c7 : (j : Int) ≤ m := by omega
      by_cases hlt : i < j
      · obtain ⟨c, hh⟩ : ∃ c, (i + j) / 2 = c := ⟨_, rfl⟩
        obtain ⟨d, hd⟩ : ∃ d, pn - c = d := ⟨_, rfl⟩
        have hci : i ≤ c := by omega
        have hcj : c < j := by omega
        obtain ⟨x, hx⟩ : ∃ x, u[c - a]? = some x := ⟨_, List.getElem?_eq_getElem (by omega)⟩
        obtain ⟨y, hy⟩ : ∃ y, v[md - 1 - c]? = some y := ⟨_, List.getElem?_eq_getElem (by omega)⟩
        have hxw := HWU.out x (List.mem_of_getElem? hx)
        have hyw := HWV.out y (List.mem_of_getElem? hy)
        have hcx := row_at hr (i := c) (x := x) (by
          rw [List.getElem?_append_right (by omega), show c - p.length = c - a by omega, List.getElem?_append_left (by omega)]
          exact hx)
        have hcy := row_at hr (i := d) (x := y) (by
          rw [List.getElem?_append_right (by omega), List.getElem?_append_right (by omega), show d - p.length - u.length = md - 1 - c by omega, List.getElem?_append_left (by omega)]
          exact hy)
        have C0 := fun d os => order_below y x (Sort.grow (redrawn wr d) os) hyw.1 hyw.2 hxw.1 hxw.2
        have eh : ((i : Int) + (j : Int)) / 2 = (c : Int) := by omega
        have ed : (pn : Int) - c = d := by omega
        have c1 : (i : Int) < j := by omega
        have c3 : (c : Int) < m := by omega
        have c4 : (0 : Int) ≤ (c : Int) := by omega
        have c8 : (d : Int) < len := by omega
        have c9 : (0 : Int) ≤ d := by omega
        have HHI := Lib.hid (show a ≤ i ∧ i ≤ c ∧ c < j ∧ j ≤ m from ⟨hsi, hci, hcj, hjr⟩)
        have HUVW := Lib.hid (show ∀ e x' y', u[e - a]? = some x' → v[md - 1 - e]? = some y' → a ≤ e → (e ≤ c → e < md → M.rk x' ≤ M.rk x ∧ M.rk y ≤ M.rk y') ∧ (c ≤ e → M.rk x ≤ M.rk x' ∧ M.rk y' ≤ M.rk y) from fun e x' y' h1 h2 h3 => ⟨fun h h' => ⟨HU.out.at (by omega) h1 hx, HV.out.at (by omega) hy h2⟩, fun h => ⟨HU.out.at (by omega) hx h1, HV.out.at (by omega) h2 hy⟩⟩)
        by_cases hyx : M.rk y < M.rk x
        · have e : M.signI (M.rk y) (M.rk x) = -1 := by unfold M.signI; rw [if_pos hyx]
          rw [e] at C0
          have C1 := Lib.hid (fun d os => Calls.regrown_of (C0 d os))
          have cx := fun d os => cell_regrown hcx d os
          have cy := fun d os => cell_regrown hcy d os
          have HN := Lib.hid (show ∀ e x y, c ≤ e → e < m → u[e - a]? = some x → v[md - 1 - e]? = some y → M.rk y < M.rk x from fun e x' y' h1 h2 h3 h4 => by
            obtain ⟨z1, z2⟩ := (HUVW.out e x' y' h3 h4 (by omega)).2 h1
            omega)
          have HRR := Lib.hid hr
          clear hr hcx hcy C0 e hyx hx hy hyw hxw hpl hci hcj hh hij hjr hlt hd hsi hf hsz hmdo
          go_wp2_with fail
          refine wp_region_quiet_below (by kernel_rfl) (by kernel_rfl) ?_
          repeat (go_big_quiet_step (with_reducible exact C1.out _ _))
          refine wpQuiet_nil ?_
          intro _ hw'
          obtain ⟨⟨dq, osq⟩, hw4⟩ := hw'
          subst hw4
          have hbq := below_regrown wr dq osq
          have HR5 := Lib.hid (HRR.out.below hbq HRR.out.b)
          have HB5 := Lib.hid (show Below g w (Sort.grow (redrawn wr dq) osq) from HB.out.trans (hbq.mono (Nat.le_of_lt HRR.out.b)))
          clear cx cy hbq
          go_wp2_with fail
          go_roundw
          case rel =>
            obtain ⟨z1, z2, z3, z4⟩ := HHI.out
            exact ⟨i, c, rfl, rfl, z1, z2, by omega, K1.out, HN.out, HR5.out, HB5.out⟩
          case measure =>
            obtain ⟨z1, z2, z3, z4⟩ := HHI.out
            simp [intOf]
            omega
        · obtain ⟨e, he⟩ : ∃ e, M.signI (M.rk y) (M.rk x) = e := ⟨_, rfl⟩
          have e0 : ¬ e < 0 := by rw [← he, signI_lt]; exact hyx
          have e3 : 0 ≤ e := by omega
          have e4 : decide (e < 0) = false := decide_eq_false e0
          rw [he] at C0
          have C1 := Lib.hid (fun d os => Calls.regrown_of (C0 d os))
          have cx := fun d os => cell_regrown hcx d os
          have cy := fun d os => cell_regrown hcy d os
          have HN := Lib.hid (show ∀ e x y, a ≤ e → e < c + 1 → u[e - a]? = some x → v[md - 1 - e]? = some y → M.rk x ≤ M.rk y from fun e x' y' h1 h2 h3 h4 => by
            obtain ⟨z1, z2⟩ := (HUVW.out e x' y' h3 h4 (by omega)).1 (by omega) (by omega)
            omega)
          have HRR := Lib.hid hr
          clear hr hcx hcy C0 he hyx hx hy hyw hxw hpl hci hcj hh hij hjr hlt hd hsi hf hsz hmdo
          go_wp2_with fail
          refine wp_region_quiet_below (by kernel_rfl) (by kernel_rfl) ?_
          repeat (go_big_quiet_step (with_reducible exact C1.out _ _))
          refine wpQuiet_nil ?_
          intro _ hw'
          obtain ⟨⟨dq, osq⟩, hw4⟩ := hw'
          subst hw4
          have hbq := below_regrown wr dq osq
          have HR5 := Lib.hid (HRR.out.below hbq HRR.out.b)
          have HB5 := Lib.hid (show Below g w (Sort.grow (redrawn wr dq) osq) from HB.out.trans (hbq.mono (Nat.le_of_lt HRR.out.b)))
          clear cx cy hbq
          go_wp2_with fail
          go_roundw
          case rel =>
            obtain ⟨z1, z2, z3, z4⟩ := HHI.out
            exact ⟨c + 1, j, by go_num, rfl, by omega, by omega, z4, HN.out, K2.out, HR5.out, HB5.out⟩
          case measure =>
            obtain ⟨z1, z2, z3, z4⟩ := HHI.out
            simp [intOf]
            omega
      · obtain rfl : i = j := by omega
        obtain ⟨en, hen0⟩ : ∃ en, n - i = en := ⟨_, rfl⟩
        have hen : (n : Int) - i = en := by omega
        obtain ⟨u1, u2, hu12, hl1, hl2⟩ : ∃ u1 u2, u = u1 ++ u2 ∧ u1.length = i - a ∧ u2.length = m - i := ⟨u.take (i - a), u.drop (i - a), by simp, by simp; omega, by simp; omega⟩
        obtain ⟨v1, v2, hv12, hl3, hl4⟩ : ∃ v1 v2, v = v1 ++ v2 ∧ v1.length = md - i ∧ v2.length = b - en := ⟨v.take (md - i), v.drop (md - i), by simp, by simp; omega, by simp; omega⟩
        have q1 : ∀ x ∈ u2, ∀ y ∈ v1, M.rk y < M.rk x := fun x hx y hy => by
          obtain ⟨k, hk, hkx⟩ := List.mem_iff_getElem.1 hx
          obtain ⟨l, hl, hly⟩ := List.mem_iff_getElem.1 hy
          have ex : u[i - a + k]? = some x := by
            rw [hu12, List.getElem?_append_right (by omega), show i - a + k - u1.length = k by omega]
            exact List.getElem?_eq_some_iff.2 ⟨hk, hkx⟩
          have ey : v[l]? = some y := by
            rw [hv12, List.getElem?_append_left hl]
            exact List.getElem?_eq_some_iff.2 ⟨hl, hly⟩
          obtain ⟨x0, hx0⟩ : ∃ z, u[i - a]? = some z := ⟨_, List.getElem?_eq_getElem (by omega)⟩
          obtain ⟨y0, hy0⟩ : ∃ z, v[md - 1 - i]? = some z := ⟨_, List.getElem?_eq_getElem (by omega)⟩
          have z1 := K2.out i x0 y0 (by omega) (by omega) hx0 hy0
          have z2 := HU.out.at (by omega) hx0 ex
          have z3 := HV.out.at (by omega) ey hy0
          omega
        have q2 : ∀ x ∈ u1, ∀ y ∈ v2, M.rk x ≤ M.rk y := fun x hx y hy => by
          obtain ⟨k, hk, hkx⟩ := List.mem_iff_getElem.1 hx
          obtain ⟨l, hl, hly⟩ := List.mem_iff_getElem.1 hy
          have ex : u[k]? = some x := by
            rw [hu12, List.getElem?_append_left hk]
            exact List.getElem?_eq_some_iff.2 ⟨hk, hkx⟩
          have ey : v[md - i + l]? = some y := by
            rw [hv12, List.getElem?_append_right (by omega), show md - i + l - v1.length = l by omega]
            exact List.getElem?_eq_some_iff.2 ⟨hl, hly⟩
          obtain ⟨x0, hx0⟩ : ∃ z, u[i - 1 - a]? = some z := ⟨_, List.getElem?_eq_getElem (by omega)⟩
          obtain ⟨y0, hy0⟩ : ∃ z, v[md - 1 - (i - 1)]? = some z := ⟨_, List.getElem?_eq_getElem (by omega)⟩
          have z1 := K1.out (i - 1) x0 y0 (by omega) (by omega) hx0 hy0
          have z2 := HU.out.at (by omega) ex hx0
          have z3 := HV.out.at (by omega) hy0 ey
          omega
        have hsu := HU.out
        have hsv := HV.out
        have hwu := HWU.out
        have hwv := HWV.out
        rw [hu12] at hsu hwu hr
        rw [hv12] at hsv hwv hr
        have HPARTS := Lib.hid (fun (t1 t2 : List Int) => M.parts (t1 := t1) (t2 := t2) hsu hsv q1 q2)
        have HS1 := Lib.hid (M.Sor.app.1 hsu)
        have HS2 := Lib.hid (M.Sor.app.1 hsv)
        have HW1 := Lib.hid (show M.Wd u1 ∧ M.Wd u2 ∧ M.Wd v1 ∧ M.Wd v2 from ⟨fun x hx => hwu x (by simp [hx]), fun x hx => hwu x (by simp [hx]), fun x hx => hwv x (by simp [hx]), fun x hx => hwv x (by simp [hx])⟩)
        have HUV := Lib.hid (show u ++ v = (u1 ++ u2) ++ (v1 ++ v2) by rw [hu12, hv12])
        have HRR := Lib.hid (show Row wr g ((p ++ u1) ++ (u2 ++ (v1 ++ (v2 ++ s)))) by simpa using hr)
        have HLN := Lib.hid (show u1.length = i - a ∧ u2.length = m - i ∧ v1.length = md - i ∧ v2.length = b - en ∧ a ≤ i ∧ i ≤ m ∧ i ≤ md ∧ en = n - i ∧ md + m = n ∧ en ≤ b ∧ p.length = a ∧ b + s.length = len ∧ len ≤ 1000 ∧ a + u.length = m ∧ m + v.length = b ∧ u.length + v.length ≤ N ∧ a < md ∧ md < b from ⟨hl1, hl2, hl3, hl4, by omega, by omega, by omega, by omega, by omega, by omega, by omega, by omega, by omega, by omega, by omega, by omega, by omega, by omega⟩)
        have w1 : (a : Int) ≤ i := by omega
        have w2 : (en : Int) ≤ b := by omega
        have w3 : (0 : Int) ≤ en := by omega
        have tri : (i < m ∧ i < md ∧ (a < i ∨ a = i) ∧ (en < b ∨ en = b)) ∨ (i < m ∧ i = md ∧ a < i ∧ en = m) ∨ (i = m ∧ i < md ∧ en = md) ∨ (i = m ∧ i = md ∧ en = md) := by omega
        clear hr hsu hsv hwu hwv q1 q2 hu12 hv12 hl1 hl2 hl3 hl4 hen0 hlt hij hjr hsi hf hsz hmdo hpl
        rcases tri with ⟨t1, t2, t3 | t3, t4 | t4⟩ | ⟨t1, t2, t3, t4⟩ | ⟨t1, t2, t4⟩ | ⟨t1, t2, t4⟩
        · have f1 : (i : Int) < m := by omega
          have f2 : (m : Int) < en := by have := HLN.out; omega
          have f4 : (i : Int) < md := by omega
          have f5 : (md : Int) < en := by have := HLN.out; omega
          have f3 : (a : Int) < i := by omega
          have f6 : (en : Int) < b := by omega
          clear t1 t2 t3 t4
          have HC1 := Lib.hid (rotate_any g i m en len ca (p ++ u1) u2 v1 (v2 ++ s) ordV wr HRR.out (by have := HLN.out; simp; omega) (by have := HLN.out; omega) (by have := HLN.out; omega) (by have := HLN.out; omega) (by have := HLN.out; omega) (by have := HLN.out; simp; omega) hc)
          go_wp2_with fail
          refine HC1.out.mono ?_
          rintro r w1 ⟨rfl, hr1, hb1⟩
          have HR1 := Lib.hid (show Row w1 g (p ++ (u1 ++ (v1 ++ (u2 ++ (v2 ++ s))))) by simpa using hr1)
          have HB1 := Lib.hid (HB.out.trans hb1)
          clear hr1 hb1
          have HC2 := Lib.hid (HI.out g a i md len ca p u1 v1 (u2 ++ (v2 ++ s)) w1 (by have := HLN.out; omega) HR1.out (by have := HLN.out; omega) (by have := HLN.out; omega) (by have := HLN.out; omega) (by have := HLN.out; simp; omega) hc (by have := HLN.out; omega) (by have := HLN.out; omega) HW1.out.1 HW1.out.2.2.1 HS1.out.1 HS2.out.1)
          go_wp2_with fail
          refine HC2.out.mono ?_
          rintro r w2 ⟨rfl, t1, hr2, hs1, ht1, hb2⟩
          have HR2 := Lib.hid hr2
          have HT1 := Lib.hid (show M.Sor t1 ∧ M.St (u1 ++ v1) t1 from ⟨hs1, ht1⟩)
          have HB2 := Lib.hid (HB1.out.trans hb2)
          clear hr2 hs1 ht1 hb2
          have HC3 := Lib.hid (HI.out g md en b len ca (p ++ t1) u2 v2 s w2 (by have := HLN.out; omega) (by simpa using HR2.out) (by have := HLN.out; have h2 := HT1.out.2.len; simp at h2; simp; omega) (by have := HLN.out; omega) (by have := HLN.out; omega) (by have := HLN.out; omega) hc (by have := HLN.out; omega) (by have := HLN.out; omega) HW1.out.2.1 HW1.out.2.2.2 HS1.out.2.1 HS2.out.2.1)
          go_wp2_with fail
          refine HC3.out.mono ?_
          rintro r w3 ⟨rfl, t2, hr3, hs2, ht2, hb3⟩
          have HR3 := Lib.hid (show Row w3 g (p ++ ((t1 ++ t2) ++ s)) by simpa using hr3)
          have HT2 := Lib.hid (show M.Sor t2 ∧ M.St (u2 ++ v2) t2 from ⟨hs2, ht2⟩)
          have HB3 := Lib.hid (HB2.out.trans hb3)
          clear hr3 hs2 ht2 hb3
          go_wp2_with fail
          go_end0
          obtain ⟨x1, x2⟩ := HPARTS.out t1 t2 HT1.out.2 HT1.out.1 HT2.out.2 HT2.out.1
          exact ⟨rfl, t1 ++ t2, HR3.out, x1, by rw [HUV.out]; exact x2, HB3.out⟩
        · have f1 : (i : Int) < m := by omega
          have f2 : (m : Int) < en := by have := HLN.out; omega
          have f4 : (i : Int) < md := by omega
          have f5 : (md : Int) < en := by have := HLN.out; omega
          have f3 : (a : Int) < i := by omega
          have f6 : ¬ (en : Int) < b := by omega
          have HE2 := Lib.hid (show u2 = [] ∨ v2 = [] from .inr (List.eq_nil_of_length_eq_zero (by have := HLN.out; omega)))
          clear t1 t2 t3 t4
          exfalso
          have := HLN.out
          omega
        · have f1 : (i : Int) < m := by omega
          have f2 : (m : Int) < en := by have := HLN.out; omega
          have f4 : (i : Int) < md := by omega
          have f5 : (md : Int) < en := by have := HLN.out; omega
          have f3 : ¬ (a : Int) < i := by omega
          have f6 : (en : Int) < b := by omega
          have HE1 := Lib.hid (show u1 = [] ∨ v1 = [] from .inl (List.eq_nil_of_length_eq_zero (by have := HLN.out; omega)))
          clear t1 t2 t3 t4
          have HC1 := Lib.hid (rotate_any g i m en len ca (p ++ u1) u2 v1 (v2 ++ s) ordV wr HRR.out (by have := HLN.out; simp; omega) (by have := HLN.out; omega) (by have := HLN.out; omega) (by have := HLN.out; omega) (by have := HLN.out; omega) (by have := HLN.out; simp; omega) hc)
          go_wp2_with fail
          refine HC1.out.mono ?_
          rintro r w1 ⟨rfl, hr1, hb1⟩
          have HR1 := Lib.hid (show Row w1 g (p ++ (u1 ++ (v1 ++ (u2 ++ (v2 ++ s))))) by simpa using hr1)
          have HB1 := Lib.hid (HB.out.trans hb1)
          clear hr1 hb1
          obtain ⟨t1, ht1⟩ : ∃ t1, u1 ++ v1 = t1 := ⟨_, rfl⟩
          have HR2 := Lib.hid (show Row w1 g (p ++ (t1 ++ (u2 ++ (v2 ++ s)))) by rw [← ht1]; simpa using HR1.out)
          have HT1 := Lib.hid (show M.Sor t1 ∧ M.St (u1 ++ v1) t1 from ⟨by
            rw [← ht1]
            rcases HE1.out with k | k
            · subst k; simpa using HS2.out.1
            · subst k; simpa using HS1.out.1, by rw [ht1]; exact M.St.refl _⟩)
          have HB2 := HB1
          clear ht1
          have HC3 := Lib.hid (HI.out g md en b len ca (p ++ t1) u2 v2 s w1 (by have := HLN.out; omega) (by simpa using HR2.out) (by have := HLN.out; have h2 := HT1.out.2.len; simp at h2; simp; omega) (by have := HLN.out; omega) (by have := HLN.out; omega) (by have := HLN.out; omega) hc (by have := HLN.out; omega) (by have := HLN.out; omega) HW1.out.2.1 HW1.out.2.2.2 HS1.out.2.1 HS2.out.2.1)
          go_wp2_with fail
          refine HC3.out.mono ?_
          rintro r w3 ⟨rfl, t2, hr3, hs2, ht2, hb3⟩
          have HR3 := Lib.hid (show Row w3 g (p ++ ((t1 ++ t2) ++ s)) by simpa using hr3)
          have HT2 := Lib.hid (show M.Sor t2 ∧ M.St (u2 ++ v2) t2 from ⟨hs2, ht2⟩)
          have HB3 := Lib.hid (HB2.out.trans hb3)
          clear hr3 hs2 ht2 hb3
          go_wp2_with fail
          go_end0
          obtain ⟨x1, x2⟩ := HPARTS.out t1 t2 HT1.out.2 HT1.out.1 HT2.out.2 HT2.out.1
          exact ⟨rfl, t1 ++ t2, HR3.out, x1, by rw [HUV.out]; exact x2, HB3.out⟩
        · have f1 : (i : Int) < m := by omega
          have f2 : (m : Int) < en := by have := HLN.out; omega
          have f4 : (i : Int) < md := by omega
          have f5 : (md : Int) < en := by have := HLN.out; omega
          have f3 : ¬ (a : Int) < i := by omega
          have f6 : ¬ (en : Int) < b := by omega
          have HE1 := Lib.hid (show u1 = [] ∨ v1 = [] from .inl (List.eq_nil_of_length_eq_zero (by have := HLN.out; omega)))
          have HE2 := Lib.hid (show u2 = [] ∨ v2 = [] from .inr (List.eq_nil_of_length_eq_zero (by have := HLN.out; omega)))
          clear t1 t2 t3 t4
          have HC1 := Lib.hid (rotate_any g i m en len ca (p ++ u1) u2 v1 (v2 ++ s) ordV wr HRR.out (by have := HLN.out; simp; omega) (by have := HLN.out; omega) (by have := HLN.out; omega) (by have := HLN.out; omega) (by have := HLN.out; omega) (by have := HLN.out; simp; omega) hc)
          go_wp2_with fail
          refine HC1.out.mono ?_
          rintro r w1 ⟨rfl, hr1, hb1⟩
          have HR1 := Lib.hid (show Row w1 g (p ++ (u1 ++ (v1 ++ (u2 ++ (v2 ++ s))))) by simpa using hr1)
          have HB1 := Lib.hid (HB.out.trans hb1)
          clear hr1 hb1
          obtain ⟨t1, ht1⟩ : ∃ t1, u1 ++ v1 = t1 := ⟨_, rfl⟩
          have HR2 := Lib.hid (show Row w1 g (p ++ (t1 ++ (u2 ++ (v2 ++ s)))) by rw [← ht1]; simpa using HR1.out)
          have HT1 := Lib.hid (show M.Sor t1 ∧ M.St (u1 ++ v1) t1 from ⟨by
            rw [← ht1]
            rcases HE1.out with k | k
            · subst k; simpa using HS2.out.1
            · subst k; simpa using HS1.out.1, by rw [ht1]; exact M.St.refl _⟩)
          have HB2 := HB1
          clear ht1
          obtain ⟨t2, ht2⟩ : ∃ t2, u2 ++ v2 = t2 := ⟨_, rfl⟩
          have HR3 := Lib.hid (show Row w1 g (p ++ ((t1 ++ t2) ++ s)) by rw [← ht2]; simpa using HR2.out)
          have HT2 := Lib.hid (show M.Sor t2 ∧ M.St (u2 ++ v2) t2 from ⟨by
            rw [← ht2]
            rcases HE2.out with k | k
            · subst k; simpa using HS2.out.2.1
            · subst k; simpa using HS1.out.2.1, by rw [ht2]; exact M.St.refl _⟩)
          have HB3 := HB2
          clear ht2
          go_wp2_with fail
          go_end0
          obtain ⟨x1, x2⟩ := HPARTS.out t1 t2 HT1.out.2 HT1.out.1 HT2.out.2 HT2.out.1
          exact ⟨rfl, t1 ++ t2, HR3.out, x1, by rw [HUV.out]; exact x2, HB3.out⟩
        · have f1 : (i : Int) < m := by omega
          have f2 : ¬ (m : Int) < en := by omega
          have f3 : (a : Int) < i := by omega
          have f4 : ¬ (i : Int) < md := by omega
          have f5 : (md : Int) < en := by omega
          have f6 : (en : Int) < b := by have := HLN.out; omega
          have HE := Lib.hid (show u2 = [] ∨ v1 = [] from .inr (List.eq_nil_of_length_eq_zero (by have := HLN.out; omega)))
          have HE1 := Lib.hid (show u1 = [] ∨ v1 = [] from .inr (List.eq_nil_of_length_eq_zero (by have := HLN.out; omega)))
          clear t1 t2 t3 t4
          have HB1 := HB
          have HR1 := Lib.hid (show Row wr g (p ++ (u1 ++ (v1 ++ (u2 ++ (v2 ++ s))))) by
            have h1 := HRR.out
            rcases HE.out with k | k
            · subst k; simpa using h1
            · subst k; simpa using h1)
          obtain ⟨t1, ht1⟩ : ∃ t1, u1 ++ v1 = t1 := ⟨_, rfl⟩
          have HR2 := Lib.hid (show Row wr g (p ++ (t1 ++ (u2 ++ (v2 ++ s)))) by rw [← ht1]; simpa using HR1.out)
          have HT1 := Lib.hid (show M.Sor t1 ∧ M.St (u1 ++ v1) t1 from ⟨by
            rw [← ht1]
            rcases HE1.out with k | k
            · subst k; simpa using HS2.out.1
            · subst k; simpa using HS1.out.1, by rw [ht1]; exact M.St.refl _⟩)
          have HB2 := HB1
          clear ht1
          have HC3 := Lib.hid (HI.out g md en b len ca (p ++ t1) u2 v2 s wr (by have := HLN.out; omega) (by simpa using HR2.out) (by have := HLN.out; have h2 := HT1.out.2.len; simp at h2; simp; omega) (by have := HLN.out; omega) (by have := HLN.out; omega) (by have := HLN.out; omega) hc (by have := HLN.out; omega) (by have := HLN.out; omega) HW1.out.2.1 HW1.out.2.2.2 HS1.out.2.1 HS2.out.2.1)
          go_wp2_with fail
          refine HC3.out.mono ?_
          rintro r w3 ⟨rfl, t2, hr3, hs2, ht2, hb3⟩
          have HR3 := Lib.hid (show Row w3 g (p ++ ((t1 ++ t2) ++ s)) by simpa using hr3)
          have HT2 := Lib.hid (show M.Sor t2 ∧ M.St (u2 ++ v2) t2 from ⟨hs2, ht2⟩)
          have HB3 := Lib.hid (HB2.out.trans hb3)
          clear hr3 hs2 ht2 hb3
          go_wp2_with fail
          go_end0
          obtain ⟨x1, x2⟩ := HPARTS.out t1 t2 HT1.out.2 HT1.out.1 HT2.out.2 HT2.out.1
          exact ⟨rfl, t1 ++ t2, HR3.out, x1, by rw [HUV.out]; exact x2, HB3.out⟩
        · have f1 : ¬ (i : Int) < m := by omega
          have f2 : (m : Int) < en := by omega
          have f3 : (a : Int) < i := by omega
          have f4 : (i : Int) < md := by omega
          have f5 : ¬ (md : Int) < en := by omega
          have f6 : (en : Int) < b := by omega
          have HE := Lib.hid (show u2 = [] ∨ v1 = [] from .inl (List.eq_nil_of_length_eq_zero (by have := HLN.out; omega)))
          have HE2 := Lib.hid (show u2 = [] ∨ v2 = [] from .inl (List.eq_nil_of_length_eq_zero (by have := HLN.out; omega)))
          clear t1 t2 t4
          have HB1 := HB
          have HR1 := Lib.hid (show Row wr g (p ++ (u1 ++ (v1 ++ (u2 ++ (v2 ++ s))))) by
            have h1 := HRR.out
            rcases HE.out with k | k
            · subst k; simpa using h1
            · subst k; simpa using h1)
          have HC2 := Lib.hid (HI.out g a i md len ca p u1 v1 (u2 ++ (v2 ++ s)) wr (by have := HLN.out; omega) HR1.out (by have := HLN.out; omega) (by have := HLN.out; omega) (by have := HLN.out; omega) (by have := HLN.out; simp; omega) hc (by have := HLN.out; omega) (by have := HLN.out; omega) HW1.out.1 HW1.out.2.2.1 HS1.out.1 HS2.out.1)
          go_wp2_with fail
          refine HC2.out.mono ?_
          rintro r w2 ⟨rfl, t1, hr2, hs1, ht1, hb2⟩
          have HR2 := Lib.hid hr2
          have HT1 := Lib.hid (show M.Sor t1 ∧ M.St (u1 ++ v1) t1 from ⟨hs1, ht1⟩)
          have HB2 := Lib.hid (HB1.out.trans hb2)
          clear hr2 hs1 ht1 hb2
          obtain ⟨t2, ht2⟩ : ∃ t2, u2 ++ v2 = t2 := ⟨_, rfl⟩
          have HR3 := Lib.hid (show Row w2 g (p ++ ((t1 ++ t2) ++ s)) by rw [← ht2]; simpa using HR2.out)
          have HT2 := Lib.hid (show M.Sor t2 ∧ M.St (u2 ++ v2) t2 from ⟨by
            rw [← ht2]
            rcases HE2.out with k | k
            · subst k; simpa using HS2.out.2.1
            · subst k; simpa using HS1.out.2.1, by rw [ht2]; exact M.St.refl _⟩)
          have HB3 := HB2
          clear ht2
          go_wp2_with fail
          go_end0
          obtain ⟨x1, x2⟩ := HPARTS.out t1 t2 HT1.out.2 HT1.out.1 HT2.out.2 HT2.out.1
          exact ⟨rfl, t1 ++ t2, HR3.out, x1, by rw [HUV.out]; exact x2, HB3.out⟩
        · have f1 : ¬ (i : Int) < m := by omega
          have f2 : ¬ (m : Int) < en := by omega
          have f3 : (a : Int) < i := by omega
          have f4 : ¬ (i : Int) < md := by omega
          have f5 : ¬ (md : Int) < en := by omega
          have f6 : (en : Int) < b := by omega
          have HE := Lib.hid (show u2 = [] ∨ v1 = [] from .inl (List.eq_nil_of_length_eq_zero (by have := HLN.out; omega)))
          have HE1 := Lib.hid (show u1 = [] ∨ v1 = [] from .inr (List.eq_nil_of_length_eq_zero (by have := HLN.out; omega)))
          have HE2 := Lib.hid (show u2 = [] ∨ v2 = [] from .inl (List.eq_nil_of_length_eq_zero (by have := HLN.out; omega)))
          clear t1 t2 t4
          have HB1 := HB
          have HR1 := Lib.hid (show Row wr g (p ++ (u1 ++ (v1 ++ (u2 ++ (v2 ++ s))))) by
            have h1 := HRR.out
            rcases HE.out with k | k
            · subst k; simpa using h1
            · subst k; simpa using h1)
          obtain ⟨t1, ht1⟩ : ∃ t1, u1 ++ v1 = t1 := ⟨_, rfl⟩
          have HR2 := Lib.hid (show Row wr g (p ++ (t1 ++ (u2 ++ (v2 ++ s)))) by rw [← ht1]; simpa using HR1.out)
          have HT1 := Lib.hid (show M.Sor t1 ∧ M.St (u1 ++ v1) t1 from ⟨by
            rw [← ht1]
            rcases HE1.out with k | k
            · subst k; simpa using HS2.out.1
            · subst k; simpa using HS1.out.1, by rw [ht1]; exact M.St.refl _⟩)
          have HB2 := HB1
          clear ht1
          obtain ⟨t2, ht2⟩ : ∃ t2, u2 ++ v2 = t2 := ⟨_, rfl⟩
          have HR3 := Lib.hid (show Row wr g (p ++ ((t1 ++ t2) ++ s)) by rw [← ht2]; simpa using HR2.out)
          have HT2 := Lib.hid (show M.Sor t2 ∧ M.St (u2 ++ v2) t2 from ⟨by
            rw [← ht2]
            rcases HE2.out with k | k
            · subst k; simpa using HS2.out.2.1
            · subst k; simpa using HS1.out.2.1, by rw [ht2]; exact M.St.refl _⟩)
          have HB3 := HB2
          clear ht2
          go_wp2_with fail
          go_end0
          obtain ⟨x1, x2⟩ := HPARTS.out t1 t2 HT1.out.2 HT1.out.1 HT2.out.2 HT2.out.1
          exact ⟨rfl, t1 ++ t2, HR3.out, x1, by rw [HUV.out]; exact x2, HB3.out⟩

theorem merge_all : ∀ N, MergeAll N
  | 0 => fun g a m b len ca p u v s w h => absurd h (by omega)
  | N + 1 => fun g a m b len ca p u v s w h hr hp hm hb hl hc hu0 hv0 hwu hwv hu hv => by
    by_cases h1 : u.length = 1
    · obtain ⟨x, rfl⟩ := List.length_eq_one_iff.1 h1
      exact mergeLeft_any g a m b len ca p x v s w hr hp (by simpa using hm) hb hl hc (hwu x (by simp)) hwv hv
    · by_cases h2 : v.length = 1
      · obtain ⟨y, rfl⟩ := List.length_eq_one_iff.1 h2
        exact mergeRight_any g a m b len ca p u y s w hr hp hm (by omega) (by simpa using hb) hl hc (hwv y (by simp)) hwu hu
      · exact symStep_any N (merge_all N) g a m b len ca p u v s w (by omega) hr hp hm hb hl hc (by omega) (by omega) hwu hwv hu hv
end Go.Proofs.Ytdjdgpfoakkamaa
