/- Spans behind scalars that come and go: right, there and back, and the others' looks. No function of the program is walked here. -/
import Derived.Test.YteknpodofmmklaaDoorPure
namespace Go.Proofs.YteknpodofmmklaaDoor

theorem M.ok_of {a b : M.S} (h : a.ok = true) (hb : b.bare = a.bare) (hl : b.c = true → b.t - b.f ≤ 4) : b.ok = true := by
  rw [M.ok_iff] at h ⊢
  exact ⟨(M.fine_of hb).trans h.1, hl⟩
theorem M.insS_some {a n : Int} {s s' : M.S} (h : M.insS a n s = some s') :
    ¬ (s.c = true ∧ s.f < a ∧ a < s.t ∧ 4 - n < s.t - s.f) ∧ s'.f = (if a ≤ s.f then s.f + n else s.f) ∧ s'.t = (if a < s.t then s.t + n else s.t) ∧ s'.bare = s.bare ∧ s'.c = s.c := by
  unfold M.insS at h
  split at h
  · cases h
  · rename_i hn
    obtain rfl := Option.some.inj h
    exact ⟨hn, rfl, rfl, rfl, rfl⟩
theorem M.delS_some {a b : Int} {s s' : M.S} (h : M.delS a b s = some s') :
    s'.f < s'.t ∧ s'.f = M.back a b s.f ∧ s'.t = M.back a b s.t ∧ s'.bare = s.bare ∧ s'.c = s.c := by
  unfold M.delS at h
  split at h
  · rename_i hn
    obtain rfl := Option.some.inj h
    exact ⟨hn, rfl, rfl, rfl, rfl⟩
  · cases h
theorem M.ins_rt {l : List M.S} {n a k : Int} (h : M.Rt n l) (_ha : 0 ≤ a) (hk : 0 ≤ k) : M.Rt (n + k) (l.filterMap (M.insS a k)) := by
  refine ⟨fun s' hs' => ?_, h.two.filterMap _ fun x y hxy x' hx' y' hy' => ?_⟩
  · obtain ⟨s, hs, he⟩ := List.mem_filterMap.1 hs'
    obtain ⟨h0, h1, h2, h3⟩ := h.each s hs
    obtain ⟨g0, g1, g2, g3, g4⟩ := M.insS_some he
    have hc := (M.ok_iff.1 h3).2
    refine ⟨by rw [g1]; split <;> omega, by rw [g1, g2]; split <;> split <;> omega, by rw [g2]; split <;> omega, M.ok_of h3 g3 fun hc' => ?_⟩
    rw [g4] at hc'
    have := hc hc'
    rw [g1, g2]
    rcases Int.lt_or_le s.f a with h5 | h5
    · rcases Int.lt_or_le a s.t with h6 | h6
      · have : ¬ 4 - k < s.t - s.f := fun h7 => g0 ⟨hc', h5, h6, h7⟩
        (repeat' split) <;> omega
      · (repeat' split) <;> omega
    · (repeat' split) <;> omega
  · obtain ⟨_, _, g2, _⟩ := M.insS_some (Option.mem_def.1 hx')
    obtain ⟨_, g1, _⟩ := M.insS_some (Option.mem_def.1 hy')
    rw [g1, g2]
    split <;> split <;> omega
theorem M.back_mono {a b x y : Int} (h : x ≤ y) : M.back a b x ≤ M.back a b y := by unfold M.back; split <;> split <;> omega
theorem M.back_near {a b x y : Int} (hab : a ≤ b) (h : x ≤ y) : M.back a b y - M.back a b x ≤ y - x := by unfold M.back; split <;> split <;> omega
theorem M.del_rt {l : List M.S} {n a b m : Int} (h : M.Rt n l) (ha : 0 ≤ a) (hab : a ≤ b) (hm : ∀ x, x ≤ n → M.back a b x ≤ m) : M.Rt m (l.filterMap (M.delS a b)) := by
  refine ⟨fun s' hs' => ?_, h.two.filterMap _ fun x y hxy x' hx' y' hy' => ?_⟩
  · obtain ⟨s, hs, he⟩ := List.mem_filterMap.1 hs'
    obtain ⟨h0, h1, h2, h3⟩ := h.each s hs
    obtain ⟨g0, g1, g2, g3, g4⟩ := M.delS_some he
    have hc := (M.ok_iff.1 h3).2
    refine ⟨by rw [g1]; unfold M.back; split <;> omega, g0, by rw [g2]; exact hm _ h2, M.ok_of h3 g3 fun hc' => ?_⟩
    rw [g4] at hc'
    have := hc hc'
    have := M.back_near hab (Int.le_of_lt h1)
    rw [g1, g2]
    omega
  · obtain ⟨_, _, g2, _⟩ := M.delS_some (Option.mem_def.1 hx')
    obtain ⟨_, g1, _⟩ := M.delS_some (Option.mem_def.1 hy')
    rw [g1, g2]
    exact M.back_mono hxy
theorem M.fm_congr {f g : M.S → Option M.S} {l : List M.S} (h : ∀ s ∈ l, f s = g s) : l.filterMap f = l.filterMap g := by
  induction l with
  | nil => rfl
  | cons s r ih =>
    rw [List.filterMap_cons, List.filterMap_cons, h s (by simp), ih (fun z hz => h z (by simp [hz]))]
/-- What is left of spans where scalars come and go again. -/
def M.stays (a k : Int) (s : M.S) : Bool := !s.c || (decide (a ≤ s.f) || (decide (s.t ≤ a) || decide (s.t - s.f + k ≤ 4)))
theorem M.there_back {l : List M.S} {n a k : Int} (h : M.Rt n l) (_ha : 0 ≤ a) (hk : 0 ≤ k) : (l.filterMap (M.insS a k)).filterMap (M.delS a (a + k)) = l.filter (M.stays a k) := by
  rw [List.filterMap_filterMap, ← List.filterMap_eq_filter]
  refine M.fm_congr fun s hs => ?_
  obtain ⟨h0, h1, h2, h3⟩ := h.each s hs
  have hc := (M.ok_iff.1 h3).2
  obtain ⟨f, t, p, c, r, x⟩ := s
  dsimp only at h0 h1 h2 hc
  by_cases hd : c = true ∧ f < a ∧ a < t ∧ 4 - k < t - f
  · obtain ⟨rfl, q1, q2, q3⟩ := hd
    unfold M.insS
    rw [if_pos ⟨rfl, q1, q2, q3⟩]
    have : M.stays a k ⟨f, t, p, true, r, x⟩ = false := by
      unfold M.stays
      rw [decide_eq_false (by dsimp only; omega), decide_eq_false (by dsimp only; omega), decide_eq_false (by dsimp only; omega)]
      rfl
    simp [Option.guard, this]
  · have hst : M.stays a k ⟨f, t, p, c, r, x⟩ = true := by
      unfold M.stays
      cases c
      · rfl
      · have h4 := hc rfl
        simp only [Bool.not_true, Bool.false_or, Bool.or_eq_true, decide_eq_true_eq]
        rcases Int.lt_or_le f a with q1 | q1
        · rcases Int.lt_or_le a t with q2 | q2
          · right; right
            rcases Int.lt_or_le (4 - k) (t - f) with q3 | q3
            · exact absurd ⟨rfl, q1, q2, q3⟩ hd
            · omega
          · right; left; omega
        · left; omega
    have e1 : M.insS a k ⟨f, t, p, c, r, x⟩ = some ⟨if a ≤ f then f + k else f, if a < t then t + k else t, p, c, r, x⟩ := by unfold M.insS; rw [if_neg hd]
    have b1 : M.back a (a + k) (if a ≤ f then f + k else f) = f := by unfold M.back; split <;> split <;> omega
    have b2 : M.back a (a + k) (if a < t then t + k else t) = t := by unfold M.back; split <;> split <;> omega
    have e2 : M.delS a (a + k) ⟨if a ≤ f then f + k else f, if a < t then t + k else t, p, c, r, x⟩ = some ⟨f, t, p, c, r, x⟩ := by
      unfold M.delS
      dsimp only
      rw [b1, b2, if_pos h1]
    rw [e1]
    simp [Option.guard, hst, e2]
theorem M.del_look {l : List M.S} {n a k i : Int} (h : M.Rt n l) (ha : 0 ≤ a) (hk : 0 ≤ k) (hi : ¬ (a ≤ i ∧ i < a + k)) : M.look (l.filterMap (M.delS a (a + k))) (if a + k ≤ i then i - k else i) = M.look l i := by
  obtain ⟨j, hj⟩ : ∃ j, (if a + k ≤ i then i - k else i) = j := ⟨_, rfl⟩
  rw [hj]
  have hrt : M.Rt (n + a + k) (l.filterMap (M.delS a (a + k))) := M.del_rt h ha (by omega) fun x hx => by unfold M.back; split <;> omega
  by_cases hex : ∃ s ∈ l, s.has i = true
  · obtain ⟨s, hs, hsi⟩ := hex
    obtain ⟨h0, h1, h2, h3⟩ := h.each s hs
    rw [M.look_mem h hs hsi]
    rw [M.has_iff] at hsi
    have hb : M.back a (a + k) s.f ≤ j ∧ j < M.back a (a + k) s.t := by
      rw [← hj]
      unfold M.back
      split <;> split <;> split <;> omega
    have he : M.delS a (a + k) s = some { s with f := M.back a (a + k) s.f, t := M.back a (a + k) s.t } := by unfold M.delS; rw [if_pos (by omega)]
    rw [M.look_mem hrt (List.mem_filterMap.2 ⟨s, hs, he⟩) (M.has_iff.2 hb)]
    rfl
  · rw [M.look_out (l := l) fun s hs => by
      cases hh : s.has i
      · rfl
      · exact absurd ⟨s, hs, hh⟩ hex]
    refine M.look_out fun s' hs' => ?_
    obtain ⟨s, hs, he⟩ := List.mem_filterMap.1 hs'
    obtain ⟨h0, h1, h2, h3⟩ := h.each s hs
    obtain ⟨g0, g1, g2, _⟩ := M.delS_some he
    cases hh : s'.has j
    · rfl
    · refine absurd ⟨s, hs, ?_⟩ hex
      rw [M.has_iff] at hh ⊢
      rw [g1, g2, ← hj] at hh
      unfold M.back at hh
      (repeat' split at hh) <;> omega
theorem M.ins_look {l : List M.S} {n a k i : Int} (h : M.Rt n l) (ha : 0 ≤ a) (hk : 0 ≤ k) (hc : (M.look l i).c = false) : M.look (l.filterMap (M.insS a k)) (if a ≤ i then i + k else i) = M.look l i := by
  obtain ⟨j, hj⟩ : ∃ j, (if a ≤ i then i + k else i) = j := ⟨_, rfl⟩
  rw [hj]
  have hrt := M.ins_rt h ha hk
  by_cases hex : ∃ s ∈ l, s.has i = true
  · obtain ⟨s, hs, hsi⟩ := hex
    obtain ⟨h0, h1, h2, h3⟩ := h.each s hs
    rw [M.look_mem h hs hsi] at hc ⊢
    have hc' : s.c = false := hc
    rw [M.has_iff] at hsi
    have he : M.insS a k s = some { s with f := if a ≤ s.f then s.f + k else s.f, t := if a < s.t then s.t + k else s.t } := by unfold M.insS; rw [if_neg (by rw [hc']; simp)]
    rw [M.look_mem hrt (List.mem_filterMap.2 ⟨s, hs, he⟩) (M.has_iff.2 (by dsimp only; rw [← hj]; split <;> split <;> split <;> omega))]
    rfl
  · rw [M.look_out (l := l) fun s hs => by
      cases hh : s.has i
      · rfl
      · exact absurd ⟨s, hs, hh⟩ hex]
    refine M.look_out fun s' hs' => ?_
    obtain ⟨s, hs, he⟩ := List.mem_filterMap.1 hs'
    obtain ⟨h0, h1, h2, h3⟩ := h.each s hs
    obtain ⟨_, g1, g2, _⟩ := M.insS_some he
    cases hh : s'.has j
    · rfl
    · refine absurd ⟨s, hs, ?_⟩ hex
      rw [M.has_iff] at hh ⊢
      rw [g1, g2, ← hj] at hh
      (repeat' split at hh) <;> omega
end Go.Proofs.YteknpodofmmklaaDoor
