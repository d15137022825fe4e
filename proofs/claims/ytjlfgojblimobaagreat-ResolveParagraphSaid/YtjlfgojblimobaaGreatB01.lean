/- At most fifty scalars never go too deep: all that stands in an isolate that is ended is removed, or deeper than it. No program is read here. -/
/- An isolate and its end stand one behind the other in a sequence. No program is read here. -/
/- How the document's Split goes along a chain of runs; and a row of sequences of one's own that gets one more. No function of the program is walked here. -/
import Derived.Test.YtjlfgojblimobaaGreatA18
import Derived.Test.YtjlfgojblimobaaGreatB00
section
namespace Go.Proofs.YtjlfgojblimobaaGreat.M

def Low (base : Int) (m : Mc) (n : Nat) : Prop := m.o = 0 ∧ m.e = 0 ∧ ∀ x ∈ m.s, x.lv ≤ base + 2 * n
theorem Low.more {base : Int} {m : Mc} {n : Nat} (h : Low base m n) : Low base m (n + 1) := ⟨h.1, h.2.1, fun x hx => by have := h.2.2 x hx; omega⟩
theorem next_le (m : Mc) (odd : Int) : m.top.lv < m.next odd ∧ m.next odd ≤ m.top.lv + 2 := by unfold Mc.next; split <;> omega
theorem Low.room {base : Int} {m : Mc} {n : Nat} (h : Low base m n) (hm : m.Ok base) (hn : base + 2 * n + 2 ≤ 125) (odd : Int) : m.room odd := by
  have h1 := h.2.2 _ hm.top_mem
  have h2 := (next_le m odd).2
  exact ⟨by omega, h.1, h.2.1⟩
theorem Low.embed {base : Int} {m : Mc} {n : Nat} (h : Low base m n) (hm : m.Ok base) (hn : base + 2 * n + 2 ≤ 125) (odd ov : Int) : Low base (m.embed odd ov) (n + 1) := by
  unfold Mc.embed
  rw [if_pos (h.room hm hn odd)]
  refine ⟨h.1, h.2.1, fun x hx => ?_⟩
  rcases List.mem_cons.1 hx with rfl | hx
  · have h1 := h.2.2 _ hm.top_mem
    have h2 := (next_le m odd).2
    show m.next odd ≤ _
    omega
  · have := h.2.2 x hx; omega
theorem Low.isolate {base : Int} {m : Mc} {n : Nat} (h : Low base m n) (hm : m.Ok base) (hn : base + 2 * n + 2 ≤ 125) (odd : Int) : Low base (m.isolate odd) (n + 1) := by
  unfold Mc.isolate
  rw [if_pos (h.room hm hn odd)]
  refine ⟨h.1, h.2.1, fun x hx => ?_⟩
  rcases List.mem_cons.1 hx with rfl | hx
  · have h1 := h.2.2 _ hm.top_mem
    have h2 := (next_le m odd).2
    show m.next odd ≤ _
    omega
  · have := h.2.2 x hx; omega
theorem Low.closed {base : Int} {m : Mc} {n : Nat} (h : Low base m n) : Low base m.closed (n + 1) := by
  unfold Mc.closed
  rw [if_neg (by rw [h.1]; omega)]
  split
  · exact h.more
  · exact ⟨h.1, rfl, fun x hx => by have := h.2.2 x ((List.dropWhile_sublist _).mem (List.mem_of_mem_tail hx)); omega⟩
theorem Low.pop {base : Int} {m : Mc} {n : Nat} (h : Low base m n) : Low base m.pop (n + 1) := by
  unfold Mc.pop
  rw [if_neg (by rw [h.1]; omega), if_neg (by rw [h.2.1]; omega)]
  split
  · exact ⟨h.1, h.2.1, fun x hx => by have := h.2.2 x (List.mem_of_mem_tail hx); omega⟩
  · exact h.more
theorem Low.turn {base odd c : Int} {m : Mc} {n : Nat} (h : Low base m n) (hm : m.Ok base) (hn : base + 2 * n + 2 ≤ 125) : Low base (m.turn base odd c) (n + 1) := by
  unfold Mc.turn
  split
  · unfold Mc.does
    (repeat' split) <;> first | exact h.embed hm hn _ _ | exact h.pop | exact h.more
  · split
    · exact ⟨rfl, rfl, fun x hx => by obtain rfl := List.mem_singleton.1 hx; show base ≤ _; omega⟩
    · split
      · exact h.closed
      · split
        · exact h.isolate hm hn odd
        · exact h.more
def Deep (m m' : Mc) (d : Int) : Prop := ∃ t i, m'.s = t ++ i :: m.s ∧ i.iso = true ∧ (∀ x ∈ t ++ [i], m.top.lv < x.lv) ∧ ((t.countP fun x => x.iso : Nat) : Int) = d
theorem Deep.top {m m' : Mc} {d : Int} (h : Deep m m' d) : m.top.lv < m'.top.lv := by
  obtain ⟨t, i, h1, _, h3, _⟩ := h
  unfold Mc.top at h3 ⊢
  rw [h1]
  cases t with
  | nil => exact h3 i (by simp)
  | cons x t => exact h3 x (by simp)
theorem Deep.embed {m m' : Mc} {d : Int} (h : Deep m m' d) (odd ov : Int) : Deep m (m'.embed odd ov) d := by
  have ht := h.top
  have h9 := h
  obtain ⟨t, i, h1, h2, h3, h4⟩ := h
  have hx := (next_le m' odd).1
  unfold Mc.embed
  split
  · refine ⟨_ :: t, i, by show _ :: m'.s = _; rw [h1]; rfl, h2, fun x hx => ?_, by simpa using h4⟩
    rcases List.mem_cons.1 hx with rfl | hx
    · show m.top.lv < m'.next odd; omega
    · exact h3 x hx
  · split <;> exact ⟨t, i, h1, h2, h3, h4⟩
theorem Deep.isolate {m m' : Mc} {d : Int} (h : Deep m m' d) (odd : Int) (hr : m'.room odd) : Deep m (m'.isolate odd) (d + 1) := by
  have ht := h.top
  obtain ⟨t, i, h1, h2, h3, h4⟩ := h
  have hx := (next_le m' odd).1
  unfold Mc.isolate
  rw [if_pos hr]
  refine ⟨_ :: t, i, by show _ :: m'.s = _; rw [h1]; rfl, h2, fun x hx => ?_, by rw [List.countP_cons_of_pos rfl]; omega⟩
  rcases List.mem_cons.1 hx with rfl | hx
  · show m.top.lv < m'.next odd; omega
  · exact h3 x hx
theorem Deep.pop {m m' : Mc} {d : Int} (h : Deep m m' d) : Deep m m'.pop d := by
  have h9 := h
  obtain ⟨t, i, h1, h2, h3, h4⟩ := h
  unfold Mc.pop
  split
  · exact h9
  · split
    · exact ⟨t, i, h1, h2, h3, h4⟩
    · split
      · rename_i hl
        cases t with
        | nil =>
          have : m'.top = i := by unfold Mc.top; rw [h1]; rfl
          rw [this, h2] at hl
          exact absurd hl.2 (by simp)
        | cons x t =>
          have hx : m'.top = x := by unfold Mc.top; rw [h1]; rfl
          have hxi : x.iso = false := by rw [← hx]; exact hl.2
          exact ⟨t, i, by show m'.s.tail = _; rw [h1]; rfl, h2, fun y hy => h3 y (by simp at hy ⊢; exact .inr hy), by simpa [hxi] using h4⟩
      · exact h9
theorem Deep.closed {m m' : Mc} {d base : Int} (hm : m'.Ok base) (h0 : m'.o = 0) (hd : 0 < d) (h : Deep m m' d) : Deep m m'.closed (d - 1) := by
  obtain ⟨t, i, h1, h2, h3, h4⟩ := h
  have hc : 0 < t.countP fun x => x.iso := by omega
  have hv : m'.v ≠ 0 := by
    have h5 := hm.cnt
    rw [h1, List.countP_append] at h5
    have e4 : List.countP Ent.iso t = t.countP (fun x => x.iso) := rfl
    omega
  unfold Mc.closed
  rw [if_neg (by omega), if_neg hv]
  obtain ⟨t1, z, t2, e1, e2, e3, _⟩ := drop_iso hc
  refine ⟨t2, i, ?_, h2, fun x hx => h3 x (by rw [e1]; simp at hx ⊢; rcases hx with hx | hx <;> simp [hx]), ?_⟩
  · show (m'.s.dropWhile fun x => !x.iso).tail = _
    rw [h1, e1, List.append_assoc, drop_all e2, List.cons_append, List.dropWhile_cons_of_neg (by simp [e3]), List.tail_cons]
  · have h0 : t1.countP (fun x => x.iso) = 0 := by rw [List.countP_eq_zero]; intro x hx; simp [e2 x hx]
    have e4 : List.countP Ent.iso t2 = t2.countP (fun x => x.iso) := rfl
    rw [e1, List.countP_append, List.countP_cons_of_pos e3, h0] at h4
    omega
theorem Deep.turn {m m' : Mc} {d base odd c : Int} (hm : m'.Ok base) (hr : m'.room odd) (h : Deep m m' d) (h1 : c ≠ 10) (h2 : c = 22 → 0 < d) : Deep m (m'.turn base odd c) (opened d c) := by
  unfold Mc.turn
  by_cases hrm : removed c = true
  · rw [if_pos hrm]
    obtain ⟨r1, r2, r3⟩ := removed_not hrm
    have ho : opened d c = d := by unfold opened; rw [if_neg (by rw [r3]; simp), if_neg r2]; omega
    rw [ho]
    unfold Mc.does
    (repeat' split) <;> first | exact h.embed _ _ | exact h.pop | exact h
  · rw [if_neg hrm, if_neg h1]
    by_cases h22 : c = 22
    · subst h22
      rw [if_pos rfl, opened_22]
      exact h.closed hm hr.2.1 (h2 rfl)
    · rw [if_neg h22]
      by_cases hb : begins c = true
      · rw [if_pos hb, opened_begin hb]
        exact h.isolate odd hr
      · rw [if_neg hb]
        have ho : opened d c = d := by unfold opened; rw [if_neg hb, if_neg h22]; omega
        rw [ho]
        exact h
theorem Deep.begin (m : Mc) (odd : Int) (hr : m.room odd) : Deep m (m.isolate odd) 0 := by
  unfold Mc.isolate
  rw [if_pos hr]
  exact ⟨[], ⟨m.next odd, 13, true⟩, rfl, rfl, fun x hx => by obtain rfl := List.mem_singleton.1 hx; exact (next_le m odd).1, rfl⟩
end Go.Proofs.YtjlfgojblimobaaGreat.M
end

section
namespace Go.Proofs.YtjlfgojblimobaaGreat.M

theorem mem_grow {T F : Nat → Int} (i : Nat) {t u : Nat} (h : t ≤ u) : ∃ r, mem T F u i = mem T F t i ++ r := by
  induction u with
  | zero => obtain rfl : t = 0 := by omega
            exact ⟨[], by simp⟩
  | succ u ih =>
    rcases Nat.lt_or_ge t (u + 1) with h1 | h1
    · obtain ⟨r, hr⟩ := ih (by omega)
      by_cases h2 : hd T F u = i
      · exact ⟨r ++ [u], by rw [mem_in h2, hr, List.append_assoc]⟩
      · exact ⟨r, by rw [mem_out h2, hr]⟩
    · obtain rfl : t = u + 1 := by omega
      exact ⟨[], by simp⟩
section
variable {l lv : List Int} {b : Int}
end
/-! Each place once. -/
theorem count_two : ∀ L : List Int, (∀ x, L.count x ≤ 1) → L.Pairwise (· ≠ ·) := by
  intro L
  induction L with
  | nil => intro _; exact List.Pairwise.nil
  | cons y r ih =>
    intro h
    refine List.pairwise_cons.2 ⟨fun z hz he => ?_, ih fun x => by have := h x; rw [List.count_cons] at this; omega⟩
    have h1 := h y
    rw [List.count_cons_self] at h1
    have h2 : 0 < r.count y := List.count_pos_iff.2 (he ▸ hz)
    omega
theorem once_two {ss : List Sq} (h : ∀ x : Int, (ss.flatMap (·.pl)).count x ≤ 1) {i i' k k' : Nat} {s s' : Sq} {x : Int} (hs : ss[i]? = some s) (hs' : ss[i']? = some s') (hk : s.pl[k]? = some x) (hk' : s'.pl[k']? = some x) : i = i' ∧ k = k' := by
  have h1 := count_two _ h
  rw [List.pairwise_flatMap] at h1
  obtain ⟨h1, h2⟩ := h1
  obtain ⟨hi, ei⟩ := List.getElem?_eq_some_iff.1 hs
  obtain ⟨hi', ei'⟩ := List.getElem?_eq_some_iff.1 hs'
  have hii : i = i' := by
    rcases Nat.lt_trichotomy i i' with h3 | h3 | h3
    · have := List.pairwise_iff_getElem.1 h2 i i' hi hi' h3
      rw [ei, ei'] at this
      exact absurd rfl (this x (List.mem_of_getElem? hk) x (List.mem_of_getElem? hk'))
    · exact h3
    · have := List.pairwise_iff_getElem.1 h2 i' i hi' hi h3
      rw [ei, ei'] at this
      exact absurd rfl (this x (List.mem_of_getElem? hk') x (List.mem_of_getElem? hk))
  subst hii
  rw [hs] at hs'
  obtain rfl := Option.some.inj hs'
  refine ⟨rfl, ?_⟩
  obtain ⟨hk1, ek⟩ := List.getElem?_eq_some_iff.1 hk
  obtain ⟨hk1', ek'⟩ := List.getElem?_eq_some_iff.1 hk'
  have h3 := List.pairwise_iff_getElem.1 (h1 s (List.mem_of_getElem? hs))
  rcases Nat.lt_trichotomy k k' with h4 | h4 | h4
  · exact absurd (ek.trans ek'.symm) (h3 k k' hk1 hk1' h4)
  · exact h4
  · exact absurd (ek'.trans ek.symm) (h3 k' k hk1' hk1 h4)
def Nxt (ss : List Sq) (i k : Nat) (N : List Int) : Prop := ∀ (i' k' : Nat) (s : Sq) (p q : Int), (i' < i ∨ i' = i ∧ k' < k) → ss[i']? = some s → s.pl[k']? = some p → s.pl[k' + 1]? = some q → N[p.toNat]? = some q
theorem Nxt.first (ss : List Sq) (N : List Int) : Nxt ss 0 0 N := fun i' k' s p q h => by omega
theorem Nxt.turn {ss : List Sq} {i k : Nat} {N : List Int} {s : Sq} (h : Nxt ss i k N) (hs : ss[i]? = some s) (hk : s.pl.length ≤ k + 1) : Nxt ss (i + 1) 0 N := fun i' k' s' p q h1 h2 h3 h4 => by
  by_cases hi : i' < i
  · exact h i' k' s' p q (.inl hi) h2 h3 h4
  · obtain rfl : i' = i := by omega
    rw [hs] at h2
    obtain rfl := Option.some.inj h2
    have := (List.getElem?_eq_some_iff.1 h4).1
    exact h i' k' s p q (.inr ⟨rfl, by omega⟩) hs h3 h4
theorem Nxt.step {ss : List Sq} {i k : Nat} {N : List Int} {s : Sq} {p : Nat} {q : Int} (hct : ∀ x : Int, (ss.flatMap (·.pl)).count x ≤ 1) (hnn : ∀ s ∈ ss, ∀ x ∈ s.pl, 0 ≤ x) (h : Nxt ss i k N) (hs : ss[i]? = some s) (hp : s.pl[k]? = some (p : Int)) (hq : s.pl[k + 1]? = some q) (hlt : p < N.length) : Nxt ss i (k + 1) (N.set p q) := fun i' k' s' p' q' h1 h2 h3 h4 => by
  have h0 := hnn s' (List.mem_of_getElem? h2) p' (List.mem_of_getElem? h3)
  by_cases hpp : p = p'.toNat
  · have e : p' = (p : Int) := by omega
    subst e
    obtain ⟨rfl, rfl⟩ := once_two hct hs h2 hp h3
    rw [hs] at h2
    obtain rfl := Option.some.inj h2
    rw [hq] at h4
    rw [← hpp, List.getElem?_set_self hlt]
    exact h4
  · rw [List.getElem?_set_ne hpp]
    refine h i' k' s' p' q' ?_ h2 h3 h4
    rcases h1 with h1 | ⟨rfl, h1⟩
    · exact .inl h1
    · rcases Nat.lt_or_ge k' k with h5 | h5
      · exact .inr ⟨rfl, h5⟩
      · obtain rfl : k' = k := by omega
        rw [hs] at h2
        obtain rfl := Option.some.inj h2
        rw [hp] at h3
        have := Option.some.inj h3
        omega
end Go.Proofs.YtjlfgojblimobaaGreat.M
end

section
namespace Go.Proofs.YtjlfgojblimobaaGreat.M

section
variable {T F : Nat → Int} {m : Nat}
theorem Chains.step (hc : Chains T F m) {c k : Nat} (hk : k < m) (hcm : c < m) (h : T c = F k) : c < k ∧ hd T F k = hd T F c ∧ mem T F (k + 1) (hd T F c) = mem T F (c + 1) (hd T F c) ++ [k] := by
  obtain ⟨h1, h2⟩ := hc.pv_of hk hcm h
  refine ⟨h1, hd_some h2, ?_⟩
  rw [mem_in (hd_some h2), hc.mem_next hk h2, mem_in rfl]
theorem Chains.stop (hc : Chains T F m) {c : Nat} (hcm : c < m) (h : ∀ k, k < m → T c ≠ F k) : mem T F m (hd T F c) = mem T F (c + 1) (hd T F c) := by
  rw [hc.mem_end hcm (fun t ht e => h t ht (pv_some e).2), mem_in rfl]
theorem mem_one {i : Nat} (h : pv T F i = none) : mem T F (i + 1) i = [i] := by rw [mem_in (hd_none h), mem_first]; rfl
end
section
variable {l lv : List Int} {b : Int}
def upTo (l lv : List Int) (b : Int) (c : Nat) : List Int := (mem (goes l (runs lv b)) (from_ (runs lv b)) (c + 1) (hd (goes l (runs lv b)) (from_ (runs lv b)) c)).flatMap fun j => (rn (runs lv b) j).pl
theorem upTo_one {i : Nat} (h : pv (goes l (runs lv b)) (from_ (runs lv b)) i = none) : upTo l lv b i = (rn (runs lv b) i).pl := by
  unfold upTo
  rw [hd_none h, mem_one h]
  simp
theorem upTo_step {c k : Nat} (hk : k < (runs lv b).length) (hc : c < (runs lv b).length) (h : goes l (runs lv b) c = from_ (runs lv b) k) :
    c < k ∧ hd (goes l (runs lv b)) (from_ (runs lv b)) k = hd (goes l (runs lv b)) (from_ (runs lv b)) c ∧ upTo l lv b k = upTo l lv b c ++ (rn (runs lv b) k).pl := by
  obtain ⟨h1, h2, h3⟩ := (runs_chains l lv b).step hk hc h
  refine ⟨h1, h2, ?_⟩
  unfold upTo
  rw [h2, h3, List.flatMap_append]
  simp
theorem upTo_ends (c : Nat) : (∃ X, upTo l lv b c = X ++ (rn (runs lv b) c).pl) ∧ ∃ Y, upTo l lv b c = (rn (runs lv b) (hd (goes l (runs lv b)) (from_ (runs lv b)) c)).pl ++ Y := by
  constructor
  · unfold upTo
    rw [mem_in rfl, List.flatMap_append]
    exact ⟨(mem (goes l (runs lv b)) (from_ (runs lv b)) c (hd (goes l (runs lv b)) (from_ (runs lv b)) c)).flatMap fun j => (rn (runs lv b) j).pl, by simp⟩
  · obtain ⟨r, hr⟩ := mem_grow (T := goes l (runs lv b)) (F := from_ (runs lv b)) (hd (goes l (runs lv b)) (from_ (runs lv b)) c) (show hd (goes l (runs lv b)) (from_ (runs lv b)) c + 1 ≤ c + 1 by have := hd_le (T := goes l (runs lv b)) (F := from_ (runs lv b)) c; omega)
    unfold upTo
    rw [hr, mem_one (hd_head c), List.flatMap_append]
    exact ⟨r.flatMap fun j => (rn (runs lv b) j).pl, by simp⟩
theorem upTo_stop {c : Nat} (hc : c < (runs lv b).length) (h : ∀ k, k < (runs lv b).length → goes l (runs lv b) c ≠ from_ (runs lv b) k) :
    sq l b (runs lv b) (runs lv b).length (hd (goes l (runs lv b)) (from_ (runs lv b)) c) = ⟨upTo l lv b c, (rn (runs lv b) (hd (goes l (runs lv b)) (from_ (runs lv b)) c)).lv, sd (rn (runs lv b) (hd (goes l (runs lv b)) (from_ (runs lv b)) c)).lv (rn (runs lv b) (hd (goes l (runs lv b)) (from_ (runs lv b)) c)).ah, sd (rn (runs lv b) (hd (goes l (runs lv b)) (from_ (runs lv b)) c)).lv (bh l b (rn (runs lv b) c))⟩ := by
  have h1 := (runs_chains l lv b).stop hc h
  unfold sq upTo
  rw [h1, mem_in rfl]
  congr 4
  simp
theorem upTo_len {c : Nat} (hc : c < (runs lv b).length) : (upTo l lv b c).length ≤ lv.length := by
  have h1 := heads_at (T := goes l (runs lv b)) (F := from_ (runs lv b)) (i := hd (goes l (runs lv b)) (from_ (runs lv b)) c) (t := c + 1) (by have := hd_le (T := goes l (runs lv b)) (F := from_ (runs lv b)) c; omega) (hd_head c)
  have h2 : (sqs l b (runs lv b) (c + 1))[(heads (goes l (runs lv b)) (from_ (runs lv b)) (hd (goes l (runs lv b)) (from_ (runs lv b)) c)).length]? = some (sq l b (runs lv b) (c + 1) (hd (goes l (runs lv b)) (from_ (runs lv b)) c)) := by
    unfold sqs
    rw [List.getElem?_map, h1]
    rfl
  exact sq_len (l := l) (lv := lv) (b := b) (show c + 1 ≤ (runs lv b).length by omega) h2
def whole (l lv : List Int) (b : Int) (i : Nat) : List Sq := (heads (goes l (runs lv b)) (from_ (runs lv b)) i).map (sq l b (runs lv b) (runs lv b).length)
theorem whole_no {i : Nat} (h : (pv (goes l (runs lv b)) (from_ (runs lv b)) i).isSome = true) : whole l lv b (i + 1) = whole l lv b i := by
  obtain ⟨p, hp⟩ := Option.isSome_iff_exists.1 h
  unfold whole
  rw [heads_go hp]
theorem whole_more {i : Nat} (h : pv (goes l (runs lv b)) (from_ (runs lv b)) i = none) : whole l lv b (i + 1) = whole l lv b i ++ [sq l b (runs lv b) (runs lv b).length i] := by
  unfold whole
  rw [heads_no h, List.map_append]
  rfl
end
end Go.Proofs.YtjlfgojblimobaaGreat.M
namespace Go.Proofs.YtjlfgojblimobaaGreat
open Go.RowKit
set_option maxRecDepth 100000
section
variable {W W1 : World} {base : Nat} {vs : List Sv} {ls : List (List Int)}
theorem Rws.put (h : Rws W base vs ls) {v : Sv} {l : List Int} (ho : W.ownsRow base 3 1 (.slice v.1 l.length v.2) l.length (l.map (Value.int .i64))) {H : Nat} (hnew : ∀ g, v.1.map (·.block) = some g → H ≤ g) (hold : ∀ (k : Nat) (v' : Sv) (g : Nat), vs[k]? = some v' → v'.1.map (·.block) = some g → g < H) :
    Rws W base (vs ++ [v]) (ls ++ [l]) := by
  have hl := h.len
  have last : ∀ (k : Nat) (v' : Sv), (vs ++ [v])[k]? = some v' → (k < vs.length ∧ vs[k]? = some v') ∨ (k = vs.length ∧ v' = v) := fun k v' hk => by
    rcases Nat.lt_or_ge k vs.length with h1 | h1
    · rw [List.getElem?_append_left h1] at hk; exact .inl ⟨h1, hk⟩
    · have h2 : k = vs.length := by have := (List.getElem?_eq_some_iff.1 hk).1; simp at this; omega
      rw [List.getElem?_append_right h1, h2, Nat.sub_self] at hk
      exact .inr ⟨h2, (Option.some.inj hk).symm⟩
  refine ⟨by simp [hl], fun k v' l' h1 h2 => ?_, fun i j v' v'' g hij h1 h2 h3 => ?_⟩
  · rcases last k v' h1 with ⟨hk, h1⟩ | ⟨rfl, rfl⟩
    · rw [List.getElem?_append_left (by omega)] at h2
      exact h.own k v' l' h1 h2
    · rw [List.getElem?_append_right (by omega), hl, Nat.sub_self] at h2
      obtain rfl := Option.some.inj h2
      exact ho
  · rcases last i v' h1 with ⟨hi, hq1⟩ | ⟨rfl, rfl⟩
    · rcases last j v'' h2 with ⟨hj, hq2⟩ | ⟨rfl, rfl⟩
      · exact h.apart i j v' v'' g hij hq1 hq2 h3
      · intro e
        have := hold i v' g hq1 h3
        have := hnew g e
        omega
    · rcases last j v'' h2 with ⟨hj, hq2⟩ | ⟨rfl, rfl⟩
      · intro e
        have := hold j v'' g hq2 e
        have := hnew g h3
        omega
      · exact absurd rfl hij
end
end Go.Proofs.YtjlfgojblimobaaGreat
end
