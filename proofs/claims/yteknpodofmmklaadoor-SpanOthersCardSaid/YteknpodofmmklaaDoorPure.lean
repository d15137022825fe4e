/- Spans as plain values and lists: which are right, which has a scalar, the shortest, and what is left behind scalars that come and go. No function of the program is walked here. -/
import Derived.Test.YteknpodofmmklaaDoorMathB
import Derived.Test.YteknpodofmmklaaDoorRefCells
namespace Go.Proofs.YteknpodofmmklaaDoor

/-- A span. -/
structure M.S where
  f : Int
  t : Int
  p : Int
  c : Bool
  r : ByteArray
  x : Int
theorem M.bytes_iff (a b : ByteArray) : a.toList = b.toList ↔ a = b := by
  rw [ByteArray.toList_eq, ByteArray.toList_eq]
  exact ⟨fun h => by cases a; cases b; simp at h; rw [h], fun h => by rw [h]⟩
/-- Whether two spans are one, field by field. -/
def M.eq6 (f t p : Int) (c : Bool) (r : ByteArray) (x f' t' p' : Int) (c' : Bool) (r' : ByteArray) (x' : Int) : Bool :=
  decide (f = f') && (decide (t = t') && (decide (p = p') && (decide (c = c') && (decide (r.toList = r'.toList) && decide (x = x')))))
def M.S.same (a b : M.S) : Bool := M.eq6 a.f a.t a.p a.c a.r a.x b.f b.t b.p b.c b.r b.x
theorem M.same_iff {a b : M.S} : a.same b = true ↔ a = b := by
  obtain ⟨f, t, p, c, r, x⟩ := a
  obtain ⟨f', t', p', c', r', x'⟩ := b
  simp [M.S.same, M.eq6, M.bytes_iff]
theorem M.same_no {a b : M.S} : a.same b = false ↔ a ≠ b := by
  rw [ne_eq, ← M.same_iff, Bool.not_eq_true]
def M.S.bare (s : M.S) : M.S := ⟨0, 0, s.p, s.c, s.r, s.x⟩
def M.zeroS : M.S := ⟨0, 0, 0, false, ⟨#[]⟩, 0⟩
theorem M.bare_bare (s : M.S) : s.bare.bare = s.bare := rfl
theorem M.bare_zero : M.zeroS.bare = M.zeroS := rfl

/-- The bytes of a text as numbers. -/
def M.nums (r : ByteArray) : List Int := r.data.toList.map fun b => (b.toNat : Int)
theorem M.nums_len (r : ByteArray) : (M.nums r).length = r.size := by unfold M.nums; rw [List.length_map]; rfl
theorem M.nums_bytes (r : ByteArray) : ∀ y ∈ M.nums r, 0 ≤ y ∧ y ≤ 255 := by
  intro y hy
  unfold M.nums at hy
  rw [List.mem_map] at hy
  obtain ⟨b, _, rfl⟩ := hy
  have := b.toNat_lt
  omega
def M.scaleOk (x : Int) : Bool := decide (x = 0) || (match M.cellsI x with | some k => decide (1 ≤ k) | none => false)
def M.rubyOk (r : ByteArray) : Bool := match M.dec (M.nums r) with | some l => decide (l.length ≤ 20) | none => false
/-- The look of a span is right, but for how long it is. -/
def M.S.fine (s : M.S) : Bool := decide (0 ≤ s.p) && (decide (s.p ≤ 2) && (!(s.c && decide (s.r.toList ≠ [])) && (M.scaleOk s.x && M.rubyOk s.r)))
def M.S.ok (s : M.S) : Bool := s.fine && !(s.c && decide (4 < s.t - s.f))
theorem M.fine_bare (s : M.S) : s.bare.fine = s.fine := rfl
theorem M.fine_of {a b : M.S} (h : a.bare = b.bare) : a.fine = b.fine := by rw [← M.fine_bare a, ← M.fine_bare b, h]
theorem M.ok_iff {s : M.S} : s.ok = true ↔ s.fine = true ∧ (s.c = true → s.t - s.f ≤ 4) := by
  unfold M.S.ok
  cases s.fine <;> cases s.c <;> simp

/-- Right spans of a text of n scalars, that begin at e or behind it. -/
def M.chain (n : Int) : Int → List M.S → Bool
  | _, [] => true
  | e, s :: r => (decide (e ≤ s.f) && (decide (s.f < s.t) && (decide (s.t ≤ n) && s.ok))) && M.chain n s.t r
def M.right (l : List M.S) (n : Int) : Bool := decide (l.length ≤ 40) && M.chain n 0 l
/-- The same, said of each and of each two. -/
structure M.Rt (n : Int) (l : List M.S) : Prop where
  each : ∀ s ∈ l, 0 ≤ s.f ∧ s.f < s.t ∧ s.t ≤ n ∧ s.ok = true
  two : l.Pairwise fun a b => a.t ≤ b.f
theorem M.chain_iff {n : Int} {l : List M.S} {e : Int} (he : 0 ≤ e) : M.chain n e l = true ↔ (∀ s ∈ l, e ≤ s.f) ∧ M.Rt n l := by
  induction l generalizing e with
  | nil => simp [M.chain]; exact ⟨by simp, .nil⟩
  | cons s r ih =>
    unfold M.chain
    simp only [Bool.and_eq_true, decide_eq_true_eq]
    constructor
    · rintro ⟨⟨h1, h2, h3, h4⟩, h5⟩
      obtain ⟨h6, h7⟩ := (ih (by omega)).1 h5
      refine ⟨fun z hz => ?_, fun z hz => ?_, .cons h6 h7.two⟩
      · rcases List.mem_cons.1 hz with rfl | hz
        · exact h1
        · have := h6 z hz; omega
      · rcases List.mem_cons.1 hz with rfl | hz
        · exact ⟨by omega, h2, h3, h4⟩
        · exact h7.each z hz
    · rintro ⟨h1, h2⟩
      obtain ⟨q1, q2, q3, q4⟩ := h2.each s (by simp)
      obtain ⟨p1, p2⟩ := List.pairwise_cons.1 h2.two
      exact ⟨⟨h1 s (by simp), q2, q3, q4⟩, (ih (by omega)).2 ⟨p1, fun z hz => h2.each z (by simp [hz]), p2⟩⟩
theorem M.right_iff {n : Int} {l : List M.S} : M.right l n = true ↔ l.length ≤ 40 ∧ M.Rt n l := by
  unfold M.right
  rw [Bool.and_eq_true, decide_eq_true_eq, M.chain_iff (Int.le_refl 0)]
  exact ⟨fun h => ⟨h.1, h.2.2⟩, fun h => ⟨h.1, fun s hs => (h.2.each s hs).1, h.2⟩⟩

/-- A span has a scalar. -/
def M.S.has (s : M.S) (i : Int) : Bool := decide (s.f ≤ i) && decide (i < s.t)
def M.atI (l : List M.S) (i : Int) : Option Nat := l.findIdx? fun s => s.has i
def M.look (l : List M.S) (i : Int) : M.S := match l.find? fun s => s.has i with | some s => s.bare | none => M.zeroS
theorem M.has_iff {s : M.S} {i : Int} : s.has i = true ↔ s.f ≤ i ∧ i < s.t := by simp [M.S.has]
theorem M.look_at {l : List M.S} {i : Int} {k : Nat} {s : M.S} (h : M.atI l i = some k) (hs : l[k]? = some s) : M.look l i = s.bare := by
  unfold M.atI at h
  unfold M.look
  rw [List.findIdx?_eq_some_iff_getElem] at h
  obtain ⟨hk, h1, h2⟩ := h
  have : l.find? (fun s => s.has i) = some s := by
    rw [List.find?_eq_some_iff_getElem]
    obtain ⟨hk', rfl⟩ := List.getElem?_eq_some_iff.1 hs
    exact ⟨h1, k, hk', rfl, fun j hj => by simpa using h2 j hj⟩
  rw [this]
theorem M.look_none {l : List M.S} {i : Int} (h : M.atI l i = none) : M.look l i = M.zeroS := by
  unfold M.atI at h
  unfold M.look
  rw [List.findIdx?_eq_none_iff] at h
  have : l.find? (fun s => s.has i) = none := by
    rw [List.find?_eq_none]
    intro s hs
    rw [h s hs]
    simp
  rw [this]
/-- Of right spans the one that has a scalar is known by it. -/
theorem M.look_mem {n : Int} {l : List M.S} (h : M.Rt n l) {s : M.S} (hs : s ∈ l) {i : Int} (hi : s.has i = true) : M.look l i = s.bare := by
  unfold M.look
  cases hf : l.find? (fun s => s.has i) with
  | none => exact absurd hi (by have := List.find?_eq_none.1 hf s hs; simpa using this)
  | some z =>
    have hz := List.mem_of_find?_eq_some hf
    have hzi : z.has i = true := by simpa using List.find?_some hf
    have hzs : z = s := by
      rw [M.has_iff] at hi hzi
      obtain ⟨j, hj⟩ := List.getElem?_of_mem hs
      obtain ⟨k, hk⟩ := List.getElem?_of_mem hz
      have hp := List.pairwise_iff_getElem.1 h.two
      obtain ⟨hj', ej⟩ := List.getElem?_eq_some_iff.1 hj
      obtain ⟨hk', ek⟩ := List.getElem?_eq_some_iff.1 hk
      rcases Nat.lt_trichotomy j k with hjk | hjk | hjk
      · have := hp j k hj' hk' hjk; rw [ej, ek] at this; omega
      · subst hjk; rw [hj] at hk; exact (Option.some.inj hk).symm
      · have := hp k j hk' hj' hjk; rw [ej, ek] at this; omega
    rw [hzs]
theorem M.look_out {l : List M.S} {i : Int} (h : ∀ s ∈ l, s.has i = false) : M.look l i = M.zeroS := by
  unfold M.look
  have : l.find? (fun s => s.has i) = none := by
    rw [List.find?_eq_none]
    intro s hs
    rw [h s hs]
    simp
  rw [this]

/-- The shortest: one step. -/
def M.joins (z s : M.S) : Bool := decide (z.t = s.f) && (z.bare.same s.bare && (!s.c && decide (s.r.toList = [])))
def M.step (out : List M.S) (s : M.S) : List M.S :=
  if s.bare.same M.zeroS = true then out
  else match out.getLast? with
    | some z => if M.joins z s = true then out.dropLast ++ [{ z with t := s.t }] else out ++ [s]
    | none => out ++ [s]
def M.norm (l : List M.S) : List M.S := l.foldl M.step []
theorem M.norm_take {l : List M.S} {k : Nat} {s : M.S} (h : l[k]? = some s) : M.norm (l.take (k + 1)) = M.step (M.norm (l.take k)) s := by
  obtain ⟨hk, rfl⟩ := List.getElem?_eq_some_iff.1 h
  unfold M.norm
  rw [List.take_succ_eq_append_getElem hk, List.foldl_append]
  rfl
theorem M.step_plain {out : List M.S} {s : M.S} (h : s.bare.same M.zeroS = true) : M.step out s = out := by
  unfold M.step; rw [if_pos h]
theorem M.step_first {s : M.S} (h : s.bare.same M.zeroS = false) : M.step [] s = [] ++ [s] := by
  unfold M.step; rw [if_neg (by rw [h]; simp)]; rfl
theorem M.step_join {out : List M.S} {z s : M.S} (h : s.bare.same M.zeroS = false) (hj : M.joins z s = true) : M.step (out ++ [z]) s = out ++ [{ z with t := s.t }] := by
  unfold M.step; rw [if_neg (by rw [h]; simp), List.getLast?_concat]
  simp only [hj, if_true, List.dropLast_concat]
theorem M.step_more {out : List M.S} {z s : M.S} (h : s.bare.same M.zeroS = false) (hj : M.joins z s = false) : M.step (out ++ [z]) s = out ++ [z] ++ [s] := by
  unfold M.step; rw [if_neg (by rw [h]; simp), List.getLast?_concat]
  simp only [hj, Bool.false_eq_true, if_false]

/-- Behind scalars that come, and go: one span. -/
def M.insS (a n : Int) (s : M.S) : Option M.S :=
  if s.c = true ∧ s.f < a ∧ a < s.t ∧ 4 - n < s.t - s.f then none
  else some { s with f := if a ≤ s.f then s.f + n else s.f, t := if a < s.t then s.t + n else s.t }
def M.ins (l : List M.S) (a n : Int) : List M.S := if a < 0 ∨ n < 0 then l else l.filterMap (M.insS a n)
def M.back (a b e : Int) : Int := if e ≤ a then e else a + max (e - b) 0
def M.delS (a b : Int) (s : M.S) : Option M.S :=
  if M.back a b s.f < M.back a b s.t then some { s with f := M.back a b s.f, t := M.back a b s.t } else none
def M.del (l : List M.S) (a b : Int) : List M.S := if a < 0 ∨ b < a then l else l.filterMap (M.delS a b)
end Go.Proofs.YteknpodofmmklaaDoor
