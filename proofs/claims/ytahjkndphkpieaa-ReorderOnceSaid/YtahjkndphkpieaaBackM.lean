/- Where each place of an order is, as a plain function on lists of whole numbers: there and back; and of places of one level, beside one another. No program is read here. -/
import Derived.Test.YtahjkndphkpieaaOrdM
namespace Go.Proofs.Ytahjkndphkpieaa.M

/-- Each number from 0 on, below the length, once. -/
def isOrd (l : List Int) : Prop := (∀ x ∈ l, 0 ≤ x ∧ x < l.length) ∧ l.Nodup
instance (l : List Int) : Decidable (isOrd l) := by unfold isOrd; infer_instance
def inv (l : List Int) : List Int := (List.range l.length).map fun k : Nat => ((l.idxOf (k : Int) : Nat) : Int)
def ints (l : List Nat) : List Int := l.map fun k : Nat => (k : Int)
section
variable {l : List Int} {i j k : Nat}
theorem ints_len {l : List Nat} : (ints l).length = l.length := List.length_map _
theorem inv_len : (inv l).length = l.length := by unfold inv; rw [List.length_map, List.length_range]
/-- All numbers stand in it. -/
theorem isOrd_mem (h : isOrd l) (hk : k < l.length) : (k : Int) ∈ l := by
  refine Decidable.byContradiction fun hno => ?_
  have hsub : l ⊆ (ints (List.range l.length)).erase (k : Int) := fun x hx => by
    have h1 := h.1 x hx
    have hne : x ≠ (k : Int) := fun e => hno (by rw [← e]; exact hx)
    refine (List.mem_erase_of_ne hne).2 (List.mem_map.2 ⟨x.toNat, List.mem_range.2 (by omega), by omega⟩)
  have h2 := h.2.length_le_of_subset hsub
  have hm : (k : Int) ∈ ints (List.range l.length) := List.mem_map.2 ⟨k, List.mem_range.2 hk, rfl⟩
  rw [List.length_erase_of_mem hm, ints_len, List.length_range] at h2
  omega
theorem inv_at (h : isOrd l) (hj : l[j]? = some (k : Int)) : (inv l)[k]? = some (j : Int) := by
  obtain ⟨hlt, he⟩ := List.getElem?_eq_some_iff.1 hj
  have hk : k < l.length := by
    have := (h.1 _ (List.mem_of_getElem? hj)).2
    omega
  unfold inv
  rw [List.getElem?_map, List.getElem?_range hk]
  show some (((l.idxOf (k : Int) : Nat) : Int)) = some (j : Int)
  rw [← he, h.2.idxOf_getElem j hlt]
theorem inv_get (h : isOrd l) (hk : k < l.length) : ∃ j : Nat, (inv l)[k]? = some (j : Int) ∧ l[j]? = some (k : Int) := by
  obtain ⟨j, hj⟩ := List.mem_iff_getElem?.1 (isOrd_mem h hk)
  exact ⟨j, inv_at h hj, hj⟩
theorem inv_ord (h : isOrd l) : isOrd (inv l) := by
  refine ⟨fun x hx => ?_, ?_⟩
  · obtain ⟨k, hk⟩ := List.mem_iff_getElem?.1 hx
    have hlt := (List.getElem?_eq_some_iff.1 hk).1
    rw [inv_len] at hlt
    obtain ⟨j, h1, h2⟩ := inv_get h hlt
    rw [hk] at h1
    injection h1 with h1
    have := (List.getElem?_eq_some_iff.1 h2).1
    rw [h1, inv_len]
    omega
  · unfold inv
    refine List.pairwise_map.2 (List.Pairwise.imp_of_mem (fun {a b} ha hb hab he => hab ?_) List.nodup_range)
    rw [List.mem_range] at ha hb
    obtain ⟨j, h1, h2⟩ := inv_get h ha
    obtain ⟨j', h3, h4⟩ := inv_get h hb
    unfold inv at h1 h3
    rw [List.getElem?_map, List.getElem?_range ha] at h1
    rw [List.getElem?_map, List.getElem?_range hb] at h3
    have e1 : ((l.idxOf (a : Int) : Nat) : Int) = j := by injection h1
    have e3 : ((l.idxOf (b : Int) : Nat) : Int) = j' := by injection h3
    have : j = j' := by omega
    rw [this, h4] at h2
    injection h2 with h2
    omega
theorem inv_inv (h : isOrd l) : inv (inv l) = l := by
  refine List.ext_getElem? fun i => ?_
  by_cases hi : i < l.length
  · obtain ⟨x, hx⟩ : ∃ x, l[i]? = some x := ⟨_, List.getElem?_eq_getElem hi⟩
    have hr := h.1 x (List.mem_of_getElem? hx)
    obtain ⟨k, rfl⟩ : ∃ k : Nat, x = k := ⟨x.toNat, by omega⟩
    rw [hx, inv_at (inv_ord h) (inv_at h hx)]
  · rw [List.getElem?_eq_none (by rw [inv_len, inv_len]; omega), List.getElem?_eq_none (by omega)]
theorem order_isOrd : isOrd (ints (order l)) := by
  refine ⟨fun x hx => ?_, ?_⟩
  · obtain ⟨k, hk, rfl⟩ := List.mem_map.1 hx
    have := order_lt.1 hk
    rw [ints_len, order_len]
    omega
  · exact List.pairwise_map.2 (order_nodup.imp fun hab he => hab (Int.ofNat_inj.1 he))
/-- Places of one level, beside one another, are seen beside one another, rising of an even level, falling of an odd one. -/
theorem order_near {v : Int} (hv : 0 ≤ v ∧ v ≤ 127) (h1 : l[i]? = some v) (h2 : l[i + 1]? = some v) : ∃ a b : Nat, (inv (ints (order l)))[i]? = some (a : Int) ∧ (inv (ints (order l)))[i + 1]? = some (b : Int) ∧ (b : Int) = if v % 2 = 1 then (a : Int) - 1 else (a : Int) + 1 := by
  have hlt := (List.getElem?_eq_some_iff.1 h2).1
  obtain ⟨k, rfl⟩ : ∃ k : Nat, v = k := ⟨v.toNat, by omega⟩
  have hr : List.range l.length = List.range i ++ i :: (i + 1) :: (List.range (l.length - (i + 2))).map (i + 2 + ·) := by
    rw [show l.length = i + 2 + (l.length - (i + 2)) by omega, List.range_add, List.range_succ, List.range_succ, Nat.add_sub_cancel_left]
    simp
  have e1 : lev l i = (k : Int) := by unfold lev; rw [List.getD_eq_getElem?_getD, h1]; rfl
  have e2 : lev l (i + 1) = (k : Int) := by unfold lev; rw [List.getD_eq_getElem?_getD, h2]; rfl
  obtain ⟨c, d, e⟩ := ord_two (n := 127) (a := List.range i) (b := (List.range (l.length - (i + 2))).map (i + 2 + ·)) e1 e2 (by omega)
  rw [← hr] at e
  have e0 : order l = c ++ (if k % 2 = 1 then [i + 1, i] else [i, i + 1]) ++ d := e
  have hat : ∀ (u v : Nat) (s : List Nat), s = [u, v] → order l = c ++ s ++ d → (ints (order l))[c.length]? = some (u : Int) ∧ (ints (order l))[c.length + 1]? = some (v : Int) := by
    intro u v s hs hh
    subst hs
    unfold ints
    rw [hh]
    simp
  by_cases hk : k % 2 = 1
  · rw [if_pos hk] at e0
    obtain ⟨g1, g2⟩ := hat (i + 1) i _ rfl e0
    refine ⟨c.length + 1, c.length, inv_at order_isOrd g2, inv_at order_isOrd g1, ?_⟩
    rw [if_pos (by omega)]
    omega
  · rw [if_neg hk] at e0
    obtain ⟨g1, g2⟩ := hat i (i + 1) _ rfl e0
    refine ⟨c.length, c.length + 1, inv_at order_isOrd g1, inv_at order_isOrd g2, ?_⟩
    rw [if_neg (by omega)]
    omega
/-- Both parts, seen one behind the other, in places. -/
theorem ints_joins {a b : List Int} (h : ∀ k, k + 1 = a.length → lev a k ≤ 0 ∨ lev b 0 ≤ 0) (ha : a ≠ []) (hb : b ≠ []) : ints (order (a ++ b)) = ints (order a) ++ (ints (order b)).map (· + (a.length : Int)) := by
  rw [order_joins h ha hb]
  unfold ints
  rw [List.map_append, List.map_map, List.map_map]
  rfl
end
end Go.Proofs.Ytahjkndphkpieaa.M
