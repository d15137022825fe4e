/- The contract of package reorder's Back. Condition: the slice reads as a list of whole numbers, at most a thousand long. -/
import Derived.Test.YtahjkndphkpieaaCBk
import Derived.Test.YtahjkndphkpieaaRBack
namespace Go.Proofs.Ytahjkndphkpieaa
open Go.RowKit
set_option maxRecDepth 100000

/-- Of the first k places of an order, where each is; -1 elsewhere. -/
structure M.BmTo (l : List Int) (k : Nat) (O : List Int) : Prop where
  ol : O.length = l.length
  rng : ∀ x ∈ l.take k, 0 ≤ x ∧ x < l.length
  nod : (l.take k).Nodup
  oat : ∀ j, j < l.length → O[j]? = some (if (j : Int) ∈ l.take k then ((l.idxOf (j : Int) : Nat) : Int) else -1)
section
variable {l O : List Int} {k x : Nat}
theorem M.BmTo.start (l : List Int) : M.BmTo l 0 (List.replicate l.length (-1)) :=
  ⟨List.length_replicate, fun x hx => by simp at hx, by simp, fun j hj => by simp [hj]⟩
theorem M.BmTo.step (h : M.BmTo l k O) (hx : l[k]? = some (x : Int)) (hlt : x < l.length) (hno : (x : Int) ∉ l.take k) : M.BmTo l (k + 1) (O.set x (k : Int)) := by
  have e := M.take_snoc hx
  refine ⟨by rw [List.length_set, h.ol], ?_, ?_, ?_⟩
  · intro z hz
    rw [e, List.mem_append, List.mem_singleton] at hz
    rcases hz with hz | rfl
    · exact h.rng z hz
    · exact ⟨by omega, by omega⟩
  · rw [e]
    refine List.nodup_append.2 ⟨h.nod, by simp, fun a ha b hb hab => ?_⟩
    rw [List.mem_singleton] at hb
    rw [hab, hb] at ha
    exact hno ha
  · intro j hj
    rw [List.getElem?_set, e]
    by_cases hxj : x = j
    · subst hxj
      rw [if_pos rfl, if_pos (by rw [h.ol]; exact hlt), if_pos (by simp), M.idx_new hx hno]
    · rw [if_neg hxj, h.oat j hj]
      have : ((j : Int) ∈ l.take k ++ [(x : Int)]) ↔ (j : Int) ∈ l.take k := by
        rw [List.mem_append, List.mem_singleton]
        constructor
        · rintro (h | h)
          · exact h
          · omega
        · exact .inl
      by_cases hm : (j : Int) ∈ l.take k
      · rw [if_pos hm, if_pos (this.2 hm)]
      · rw [if_neg hm, if_neg fun h => hm (this.1 h)]
theorem M.BmTo.done (h : M.BmTo l l.length O) : M.isOrd l ∧ O = M.inv l := by
  have e := List.take_length (l := l)
  have ho : M.isOrd l := ⟨fun x hx => h.rng x (by rw [e]; exact hx), by have := h.nod; rw [e] at this; exact this⟩
  refine ⟨ho, List.ext_getElem? fun j => ?_⟩
  by_cases hj : j < l.length
  · rw [h.oat j hj, e, if_pos (M.isOrd_mem ho hj)]
    unfold M.inv
    rw [List.getElem?_map, List.getElem?_range hj]
    rfl
  · rw [List.getElem?_eq_none (by rw [h.ol]; omega), List.getElem?_eq_none (by rw [M.inv_len]; omega)]
end
set_option maxHeartbeats 16000000 in
theorem cback_any (A : Option Addr) (ca n : Nat) (l : List Int) (w : World) (hr : RdS .i64 w w.heap.size A l) (hn : l.length = n) (hl : n ≤ 1000) (_hca : n ≤ ca) :
    Calls Try.prog 13 #[.slice A n ca] w (RowE 3 1 (M.isOrd l) (M.inv l) w) := by
  obtain ⟨i0, hi, hz0, hz1, hz2⟩ := info_parts Try.infoInt2
  have hmk := run_make (P := Try.prog) w 22 3 i0 (.int .i64 0) Try.underlying22 hi hz0 .i64 .i64 n n (by omega) (Int.le_refl _) (by rw [hz2]; omega) (by omega)
  rw [Int.toNat_natCast, hz1, Nat.mul_one] at hmk
  obtain ⟨Z, hZ⟩ : ∃ Z, madeCells (Value.int IntKind.i64 0).cells n = Z := ⟨_, rfl⟩
  have hZe : Z = ((List.replicate n (0 : Int)).map (Value.int .i64)).toArray := by
    rw [← hZ, List.map_replicate, ← toList_madeCells_one (Value.int .i64 0) n]
    exact (Array.toArray_toList).symm
  rw [hZ] at hmk
  obtain ⟨W1, hW1⟩ : ∃ W1, w.alloc (.cells Z 3) = W1 := ⟨_, rfl⟩
  obtain ⟨G, hG⟩ : ∃ G, w.heap.size = G := ⟨_, rfl⟩
  have hg1 : BlockAt W1 G 3 (List.replicate n 0) := by
    unfold BlockAt
    rw [← hW1, ← hG, ← hZe]
    exact World.alloc_heap_new _ _
  have hb1 : Below w.heap.size w W1 := by rw [← hW1]; exact (Below.refl _ _).alloc (Nat.le_refl _) _
  rw [hW1, hG] at hmk
  have HG := Lib.hid hG
  have HG1 := Lib.hid hg1
  have HB1 := Lib.hid hb1
  have HR := Lib.hid hr
  have HN := Lib.hid hn
  have hl1 : (n : Int) ≤ 1000 := by omega
  clear hr hn hZ hZe hW1 hg1 hb1 hz0 hz1 hz2 hi hG hl
  go_enter Try.func13, Try.ntmps13
  go_wp2_with fail
  go_loopw [13] (fun v wr => ∃ k : Nat, v = .int .i64 k ∧ k ≤ n ∧ BlockAt wr G 3 (List.replicate k (-1) ++ List.replicate (n - k) 0) ∧ Below w.heap.size w wr) (fun v _ => n - (intOf v).toNat)
  case atStart => exact ⟨0, rfl, Nat.zero_le _, HG1.out, HB1.out⟩
  case round =>
    obtain ⟨k, rfl, hk, hb, hbel⟩ := hrel
    rename World => wr
    have k0 : (0 : Int) ≤ k := by omega
    have HB := Lib.hid hbel
    by_cases hlt : k < n
    · have k1 : (k : Int) < n := by omega
      have hz : (List.replicate k (-1) ++ List.replicate (n - k) (0 : Int))[k]? = some 0 := by
        rw [List.getElem?_append_right (by rw [List.length_replicate]; exact Nat.le_refl _), List.length_replicate, Nat.sub_self, List.getElem?_replicate, if_pos (by omega)]
      have c0 := hb.cell hz
      have f0 := hb.frozen (j := k)
      have hb1 := hb.set (k := k) (-1)
      rw [List.set_append_right _ _ (by rw [List.length_replicate]; exact Nat.le_refl _), List.length_replicate, Nat.sub_self, show n - k = (n - (k + 1)) + 1 by omega, List.replicate_succ, List.set_cons_zero] at hb1
      have e : List.replicate k (-1) ++ (-1) :: List.replicate (n - (k + 1)) (0 : Int) = List.replicate (k + 1) (-1) ++ List.replicate (n - (k + 1)) 0 := by
        rw [List.replicate_succ', List.append_assoc]
        rfl
      rw [e] at hb1
      have HB1' := Lib.hid hb1
      clear hb hz hb1 e hbel
      go_wp2_with fail
      go_roundw
      case rel => exact ⟨k + 1, by go_num, by omega, HB1'.out, HB.out.setCell (p := ⟨G, k, none⟩) (Nat.le_of_eq HG.out) _⟩
      case measure => simp [intOf]; omega
    · obtain rfl : n = k := by omega
      have k1 : ¬ (n : Int) < n := by omega
      rw [Nat.sub_self, List.replicate_zero, List.append_nil] at hb
      have HBL := Lib.hid hb
      clear hb hbel
      go_wp2_with fail
      go_loopw [22] (fun v wr => ∃ (k : Nat) (O : List Int), v = .int .i64 k ∧ k ≤ n ∧ M.BmTo l k O ∧ BlockAt wr G 3 O ∧ Below w.heap.size w wr) (fun v _ => n - (intOf v).toNat)
      case atStart => exact ⟨0, _, rfl, Nat.zero_le _, .start l, by rw [HN.out]; exact HBL.out, HB.out⟩
      case round =>
        obtain ⟨k, O, rfl, hk, hbk, hg1, hbel⟩ := hrel
        rename World => wr
        have HBK := Lib.hid hbk
        have HG1' := Lib.hid hg1
        have HBEL := Lib.hid hbel
        have k0 : (0 : Int) ≤ k := by omega
        by_cases hlt : k < n
        · have k1 : (k : Int) < n := by omega
          obtain ⟨ad, c, rfl, hcc, hc, -⟩ := rd_at HR.out hbel (by rw [HN.out]; exact hlt : k < l.length)
          by_cases h0 : c < 0
          · have HNO := Lib.hid (show ¬ M.isOrd l from fun h => by have := (h.1 c (List.mem_of_getElem? hc)).1; omega)
            clear hbk hg1 hbel hc
            go_wp2_with fail
            go_returns
            exact ⟨HBEL.out, fun h => absurd h HNO.out, fun _ => rfl⟩
          · by_cases h1 : (n : Int) ≤ c
            · have HNO := Lib.hid (show ¬ M.isOrd l from fun h => by have := (h.1 c (List.mem_of_getElem? hc)).2; rw [HN.out] at this; omega)
              clear hbk hg1 hbel hc
              go_wp2_with fail
              go_returns
              exact ⟨HBEL.out, fun h => absurd h HNO.out, fun _ => rfl⟩
            · obtain ⟨x, rfl⟩ : ∃ x : Nat, c = x := ⟨c.toNat, by omega⟩
              have hxn : x < n := by omega
              have x0 : (0 : Int) ≤ x := by omega
              have x1 : (x : Int) < n := by omega
              have x2 : ¬ (n : Int) ≤ x := h1
              have ho := hbk.oat x (by rw [HN.out]; exact hxn)
              have f0 := hg1.frozen (j := x)
              by_cases hm : (x : Int) ∈ l.take k
              · have HNO := Lib.hid (M.not_ord hc hm)
                rw [if_pos hm] at ho
                obtain ⟨p, hp⟩ : ∃ p : Nat, l.idxOf (x : Int) = p := ⟨_, rfl⟩
                rw [hp] at ho
                have c0 := hg1.cell ho
                have p0 : ((p : Int) != -1) = true := by rw [bne_iff_ne]; omega
                clear hbk hg1 hbel hc hm ho hp
                go_wp2_with fail
                go_returns
                exact ⟨HBEL.out, fun h => absurd h HNO.out, fun _ => rfl⟩
              · rw [if_neg hm] at ho
                have c0 := hg1.cell ho
                have hst := hbk.step hc (by rw [HN.out]; exact hxn) hm
                have n1 := hg1.set (k := x) (k : Int)
                have HST := Lib.hid hst
                have HN1 := Lib.hid n1
                clear hbk hg1 hbel hc hm hst ho n1
                go_wp2_with fail
                go_roundw
                case rel => exact ⟨k + 1, _, by go_num, by omega, HST.out, HN1.out, HBEL.out.setCell (p := ⟨G, x, none⟩) (Nat.le_of_eq HG.out) _⟩
                case measure => simp [intOf]; omega
        · obtain rfl : n = k := by omega
          have k1 : ¬ (n : Int) < (n : Int) := by omega
          have hd := M.BmTo.done (by rw [HN.out]; exact hbk)
          have HD := Lib.hid hd
          clear hbk hg1 hbel hd
          go_wp2_with fail
          go_returns
          refine ⟨HBEL.out, fun _ => ⟨_, rfl, ?_⟩, fun h => absurd HD.out.1 h⟩
          rw [← HD.out.2, HBK.out.ol, HN.out]
          exact HG1'.out.own (by rw [HBK.out.ol, HN.out]) (by unfold maxLen; omega) (Nat.le_of_eq HG.out)
end Go.Proofs.Ytahjkndphkpieaa
