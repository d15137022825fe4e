/- The contract of package breaks' Counts over the translation: what each cluster counts as. Conditions: the slice reads as a list of kinds, at most a thousand long. -/
import Derived.Test.YtfackeiommiejaaLeaf
import Derived.Laws.OwnMore
namespace Go.Proofs.Ytfackeiommiejaa
open Go.RowKit

theorem Try.infoKind : (Try.prog.info? 31).map (fun i => (i.zero, i.size, i.bytes)) = some (some (.int .i64 0), 1, 8) := by kernel_rfl

/-- A block that holds a list of whole numbers. -/
def BlockAt (w : World) (G : Nat) (ty : TypeId) (l : List Int) : Prop := w.heap[G]? = some (.cells (l.map (Value.int .i64)).toArray ty (0, 0))
theorem BlockAt.lt {w : World} {G : Nat} {ty : TypeId} {l : List Int} (h : BlockAt w G ty l) : G < w.heap.size := (Array.getElem?_eq_some_iff.1 h).1
theorem BlockAt.cell {w : World} {G j : Nat} {ty : TypeId} {l : List Int} {x : Int} (h : BlockAt w G ty l) (hj : l[j]? = some x) : w.cell? ⟨G, j, none⟩ = some (.int .i64 x) := by
  unfold World.cell?
  rw [show w.heap[G]? = _ from h]
  simp [hj]
theorem BlockAt.frozen {w : World} {G j : Nat} {ty : TypeId} {l : List Int} (h : BlockAt w G ty l) : w.frozen? ⟨G, j, none⟩ = false := by
  unfold World.frozen?
  rw [show w.heap[G]? = _ from h]
  simp
theorem BlockAt.reads {w : World} {G : Nat} {ty : TypeId} {l : List Int} (h : BlockAt w G ty l) : RdS .i64 w w.heap.size (some ⟨G, 0, none⟩) l := fun j x hx => by
  refine ⟨_, rfl, h.lt, ?_⟩
  have : (⟨G, 0, none⟩ : Addr).add j = ⟨G, j, none⟩ := by unfold Addr.add; split <;> simp_all
  rw [this]
  exact h.cell hx
theorem BlockAt.below {w w' : World} {G n : Nat} {ty : TypeId} {l : List Int} (h : BlockAt w G ty l) (hb : Below n w w') (hG : G < n) : BlockAt w' G ty l := (hb.block G hG).trans h
theorem BlockAt.set {w : World} {G k : Nat} {ty : TypeId} {l : List Int} (h : BlockAt w G ty l) (x : Int) : BlockAt (w.setCell ⟨G, k, none⟩ (.int .i64 x)) G ty (l.set k x) := by
  obtain ⟨hlt, hk⟩ := Array.getElem?_eq_some_iff.1 h
  show (w.heap.modify G _)[G]? = _
  rw [Array.getElem?_eq_getElem (by rw [Array.size_modify]; exact hlt), Array.getElem_modify_self, hk]
  show some (Obj.cells ((l.map (Value.int .i64)).toArray.setIfInBounds k (.int .i64 x)) ty (0, 0)) = _
  rw [List.setIfInBounds_toArray, List.map_set]

theorem M.st_last {l : List Int} {k : Nat} {x : Int} (hx : l[k]? = some x) : (M.st (l.take (k + 1))).b = M.cnt (M.st (l.take k)).b x := by
  rw [M.st_take hx]; rfl
theorem M.fill_succ {l : List Int} {k n : Nat} (hk : k < n) : (M.cntsTo l k ++ List.replicate (n - k) 0).set k (M.st (l.take (k + 1))).b = M.cntsTo l (k + 1) ++ List.replicate (n - (k + 1)) 0 := by
  rw [M.cntsTo_succ, List.set_append_right _ _ (by rw [M.cntsTo_len]; exact Nat.le_refl _), M.cntsTo_len, Nat.sub_self]
  obtain ⟨m, hm⟩ : ∃ m, n - k = m + 1 := ⟨n - k - 1, by omega⟩
  rw [hm, List.replicate_succ, List.set_cons_zero, List.append_assoc, show n - (k + 1) = m by omega]
  rfl

set_option maxHeartbeats 4000000 in
theorem counts_any (A : Option Addr) (ca n : Nat) (l : List Int) (w : World) (hr : RdS .i64 w w.heap.size A l) (hn : l.length = n) (hl : n ≤ 1000) :
    Calls Try.prog 12 #[.slice A n ca] w (ListOut (M.cnts l) w) := by
  obtain ⟨i0, hi, hz0, hz1, hz2⟩ := info_parts Try.infoKind
  have hmk := run_make (P := Try.prog) w 22 31 i0 (.int .i64 0) Try.underlying22 hi hz0 .i64 .i64 n n (by omega) (Int.le_refl _) (by rw [hz2]; omega) (by omega)
  rw [Int.toNat_natCast, hz1, Nat.mul_one] at hmk
  have hZ : madeCells (Value.int IntKind.i64 0).cells n = ((List.replicate n (0 : Int)).map (Value.int .i64)).toArray := by
    rw [List.map_replicate, ← toList_madeCells_one]
    rfl
  rw [hZ] at hmk
  obtain ⟨W1, hW1⟩ : ∃ W1, w.alloc (.cells ((List.replicate n (0 : Int)).map (Value.int .i64)).toArray 31) = W1 := ⟨_, rfl⟩
  have hg1 : BlockAt W1 w.heap.size 31 (M.cntsTo l 0 ++ List.replicate (n - 0) 0) := by rw [← hW1]; exact World.alloc_heap_new _ _
  have hb1 : Below w.heap.size w W1 := by rw [← hW1]; exact (Below.refl _ _).alloc (Nat.le_refl _) _
  rw [hW1] at hmk
  have HR := Lib.hid hr
  have HN := Lib.hid hn
  have HG := Lib.hid hg1
  have HB := Lib.hid hb1
  have hl1 : (n : Int) ≤ 1000 := by omega
  clear hr hn hg1 hb1 hZ hW1 hz0 hz1 hz2 hi
  go_enter Try.func12, Try.ntmps12
  go_wp2_with fail
  go_loopw [4, 12] (fun last v wr => ∃ k : Nat, last = .int .i64 (M.st (l.take k)).b ∧ v = .int .i64 k ∧ k ≤ n ∧ BlockAt wr w.heap.size 31 (M.cntsTo l k ++ List.replicate (n - k) 0) ∧ Below w.heap.size w wr) (fun _ v _ => n - (intOf v).toNat)
  case atStart => exact ⟨0, rfl, rfl, Nat.zero_le _, HG.out, HB.out⟩
  case round =>
    obtain ⟨k, rfl, rfl, hk, hg, hb⟩ := hrel
    have HG2 := Lib.hid hg
    have HB2 := Lib.hid hb
    have hn := HN.out
    have k0 : (0 : Int) ≤ k := by omega
    by_cases hlt : k < n
    · obtain ⟨ad, x, rfl, hcx, hx, hab⟩ := rd_at HR.out hb (by omega : k < l.length)
      have k1 : (k : Int) < n := by omega
      obtain ⟨c, hc⟩ : ∃ c, M.cnt (M.st (l.take k)).b x = c := ⟨_, rfl⟩
      have HC := Lib.hid (by have := fun w => counted_any (M.st (l.take k)).b x w; rw [hc] at this; exact this)
      have hnext := (M.st_last hx).trans hc
      have hgs := hg.set (k := k) c
      rw [← hnext, M.fill_succ hlt, hnext] at hgs
      have HGS := Lib.hid hgs
      have HNX := Lib.hid hnext
      obtain ⟨y, hy⟩ : ∃ y, (M.cntsTo l k ++ List.replicate (n - k) 0)[k]? = some y := ⟨_, List.getElem?_eq_getElem (by simp [M.cntsTo_len]; omega)⟩
      have hcy := hg.cell hy
      have hfy := hg.frozen (j := k)
      clear hg hb hx hab hc hnext hgs hy hn
      go_wp2_with fail
      refine (HC.out _).mono ?_
      rintro r w2 ⟨rfl, rfl⟩
      go_wp2_with fail
      go_roundw
      case rel => exact ⟨k + 1, by rw [HNX.out], by go_num, by omega, HGS.out, HB2.out.setCell (p := ⟨w.heap.size, k, none⟩) (Nat.le_refl _) _⟩
      case measure => simp [intOf]; omega
    · obtain rfl : k = n := by omega
      clear hg hb hn
      go_wp2_with fail
      go_ret
      have hg := HG2.out
      rw [Nat.sub_self, List.replicate_zero, List.append_nil] at hg
      have hc : M.cntsTo l k = M.cnts l := by unfold M.cnts; rw [HN.out]
      rw [hc] at hg
      have hlen : (M.cnts l).length = k := by rw [M.cnts_len, HN.out]
      exact ⟨_, k, by rw [hlen]; rfl, hg.reads, by omega, by unfold maxLen; omega, fun h => (by cases h), HB2.out⟩
end Go.Proofs.Ytfackeiommiejaa
