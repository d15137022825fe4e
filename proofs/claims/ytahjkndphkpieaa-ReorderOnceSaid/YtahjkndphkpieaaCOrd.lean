/- The contract of package reorder's Order. Conditions: the slice reads as a list of whole numbers, within its capacity, and takes at most 2^47 bytes. -/
import Derived.Test.YtahjkndphkpieaaCLay
import Derived.Laws.EntriesVeiled
namespace Go.Proofs.Ytahjkndphkpieaa
open Go.RowKit
set_option maxRecDepth 100000

set_option maxHeartbeats 8000000 in
theorem corder_no (A : Option Addr) (ca n : Nat) (l : List Int) (w : World) (hr : RdS .i64 w w.heap.size A l) (hn : l.length = n) (hl : n * 8 ≤ 140737488351232) (hok : ¬ M.ordOk l) :
    Calls Try.prog 9 #[.slice A n ca] w (RowE 3 81 (M.ordOk l) (M.ints (M.order l)) w) := by
  obtain ⟨W1, hW1⟩ : ∃ W1, w.alloc (.cells #[.slice A n ca] 22) = W1 := ⟨_, rfl⟩
  have hb1 : Below w.heap.size w W1 := by rw [← hW1]; exact (Below.refl _ _).alloc (Nat.le_refl _) _
  have hc1 : W1.cell? ⟨w.heap.size, 0, none⟩ = some (.slice A n ca) := by rw [← hW1]; simp
  have hcont := ccont_any A ca n l W1 ((hr.below hb1).more hb1.size) hn hl
  rw [decide_eq_false hok] at hcont
  have HC := Lib.hid hcont
  have HB1 := Lib.hid hb1
  have HOK := Lib.hid hok
  clear hr hn hl hok hcont hb1
  go_enter Try.func9, Try.ntmps9
  go_wp2_with fail
  refine HC.out.mono ?_
  rintro r w1 ⟨rfl, rfl⟩
  go_wp2_with fail
  go_returns
  exact ⟨HB1.out, fun h => absurd h HOK.out, fun _ => rfl⟩
/-- A block of the callee's own. -/
def BlkOut (n : Nat) (t : List Int) (w : World) (r : Ending) (w' : World) : Prop :=
  ∃ G, r = .returned (.tuple #[.slice (some ⟨G, 0, none⟩) n n, .int .i64 0]) ∧ BlockAt w' G 3 t ∧ w.heap.size ≤ G ∧ Below w.heap.size w w'
set_option maxHeartbeats 8000000 in
theorem corder_ok (A : Option Addr) (ca n : Nat) (l : List Int) (w : World) (hr : RdS .i64 w w.heap.size A l) (hn : l.length = n) (hl : n * 8 ≤ 140737488351232) (hca : n ≤ ca) (hok : M.ordOk l) :
    Calls Try.prog 9 #[.slice A n ca] w (BlkOut n (M.ints (M.order l)) w) := by
  obtain ⟨i0, hi, hz0, hz1, hz2⟩ := info_parts Try.infoInt2
  obtain ⟨W1, hW1⟩ : ∃ W1, w.alloc (.cells #[.slice A n ca] 22) = W1 := ⟨_, rfl⟩
  have hb1 : Below w.heap.size w W1 := by rw [← hW1]; exact (Below.refl _ _).alloc (Nat.le_refl _) _
  have hs1 : W1.heap.size = w.heap.size + 1 := by rw [← hW1]; simp
  have hc1 : W1.cell? ⟨w.heap.size, 0, none⟩ = some (.slice A n ca) := by rw [← hW1]; simp
  have hcont := ccont_any A ca n l W1 ((hr.below hb1).more hb1.size) hn hl
  rw [decide_eq_true hok] at hcont
  have hmk := run_make (P := Try.prog) W1 22 3 i0 (.int .i64 0) Try.underlying22 hi hz0 .i64 .i64 n n (by omega) (Int.le_refl _) (by rw [hz2]; omega) (by omega)
  rw [Int.toNat_natCast, hz1, Nat.mul_one] at hmk
  obtain ⟨Z, hZ⟩ : ∃ Z, madeCells (Value.int IntKind.i64 0).cells n = Z := ⟨_, rfl⟩
  have hZe : Z = ((List.replicate n (0 : Int)).map (Value.int .i64)).toArray := by
    rw [← hZ, List.map_replicate, ← toList_madeCells_one (Value.int .i64 0) n]
    exact (Array.toArray_toList).symm
  rw [hZ] at hmk
  obtain ⟨W2, hW2⟩ : ∃ W2, W1.alloc (.cells Z 3) = W2 := ⟨_, rfl⟩
  obtain ⟨G, hG⟩ : ∃ G, W1.heap.size = G := ⟨_, rfl⟩
  have hg2 : BlockAt W2 G 3 (List.replicate n 0) := by
    unfold BlockAt
    rw [← hW2, ← hG, ← hZe]
    exact World.alloc_heap_new _ _
  have hb2 : Below W1.heap.size W1 W2 := by rw [← hW2]; exact (Below.refl _ _).alloc (Nat.le_refl _) _
  have hs2 : W2.heap.size = w.heap.size + 2 := by rw [← hW2]; simp; omega
  rw [hW2, hG] at hmk
  obtain ⟨b3, hb3⟩ : ∃ b3, W2.heap.size = b3 := ⟨_, rfl⟩
  obtain ⟨W3, hW3⟩ : ∃ W3, W2.alloc (.cells #[.slice (some ⟨G, 0, none⟩) n n] 22) = W3 := ⟨_, rfl⟩
  have hg3 : BlockAt W3 G 3 (List.replicate n 0) := by
    refine hg2.below (n := W2.heap.size) (by rw [← hW3]; exact (Below.refl _ _).alloc (Nat.le_refl _) _) hg2.lt
  have hb23 : Below W1.heap.size W1 W3 := by rw [← hW3]; exact hb2.alloc (by rw [hs1, hs2]; omega) _
  have hs3 : W3.heap.size = w.heap.size + 3 := by rw [← hW3]; simp; omega
  have hc3 : W3.cell? ⟨b3, 0, none⟩ = some (.slice (some ⟨G, 0, none⟩) n n) := by rw [← hW3, ← hb3]; simp
  have HB3 := Lib.hid hb3
  have HG3 := Lib.hid hg3
  have HB23 := Lib.hid hb23
  have HC := Lib.hid hcont
  have HG := Lib.hid hG
  have HG2 := Lib.hid hg2
  have HB1 := Lib.hid hb1
  have HB2 := Lib.hid hb2
  have HS := Lib.hid (And.intro hs1 (And.intro hs2 hs3))
  have HR := Lib.hid hr
  have HN := Lib.hid hn
  have HOK := Lib.hid hok
  have HL := Lib.hid (And.intro hl hca)
  have hl1 : (n : Int) ≤ 17592186043904 := by omega
  clear hr hn hok hl hca hZ hZe hW2 hb1 hg2 hb2 hs1 hs2 hcont hz0 hz1 hz2 hi hG hg3 hb23 hs3
  go_enter Try.func9, Try.ntmps9
  go_wp2_with fail
  refine HC.out.mono ?_
  rintro r w1 ⟨rfl, rfl⟩
  go_wp2_with fail
  go_loopw [14] (fun v wr => ∃ k : Nat, v = .int .i64 k ∧ k ≤ n ∧ BlockAt wr G 3 (M.ints (List.range k) ++ List.replicate (n - k) 0) ∧ wr.cell? ⟨b3, 0, none⟩ = some (.slice (some ⟨G, 0, none⟩) n n) ∧ Turned W3 wr G) (fun v _ => n - (intOf v).toNat)
  case atStart => exact ⟨0, rfl, Nat.zero_le _, HG3.out, hc3, .refl _ _⟩
  case round =>
    obtain ⟨k, rfl, hk, hb, hc3, ht⟩ := hrel
    rename World => wr
    have k0 : (0 : Int) ≤ k := by omega
    have HT := Lib.hid ht
    have hGb : b3 ≠ G := by have := HB3.out; have := HS.out; have := HG.out; omega
    by_cases hlt : k < n
    · have k1 : (k : Int) < n := by omega
      have hil : (M.ints (List.range k)).length = k := by rw [M.ints_len, List.length_range]
      have f0 := hb.frozen (j := k)
      have hz : (M.ints (List.range k) ++ List.replicate (n - k) (0 : Int))[k]? = some 0 := by
        rw [List.getElem?_append_right (by rw [hil]; exact Nat.le_refl _), hil, Nat.sub_self, List.getElem?_replicate, if_pos (by omega)]
      have c0 := hb.cell hz
      have hb1 := hb.set (k := k) (k : Int)
      rw [List.set_append_right _ _ (by rw [hil]; exact Nat.le_refl _), hil, Nat.sub_self, show n - k = (n - (k + 1)) + 1 by omega, List.replicate_succ, List.set_cons_zero] at hb1
      have e : M.ints (List.range k) ++ (k : Int) :: List.replicate (n - (k + 1)) 0 = M.ints (List.range (k + 1)) ++ List.replicate (n - (k + 1)) 0 := by
        unfold M.ints
        rw [List.range_succ, List.map_append, List.append_assoc]
        rfl
      rw [e] at hb1
      have HB1' := Lib.hid hb1
      have hT1 := ht.setCell k (.int .i64 k)
      have HT1 := Lib.hid hT1
      have HC3 := Lib.hid ((hT1.cell (p := ⟨b3, 0, none⟩) hGb).trans ((ht.cell (p := ⟨b3, 0, none⟩) hGb).symm.trans hc3))
      clear hb hil hz hb1 e hT1 ht
      go_wp2_with fail
      go_roundw
      case rel => exact ⟨k + 1, by go_num, by omega, HB1'.out, HC3.out, HT1.out⟩
      case measure => simp [intOf]; omega
    · obtain rfl : n = k := by omega
      have k1 : ¬ (n : Int) < n := by omega
      rw [Nat.sub_self, List.replicate_zero, List.append_nil] at hb
      have HBL := Lib.hid hb
      obtain ⟨b1, hb1e⟩ : ∃ b, w.heap.size = b := ⟨_, rfl⟩
      have hc1r : wr.cell? ⟨w.heap.size, 0, none⟩ = some (.slice A n ca) := by
        rw [ht.cell (p := ⟨w.heap.size, 0, none⟩) (by show w.heap.size ≠ G; have := HS.out; have := HG.out; omega), HB23.out.cell (p := ⟨w.heap.size, 0, none⟩) (by show w.heap.size < _; have := HS.out; omega)]
        exact hc1
      obtain ⟨b2, hb2e⟩ : ∃ b, wr.heap.size = b := ⟨_, rfl⟩
      have hcb3 : wr.cell? ⟨b3, 0, none⟩ = some (.slice (some ⟨G, 0, none⟩) n n) := hc3
      rw [hb1e] at hc1r
      obtain ⟨W4, hW4⟩ : ∃ W4, wr.alloc (.cells #[.func (.func 19) #[] #[.pointer (some ⟨b1, 0, none⟩), .pointer (some ⟨b2, 0, none⟩), .pointer (some ⟨b3, 0, none⟩)]] 35) = W4 := ⟨_, rfl⟩
      have hb4 : Below wr.heap.size wr W4 := by rw [← hW4]; exact (Below.refl _ _).alloc (Nat.le_refl _) _
      have hsz := ht.size
      have g1 : W4.cell? ⟨b1, 0, none⟩ = some (.slice A n ca) := (hb4.cell (p := ⟨b1, 0, none⟩) (by show b1 < wr.heap.size; have := HS.out; omega)).trans hc1r
      have g3 : W4.cell? ⟨b3, 0, none⟩ = some (.slice (some ⟨G, 0, none⟩) n n) := (hb4.cell (p := ⟨b3, 0, none⟩) (by show b3 < wr.heap.size; have := HS.out; have := HB3.out; omega)).trans hcb3
      have g2 : W4.cell? ⟨b2, 0, none⟩ = some (.func (.func 19) #[] #[.pointer (some ⟨b1, 0, none⟩), .pointer (some ⟨b2, 0, none⟩), .pointer (some ⟨b3, 0, none⟩)]) := by rw [← hW4, ← hb2e]; simp
      have hbel : Below w.heap.size w W4 := by
        have h1 := HB1.out.trans (HB23.out.mono HB1.out.size)
        have h2 := h1.trans (ht.below (by have := HS.out; have := HG.out; omega) : Below w.heap.size W3 wr)
        exact h2.trans (hb4.mono h2.size)
      have hGs := HG.out
      have hS := HS.out
      have hB3 := HB3.out
      have hat : LayAt A n ca w.heap.size b1 b2 b3 G l W4 ([] ++ List.range' 0 (n - 0) ++ []) := by
        refine ⟨HR.out.below hbel, ?_, g1, g2, g3, by omega, by omega, by omega, by omega⟩
        rw [List.nil_append, List.append_nil, Nat.sub_zero, ← List.range_eq_range']
        exact hb.below hb4 hb.lt
      have hlay := clay_any A n ca w.heap.size b1 b2 b3 G l HN.out HOK.out HL.out.1 HL.out.2 128 0 0 n [] [] W4 (by omega) (by omega) rfl (Nat.zero_le _) rfl (fun x _ _ => by have := M.lev_ok HOK.out x; omega) hat
      have hla : ([] ++ M.laid l 0 0 n ++ [] : List Nat) = M.order l := by rw [List.nil_append, List.append_nil, ← HN.out]; exact M.laid_zero
      rw [hla] at hlay
      have hlay' : Calls Try.prog 19 #[.int .i64 0, .int .i64 n, .int .i64 0, .pointer (some ⟨b1, 0, none⟩), .pointer (some ⟨b2, 0, none⟩), .pointer (some ⟨b3, 0, none⟩)] W4 fun r w' => r = .returned (.tuple #[]) ∧ LayAt A n ca w.heap.size b1 b2 b3 G l w' (M.order l) ∧ KpG W4.heap.size G W4 w' := hlay
      have HLAY := Lib.hid hlay'
      have HBEL := Lib.hid hbel
      have HN3 := Lib.hid (show w.heap.size ≤ G ∧ w.heap.size ≤ W4.heap.size from ⟨by omega, hbel.size⟩)
      clear hb ht hb4 hsz hc1r hc3 hcb3 hbel hGs hS hB3 hat hlay hlay' hla HC hb3 hc1
      go_wp2_with fail
      refine HLAY.out.mono ?_
      rintro r w5 ⟨rfl, hat5, hkp⟩
      have c3 := hat5.c3
      have HAT := Lib.hid hat5
      have HB5 := Lib.hid (HBEL.out.trans (hkp.below HN3.out.2 HN3.out.1))
      clear hat5 hkp g1 g2 g3
      go_wp2_with fail
      go_returns
      exact ⟨G, rfl, HAT.out.bl, HN3.out.1, HB5.out⟩
theorem corder_any (A : Option Addr) (ca n : Nat) (l : List Int) (w : World) (hr : RdS .i64 w w.heap.size A l) (hn : l.length = n) (hl : n * 8 ≤ 140737488351232) (hca : n ≤ ca) :
    Calls Try.prog 9 #[.slice A n ca] w (RowE 3 81 (M.ordOk l) (M.ints (M.order l)) w) := by
  by_cases h : M.ordOk l
  · refine (corder_ok A ca n l w hr hn hl hca h).mono ?_
    rintro r w' ⟨G, rfl, hb, hG, hbel⟩
    refine ⟨hbel, fun _ => ⟨_, rfl, ?_⟩, fun h' => absurd h h'⟩
    rw [M.ints_len, M.order_len, hn]
    exact hb.own (by rw [M.ints_len, M.order_len, hn]) (by unfold maxLen; omega) hG
  · exact corder_no A ca n l w hr hn hl h
end Go.Proofs.Ytahjkndphkpieaa
