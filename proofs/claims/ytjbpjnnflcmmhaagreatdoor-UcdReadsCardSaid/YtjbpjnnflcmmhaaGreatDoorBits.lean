/- The contract of the library's FormatInt at base 16 over the translation. Conditions: the number is from 0 up to 1114111; the library's table deBruijn64tab is as the program's text lays it at the one cell that is read. -/
import Derived.Test.YtjbpjnnflcmmhaaGreatDoorCounted
import Derived.Laws.BitsAllLaws
namespace Go.Proofs.YtjbpjnnflcmmhaaGreatDoor
open Go.RowKit

/-- The cell of the library's table that base 16 reads. -/
def TabOk (w : World) : Prop := w.cell? ⟨6, 15, none⟩ = some (.int .u8 4)

set_option maxHeartbeats 1000000 in
theorem power_16 (w : World) : Calls Tryz.prog 117 #[.int .i64 16] w fun e w' => e = .returned (.bool true) ∧ w = w' := by
  go_enter Tryz.func117, Tryz.ntmps117
  go_wp2
  go_ret
  exact ⟨rfl, rfl⟩
set_option maxHeartbeats 1000000 in
theorem zeros64_16 (w : World) (h : TabOk w) : Calls Tryz.prog 125 #[.int .u64 16] w fun e w' => e = .returned (.int .i64 4) ∧ w = w' := by
  unfold TabOk at h
  have hw : IntKind.u64.wrap (bits BinOp.and IntKind.u64 16 (IntKind.u64.wrap (-16)) * 285870213051353865) = 4573923408821661840 := by kernel_rfl
  go_enter Tryz.func125, Tryz.ntmps125
  go_wp2
  go_ret
  exact ⟨rfl, rfl⟩
set_option maxHeartbeats 1000000 in
theorem zeros_16 (w : World) (h : TabOk w) : Calls Tryz.prog 118 #[.int .u64 16] w fun e w' => e = .returned (.int .i64 4) ∧ w = w' := by
  go_enter Tryz.func118, Tryz.ntmps118
  go_wp2_with fail
  refine (zeros64_16 w h).mono ?_
  rintro e w' ⟨rfl, rfl⟩
  go_wp2
  go_ret
  exact ⟨rfl, rfl⟩

/-- A row of 65 bytes that may be written. -/
def Row (W : World) (b : Nat) (f : Nat → Int) : Prop := ∀ t, t < 65 → W.cell? ⟨b, t, none⟩ = some (.int .u8 (f t)) ∧ W.frozen? ⟨b, t, none⟩ = false
theorem zeroCells_eq : Tryz.zeroCells141 = Array.replicate 65 (.int .u8 0) := by kernel_rfl
theorem Row.new (w : World) (T : TypeId) : Row (w.alloc (.cells Tryz.zeroCells141 T)) w.heap.size (fun _ => 0) := by
  intro t ht
  rw [zeroCells_eq]
  constructor
  · simp [go_sem, ht]
  · simp [go_sem]
theorem Row.set {W : World} {b : Nat} {f : Nat → Int} (h : Row W b f) (i : Nat) (hi : i < 65) (x : Int) : Row (W.setCell ⟨b, i, none⟩ (.int .u8 x)) b (fun t => if t = i then x else f t) := by
  intro t ht
  obtain ⟨c, fz⟩ := h t ht
  refine ⟨?_, by rw [World.frozen?_setCell]; exact fz⟩
  by_cases e : t = i
  · subst e
    show _ = some (Value.int .u8 (if t = t then x else f t))
    rw [if_pos rfl]
    exact World.cell?_setCell_same (v := .int .u8 x) _ _ c
  · show _ = some (Value.int .u8 (if t = i then x else f t))
    rw [if_neg e]
    exact (World.cell?_setCell_other _ _ _ _ (fun k => e (congrArg Addr.off k).symm)).trans c

theorem and15 (x : Int) (h0 : 0 ≤ x) (h1 : x ≤ 4000000) : bits .and .u64 x 15 = x % 16 :=
  bits_mask .u64 31 (by decide) (fun n a b => IntWalk.u64_in n (by omega)) 4 (by decide) x h0 (by omega)

/-- A hexadecimal figure in small letters. -/
def M.dig (d : Nat) : UInt8 := (#[48, 49, 50, 51, 52, 53, 54, 55, 56, 57, 97, 98, 99, 100, 101, 102, 103, 104, 105, 106, 107, 108, 109, 110, 111, 112, 113, 114, 115, 116, 117, 118, 119, 120, 121, 122] : Array UInt8).getD d 0
/-- The lowest j figures of a number. -/
def M.low (n : Nat) : Nat → List UInt8
  | 0 => []
  | j + 1 => M.dig (n / 16 ^ j % 16) :: M.low n j
/-- How many figures a number has, up to six. -/
def M.ndig (n : Nat) : Nat := if n < 16 then 1 else if n < 256 then 2 else if n < 4096 then 3 else if n < 65536 then 4 else if n < 1048576 then 5 else 6
theorem M.low_length (n j : Nat) : (M.low n j).length = j := by
  induction j with
  | zero => rfl
  | succ j ih => simp [M.low, ih]
theorem M.ndig_of {n j : Nat} (hn : n ≤ 1114111) (hj : j ≤ 5) (h1 : j = 0 ∨ 16 ≤ n / 16 ^ (j - 1)) (h2 : n / 16 ^ j < 16) : M.ndig n = j + 1 := by
  unfold M.ndig
  rcases (show j = 0 ∨ j = 1 ∨ j = 2 ∨ j = 3 ∨ j = 4 ∨ j = 5 by omega) with rfl | rfl | rfl | rfl | rfl | rfl <;> simp at h1 h2 ⊢ <;> (repeat' split) <;> omega
theorem M.more_of {n j : Nat} (hn : n ≤ 1114111) (hj : j ≤ 5) (h2 : 16 ≤ n / 16 ^ j) : j + 1 ≤ 5 := by
  rcases (show j ≤ 4 ∨ j = 5 by omega) with h | rfl
  · omega
  · simp at h2; omega
theorem dig_at (d : Nat) (h : d < 36) : ∀ k, ((({ data := #[48, 49, 50, 51, 52, 53, 54, 55, 56, 57, 97, 98, 99, 100, 101, 102, 103, 104, 105, 106, 107, 108, 109, 110, 111, 112, 113, 114, 115, 116, 117, 118, 119, 120, 121, 122] } : ByteArray)[d]'k).toNat : Int) = ((M.dig d).toNat : Int) := by
  intro k
  show (((#[48, 49, 50, 51, 52, 53, 54, 55, 56, 57, 97, 98, 99, 100, 101, 102, 103, 104, 105, 106, 107, 108, 109, 110, 111, 112, 113, 114, 115, 116, 117, 118, 119, 120, 121, 122] : Array UInt8)[d]'k).toNat : Int) = _
  unfold M.dig
  rw [Array.getD_eq_getD_getElem?, Array.getElem?_eq_getElem (by simpa using h)]
  rfl
/-- The row holds the list from a place on. -/
def Holds (f : Nat → Int) (i : Nat) (l : List UInt8) : Prop := ∀ k c, l[k]? = some c → f (i + k) = (c.toNat : Int)
theorem Holds.cons {f : Nat → Int} {i : Nat} {l : List UInt8} (h : Holds f (i + 1) l) (c : UInt8) : Holds (fun t => if t = i then (c.toNat : Int) else f t) i (c :: l) := by
  intro k x hx
  cases k with
  | zero => simp at hx; subst hx; simp
  | succ k =>
    simp at hx
    have := h k x hx
    show (if i + (k + 1) = i then (c.toNat : Int) else f (i + (k + 1))) = _
    rw [if_neg (by omega), ← this]
    congr 1
    omega
theorem Row.reads {W : World} {b i : Nat} {f : Nat → Int} {l : List UInt8} (h : Row W b f) (hh : Holds f i l) (hl : i + l.length = 65) (hb : b < W.heap.size) : RdB W W.heap.size (some ⟨b, i, none⟩) l := by
  intro j x hx
  unfold ints at hx
  rw [List.getElem?_map] at hx
  cases hc : l[j]? with
  | none => rw [hc] at hx; cases hx
  | some c =>
    rw [hc] at hx
    have hj := (List.getElem?_eq_some_iff.1 hc).1
    obtain rfl : (c.toNat : Int) = x := by simpa using hx
    refine ⟨⟨b, i, none⟩, rfl, hb, ?_⟩
    have := (h (i + j) (by omega)).1
    rw [hh j c hc] at this
    have e : (⟨b, i, none⟩ : Addr).add j = ⟨b, i + j, none⟩ := by
      unfold Addr.add
      split
      · rename_i h0; subst h0; rfl
      · rfl
    rw [e]
    exact this

theorem slice_65 (b i : Nat) (h1 : 1 ≤ i) (h2 : i ≤ 65) (W : World) (hi : 1 < i) : (Instr.sliceAt 141 (.pointer (some ⟨b, 0, none⟩)) (some (.int .i64 ((i : Int) - 1))) none none).run Tryz.prog W = .ok (.slice (some ⟨b, i - 1, none⟩) (66 - i) (66 - i)) W := by
  have e1 : Tryz.prog.arrayLen 141 = 65 := by kernel_rfl
  have e2 : Tryz.prog.elem 141 = 5 := by kernel_rfl
  rw [run_sliceAt_array_l W 141 ⟨b, 0, none⟩ (by kernel_rfl) .i64 _ (by omega) (by rw [e1]; omega), e1, e2, Tryz.sizeOf5]
  have e3 : ((i : Int) - 1).toNat = i - 1 := by omega
  simp only [Result.andThen, slicedAt, e3]
  rw [if_neg (by omega)]
  have e4 : (⟨b, 0, none⟩ : Addr).add ((i - 1) * 1) = ⟨b, i - 1, none⟩ := by
    unfold Addr.add
    rw [if_neg (by omega)]
    simp
  rw [e4, show 65 - (i - 1) = 66 - i by omega]

set_option maxRecDepth 100000 in
set_option maxHeartbeats 4000000 in
theorem bits_16 (n : Nat) (w : World) (hn : n ≤ 1114111) (ht : TabOk w) (h0 : 6 < w.heap.size) :
    Calls Tryz.prog 100 #[.slice none 0 0, .int .u64 n, .int .i64 16, .bool false, .bool false] w fun e w' => e = .returned (.tuple #[.slice none 0 0, .string (M.bytes (M.low n (M.ndig n)))]) ∧ Below w.heap.size w w' := by
  have HT := Lib.hid ht
  clear ht
  go_enter Tryz.func100, Tryz.ntmps100
  go_wp2_with fail
  refine (power_16 _).mono ?_
  rintro e W1 ⟨rfl, hW1⟩
  have hrow := Row.new w 141
  have hbW : Below w.heap.size w (w.alloc (.cells Tryz.zeroCells141 141)) := (Below.refl _ _).alloc (Nat.le_refl _) _
  have hsW : w.heap.size + 1 ≤ (w.alloc (.cells Tryz.zeroCells141 141)).heap.size := by simp
  rw [hW1] at hrow hbW hsW
  clear hW1
  have HROW := Lib.hid hrow
  have HBW := Lib.hid hbW
  clear hrow hbW
  go_wp2_with fail
  refine (zeros_16 _ ((HBW.out.cell (p := ⟨6, 15, none⟩) h0).trans HT.out)).mono ?_
  rintro e W2 ⟨rfl, rfl⟩
  go_wp2_with fail
  go_loopw [1, 13] (fun u i wr => ∃ (j : Nat) (f : Nat → Int), j ≤ 5 ∧ (j = 0 ∨ 16 ≤ n / 16 ^ (j - 1)) ∧ u = .int .u64 ((n / 16 ^ j : Nat) : Int) ∧ i = .int .i64 ((65 - j : Nat) : Int) ∧ Row wr w.heap.size f ∧ Holds f (65 - j) (M.low n j) ∧ Below w.heap.size w wr ∧ w.heap.size + 1 ≤ wr.heap.size) (fun u _ _ => (intOf u).toNat)
  case atStart => exact ⟨0, _, by omega, .inl rfl, by simp, by simp, HROW.out, (fun k c h => by simp [M.low] at h), HBW.out, hsW⟩
  case round =>
    obtain ⟨j, f, hj, hj2, rfl, rfl, hrow, hh, hb, hsz⟩ := hrel
    have HROW' := Lib.hid hrow
    have HB' := Lib.hid hb
    have HH := Lib.hid hh
    have HJ2 := Lib.hid hj2
    obtain ⟨u, hu⟩ : ∃ u, n / 16 ^ j = u := ⟨_, rfl⟩
    rw [hu]
    have hul : u ≤ n := by rw [← hu]; exact Nat.div_le_self _ _
    obtain ⟨i, hi⟩ : ∃ i, 65 - j = i := ⟨_, rfl⟩
    rw [hi]
    have hi1 : 60 ≤ i := by omega
    have hi2 : i ≤ 65 := by omega
    have HU := Lib.hid hu
    have HI := Lib.hid hi
    clear hrow hb hu hi hh hj2
    have c0 := (HROW'.out (i - 1) (by omega)).1
    have f0 := (HROW'.out (i - 1) (by omega)).2
    by_cases hlt : 16 ≤ u
    · have hand := and15 (u : Int) (by omega) (by omega)
      go_wp2
      have hj5 := M.more_of hn hj (by rw [HU.out]; exact hlt)
      refine ⟨⟨j + 1, _, hj5, .inr (by simp; rw [HU.out]; exact hlt), ?_, ?_, HROW'.out.set (i - 1) (by omega) _, ?_, (HB'.out.setCell (p := ⟨w.heap.size, i - 1, none⟩) (Nat.le_refl _) _), by simp; exact hsz⟩, ?_⟩
      · congr 1
        rw [Nat.pow_succ, ← Nat.div_div_eq_div_mul, HU.out]
        simp
      · congr 1
        have := HI.out
        omega
      · have e1 : 65 - (j + 1) = i - 1 := by have := HI.out; omega
        have e2 := HH.out
        rw [HI.out] at e2
        rw [e1, dig_at _ (by omega)]
        have := Holds.cons (f := f) (i := i - 1) (l := M.low n j) (by rw [Nat.sub_add_cancel (by omega)]; exact e2) (M.dig (u % 16))
        rw [M.low, HU.out]
        exact this
      · simp [intOf]; omega
    · have hsl := fun W => slice_65 w.heap.size i (by omega) hi2 W (by omega)
      have hfin : M.low n (M.ndig n) = M.dig u :: M.low n j := by
        rw [M.ndig_of hn hj HJ2.out (by rw [HU.out]; omega), M.low, HU.out, Nat.mod_eq_of_lt (by omega)]
      have HFIN := Lib.hid hfin
      have hrd : ∀ k, RdB (wr.setCell ⟨w.heap.size, i - 1, none⟩ (.int .u8 ((({ data := #[48, 49, 50, 51, 52, 53, 54, 55, 56, 57, 97, 98, 99, 100, 101, 102, 103, 104, 105, 106, 107, 108, 109, 110, 111, 112, 113, 114, 115, 116, 117, 118, 119, 120, 121, 122] } : ByteArray)[u]'k).toNat : Int))) (wr.setCell ⟨w.heap.size, i - 1, none⟩ (.int .u8 ((({ data := #[48, 49, 50, 51, 52, 53, 54, 55, 56, 57, 97, 98, 99, 100, 101, 102, 103, 104, 105, 106, 107, 108, 109, 110, 111, 112, 113, 114, 115, 116, 117, 118, 119, 120, 121, 122] } : ByteArray)[u]'k).toNat : Int))).heap.size (some ⟨w.heap.size, i - 1, none⟩) (M.dig u :: M.low n j) := by
        intro k
        rw [dig_at u (by omega) k]
        have e2 := HH.out
        rw [HI.out] at e2
        exact (HROW'.out.set (i - 1) (by omega) _).reads (Holds.cons (by rw [Nat.sub_add_cancel (by omega)]; exact e2) _) (by simp [M.low_length]; have := HI.out; omega) (by simp; omega)
      have hcv := fun k (c : Nat) => (hrd k).run_str (n := 66 - i) (cap := c) (by simp [M.low_length]; have := HI.out; omega)
      clear hrd hfin
      go_wp2
      go_ret2
      rw [HFIN.out]
      exact ⟨rfl, HB'.out.setCell (p := ⟨w.heap.size, i - 1, none⟩) (Nat.le_refl _) _⟩

set_option maxHeartbeats 1000000 in
theorem formatInt_inner (n : Nat) (w : World) (hn : n ≤ 1114111) (ht : TabOk w) :
    Calls Tryz.prog 76 #[.int .i64 n, .int .i64 16] w fun e w' => e = .returned (.string (M.bytes (M.low n (M.ndig n)))) ∧ Below w.heap.size w w' := by
  have HB := Lib.hid (bits_16 n w hn ht (World.block_lt_of_cell? w _ ht))
  have HT := Lib.hid ht
  clear ht
  go_enter Tryz.func76, Tryz.ntmps76
  go_wp2_with fail
  refine HB.out.mono ?_
  rintro e w1 ⟨rfl, hb⟩
  go_wp2
  go_ret
  exact ⟨rfl, hb⟩
set_option maxHeartbeats 1000000 in
theorem formatInt_16 (n : Nat) (w : World) (hn : n ≤ 1114111) (ht : TabOk w) :
    Calls Tryz.prog 48 #[.int .i64 n, .int .i64 16] w fun e w' => e = .returned (.string (M.bytes (M.low n (M.ndig n)))) ∧ Below w.heap.size w w' := by
  have HB := Lib.hid (formatInt_inner n w hn ht)
  clear ht
  go_enter Tryz.func48, Tryz.ntmps48
  go_wp2_with fail
  refine HB.out.mono ?_
  rintro e w1 ⟨rfl, hb⟩
  go_wp2
  go_ret
  exact ⟨rfl, hb⟩
end Go.Proofs.YtjbpjnnflcmmhaaGreatDoor
