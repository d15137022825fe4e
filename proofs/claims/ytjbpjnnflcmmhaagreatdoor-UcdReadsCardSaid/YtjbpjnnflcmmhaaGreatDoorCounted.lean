/- The contract of ucd's counted over the translation, and of the library's IndexByte, Trim and Cut of bytes at their calls. Conditions: the slice reads as a list of bytes below the heap's end. -/
import Derived.Test.YtjbpjnnflcmmhaaGreatDoorEntry
import Derived.Test.YtjbpjnnflcmmhaaGreatDoorStr
namespace Go.Proofs.YtjbpjnnflcmmhaaGreatDoor
open Go.RowKit

def ints (l : List UInt8) : List Int := l.map fun c => (c.toNat : Int)
theorem ints_length (l : List UInt8) : (ints l).length = l.length := by simp [ints]
theorem ints_bytes (l : List UInt8) : Lib.bytesOf (ints l) = l := by
  unfold Lib.bytesOf ints
  rw [List.map_map]
  have : ((fun n : Int => UInt8.ofNat n.toNat) ∘ fun c : UInt8 => (c.toNat : Int)) = id := by funext c; simp
  rw [this, List.map_id]
theorem ints_range (l : List UInt8) : ∀ x ∈ ints l, 0 ≤ x ∧ x < 256 := by
  intro x hx
  unfold ints at hx
  obtain ⟨c, _, rfl⟩ := List.mem_map.1 hx
  have := c.toNat_lt
  omega
theorem ints_take (l : List UInt8) (n : Nat) : (ints l).take n = ints (l.take n) := by simp [ints, List.map_take]
theorem ints_drop (l : List UInt8) (n : Nat) : (ints l).drop n = ints (l.drop n) := by simp [ints, List.map_drop]
theorem str_ints (l : List UInt8) : str (ints l) = M.bytes l := by
  rw [← M.bytes_self (str (ints l)), str_data]
  congr 1
  have := ints_bytes l
  unfold Lib.bytesOf at this
  exact this

/-- The slice that begins at A holds the bytes l, in blocks below B. -/
def RdB (w : World) (B : Nat) (A : Option Addr) (l : List UInt8) : Prop := RdS .u8 w B A (ints l)
section
variable {w w' : World} {B B' : Nat} {A : Option Addr} {l : List UInt8}
theorem RdB.nil : RdB w B A [] := RdS.nil
theorem RdB.below (h : RdB w B A l) (hb : Below B w w') : RdB w' B A l := RdS.below h hb
theorem RdB.more (h : RdB w B A l) (hB : B ≤ B') : RdB w B' A l := RdS.more h hB
theorem RdB.take (h : RdB w B A l) (n : Nat) : RdB w B A (l.take n) := by
  unfold RdB; rw [← ints_take]; exact RdS.take h n
theorem RdB.cut (h : RdB w B A l) {n cap : Nat} (hc : l.length ≤ cap) : RdB w B (if cap = n then A else A.map (·.add n)) (l.drop n) := by
  unfold RdB; rw [← ints_drop]; exact RdS.cut h (by rw [ints_length]; exact hc)
theorem RdB.cells (h : RdB w B A l) {a : Addr} (hA : A = some a) : ∀ i, i < l.length → w.cell? (a.add i) = some (.int .u8 ((ints l).getD i 0)) := by
  intro i hi
  obtain ⟨ad, hA', _, hc⟩ := RdS.at_ h (j := i) (by rw [ints_length]; exact hi)
  obtain rfl : a = ad := by rw [hA] at hA'; injection hA'
  rw [hc]
  simp [List.getD, List.getElem?_eq_getElem (show i < (ints l).length by rw [ints_length]; exact hi)]
theorem RdB.some_of (h : RdB w B A l) (hl : l ≠ []) : ∃ a, A = some a := by
  cases l with
  | nil => exact absurd rfl hl
  | cons x r =>
    obtain ⟨ad, hA, _⟩ := h 0 _ rfl
    exact ⟨ad, hA⟩
theorem RdB.bytesIn (h : RdB w B A l) : Lib.BytesIn w A l.length (ints l) := by
  cases A with
  | none =>
    cases l with
    | nil => exact Lib.BytesIn.nil _ _ _
    | cons x r => obtain ⟨a, ha⟩ := h.some_of (by simp); cases ha
  | some a => exact Lib.BytesIn.of_cells (h.cells rfl)
theorem RdB.run_str (h : RdB w B A l) {n cap : Nat} (hn : l.length = n) : (convert 22 9 (.slice A n cap)).run Tryz.prog w = .ok (.string (M.bytes l)) w := by
  rw [← str_ints]
  exact Go.Proofs.YtjbpjnnflcmmhaaGreatDoor.run_str w B A (ints l) n cap (by rw [ints_length]; exact hn) h
end

theorem indexByte_any (A : Option Addr) (cap : Nat) (l : List UInt8) (w : World) (B : Nat) (hr : RdB w B A l) (hp : A = none → cap = 0) :
    Calls Tryz.prog 34 #[.slice A l.length cap, .int .u8 35] w fun e w' => e = .returned (.int .i64 (Lib.index l [35])) ∧ w = w' := by
  rw [← M.indexByte_eq]
  cases A with
  | none =>
    cases l with
    | nil =>
      obtain rfl := hp rfl
      exact (Any.bytes_IndexByte_nil Tryz.lays187 35 w).mono fun e w' ⟨he, hw⟩ => ⟨he, hw.symm⟩
    | cons x r => obtain ⟨a, ha⟩ := hr.some_of (by simp); cases ha
  | some a =>
    have := Any.bytes_IndexByte_at Tryz.lays187 a l.length cap (ints l) 35 w (ints_length l) (hr.cells rfl)
    rw [ints_bytes] at this
    exact this.mono fun e w' ⟨he, hw⟩ => ⟨he, hw.symm⟩

theorem trimR_prefix (l : List UInt8) : Lib.trimRightS l [32, 9] = l.take (Lib.trimRightS l [32, 9]).length := by
  have h : Lib.trimRightS l [32, 9] <+: l := by
    unfold Lib.trimRightS
    rw [← List.reverse_suffix, List.reverse_reverse]
    exact List.dropWhile_suffix _
  exact List.prefix_iff_eq_take.1 h
theorem trim_suffix (l : List UInt8) : M.trim l = (Lib.trimRightS l [32, 9]).drop ((Lib.trimRightS l [32, 9]).length - (M.trim l).length) :=
  List.suffix_iff_eq_drop.1 (List.dropWhile_suffix _)

/-- What Trim hands back reads as the trimmed list. -/
theorem trim_reads {w : World} {B : Nat} {A : Option Addr} {l : List UInt8} (h : RdB w B A l) (cap : Nat) (hc : l.length ≤ cap) :
    ∃ A' c', Lib.leftV A (Lib.trimRightS l [32, 9]).length cap ((Lib.trimRightS l [32, 9]).length - (M.trim l).length) = .slice A' (M.trim l).length c' ∧ RdB w B A' (M.trim l) := by
  have hle : (M.trim l).length ≤ (Lib.trimRightS l [32, 9]).length := (List.dropWhile_suffix _).length_le
  have hle2 : (Lib.trimRightS l [32, 9]).length ≤ l.length := by
    have := congrArg List.length (trimR_prefix l)
    rw [List.length_take] at this
    omega
  unfold Lib.leftV
  split
  · rename_i hj
    have h0 : (M.trim l).length = 0 ∨ (Lib.trimRightS l [32, 9]).length = 0 := by omega
    have h1 : (M.trim l).length = 0 := by omega
    refine ⟨none, 0, by rw [h1], ?_⟩
    rw [List.eq_nil_of_length_eq_zero h1]
    exact RdB.nil
  · unfold Lib.fromV
    have e : (Lib.trimRightS l [32, 9]).length - ((Lib.trimRightS l [32, 9]).length - (M.trim l).length) = (M.trim l).length := by omega
    rw [e]
    refine ⟨_, _, rfl, ?_⟩
    have hr : RdB w B A (Lib.trimRightS l [32, 9]) := by rw [trimR_prefix l]; exact h.take _
    have := hr.cut (n := (Lib.trimRightS l [32, 9]).length - (M.trim l).length) (cap := cap) (by omega)
    rw [← trim_suffix l] at this
    exact this

theorem trimB_any (A : Option Addr) (cap : Nat) (l : List UInt8) (w : World) (hr : RdB w w.heap.size A l) (hc : l.length ≤ cap) (hm : cap ≤ maxLen) :
    Calls Tryz.prog 35 #[.slice A l.length cap, .string ⟨#[32, 9]⟩] w fun e w' => ∃ A' c', e = .returned (.slice A' (M.trim l).length c') ∧ RdB w' w.heap.size A' (M.trim l) ∧ Below w.heap.size w w' := by
  have := Any.bytes_Trim_laid Tryz.laysV6 (by kernel_rfl) A l.length cap (ints l) ⟨#[32, 9]⟩ w (ints_length l) hc hm hr.bytesIn (ints_range l) (by decide) (ascii_of_all (by decide))
  rw [ints_bytes] at this
  refine this.mono fun e w' ⟨he, hb⟩ => ?_
  obtain ⟨A', c', hv, hrd⟩ := trim_reads hr cap hc
  exact ⟨A', c', he.trans (by rw [← hv]), hrd.below hb, hb⟩

set_option maxHeartbeats 1000000 in
theorem counted_any (A : Option Addr) (cap : Nat) (l : List UInt8) (w : World) (hr : RdB w w.heap.size A l) (hc : l.length ≤ cap) (hm : cap ≤ maxLen) (hp : A = none → cap = 0) :
    Calls Tryz.prog 22 #[.slice A l.length cap] w fun e w' => e = .returned (.string (M.bytes (M.counted l))) ∧ Below w.heap.size w w' := by
  unfold M.counted
  have hm' : cap ≤ 2 ^ 63 - 1 := hm
  have HR := Lib.hid hr
  have HP := Lib.hid hp
  clear hp
  rcases M.takeWhile_index l 35 with ⟨hi, ht⟩ | ⟨i, hi, hlt, ht⟩
  · rw [ht]
    have HI := Lib.hid hi
    obtain ⟨t, htt⟩ : ∃ t, M.trim l = t := ⟨_, rfl⟩
    have HT := Lib.hid htt
    rw [htt]
    clear hr hi ht htt
    go_enter Tryz.func22, Tryz.ntmps22
    go_wp2_with fail
    refine (indexByte_any A cap l w _ HR.out HP.out).mono ?_
    rintro e w1 ⟨rfl, rfl⟩
    rw [HI.out]
    go_wp2_with fail
    refine (trimB_any A cap l w HR.out hc hm).mono ?_
    rintro e w2 ⟨A', c', rfl, hrd, hb⟩
    rw [HT.out] at hrd ⊢
    have hcv := fun (c : Nat) => hrd.run_str (cap := c) (rfl : t.length = t.length)
    have HB := Lib.hid hb
    clear hb hrd
    go_wp2
    go_ret
    exact ⟨rfl, HB.out⟩
  · rw [ht]
    have HI := Lib.hid hi
    obtain ⟨t, htt⟩ : ∃ t, M.trim (l.take i) = t := ⟨_, rfl⟩
    have HT := Lib.hid htt
    have hlen : (l.take i).length = i := by rw [List.length_take]; omega
    have HTR := Lib.hid (show Calls Tryz.prog 35 #[.slice A i cap, .string ⟨#[32, 9]⟩] w fun e w' => ∃ A' c', e = .returned (.slice A' t.length c') ∧ RdB w' w.heap.size A' t ∧ Below w.heap.size w w' by
      have := trimB_any A cap (l.take i) w (hr.take i) (by omega) hm
      rw [hlen, htt] at this
      exact this)
    rw [htt]
    have hi1 : (0 : Int) ≤ (i : Int) := by omega
    have hi2 : (i : Int) ≤ (cap : Int) := by omega
    clear hr hi ht htt hlen
    go_enter Tryz.func22, Tryz.ntmps22
    go_wp2_with fail
    refine (indexByte_any A cap l w _ HR.out HP.out).mono ?_
    rintro e w1 ⟨rfl, rfl⟩
    rw [HI.out]
    go_wp2_with fail
    refine HTR.out.mono ?_
    rintro e w2 ⟨A', c', rfl, hrd, hb⟩
    have hcv := fun (c : Nat) => hrd.run_str (cap := c) (rfl : t.length = t.length)
    have HB := Lib.hid hb
    clear hb hrd
    go_wp2
    go_ret
    exact ⟨rfl, HB.out⟩
end Go.Proofs.YtjbpjnnflcmmhaaGreatDoor
