/- The Go function UcdWrites answers true, over the translation. Conditions: the slice reads as a list of entries; the variable MaxLen of the library holds some number, and its table deBruijn64tab is as the program's text lays it. -/
import Derived.Test.YtjkhkhanjeeniaaGreatDoorRefText
namespace Go.Proofs.YtjkhkhanjeeniaaGreatDoor
open Go.RowKit

section
variable (A : Option Addr) (ca : Nat) (l : List M.E) (w : World)

set_option maxHeartbeats 4000000 in
theorem writes_bad (hl : RdE w w.heap.size A l) (zl : Sized l) (hla : l.length ≤ ca) (hca : ca ≤ maxLen) (hx : MaxOk w) (ht : TabOk w) (hf : M.fits l = false) :
    Calls Tryz.prog 4 #[.slice A l.length ca] w fun e w' => e = .returned (.bool true) ∧ Below w.heap.size w w' := by
  have HL := Lib.hid hl
  have HZL := Lib.hid zl
  have HX := Lib.hid hx
  have HT := Lib.hid ht
  have HCA := Lib.hid hca
  have HF := Lib.hid hf
  clear hl zl hx ht hca hf
  go_enter Tryz.func4, Tryz.ntmps4
  go_wp2_with fail
  refine (fits_any A ca l w HL.out (Nat.le_trans hla HCA.out) HZL.out).mono ?_
  rintro e w1 ⟨rfl, rfl⟩
  rw [HF.out]
  go_wp2_with fail
  refine (alive_true w HX.out HT.out).mono ?_
  rintro e w3 ⟨rfl, hb3⟩
  go_wp2
  go_ret
  exact ⟨rfl, hb3⟩

set_option maxHeartbeats 4000000 in
theorem writes_good (hl : RdE w w.heap.size A l) (zl : Sized l) (hla : l.length ≤ ca) (hca : ca ≤ maxLen) (hx : MaxOk w) (ht : TabOk w) (hf : M.fits l = true) :
    Calls Tryz.prog 4 #[.slice A l.length ca] w fun e w' => e = .returned (.bool true) ∧ Below w.heap.size w w' := by
  have HL := Lib.hid hl
  have HZL := Lib.hid zl
  have HX := Lib.hid hx
  have HT := Lib.hid ht
  have HCA := Lib.hid hca
  have HF := Lib.hid hf
  have hm' : l.length ≤ 2 ^ 63 - 1 := Nat.le_trans hla hca
  clear hl zl hx ht hca hf
  go_enter Tryz.func4, Tryz.ntmps4
  go_wp2_with fail
  refine (fits_any A ca l w HL.out (Nat.le_trans hla HCA.out) HZL.out).mono ?_
  rintro e w1 ⟨rfl, rfl⟩
  rw [HF.out]
  go_wp2
  go_loopw [4] (fun i wr => ∃ k : Nat, k ≤ l.length ∧ i = .int .i64 k ∧ Below w.heap.size w wr) (fun i _ => l.length - (intOf i).toNat)
  case atStart => exact ⟨0, Nat.zero_le _, rfl, Below.refl _ _⟩
  case round =>
    obtain ⟨k, hk, rfl, hb⟩ := hrel
    have HB := Lib.hid hb
    clear hb
    by_cases hlt : k < l.length
    · obtain ⟨e, he⟩ : ∃ e, l[k]? = some e := ⟨_, List.getElem?_eq_getElem hlt⟩
      have hmem : e ∈ l := List.mem_of_getElem? he
      obtain ⟨hzv, hzx⟩ := HZL.out e hmem
      obtain ⟨ad, rfl, hab, d0, d1, d2, d3⟩ := HL.out.below HB.out k e he
      have c0 := fun d os => cell_regrown d0 d os
      have c1 := fun d os => cell_regrown d1 d os
      have c2 := fun d os => cell_regrown d2 d os
      have c3 := fun d os => cell_regrown d3 d os
      have hk1 : (0 : Int) ≤ (k : Int) := by omega
      have hk2 : (k : Int) < (l.length : Int) := by omega
      obtain ⟨q, hq⟩ : ∃ q, M.right e = q := ⟨_, rfl⟩
      have C1 := Lib.hid (fun d os => Calls.regrown_of (right_any e (Sort.grow (redrawn wr d) os) hzv hzx))
      have C2 := Lib.hid (fun d os => Calls.regrown_of (refRight_any e (Sort.grow (redrawn wr d) os) hzv hzx))
      rw [hq] at C1 C2
      clear hq he hmem
      unfold M.E.val at C1 C2
      go_wp2_with fail
      refine wp_region_quiet_below (by kernel_rfl) (by kernel_rfl) ?_
      repeat (quiet_step (first | (with_reducible exact C1.out _ _) | (with_reducible exact C2.out _ _)))
      refine wpQuiet_nil ?_
      intro _ hw'
      obtain ⟨⟨dq, osq⟩, hw4⟩ := hw'
      subst hw4
      go_wp2
      go_roundw
      case rel => exact ⟨k + 1, by omega, by go_num, HB.out.trans ((below_regrown wr dq osq).mono HB.out.size)⟩
      case measure => simp [intOf]; omega
    · cases hn : M.text l with
      | none =>
        have HN := Lib.hid hn
        clear hn
        have hcv := fun (w : World) => (RdB.nil (w := w) (B := 0) (A := none)).run_str (n := 0) (cap := 0) rfl
        go_wp2_with fail
        refine (text_none A ca wr l ((HL.out.below HB.out).more HB.out.size) HZL.out (HT.out.next HB.out) HCA.out hla HN.out).mono ?_
        rintro e w1 ⟨rfl, hb1⟩
        have HB1 := Lib.hid (HB.out.trans (hb1.mono HB.out.size))
        clear hb1
        go_wp2_with fail
        refine (refText_none A ca w1 l ((HL.out.below HB1.out).more HB1.out.size) HZL.out HCA.out hla HN.out).mono ?_
        rintro e w2 ⟨rfl, hb2⟩
        have HB2 := Lib.hid (HB1.out.trans (hb2.mono HB1.out.size))
        clear hb2
        go_wp2_with fail
        refine (alive_true w2 (HX.out.next HB2.out) (HT.out.next HB2.out)).mono ?_
        rintro e w3 ⟨rfl, hb3⟩
        have HB3 := Lib.hid (HB2.out.trans (hb3.mono HB2.out.size))
        clear hb3
        go_wp2
        go_ret
        exact ⟨rfl, HB3.out⟩
      | some b =>
        have HN := Lib.hid hn
        clear hn
        go_wp2_with fail
        refine (text_some A ca wr l b ((HL.out.below HB.out).more HB.out.size) HZL.out (HT.out.next HB.out) HCA.out hla HN.out).mono ?_
        rintro e w1 ⟨A1, c1, rfl, hr1, hc1, hm1, hn1, hb1⟩
        have HR1 := Lib.hid hr1
        have HB1 := Lib.hid (HB.out.trans (hb1.mono HB.out.size))
        clear hb1 hr1 hn1 hm1
        go_wp2_with fail
        refine (refText_some A ca w1 l b ((HL.out.below HB1.out).more HB1.out.size) HZL.out HCA.out hla HN.out).mono ?_
        rintro e w2 ⟨A2, c2, rfl, hr2, hc2, hm2, hn2, hb2⟩
        have HB2 := Lib.hid (HB1.out.trans (hb2.mono HB1.out.size))
        have HR2 := Lib.hid hr2
        have HR1' := Lib.hid ((HR1.out.below hb2).more hb2.size)
        clear hb2 hr2 hn2 hm2
        go_wp2_with fail
        refine (alive_true w2 (HX.out.next HB2.out) (HT.out.next HB2.out)).mono ?_
        rintro e w3 ⟨rfl, hb3⟩
        have HB3 := Lib.hid (HB2.out.trans (hb3.mono HB2.out.size))
        have r1 := (HR1'.out.below hb3).run_str (n := b.length) (cap := c1) rfl
        have r2 := (HR2.out.below hb3).run_str (n := b.length) (cap := c2) rfl
        obtain ⟨S, hS⟩ : ∃ S, M.bytes b = S := ⟨_, rfl⟩
        rw [hS] at r1 r2
        clear hb3 hS
        go_wp2
        go_ret
        exact ⟨rfl, HB3.out⟩
end
theorem writes_any (A : Option Addr) (ca : Nat) (l : List M.E) (w : World) (hl : RdE w w.heap.size A l) (zl : Sized l) (hla : l.length ≤ ca) (hca : ca ≤ maxLen) (hx : MaxOk w) (ht : TabOk w) :
    Calls Tryz.prog 4 #[.slice A l.length ca] w fun e w' => e = .returned (.bool true) ∧ Below w.heap.size w w' := by
  cases hf : M.fits l with
  | false => exact writes_bad A ca l w hl zl hla hca hx ht hf
  | true => exact writes_good A ca l w hl zl hla hca hx ht hf
end Go.Proofs.YtjkhkhanjeeniaaGreatDoor
