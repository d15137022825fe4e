/- The Go function UcdNoise answers true, over the translation. Conditions: the slice reads as a list of entries; the variable MaxLen of the library holds some number, and its table deBruijn64tab is as the program's text lays it. -/
import Derived.Test.YtjkhkhanjeeniaaGreatDoorBackWalk
import Derived.Test.YtjkhkhanjeeniaaGreatDoorMathC
import Derived.Test.YtjkhkhanjeeniaaGreatDoorConv
namespace Go.Proofs.YtjkhkhanjeeniaaGreatDoor
open Go.RowKit

section
variable (A : Option Addr) (ca : Nat) (l : List M.E) (s : ByteArray) (w : World)

set_option maxHeartbeats 4000000 in
theorem noise_bad (hl : RdE w w.heap.size A l) (zl : Sized l) (hla : l.length ≤ ca) (hca : ca ≤ maxLen) (hx : MaxOk w) (ht : TabOk w) (hbad : M.fits l = false ∨ M.fits l = true ∧ 100 < s.size) :
    Calls Tryz.prog 6 #[.slice A l.length ca, .string s] w fun e w' => e = .returned (.bool true) ∧ Below w.heap.size w w' := by
  have HL := Lib.hid hl
  have HZL := Lib.hid zl
  have HX := Lib.hid hx
  have HT := Lib.hid ht
  have HCA := Lib.hid hca
  clear hl zl hx ht hca
  rcases hbad with hf | ⟨hf, hg⟩
  · have HF := Lib.hid hf
    clear hf
    go_enter Tryz.func6, Tryz.ntmps6
    go_wp2_with fail
    refine (fits_any A ca l w HL.out (Nat.le_trans hla HCA.out) HZL.out).mono ?_
    rintro e w1 ⟨rfl, rfl⟩
    rw [HF.out]
    go_wp2_with fail
    refine (alive_true w HX.out HT.out).mono ?_
    rintro e w3 ⟨rfl, hb3⟩
    go_wp2
    go_ret
    exact ⟨rfl, hb3⟩
  · have HF := Lib.hid hf
    have hd : decide ((100 : Int) < (s.size : Int)) = true := by rw [decide_eq_true_iff]; omega
    clear hf
    go_enter Tryz.func6, Tryz.ntmps6
    go_wp2_with fail
    refine (fits_any A ca l w HL.out (Nat.le_trans hla HCA.out) HZL.out).mono ?_
    rintro e w1 ⟨rfl, rfl⟩
    rw [HF.out]
    go_wp2_with fail
    refine (alive_true w HX.out HT.out).mono ?_
    rintro e w3 ⟨rfl, hb3⟩
    go_wp2
    go_ret
    exact ⟨rfl, hb3⟩

set_option maxHeartbeats 4000000 in
theorem noise_ten (hl : RdE w w.heap.size A l) (zl : Sized l) (hla : l.length ≤ ca) (hca : ca ≤ maxLen) (hx : MaxOk w) (ht : TabOk w) (hf : M.fits l = true) (hg : s.size ≤ 100) (h10 : (10 : UInt8) ∈ s.data.toList) :
    Calls Tryz.prog 6 #[.slice A l.length ca, .string s] w fun e w' => e = .returned (.bool true) ∧ Below w.heap.size w w' := by
  have HL := Lib.hid hl
  have HZL := Lib.hid zl
  have HX := Lib.hid hx
  have HT := Lib.hid ht
  have HCA := Lib.hid hca
  have HF := Lib.hid hf
  have H10 := Lib.hid h10
  have hd : decide ((100 : Int) < (s.size : Int)) = false := by rw [decide_eq_false_iff_not]; omega
  clear hl zl hx ht hca hf h10
  go_enter Tryz.func6, Tryz.ntmps6
  go_wp2_with fail
  refine (fits_any A ca l w HL.out (Nat.le_trans hla HCA.out) HZL.out).mono ?_
  rintro e w1 ⟨rfl, rfl⟩
  rw [HF.out]
  go_wp2
  go_loop [6] (fun i => ∃ k : Nat, k ≤ s.size ∧ i = .int .i64 k ∧ (10 : UInt8) ∉ s.data.toList.take k) (fun i => s.size - (intOf i).toNat)
  case atStart => exact ⟨0, Nat.zero_le _, rfl, by simp⟩
  case round =>
    obtain ⟨k, hk, rfl, hno⟩ := hrel
    have HN := Lib.hid hno
    clear hno
    by_cases hlt : k < s.size
    · by_cases hb : s[k] = 10
      · have hb' : (s[k].toNat : Int) = 10 := by rw [hb]; rfl
        clear hb
        go_wp2_with fail
        refine (alive_true w HX.out HT.out).mono ?_
        rintro e w3 ⟨rfl, hb3⟩
        go_wp2
        go_ret
        exact ⟨rfl, hb3⟩
      · have HS := Lib.hid (show (10 : UInt8) ∉ s.data.toList.take (k + 1) by
          rw [take_snoc s k hlt, List.mem_append, not_or]
          refine ⟨HN.out, ?_⟩
          rw [List.mem_singleton]
          exact fun h => hb h.symm)
        have hb' : ¬ (s[k].toNat : Int) = 10 := fun h => hb (UInt8.toNat_inj.1 (by have h0 : (10 : UInt8).toNat = 10 := rfl; omega))
        clear hb
        go_wp2
        go_round
        case rel => exact ⟨k + 1, by omega, by go_num, HS.out⟩
        case measure => simp [intOf]; omega
    · have := HN.out
      rw [List.take_of_length_le (by simp; omega)] at this
      exact absurd H10.out this

/-- What the building of the text needs of one byte. -/
theorem size_noise {c b : List UInt8} (hc : c.length ≤ 100) (hb : b.length ≤ 36600) (k : Nat) : (M.bytes (M.noise c (b.take k))).size ≤ 4000000 := by
  rw [bytes_size]
  have := M.noise_le hc (b.take k)
  have := List.length_take_le k b
  have : (b.take k).length ≤ b.length := List.length_take_le' k b
  omega

set_option maxHeartbeats 4000000 in
theorem noise_none (hl : RdE w w.heap.size A l) (zl : Sized l) (hla : l.length ≤ ca) (hca : ca ≤ maxLen) (hx : MaxOk w) (ht : TabOk w) (hf : M.fits l = true) (hg : s.size ≤ 100) (h10 : (10 : UInt8) ∉ s.data.toList) (hn : M.text l = none) :
    Calls Tryz.prog 6 #[.slice A l.length ca, .string s] w fun e w' => e = .returned (.bool true) ∧ Below w.heap.size w w' := by
  have HL := Lib.hid hl
  have HZL := Lib.hid zl
  have HX := Lib.hid hx
  have HT := Lib.hid ht
  have HCA := Lib.hid hca
  have HF := Lib.hid hf
  have H10 := Lib.hid h10
  have HN := Lib.hid hn
  have hd : decide ((100 : Int) < (s.size : Int)) = false := by rw [decide_eq_false_iff_not]; omega
  clear hl zl hx ht hca hf h10 hn
  go_enter Tryz.func6, Tryz.ntmps6
  go_wp2_with fail
  refine (fits_any A ca l w HL.out (Nat.le_trans hla HCA.out) HZL.out).mono ?_
  rintro e w1 ⟨rfl, rfl⟩
  rw [HF.out]
  go_wp2
  go_loop [6] (fun i => ∃ k : Nat, k ≤ s.size ∧ i = .int .i64 k) (fun i => s.size - (intOf i).toNat)
  case atStart => exact ⟨0, Nat.zero_le _, rfl⟩
  case round =>
    obtain ⟨k, hk, rfl⟩ := hrel
    by_cases hlt : k < s.size
    · have hb' : ¬ (s[k].toNat : Int) = 10 := fun h => H10.out (by
        have h1 : s[k] = 10 := UInt8.toNat_inj.1 (by have h0 : (10 : UInt8).toNat = 10 := rfl; omega)
        have h2 : s[k] ∈ s.data.toList.take (k + 1) := by rw [take_snoc s k hlt]; simp
        rw [h1] at h2
        exact List.mem_of_mem_take h2)
      go_wp2
      go_round
      case rel => exact ⟨k + 1, by omega, by go_num⟩
      case measure => simp [intOf]; omega
    · go_wp2_with fail
      refine (text_none A ca w l HL.out HZL.out HT.out HCA.out hla HN.out).mono ?_
      rintro e w1 ⟨rfl, hb1⟩
      have HB1 := Lib.hid hb1
      clear hb1
      go_wp2_with fail
      refine (alive_true w1 (HX.out.next HB1.out) (HT.out.next HB1.out)).mono ?_
      rintro e w3 ⟨rfl, hb3⟩
      go_wp2
      go_ret
      exact ⟨rfl, HB1.out.trans (hb3.mono HB1.out.size)⟩

set_option maxRecDepth 100000 in
set_option maxHeartbeats 4000000 in
theorem noise_some (b : List UInt8) (hl : RdE w w.heap.size A l) (zl : Sized l) (hla : l.length ≤ ca) (hca : ca ≤ maxLen) (hx : MaxOk w) (ht : TabOk w) (hf : M.fits l = true) (hg : s.size ≤ 100) (h10 : (10 : UInt8) ∉ s.data.toList) (hn : M.text l = some b) :
    Calls Tryz.prog 6 #[.slice A l.length ca, .string s] w fun e w' => e = .returned (.bool true) ∧ Below w.heap.size w w' := by
  have HL := Lib.hid hl
  have HZL := Lib.hid zl
  have HX := Lib.hid hx
  have HT := Lib.hid ht
  have HCA := Lib.hid hca
  have HF := Lib.hid hf
  have H10 := Lib.hid h10
  have HN := Lib.hid hn
  have HBL := Lib.hid (M.text_le hn)
  have hd : decide ((100 : Int) < (s.size : Int)) = false := by rw [decide_eq_false_iff_not]; omega
  have hsl : s.data.toList.length ≤ 100 := by simpa using hg
  have HSL := Lib.hid hsl
  clear hl zl hx ht hca hf h10 hn hsl
  go_enter Tryz.func6, Tryz.ntmps6
  go_wp2_with fail
  refine (fits_any A ca l w HL.out (Nat.le_trans hla HCA.out) HZL.out).mono ?_
  rintro e w1 ⟨rfl, rfl⟩
  rw [HF.out]
  go_wp2
  go_loop [6] (fun i => ∃ k : Nat, k ≤ s.size ∧ i = .int .i64 k) (fun i => s.size - (intOf i).toNat)
  case atStart => exact ⟨0, Nat.zero_le _, rfl⟩
  case round =>
    obtain ⟨k, hk, rfl⟩ := hrel
    by_cases hlt : k < s.size
    · have hb' : ¬ (s[k].toNat : Int) = 10 := fun h => H10.out (by
        have h1 : s[k] = 10 := UInt8.toNat_inj.1 (by have h0 : (10 : UInt8).toNat = 10 := rfl; omega)
        have h2 : s[k] ∈ s.data.toList.take (k + 1) := by rw [take_snoc s k hlt]; simp
        rw [h1] at h2
        exact List.mem_of_mem_take h2)
      go_wp2
      go_round
      case rel => exact ⟨k + 1, by omega, by go_num⟩
      case measure => simp [intOf]; omega
    · go_wp2_with fail
      refine (text_some A ca w l b HL.out HZL.out HT.out HCA.out hla HN.out).mono ?_
      rintro e w1 ⟨A1, c1, rfl, hr1, hc1, hm1, hn1, hb1⟩
      have HR1 := Lib.hid hr1
      have HM1 := Lib.hid hm1
      have HB1 := Lib.hid hb1
      clear hb1 hr1 hn1 hm1
      have hbl : b.length ≤ 36600 := HBL.out
      go_wp2
      go_loop [9, 10] (fun v i => ∃ k : Nat, k ≤ b.length ∧ i = .int .i64 k ∧ v = .string (M.bytes (M.noise s.data.toList (b.take k)))) (fun _ i => b.length - (intOf i).toNat)
      case atStart => exact ⟨0, Nat.zero_le _, rfl, congrArg Value.string (byte_ext (by simp [ByteArray.data_append, M.bytes_list, M.noise]))⟩
      case round =>
        obtain ⟨k, hk, rfl, rfl⟩ := hrel
        obtain ⟨N, hN⟩ : ∃ N, M.bytes (M.noise s.data.toList (b.take k)) = N := ⟨_, rfl⟩
        have hNs : N.size ≤ 4000000 := by rw [← hN]; exact size_noise HSL.out HBL.out k
        rw [hN]
        have HNN := Lib.hid hN
        clear hN
        by_cases hlt : k < b.length
        · obtain ⟨x, hxk⟩ : ∃ x, b[k]? = some x := ⟨_, List.getElem?_eq_getElem hlt⟩
          obtain ⟨ad, rfl, hab, c0⟩ := HR1.out k (x.toNat : Int) (by unfold ints; rw [List.getElem?_map, hxk]; rfl)
          have HSTEP := Lib.hid (M.noise_step s.data.toList b k x hxk)
          by_cases h59 : x = 59
          · subst h59
            have c0' : w1.cell? (ad.add k) = some (.int .u8 59) := c0
            clear c0
            go_wp2
            go_round
            case rel => exact ⟨k + 1, by omega, by go_num, congrArg Value.string (byte_ext (by rw [HSTEP.out, M.nz59, ← HNN.out]; simp [ByteArray.data_append, M.bytes_list]))⟩
            case measure => simp [intOf]; omega
          · by_cases h10 : x = 10
            · subst h10
              have c0' : w1.cell? (ad.add k) = some (.int .u8 10) := c0
              clear c0 h59
              go_wp2
              go_round
              case rel => exact ⟨k + 1, by omega, by go_num, congrArg Value.string (byte_ext (by rw [HSTEP.out, M.nz10, ← HNN.out]; simp [ByteArray.data_append, M.bytes_list]))⟩
              case measure => simp [intOf]; omega
            · have g59 : ¬ (x.toNat : Int) = 59 := fun h => h59 (UInt8.toNat_inj.1 (by have h0 : (59 : UInt8).toNat = 59 := rfl; omega))
              have g10 : ¬ (x.toNat : Int) = 10 := fun h => h10 (UInt8.toNat_inj.1 (by have h0 : (10 : UInt8).toNat = 10 := rfl; omega))
              have HNZ := Lib.hid (M.nz_other s.data.toList h59 h10)
              have hcv : (convert 22 9 (.slice (some (ad.add k)) 1 (c1 - k))).run Tryz.prog w1 = .ok (.string (M.bytes [x])) w1 := by
                have r : RdB w1 w1.heap.size (some (ad.add k)) [x] := by
                  have := (RdS.drop HR1.out k).take 1
                  have e1 : ((ints b).drop k).take 1 = ints [x] := by
                    unfold ints
                    rw [← List.map_drop, ← List.map_take, List.drop_eq_getElem_cons hlt]
                    obtain ⟨_, rfl⟩ := List.getElem?_eq_some_iff.1 hxk
                    rfl
                  rw [e1] at this
                  exact this
                exact r.run_str rfl
              obtain ⟨X, hX⟩ : ∃ X, M.bytes [x] = X := ⟨_, rfl⟩
              have hXs : X.size = 1 := by rw [← hX, bytes_size]; rfl
              rw [hX] at hcv
              have HXX := Lib.hid hX
              clear hX h59 h10 hxk
              go_wp2
              go_round
              case rel => exact ⟨k + 1, by omega, by go_num, congrArg Value.string (byte_ext (by rw [HSTEP.out, HNZ.out, ← HNN.out, ← HXX.out]; simp [ByteArray.data_append, M.bytes_list]))⟩
              case measure => simp [intOf]; omega
        · have HT2 := Lib.hid (show M.bytes (M.noise s.data.toList b) = N by rw [← HNN.out, List.take_of_length_le (by omega)])
          obtain ⟨t, ht'⟩ : ∃ t, M.noise s.data.toList b = t := ⟨_, rfl⟩
          have hNt : N.data.toList = t := by rw [← HT2.out, ht', M.bytes_list]
          have hNz : N.size = t.length := by rw [← hNt]; simp
          obtain ⟨w2, c2, hcv, hb2, hr2, hg2, hm2⟩ := conv_bytes N w1 (by unfold maxLen; omega)
          rw [hNz] at hcv hg2
          rw [hNt] at hr2
          have HB2 := Lib.hid (HB1.out.trans (hb2.mono HB1.out.size))
          have HR2 := Lib.hid hr2
          have HM2 := Lib.hid hm2
          have HP := Lib.hid (show M.parse t = some l by rw [← ht']; exact M.parse_noise H10.out HN.out)
          clear ht' hb2 hr2 hm2 hNt
          go_wp2_with fail
          refine (parse_some _ c2 w2 t l HR2.out (HX.out.next HB2.out) hg2 HM2.out (fun h => by cases h) (by omega) HP.out).mono ?_
          rintro e w3 ⟨A3, c3, rfl, hr3, hc3, hm3, _, hb3⟩
          have HB3 := Lib.hid (HB2.out.trans (hb3.mono HB2.out.size))
          have HR3 := Lib.hid hr3
          clear hb3 hr3 hm3
          go_wp2_with fail
          refine (alive_true w3 (HX.out.next HB3.out) (HT.out.next HB3.out)).mono ?_
          rintro e w4 ⟨rfl, hb4⟩
          have HB4 := Lib.hid (HB3.out.trans (hb4.mono HB3.out.size))
          have HR4 := Lib.hid ((HR3.out.below hb4).more hb4.size)
          have HL4 := Lib.hid ((HL.out.below HB4.out).more HB4.out.size)
          clear hb4
          go_wp2_with fail
          refine (same_any A3 A c3 ca l l w4 HR4.out HL4.out (Nat.le_trans hla HCA.out)).mono ?_
          rintro e w5 ⟨rfl, hb5⟩
          rw [M.same_self]
          have HB5 := Lib.hid (HB4.out.trans (hb5.mono HB4.out.size))
          clear hb5
          go_wp2
          go_ret
          exact ⟨rfl, HB5.out⟩
end
theorem noise_any (A : Option Addr) (ca : Nat) (l : List M.E) (s : ByteArray) (w : World) (hl : RdE w w.heap.size A l) (zl : Sized l) (hla : l.length ≤ ca) (hca : ca ≤ maxLen) (hx : MaxOk w) (ht : TabOk w) :
    Calls Tryz.prog 6 #[.slice A l.length ca, .string s] w fun e w' => e = .returned (.bool true) ∧ Below w.heap.size w w' := by
  cases hf : M.fits l with
  | false => exact noise_bad A ca l s w hl zl hla hca hx ht (.inl hf)
  | true =>
    by_cases hg : 100 < s.size
    · exact noise_bad A ca l s w hl zl hla hca hx ht (.inr ⟨hf, hg⟩)
    · by_cases h10 : (10 : UInt8) ∈ s.data.toList
      · exact noise_ten A ca l s w hl zl hla hca hx ht hf (by omega) h10
      · cases hn : M.text l with
        | none => exact noise_none A ca l s w hl zl hla hca hx ht hf (by omega) h10 hn
        | some b => exact noise_some A ca l s w b hl zl hla hca hx ht hf (by omega) h10 hn
end Go.Proofs.YtjkhkhanjeeniaaGreatDoor
