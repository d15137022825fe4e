/- The document's own text of entries. Condition: the slice reads as a list of entries. -/
import Derived.Test.YtjkhkhanjeeniaaGreatDoorRefLine
namespace Go.Proofs.YtjkhkhanjeeniaaGreatDoor
open Go.RowKit

set_option maxHeartbeats 4000000 in
theorem refText_any (A : Option Addr) (cap : Nat) (l : List M.E) (w : World) (hr : RdE w w.heap.size A l) (hz : Sized l) (hm : cap ≤ maxLen) (hc : l.length ≤ cap) :
    Calls Tryz.prog 18 #[.slice A l.length cap] w (TextEnd w l) := by
  obtain ⟨i0, hi, hz0, hz1, hz2⟩ := info_parts Tryz.infoByte
  have HR := Lib.hid hr
  have HZ := Lib.hid hz
  have hm' : l.length ≤ 2 ^ 63 - 1 := Nat.le_trans hc hm
  clear hr hz hm hc
  by_cases h6 : 600 < l.length
  · have HP := Lib.hid (show M.text l = none by unfold M.text; rw [if_pos h6])
    have hd : decide ((600 : Int) < (l.length : Int)) = true := by rw [decide_eq_true_iff]; omega
    clear h6
    go_enter Tryz.func18, Tryz.ntmps18
    go_wp2
    go_ret2
    unfold TextEnd
    rw [HP.out]
    exact ⟨rfl, Below.refl _ _⟩
  · have HP := Lib.hid (show M.text l = M.textGo l [] by unfold M.text; rw [if_neg h6])
    have hd : decide ((600 : Int) < (l.length : Int)) = false := by rw [decide_eq_false_iff_not]; omega
    go_enter Tryz.func18, Tryz.ntmps18
    go_wp2
    go_loopw [4, 5] (fun v i wr => ∃ (k : Nat) (acc : List UInt8), k ≤ l.length ∧ i = .int .i64 k ∧ OwnB wr w.heap.size v acc ∧ acc.length ≤ 61 * k ∧ M.textGo l [] = M.textGo (l.drop k) acc ∧ Below w.heap.size w wr) (fun _ i _ => l.length - (intOf i).toNat)
    case atStart => exact ⟨0, [], by omega, rfl, ⟨rfl, .inl ⟨rfl, rfl⟩⟩, by simp, rfl, Below.refl _ _⟩
    case round =>
      obtain ⟨k, acc, hk, rfl, hown, hlen, hgo, hb⟩ := hrel
      have HO := Lib.hid hown
      have HG := Lib.hid hgo
      have HB := Lib.hid hb
      have hsz := hb.size
      clear hown hgo hb
      by_cases hlt : k < l.length
      · obtain ⟨e, he⟩ : ∃ e, l[k]? = some e := ⟨_, List.getElem?_eq_getElem hlt⟩
        have hmem : e ∈ l := List.mem_of_getElem? he
        obtain ⟨hzv, hzx⟩ := HZ.out e hmem
        have HE := Lib.hid he
        obtain ⟨ad, rfl, hab, c0, c1, c2, c3⟩ := HR.out.below HB.out k e he
        have hdrop : l.drop k = e :: l.drop (k + 1) := by
          obtain ⟨hk', rfl⟩ := List.getElem?_eq_some_iff.1 he
          exact List.drop_eq_getElem_cons hk'
        have hk1 : (0 : Int) ≤ (k : Int) := by omega
        have hk2 : (k : Int) < (l.length : Int) := by omega
        have HD := Lib.hid hdrop
        have hlen6 : acc.length ≤ 100000 := by omega
        clear hdrop he hmem
        cases hright : M.right e with
        | false =>
          have HRT := Lib.hid hright
          have HFIN := Lib.hid (show M.text l = none by rw [HP.out, HG.out, HD.out, M.textGo, hright]; rfl)
          clear hright
          go_wp2_with fail
          refine (refRight_any e _ hzv hzx).mono ?_
          rintro r w1 ⟨rfl, hb1⟩
          rw [HRT.out]
          have hbb : Below w.heap.size w w1 := HB.out.trans (hb1.mono hsz)
          clear hb1
          go_wp2
          go_ret2
          unfold TextEnd
          rw [HFIN.out]
          exact ⟨rfl, hbb⟩
        | true =>
          have HRT := Lib.hid hright
          have HL := Lib.hid (M.line_le hright)
          clear hright
          go_wp2_with fail
          refine (refRight_any e _ hzv hzx).mono ?_
          rintro r w1 ⟨rfl, hb1⟩
          rw [HRT.out]
          have hbb : Below w.heap.size w w1 := HB.out.trans (hb1.mono hsz)
          have HO1 := Lib.hid (OwnB.below HO.out hb1)
          have hs1 := hbb.size
          have HBB := Lib.hid hbb
          clear hb1 hbb c0 c1 c2 c3
          obtain ⟨ad', had, _, c0, c1, c2, c3⟩ := HR.out.below HBB.out k e HE.out
          obtain rfl : ad = ad' := by injection had
          clear had
          go_wp2_with fail
          refine (refLine_any e _ HRT.out).mono ?_
          rintro r w2 ⟨rfl, hb2⟩
          have HO2 := Lib.hid (HO1.out.below hb2)
          have hbb2 := HBB.out.trans (hb2.mono hs1)
          have hs2 := hbb2.size
          have HBB2 := Lib.hid hbb2
          clear hb2 hbb2 c0 c1 c2 c3
          have hll : (M.bytes (M.line e ++ [10])).size ≤ 61 := by rw [bytes_size, List.length_append]; have := HL.out; simp; omega
          obtain ⟨L, hL⟩ : ∃ L, M.bytes (M.line e ++ [10]) = L := ⟨_, rfl⟩
          have HLE := Lib.hid hL
          rw [hL] at hll ⊢
          clear hL
          go_wp2_with (at_builtin; refine Lib.wpList_append_own_string _ rfl _ _ 22 9 rfl w.heap.size 5 i0 Tryz.underlying22 Tryz.underlying9 hi hz0 hz1 hz2 _ _ _ rfl HO2.out L rfl (by unfold maxLen; omega) (by omega) hs2 ?_)
          intro v3 w3 hown3 hgrow3 _
          have hb3 := grow_below HBB2.out HO2.out hgrow3 hs2
          have HO3 := Lib.hid (show OwnB w3 w.heap.size v3 (acc ++ (M.line e ++ [10])) by rw [← HLE.out] at hown3; exact OwnB.append hown3)
          have HB3 := Lib.hid hb3
          clear hown3 hgrow3 hb3
          go_wp2
          go_roundw
          case rel => exact ⟨k + 1, acc ++ (M.line e ++ [10]), by omega, by go_num, HO3.out, by rw [List.length_append, List.length_append]; have := HL.out; simp; omega, by rw [HG.out, HD.out, M.textGo, HRT.out, if_pos rfl]; simp, HB3.out⟩
          case measure => simp [intOf]; omega
      · have HFIN := Lib.hid (show M.text l = some acc by rw [HP.out, HG.out, List.drop_eq_nil_of_le (by omega)]; rfl)
        go_wp2
        go_ret2
        unfold TextEnd
        rw [HFIN.out]
        exact ⟨⟨_, rfl, HO.out⟩, HB.out⟩

section
variable (A : Option Addr) (cap : Nat) (w : World)
theorem refText_some (l : List M.E) (b : List UInt8) (hr : RdE w w.heap.size A l) (hz : Sized l) (hm : cap ≤ maxLen) (hc : l.length ≤ cap) (h : M.text l = some b) :
    Calls Tryz.prog 18 #[.slice A l.length cap] w (TextOut w b) := by
  refine (refText_any A cap l w hr hz hm hc).mono ?_
  rintro e w' ⟨he, hb⟩
  rw [h] at he
  obtain ⟨v, rfl, ho⟩ := he
  obtain ⟨A', c', rfl, h1, h2, h3, h4⟩ := reads_bytes ho
  exact ⟨A', c', rfl, h1, h2, h3, h4, hb⟩
theorem refText_none (l : List M.E) (hr : RdE w w.heap.size A l) (hz : Sized l) (hm : cap ≤ maxLen) (hc : l.length ≤ cap) (h : M.text l = none) :
    Calls Tryz.prog 18 #[.slice A l.length cap] w fun e w' => e = .returned (.tuple #[.slice none 0 0, .int .i64 21]) ∧ Below w.heap.size w w' := by
  refine (refText_any A cap l w hr hz hm hc).mono ?_
  rintro e w' ⟨he, hb⟩
  rw [h] at he
  exact ⟨he, hb⟩
end
end Go.Proofs.YtjkhkhanjeeniaaGreatDoor
