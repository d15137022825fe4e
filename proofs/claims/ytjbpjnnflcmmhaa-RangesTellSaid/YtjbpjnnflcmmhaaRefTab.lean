/- The document's own answers for tables, as its functions rises, place, Right and At give them, over the translation. Conditions: the slices read as lists of entries, and of strings, no longer than the model lets them be. -/
import Derived.Test.YtjbpjnnflcmmhaaObj
import Derived.Test.YtjbpjnnflcmmhaaRefHex
namespace Go.Proofs.Ytjbpjnnflcmmhaa
open Go.RowKit

set_option maxRecDepth 100000 in
set_option maxHeartbeats 4000000 in
theorem refRises_any (A : Option Addr) (ca : Nat) (l : List M.E) (w : World) (hr : RdE w w.heap.size A l) (hm : l.length ≤ maxLen) (hz : Sized l) :
    Calls Try.prog 24 #[.slice A l.length ca] w fun e w' => e = .returned (.bool (M.rises l)) ∧ Below w.heap.size w w' := by
  unfold maxLen at hm
  have HR := Lib.hid hr
  have HZ := Lib.hid hz
  clear hr hz
  go_enter Try.func24, Try.ntmps24
  go_wp2
  go_loopw [3] (fun i wr => ∃ k : Nat, k ≤ l.length ∧ i = .int .i64 k ∧ M.Up l k ∧ Below w.heap.size w wr) (fun i _ => l.length - (intOf i).toNat)
  case atStart => exact ⟨0, Nat.zero_le _, rfl, (fun j s hj => by omega), Below.refl _ _⟩
  case round =>
    obtain ⟨k, hk, rfl, hup, hb⟩ := hrel
    have HUP := Lib.hid hup
    have HB := Lib.hid hb
    clear hup hb
    by_cases hlt : k < l.length
    · obtain ⟨e, he⟩ : ∃ e, l[k]? = some e := ⟨_, List.getElem?_eq_getElem hlt⟩
      obtain ⟨hzv, hzx⟩ := HZ.out e (List.mem_of_getElem? he)
      obtain ⟨ad, rfl, hab, c0, c1, c2, c3⟩ := HR.out.below HB.out k e he
      have hk1 : (0 : Int) ≤ (k : Int) := by omega
      have hk2 : (k : Int) < (l.length : Int) := by omega
      have HE := Lib.hid he
      clear he
      obtain ⟨q, hq⟩ : ∃ q, M.right e = q := ⟨_, rfl⟩
      have C1 := Lib.hid (refRight_any e wr hzv hzx)
      rw [hq] at C1
      unfold M.E.val at C1
      cases q with
      | false =>
        have HN := Lib.hid (M.rises_no (l := l) (fun h => by have := (h.2 k e hlt HE.out).1; rw [hq] at this; cases this))
        clear hq
        go_wp2_with fail
        refine C1.out.mono ?_
        rintro r w1 ⟨rfl, hb1⟩
        have HB1 := Lib.hid (HB.out.trans (hb1.mono HB.out.size))
        clear hb1
        go_wp2
        go_big_quiet (fail)
        go_wp2
        go_ret
        exact ⟨ret_bool HN.out.symm, below_drewN HB1.out _⟩
      | true =>
        have HQ := Lib.hid hq
        clear hq
        by_cases hk0 : k = 0
        · have HU2 := Lib.hid (HUP.out.next HE.out HQ.out (fun f h => by omega))
          have hdk : decide (0 < k) = false := by rw [decide_eq_false_iff_not]; omega
          clear hk0
          go_wp2_with fail
          refine C1.out.mono ?_
          rintro r w1 ⟨rfl, hb1⟩
          have HB1 := Lib.hid (HB.out.trans (hb1.mono HB.out.size))
          clear hb1
          go_wp2
          go_big_quiet (fail)
          go_wp2
          go_roundw
          case rel => exact ⟨k + 1, by omega, by go_num, HU2.out, below_drewN HB1.out _⟩
          case measure => simp [intOf]; omega
        · obtain ⟨f, hf⟩ : ∃ f, l[k - 1]? = some f := ⟨_, List.getElem?_eq_getElem (by omega)⟩
          obtain ⟨j, hj⟩ : ∃ j : Nat, k - 1 = j := ⟨_, rfl⟩
          rw [hj] at hf
          have hdk : decide (0 < k) = true := by rw [decide_eq_true_iff]; omega
          have hj1 : IntKind.i64.wrap ((k : Int) - 1) = (j : Int) := by rw [IntKind.wrap_i64]; omega
          have hj2 : (0 : Int) ≤ (j : Int) := by omega
          have hj3 : (j : Int) < (l.length : Int) := by omega
          have hjk : j + 1 = k := by omega
          have HJ := Lib.hid hjk
          have HF := Lib.hid hf
          clear hk0 hj hjk hf c0 c1 c2 c3
          by_cases hc : e.a ≤ f.b
          · have HN := Lib.hid (M.rises_no (l := l) (fun h => by
              have := (h.2 k e hlt HE.out).2 f (by have := HJ.out; omega) (by rw [← HJ.out]; exact HF.out)
              omega))
            have hdc : decide (e.a ≤ f.b) = true := by rw [decide_eq_true_iff]; exact hc
            obtain ⟨ad', hA', hab', c0, c1, c2, c3⟩ := HR.out.below HB.out k e HE.out
            obtain rfl : ad = ad' := by injection hA'
            clear hA'
            go_wp2_with fail
            refine C1.out.mono ?_
            rintro r w1 ⟨rfl, hb1⟩
            have HB1 := Lib.hid (HB.out.trans (hb1.mono HB.out.size))
            clear hb1 c0 c1 c2 c3
            obtain ⟨ad', hA', _, c0, c1, c2, c3⟩ := HR.out.below HB1.out k e HE.out
            obtain rfl : ad = ad' := by injection hA'
            obtain ⟨bd, hA2, _, d0, d1, d2, d3⟩ := HR.out.below HB1.out j f HF.out
            obtain rfl : ad = bd := by injection hA2
            clear hA' hA2 c1 c2 c3 d0 d2 d3
            go_wp2
            go_big_quiet (fail)
            go_wp2
            go_ret
            exact ⟨ret_bool HN.out.symm, below_drewN HB1.out _⟩
          · have HU2 := Lib.hid (HUP.out.next HE.out HQ.out (fun f' _ h => by
              rw [← HJ.out] at h
              obtain rfl : f = f' := by have := HF.out; rw [show j + 1 - 1 = j by omega, this] at h; injection h
              omega))
            have hdc : decide (e.a ≤ f.b) = false := by rw [decide_eq_false_iff_not]; exact hc
            obtain ⟨ad', hA', hab', c0, c1, c2, c3⟩ := HR.out.below HB.out k e HE.out
            obtain rfl : ad = ad' := by injection hA'
            clear hA'
            go_wp2_with fail
            refine C1.out.mono ?_
            rintro r w1 ⟨rfl, hb1⟩
            have HB1 := Lib.hid (HB.out.trans (hb1.mono HB.out.size))
            clear hb1 c0 c1 c2 c3
            obtain ⟨ad', hA', _, c0, c1, c2, c3⟩ := HR.out.below HB1.out k e HE.out
            obtain rfl : ad = ad' := by injection hA'
            obtain ⟨bd, hA2, _, d0, d1, d2, d3⟩ := HR.out.below HB1.out j f HF.out
            obtain rfl : ad = bd := by injection hA2
            clear hA' hA2 c1 c2 c3 d0 d2 d3
            go_wp2
            go_big_quiet (fail)
            go_wp2
            go_roundw
            case rel => exact ⟨k + 1, by omega, by go_num, HU2.out, below_drewN HB1.out _⟩
            case measure => simp [intOf]; omega
    · obtain rfl : k = l.length := by omega
      by_cases h600 : l.length ≤ 600
      · have HY := Lib.hid (M.rises_yes (l := l) ⟨h600, HUP.out⟩)
        have hd : decide (l.length ≤ 600) = true := by rw [decide_eq_true_iff]; exact h600
        go_wp2
        go_ret
        exact ⟨by rw [HY.out]; simp; omega, HB.out⟩
      · have HY := Lib.hid (M.rises_no (l := l) (fun h => h600 h.1))
        have hd : decide (l.length ≤ 600) = false := by rw [decide_eq_false_iff_not]; exact h600
        go_wp2
        go_ret
        exact ⟨by rw [HY.out]; simp; omega, HB.out⟩

set_option maxHeartbeats 2000000 in
theorem refPlace_any (B : Option Addr) (cb : Nat) (ns : List ByteArray) (s : ByteArray) (w : World) (hn : RdN w w.heap.size B ns) (hm : ns.length ≤ maxLen) :
    Calls Try.prog 23 #[.slice B ns.length cb, .string s] w fun e w' => e = .returned (.int .i64 (M.idxI ns s)) ∧ w = w' := by
  unfold maxLen at hm
  have HR := Lib.hid hn
  clear hn
  go_enter Try.func23, Try.ntmps23
  go_wp2
  go_loop [5] (fun i => ∃ k : Nat, k ≤ ns.length ∧ i = .int .i64 k ∧ M.idx (ns.take k) s = none) (fun i => ns.length - (intOf i).toNat)
  case atStart => exact ⟨0, Nat.zero_le _, rfl, rfl⟩
  case round =>
    obtain ⟨k, hk, rfl, hno⟩ := hrel
    have HNO := Lib.hid hno
    clear hno
    by_cases hlt : k < ns.length
    · obtain ⟨x, hx⟩ : ∃ x, ns[k]? = some x := ⟨_, List.getElem?_eq_getElem hlt⟩
      obtain ⟨ad, rfl, hab, c0⟩ := HR.out k x hx
      have hk1 : (0 : Int) ≤ (k : Int) := by omega
      have hk2 : (k : Int) < (ns.length : Int) := by omega
      have HX := Lib.hid hx
      clear hx
      by_cases he : x = s
      · subst he
        have HY := Lib.hid (show M.idxI ns x = k by unfold M.idxI; rw [(M.idx_take HX.out).2 HNO.out])
        go_wp2
        go_ret
        exact ⟨by rw [HY.out]; rfl, rfl⟩
      · have he1 : ¬ x.toList = s.toList := by rw [str_eq]; exact he
        have he2 : (x.toList == s.toList) = false := by rw [beq_eq_false_iff_ne]; exact he1
        have HN := Lib.hid (show M.idx (ns.take (k + 1)) s = none by rw [M.take_succ HX.out, M.idx_snoc, HNO.out]; simp [he])
        clear he
        go_wp2
        go_round
        case rel => exact ⟨k + 1, by omega, by go_num, HN.out⟩
        case measure => simp [intOf]; omega
    · have HY := Lib.hid (show M.idxI ns s = -1 by
        have := HNO.out
        rw [List.take_of_length_le (by omega)] at this
        unfold M.idxI
        rw [this])
      go_wp2
      go_ret
      exact ⟨by rw [HY.out]; rfl, rfl⟩

open Classical in
noncomputable def M.tab (l : List M.E) (ns : List ByteArray) : Bool := decide (M.TabOk l ns)
theorem M.tab_no {l : List M.E} {ns : List ByteArray} (h : ¬ M.TabOk l ns) : M.tab l ns = false := by unfold M.tab; simp [h]
theorem M.tab_yes {l : List M.E} {ns : List ByteArray} (h : M.TabOk l ns) : M.tab l ns = true := by unfold M.tab; simp [h]

set_option maxRecDepth 100000 in
set_option maxHeartbeats 4000000 in
theorem refTabRight_any (A B : Option Addr) (ca cb : Nat) (l : List M.E) (ns : List ByteArray) (w : World) (hr : RdE w w.heap.size A l) (hn : RdN w w.heap.size B ns) (hm : l.length ≤ maxLen) (hmn : ns.length ≤ maxLen) (hz : Sized l) (hzn : SizedN ns) :
    Calls Try.prog 10 #[.slice A l.length ca, .slice B ns.length cb] w fun r w' => r = .returned (.bool (M.tab l ns)) ∧ Below w.heap.size w w' := by
  have HR := Lib.hid hr
  have HN := Lib.hid hn
  have HZ := Lib.hid hz
  have HZN := Lib.hid hzn
  have HM := Lib.hid hm
  have HMN := Lib.hid hmn
  unfold maxLen at hm hmn
  clear hr hn hz hzn
  by_cases h40 : 40 < ns.length
  · have HNO := Lib.hid (M.tab_no (l := l) (ns := ns) (fun h => by have := h.names.1; omega))
    go_enter Try.func10, Try.ntmps10
    go_wp2
    go_ret
    exact ⟨ret_bool HNO.out.symm, Below.refl _ _⟩
  · have hd : decide ((40 : Int) < (ns.length : Int)) = false := by rw [decide_eq_false_iff_not]; omega
    go_enter Try.func10, Try.ntmps10
    go_wp2
    go_loop [5] (fun i => ∃ k : Nat, k ≤ ns.length ∧ i = .int .i64 k ∧ M.NamesTo ns k) (fun i => ns.length - (intOf i).toNat)
    case atStart => exact ⟨0, Nat.zero_le _, rfl, fun j s hj => by omega⟩
    case round =>
      obtain ⟨k, hk, rfl, hto⟩ := hrel
      have HTO := Lib.hid hto
      clear hto
      by_cases hlt : k < ns.length
      · obtain ⟨s, hs⟩ : ∃ s, ns[k]? = some s := ⟨_, List.getElem?_eq_getElem hlt⟩
        have hsz : s.size ≤ maxLen := HZN.out s (List.mem_of_getElem? hs)
        obtain ⟨bd, rfl, hab, c0⟩ := HN.out k s hs
        have hk1 : (0 : Int) ≤ (k : Int) := by omega
        have hk2 : (k : Int) < (ns.length : Int) := by omega
        have HS := Lib.hid hs
        clear hs
        obtain ⟨q, hq⟩ : ∃ q, M.word s.data.toList = q := ⟨_, rfl⟩
        have HQ := Lib.hid hq
        clear hq
        cases q with
        | false =>
          have HNO := Lib.hid (M.tab_no (l := l) (ns := ns) (fun h => by
            have := (h.names.2 k s hlt HS.out).1
            rw [HQ.out] at this
            cases this))
          go_wp2_with fail
          refine (refWord_any s w hsz).mono ?_
          rintro r w1 ⟨rfl, rfl⟩
          rw [HQ.out]
          go_wp2
          go_ret
          exact ⟨ret_bool HNO.out.symm, Below.refl _ _⟩
        | true =>
          obtain ⟨p, hp⟩ : ∃ p, M.idxI ns s = p := ⟨_, rfl⟩
          have HP := Lib.hid hp
          by_cases hpk : p = k
          · have HTO2 := Lib.hid (HTO.out.next HS.out HQ.out (by
              have hlt2 := hlt
              unfold M.idxI at hp
              cases hx : M.idx ns s with
              | none => rw [hx] at hp; dsimp only at hp; omega
              | some i => rw [hx] at hp; congr 1; dsimp only at hp; omega))
            have hne : (p != (k : Int)) = false := by rw [bne_eq_false_iff_eq]; exact hpk
            clear hp hpk
            go_wp2_with fail
            refine (refWord_any s w hsz).mono ?_
            rintro r w1 ⟨rfl, rfl⟩
            rw [HQ.out]
            go_wp2_with fail
            refine (refPlace_any (some bd) cb ns s w HN.out HMN.out).mono ?_
            rintro r w1 ⟨rfl, rfl⟩
            rw [HP.out]
            go_wp2
            go_round
            case rel => exact ⟨k + 1, by omega, by go_num, HTO2.out⟩
            case measure => simp [intOf]; omega
          · have HNO := Lib.hid (M.tab_no (l := l) (ns := ns) (fun h => by
              have := (h.names.2 k s hlt HS.out).2
              unfold M.idxI at hp
              rw [this] at hp
              exact hpk hp.symm))
            have hne : (p != (k : Int)) = true := by rw [bne_iff_ne]; exact hpk
            clear hp hpk
            go_wp2_with fail
            refine (refWord_any s w hsz).mono ?_
            rintro r w1 ⟨rfl, rfl⟩
            rw [HQ.out]
            go_wp2_with fail
            refine (refPlace_any (some bd) cb ns s w HN.out HMN.out).mono ?_
            rintro r w1 ⟨rfl, rfl⟩
            rw [HP.out]
            go_wp2
            go_ret
            exact ⟨ret_bool HNO.out.symm, Below.refl _ _⟩
      · have HOK := Lib.hid (show M.NamesOk ns from ⟨by omega, by have := HTO.out; rwa [show k = ns.length by omega] at this⟩)
        by_cases hris : M.Rises l
        · have HRS := Lib.hid hris
          have HRT := Lib.hid (M.rises_yes hris)
          clear hris
          go_wp2_with fail
          refine (refRises_any A ca l w HR.out HM.out HZ.out).mono ?_
          rintro r w1 ⟨rfl, hb1⟩
          rw [HRT.out]
          have HB1 := Lib.hid hb1
          clear hb1
          go_wp2
          go_loop [8] (fun i => ∃ j : Nat, j ≤ l.length ∧ i = .int .i64 j ∧ M.ValsTo l ns j) (fun i => l.length - (intOf i).toNat)
          case atStart => exact ⟨0, Nat.zero_le _, rfl, fun j s hj => by omega⟩
          case round =>
            obtain ⟨j, hj, rfl, hv⟩ := hrel
            have HV := Lib.hid hv
            clear hv
            by_cases hjt : j < l.length
            · obtain ⟨e, he⟩ : ∃ e, l[j]? = some e := ⟨_, List.getElem?_eq_getElem hjt⟩
              obtain ⟨ad, rfl, _, c0, c1, c2, c3⟩ := HR.out.below HB1.out j e he
              have hj1 : (0 : Int) ≤ (j : Int) := by omega
              have hj2 : (j : Int) < (l.length : Int) := by omega
              have HE := Lib.hid he
              clear he
              obtain ⟨p, hp⟩ : ∃ p, M.idxI ns e.v = p := ⟨_, rfl⟩
              have HP := Lib.hid hp
              cases hx : M.idx ns e.v with
              | none =>
                have hp1 : p < 0 := by unfold M.idxI at hp; rw [hx] at hp; dsimp only at hp; omega
                have HNO := Lib.hid (M.tab_no (l := l) (ns := ns) (fun h => by
                  have := h.vals j e hjt HE.out
                  rw [hx] at this
                  cases this))
                clear hp hx
                go_wp2_with fail
                refine (refPlace_any B cb ns e.v w1 ((HN.out.below HB1.out).more HB1.out.size) HMN.out).mono ?_
                rintro r w2 ⟨rfl, rfl⟩
                rw [HP.out]
                go_wp2
                go_ret
                exact ⟨ret_bool HNO.out.symm, HB1.out⟩
              | some i =>
                have hp1 : 0 ≤ p := by unfold M.idxI at hp; rw [hx] at hp; dsimp only at hp; omega
                have hp2 : decide (p < 0) = false := by rw [decide_eq_false_iff_not]; omega
                have HV2 := Lib.hid (show M.ValsTo l ns (j + 1) from fun i' f hi' hf => by
                  rcases Nat.lt_or_ge i' j with h | h
                  · exact HV.out i' f h hf
                  · obtain rfl : i' = j := by omega
                    rw [HE.out] at hf
                    obtain rfl : e = f := by injection hf
                    rw [hx]; rfl)
                clear hp hx
                go_wp2_with fail
                refine (refPlace_any B cb ns e.v w1 ((HN.out.below HB1.out).more HB1.out.size) HMN.out).mono ?_
                rintro r w2 ⟨rfl, rfl⟩
                rw [HP.out]
                go_wp2
                go_round
                case rel => exact ⟨j + 1, by omega, by go_num, HV2.out⟩
                case measure => simp [intOf]; omega
            · have HY := Lib.hid (M.tab_yes (l := l) (ns := ns) ⟨HOK.out, HRS.out, by have := HV.out; rwa [show j = l.length by omega] at this⟩)
              go_wp2
              go_ret
              exact ⟨ret_bool HY.out.symm, HB1.out⟩
        · have HRT := Lib.hid (M.rises_no hris)
          have HNO := Lib.hid (M.tab_no (l := l) (ns := ns) (fun h => hris h.rises))
          clear hris
          go_wp2_with fail
          refine (refRises_any A ca l w HR.out HM.out HZ.out).mono ?_
          rintro r w1 ⟨rfl, hb1⟩
          rw [HRT.out]
          have HB1 := Lib.hid hb1
          clear hb1
          go_wp2
          go_ret
          exact ⟨ret_bool HNO.out.symm, HB1.out⟩

/-- The document's number of a number. -/
def M.refAt (l : List M.E) (ns : List ByteArray) (c : Int) : Int := match M.find l c with
  | some e => M.idxI ns e.v
  | none => 0
set_option maxRecDepth 100000 in
set_option maxHeartbeats 4000000 in
theorem refAt_any (A B : Option Addr) (ca cb : Nat) (l : List M.E) (ns : List ByteArray) (c : Int) (w : World) (hr : RdE w w.heap.size A l) (hn : RdN w w.heap.size B ns) (hm : l.length ≤ maxLen) (hmn : ns.length ≤ maxLen) :
    Calls Try.prog 13 #[.slice A l.length ca, .slice B ns.length cb, .int .i64 c] w fun r w' => r = .returned (.int .i64 (M.refAt l ns c)) ∧ w = w' := by
  have HR := Lib.hid hr
  have HN := Lib.hid hn
  have HMN := Lib.hid hmn
  unfold maxLen at hm
  clear hr hn hmn
  go_enter Try.func13, Try.ntmps13
  go_wp2
  go_loop [7] (fun i => ∃ k : Nat, k ≤ l.length ∧ i = .int .i64 k ∧ ∀ e ∈ l.take k, ¬ M.inE c e = true) (fun i => l.length - (intOf i).toNat)
  case atStart => exact ⟨0, Nat.zero_le _, rfl, fun e he => by simp at he⟩
  case round =>
    obtain ⟨k, hk, rfl, hno⟩ := hrel
    have HNO := Lib.hid hno
    clear hno
    by_cases hlt : k < l.length
    · obtain ⟨e, he⟩ : ∃ e, l[k]? = some e := ⟨_, List.getElem?_eq_getElem hlt⟩
      obtain ⟨ad, rfl, _, c0, c1, c2, c3⟩ := HR.out k e he
      have hk1 : (0 : Int) ≤ (k : Int) := by omega
      have hk2 : (k : Int) < (l.length : Int) := by omega
      have hsplit : l = l.take k ++ (e :: l.drop (k + 1)) := by
        obtain ⟨_, rfl⟩ := List.getElem?_eq_some_iff.1 he
        rw [← List.drop_eq_getElem_cons hlt, List.take_append_drop]
      have HSP := Lib.hid hsplit
      have HE := Lib.hid he
      clear he hsplit
      by_cases hin : M.inE c e = true
      · have HY := Lib.hid (show M.refAt l ns c = M.idxI ns e.v by
          have : M.find l c = some e := by
            unfold M.find
            rw [HSP.out, List.find?_append]
            have h0 : (l.take k).find? (M.inE c) = none := List.find?_eq_none.2 HNO.out
            rw [h0]
            simp [hin]
          unfold M.refAt
          rw [this])
        unfold M.inE at hin
        simp only [decide_eq_true_eq] at hin
        obtain ⟨h1, h2⟩ := hin
        have d1 : decide (e.a ≤ c) = true := by rw [decide_eq_true_iff]; exact h1
        have d2 : decide (c ≤ e.b) = true := by rw [decide_eq_true_iff]; exact h2
        go_wp2_with fail
        refine (refPlace_any B cb ns e.v w HN.out HMN.out).mono ?_
        rintro r w2 ⟨rfl, rfl⟩
        go_wp2
        go_ret
        exact ⟨by rw [HY.out]; rfl, rfl⟩
      · have HN2 := Lib.hid (show ∀ f ∈ l.take (k + 1), ¬ M.inE c f = true from fun f hf => by
          rw [M.take_succ HE.out, List.mem_append, List.mem_singleton] at hf
          rcases hf with hf | rfl
          · exact HNO.out f hf
          · exact hin)
        rcases (show ¬ e.a ≤ c ∨ (e.a ≤ c ∧ ¬ c ≤ e.b) by unfold M.inE at hin; simp only [decide_eq_true_eq] at hin; omega) with h1 | ⟨h1, h2⟩
        · have d1 : decide (e.a ≤ c) = false := by rw [decide_eq_false_iff_not]; exact h1
          clear hin
          go_wp2
          go_round
          case rel => exact ⟨k + 1, by omega, by go_num, HN2.out⟩
          case measure => simp [intOf]; omega
        · have d1 : decide (e.a ≤ c) = true := by rw [decide_eq_true_iff]; exact h1
          have d2 : decide (c ≤ e.b) = false := by rw [decide_eq_false_iff_not]; exact h2
          clear hin
          go_wp2
          go_round
          case rel => exact ⟨k + 1, by omega, by go_num, HN2.out⟩
          case measure => simp [intOf]; omega
    · have HY := Lib.hid (show M.refAt l ns c = 0 by
        have : M.find l c = none := by
          unfold M.find
          have := HNO.out
          rw [List.take_of_length_le (by omega)] at this
          exact List.find?_eq_none.2 this
        unfold M.refAt
        rw [this])
      go_wp2
      go_ret
      exact ⟨by rw [HY.out]; rfl, rfl⟩
end Go.Proofs.Ytjbpjnnflcmmhaa
