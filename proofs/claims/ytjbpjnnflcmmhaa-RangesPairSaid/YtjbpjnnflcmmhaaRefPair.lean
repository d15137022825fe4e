/- The document's own answers for pairs, as its functions Pairs and Other give them, over the translation. Conditions: the slice reads as a list of entries, whose strings are no longer than the model lets them be. -/
import Derived.Test.YtjbpjnnflcmmhaaRefTab
import Derived.Test.YtjbpjnnflcmmhaaPair
namespace Go.Proofs.Ytjbpjnnflcmmhaa
open Go.RowKit

open Classical in
noncomputable def M.pairs (l : List M.E) : Bool := decide (M.PairOk l)
theorem M.pairs_no {l : List M.E} (h : ¬ M.PairOk l) : M.pairs l = false := by unfold M.pairs; simp [h]
theorem M.pairs_yes {l : List M.E} (h : M.PairOk l) : M.pairs l = true := by unfold M.pairs; simp [h]
theorem M.hexInt_ge (l : List UInt8) : 0 ≤ M.hexInt l ∧ M.hexInt l ≤ 1114111 := by
  unfold M.hexInt
  cases h : M.hex l with
  | none => exact ⟨by decide, by decide⟩
  | some n => have := M.hex_le h; exact ⟨by dsimp only; omega, by dsimp only; omega⟩

set_option maxRecDepth 100000 in
set_option maxHeartbeats 4000000 in
theorem refPairs_any (A : Option Addr) (ca : Nat) (l : List M.E) (w : World) (hr : RdE w w.heap.size A l) (hm : l.length ≤ maxLen) (hz : Sized l) :
    Calls Try.prog 17 #[.slice A l.length ca] w fun r w' => r = .returned (.bool (M.pairs l)) ∧ Below w.heap.size w w' := by
  have HR := Lib.hid hr
  have HZ := Lib.hid hz
  have HM := Lib.hid hm
  unfold maxLen at hm
  have HRL := Lib.hid (refRises_any A ca l w hr HM.out hz)
  clear hr hz
  by_cases hris : M.Rises l
  · rw [M.rises_yes hris] at HRL
    have HRS := Lib.hid hris
    clear hris
    go_enter Try.func17, Try.ntmps17
    go_wp2_with fail
    refine HRL.out.mono ?_
    rintro r w2 ⟨rfl, hb2⟩
    have HB2 := Lib.hid hb2
    clear hb2
    go_wp2
    go_loopw [4] (fun i wr => ∃ k : Nat, k ≤ l.length ∧ i = .int .i64 k ∧ M.OnesTo l k ∧ Below w.heap.size w wr) (fun i _ => l.length - (intOf i).toNat)
    case atStart => exact ⟨0, Nat.zero_le _, rfl, (fun j e hj => by omega), HB2.out⟩
    case round =>
      obtain ⟨k, hk, rfl, hv, hb⟩ := hrel
      have HV := Lib.hid hv
      have HB := Lib.hid hb
      clear hv hb
      by_cases hlt : k < l.length
      · obtain ⟨e, he⟩ : ∃ e, l[k]? = some e := ⟨_, List.getElem?_eq_getElem hlt⟩
        obtain ⟨hzv, hzx⟩ := HZ.out e (List.mem_of_getElem? he)
        obtain ⟨ad, rfl, hab, c0, c1, c2, c3⟩ := HR.out.below HB.out k e he
        have hk1 : (0 : Int) ≤ (k : Int) := by omega
        have hk2 : (k : Int) < (l.length : Int) := by omega
        have HE := Lib.hid he
        clear he
        obtain ⟨hn0, hn1⟩ := M.hexInt_ge e.v.data.toList
        obtain ⟨n, hn⟩ : ∃ n, M.hexInt e.v.data.toList = n := ⟨_, rfl⟩
        obtain ⟨q, hq⟩ : ∃ q, M.hexIs e.v.data.toList = q := ⟨_, rfl⟩
        have HN := Lib.hid hn
        have HQ := Lib.hid hq
        have HFG := Lib.hid (show M.figOk e.v = (q && M.scalar n) by unfold M.figOk; rw [hn, hq])
        rw [hn] at hn0 hn1
        clear hn hq
        have hyes : q = true → (n < 55296 ∨ 57343 < n) → e.a = e.b → M.OnesTo l (k + 1) := fun h1 h2 h3 => HV.out.next HE.out h3 (by
          rw [HFG.out, h1, Bool.true_and]
          unfold M.scalar
          rw [decide_eq_true_iff]
          omega)
        have hno : (q = false ∨ (55296 ≤ n ∧ n ≤ 57343) ∨ ¬ e.a = e.b) → M.pairs l = false := fun h => M.pairs_no (fun hp => by
          obtain ⟨g1, g2⟩ := hp.ones k e hlt HE.out
          rw [HFG.out, Bool.and_eq_true] at g2
          obtain ⟨g2, g3⟩ := g2
          unfold M.scalar at g3
          rw [decide_eq_true_iff] at g3
          rcases h with h | h | h
          · rw [h] at g2; cases g2
          · omega
          · exact h g1)
        have HYES := Lib.hid hyes
        have HNO := Lib.hid hno
        clear hyes hno
        rcases (show n < 55296 ∨ (55296 ≤ n ∧ n ≤ 57343) ∨ 57343 < n by omega) with h | ⟨h, h'⟩ | h
        · have d1 : decide (55296 ≤ n) = false := by rw [decide_eq_false_iff_not]; omega
          cases q with
          | false =>
            go_wp2_with fail
            refine (refHex_any e.v wr hzv).mono ?_
            rintro r w3 ⟨rfl, rfl⟩
            rw [HN.out, HQ.out]
            go_wp2
            go_big_quiet (fail)
            go_wp2
            go_ret
            exact ⟨ret_bool (HNO.out (.inl (by trivial))).symm, below_drewN HB.out _⟩
          | true =>
            by_cases hab2 : e.a = e.b
            · have hn3 : (e.a != e.b) = false := by rw [bne_eq_false_iff_eq]; exact hab2
              have HG := Lib.hid (HYES.out rfl (.inl h) hab2)
              clear hab2
              go_wp2_with fail
              refine (refHex_any e.v wr hzv).mono ?_
              rintro r w3 ⟨rfl, rfl⟩
              rw [HN.out, HQ.out]
              go_wp2
              go_big_quiet (fail)
              go_wp2
              go_roundw
              case rel => exact ⟨k + 1, by omega, by go_num, HG.out, below_drewN HB.out _⟩
              case measure => simp [intOf]; omega
            · have hn3 : (e.a != e.b) = true := by rw [bne_iff_ne]; exact hab2
              have HG := Lib.hid (HNO.out (.inr (.inr hab2)))
              clear hab2
              go_wp2_with fail
              refine (refHex_any e.v wr hzv).mono ?_
              rintro r w3 ⟨rfl, rfl⟩
              rw [HN.out, HQ.out]
              go_wp2
              go_big_quiet (fail)
              go_wp2
              go_ret
              exact ⟨ret_bool HG.out.symm, below_drewN HB.out _⟩
        · have d1 : decide (55296 ≤ n) = true := by rw [decide_eq_true_iff]; omega
          have d2 : decide (n ≤ 57343) = true := by rw [decide_eq_true_iff]; omega
          have HG := Lib.hid (HNO.out (.inr (.inl ⟨h, h'⟩)))
          cases q
          all_goals
            go_wp2_with fail
            refine (refHex_any e.v wr hzv).mono ?_
            rintro r w3 ⟨rfl, rfl⟩
            rw [HN.out, HQ.out]
            go_wp2
            go_big_quiet (fail)
            go_wp2
            go_ret
            exact ⟨ret_bool HG.out.symm, below_drewN HB.out _⟩
        · have d1 : decide (55296 ≤ n) = true := by rw [decide_eq_true_iff]; omega
          have d2 : decide (n ≤ 57343) = false := by rw [decide_eq_false_iff_not]; omega
          cases q with
          | false =>
            go_wp2_with fail
            refine (refHex_any e.v wr hzv).mono ?_
            rintro r w3 ⟨rfl, rfl⟩
            rw [HN.out, HQ.out]
            go_wp2
            go_big_quiet (fail)
            go_wp2
            go_ret
            exact ⟨ret_bool (HNO.out (.inl (by trivial))).symm, below_drewN HB.out _⟩
          | true =>
            by_cases hab2 : e.a = e.b
            · have hn3 : (e.a != e.b) = false := by rw [bne_eq_false_iff_eq]; exact hab2
              have HG := Lib.hid (HYES.out rfl (.inr h) hab2)
              clear hab2
              go_wp2_with fail
              refine (refHex_any e.v wr hzv).mono ?_
              rintro r w3 ⟨rfl, rfl⟩
              rw [HN.out, HQ.out]
              go_wp2
              go_big_quiet (fail)
              go_wp2
              go_roundw
              case rel => exact ⟨k + 1, by omega, by go_num, HG.out, below_drewN HB.out _⟩
              case measure => simp [intOf]; omega
            · have hn3 : (e.a != e.b) = true := by rw [bne_iff_ne]; exact hab2
              have HG := Lib.hid (HNO.out (.inr (.inr hab2)))
              clear hab2
              go_wp2_with fail
              refine (refHex_any e.v wr hzv).mono ?_
              rintro r w3 ⟨rfl, rfl⟩
              rw [HN.out, HQ.out]
              go_wp2
              go_big_quiet (fail)
              go_wp2
              go_ret
              exact ⟨ret_bool HG.out.symm, below_drewN HB.out _⟩
      · have HY := Lib.hid (M.pairs_yes (l := l) ⟨HRS.out, by have := HV.out; rwa [show k = l.length by omega] at this⟩)
        go_wp2
        go_ret
        exact ⟨ret_bool HY.out.symm, HB.out⟩
  · rw [M.rises_no hris] at HRL
    have HNO := Lib.hid (M.pairs_no (l := l) (fun h => hris h.rises))
    clear hris
    go_enter Try.func17, Try.ntmps17
    go_wp2_with fail
    refine HRL.out.mono ?_
    rintro r w2 ⟨rfl, hb2⟩
    have HB2 := Lib.hid hb2
    clear hb2
    go_wp2
    go_ret
    exact ⟨ret_bool HNO.out.symm, HB2.out⟩

set_option maxRecDepth 100000 in
set_option maxHeartbeats 4000000 in
theorem refOther_any (A : Option Addr) (ca : Nat) (l : List M.E) (c : Int) (w : World) (hr : RdE w w.heap.size A l) (hm : l.length ≤ maxLen) (hz : Sized l) (hone : ∀ e ∈ l, e.a = e.b) :
    Calls Try.prog 21 #[.slice A l.length ca, .int .i64 c] w fun r w' => r = .returned (M.other (M.find l c)) ∧ Below w.heap.size w w' := by
  have HR := Lib.hid hr
  have HZ := Lib.hid hz
  have HONE := Lib.hid hone
  unfold maxLen at hm
  clear hr hz hone
  go_enter Try.func21, Try.ntmps21
  go_wp2
  go_loop [7] (fun i => ∃ k : Nat, k ≤ l.length ∧ i = .int .i64 k ∧ ∀ e ∈ l.take k, ¬ M.inE c e = true) (fun i => l.length - (intOf i).toNat)
  case atStart => exact ⟨0, Nat.zero_le _, rfl, fun e he => by simp at he⟩
  case round =>
    obtain ⟨k, hk, rfl, hno⟩ := hrel
    have HNO := Lib.hid hno
    clear hno
    by_cases hlt : k < l.length
    · obtain ⟨e, he⟩ : ∃ e, l[k]? = some e := ⟨_, List.getElem?_eq_getElem hlt⟩
      have hmem := List.mem_of_getElem? he
      obtain ⟨hzv, hzx⟩ := HZ.out e hmem
      have heq := HONE.out e hmem
      obtain ⟨ad, rfl, _, c0, c1, c2, c3⟩ := HR.out k e he
      have hk1 : (0 : Int) ≤ (k : Int) := by omega
      have hk2 : (k : Int) < (l.length : Int) := by omega
      have hsplit : l = l.take k ++ (e :: l.drop (k + 1)) := by
        obtain ⟨_, rfl⟩ := List.getElem?_eq_some_iff.1 he
        rw [← List.drop_eq_getElem_cons hlt, List.take_append_drop]
      have HSP := Lib.hid hsplit
      have HE := Lib.hid he
      have HEQ := Lib.hid heq
      clear he hsplit hmem heq
      by_cases hin : e.a = c
      · have HY := Lib.hid (show M.find l c = some e by
          unfold M.find
          rw [HSP.out, List.find?_append]
          have h0 : (l.take k).find? (M.inE c) = none := List.find?_eq_none.2 HNO.out
          have h1 : M.inE c e = true := by
            have := HEQ.out
            unfold M.inE
            rw [decide_eq_true_iff]
            omega
          rw [h0]
          simp [h1])
        have d1 : (e.a == c) = true := by rw [beq_iff_eq]; exact hin
        clear hin
        go_wp2_with fail
        refine (refHex_any e.v w hzv).mono ?_
        rintro r w2 ⟨rfl, rfl⟩
        go_wp2
        go_quiet (fail)
        go_wp2
        refine bodyPost_ret (v := .tuple #[.int .i64 (M.hexInt e.v.data.toList), .string e.x, .bool true]) (by simp [results, Try.results21, go_sem]) rfl ⟨?_, below_drewN (Below.refl _ _) _⟩
        rw [HY.out]
        rfl
      · have d1 : (e.a == c) = false := by rw [beq_eq_false_iff_ne]; exact hin
        have HN2 := Lib.hid (show ∀ f ∈ l.take (k + 1), ¬ M.inE c f = true from fun f hf => by
          rw [M.take_succ HE.out, List.mem_append, List.mem_singleton] at hf
          rcases hf with hf | rfl
          · exact HNO.out f hf
          · have := HEQ.out
            unfold M.inE
            rw [decide_eq_true_iff]
            omega)
        clear hin
        go_wp2
        go_round
        case rel => exact ⟨k + 1, by omega, by go_num, HN2.out⟩
        case measure => simp [intOf]; omega
    · have HY := Lib.hid (show M.find l c = none by
        unfold M.find
        have := HNO.out
        rw [List.take_of_length_le (by omega)] at this
        exact List.find?_eq_none.2 this)
      go_wp2
      refine bodyPost_ret (v := .tuple #[.int .i64 (-1), .string ⟨#[]⟩, .bool false]) (by simp [results, Try.results21, go_sem]) rfl ⟨?_, Below.refl _ _⟩
      rw [HY.out]
      rfl
end Go.Proofs.Ytjbpjnnflcmmhaa
