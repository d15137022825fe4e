/- The document's own numbers of a first field. Condition: a string is no longer than the model lets it be. -/
import Derived.Test.YtjbpjnnflcmmhaaGreatDoorRefTrim
import Derived.Test.YtjbpjnnflcmmhaaGreatDoorMathD
namespace Go.Proofs.YtjbpjnnflcmmhaaGreatDoor
open Go.RowKit

/-- What first answers. -/
def FirstOut (s : List UInt8) (e : Ending) : Prop :=
  ∃ (a b : Int) (ok : Bool), e = .returned (.tuple #[.int .i64 a, .int .i64 b, .bool ok]) ∧ (∀ x y, M.ends s = some (x, y) → a = x ∧ b = y ∧ ok = true) ∧ (M.ends s = none → ok = false)
theorem at_get (s : ByteArray) (k : Nat) (h : k < s.size) : s.data.toList[k]? = some s[k] := by rw [List.getElem?_eq_getElem (by simpa using h)]; rfl

set_option maxRecDepth 100000 in
set_option maxHeartbeats 4000000 in
theorem refFirst_any (s : ByteArray) (w : World) (hm : s.size ≤ maxLen) :
    Calls Tryz.prog 28 #[.string s] w fun e w' => FirstOut s.data.toList e ∧ w = w' := by
  have HMX := Lib.hid hm
  have HL := Lib.hid (show s.data.toList.length = s.size by simp)
  unfold maxLen at hm
  cases hh : M.hex s.data.toList with
  | some n =>
    have HH := Lib.hid (M.hex_has hh)
    have HE := Lib.hid (M.ends_whole hh)
    clear hh
    go_enter Tryz.func28, Tryz.ntmps28
    go_wp2_with fail
    refine (refHex_any s w HMX.out).mono ?_
    rintro e w1 ⟨rfl, rfl⟩
    rw [HH.out.1, HH.out.2]
    go_wp2
    refine bodyPost_ret (v := .tuple #[.int .i64 n, .int .i64 n, .bool true]) (by simp [results, Tryz.results28, go_sem]) rfl ⟨⟨_, _, _, rfl, fun x y h => ?_, fun h => ?_⟩, rfl⟩
    · rw [HE.out] at h
      simp only [Option.some.injEq, Prod.mk.injEq] at h
      rw [← h.1, ← h.2]
      exact ⟨rfl, rfl, rfl⟩
    · rw [HE.out] at h
      cases h
  | none =>
    have HH := Lib.hid (M.hex_not hh)
    have HN := Lib.hid hh
    clear hh
    go_enter Tryz.func28, Tryz.ntmps28
    go_wp2_with fail
    refine (refHex_any s w HMX.out).mono ?_
    rintro e w1 ⟨rfl, rfl⟩
    rw [HH.out.1, HH.out.2]
    go_wp2
    go_loop [7] (fun i => ∃ k : Nat, (k = 0 ∨ k < s.size) ∧ i = .int .i64 k ∧ ∀ j, j < k → ¬ M.dots s.data.toList j) (fun i => s.size - (intOf i).toNat)
    case atStart => exact ⟨0, .inl rfl, rfl, fun j hj => by omega⟩
    case round =>
      obtain ⟨k, hk0, rfl, hno⟩ := hrel
      have hk9 : k + 1 ≤ 9223372036854775807 := by omega
      have HK0 := Lib.hid hk0
      clear hk0
      have HNO := Lib.hid hno
      clear hno
      by_cases hlt : k + 1 < s.size
      · have hlt0 : k < s.size := by omega
        by_cases hd : M.dots s.data.toList k
        · have h1 : (s[k].toNat : Int) = 46 := by
            have := hd.1
            rw [at_get s k hlt0] at this
            rw [Option.some.inj this]; rfl
          have h2 : (s[k + 1].toNat : Int) = 46 := by
            have := hd.2
            rw [at_get s (k + 1) hlt] at this
            rw [Option.some.inj this]; rfl
          have HE := Lib.hid (M.ends_two HNO.out hd)
          have HT1 := Lib.hid (show (s.extract 0 k).data.toList = s.data.toList.take k by rw [ext_list]; rfl)
          have HT2 := Lib.hid (show (s.extract (k + 2) s.size).data.toList = s.data.toList.drop (k + 2) by rw [ext_list, List.take_of_length_le (by rw [HL.out]; omega)])
          have hz1 : (s.extract 0 k).size ≤ maxLen := by simp; unfold maxLen; omega
          have hz2 : (s.extract (k + 2) s.size).size ≤ maxLen := by simp; unfold maxLen; omega
          clear hd
          obtain ⟨T1, hT1⟩ : ∃ T, s.extract 0 k = T := ⟨_, rfl⟩
          obtain ⟨T2, hT2⟩ : ∃ T, s.extract (k + 2) s.size = T := ⟨_, rfl⟩
          rw [hT1] at HT1 hz1
          rw [hT2] at HT2 hz2
          have hj3 : (k : Int) + 2 ≤ (s.size : Int) := by omega
          have fin : ∀ (a b : Int) (p q : Bool), M.hexInt T1.data.toList = a ∧ M.hexIs T1.data.toList = p → M.hexInt T2.data.toList = b ∧ M.hexIs T2.data.toList = q → ∀ ok, (ok = (p && q && decide (a ≤ b))) → FirstOut s.data.toList (.returned (.tuple #[.int .i64 a, .int .i64 b, .bool ok])) := fun a b p q ha hb ok hok => by
            refine ⟨a, b, ok, rfl, fun x y h => ?_, fun h => ?_⟩
            · rw [HE.out, ← HT1.out, ← HT2.out] at h
              cases e1 : M.hex T1.data.toList with
              | none => rw [e1] at h; cases h
              | some x1 =>
                cases e2 : M.hex T2.data.toList with
                | none => rw [e1, e2] at h; cases h
                | some y1 =>
                  rw [e1, e2] at h
                  have k1 := M.hex_has e1
                  have k2 := M.hex_has e2
                  rw [ha.1, ha.2] at k1
                  rw [hb.1, hb.2] at k2
                  by_cases hle : x1 ≤ y1
                  · simp only [if_pos hle, Option.some.injEq, Prod.mk.injEq] at h
                    obtain ⟨rfl, rfl⟩ := h
                    refine ⟨k1.1, k2.1, ?_⟩
                    rw [hok, k1.2, k2.2, k1.1, k2.1]
                    simp; exact hle
                  · simp only [if_neg hle] at h
                    cases h
            · rw [HE.out, ← HT1.out, ← HT2.out] at h
              rw [hok]
              cases e1 : M.hex T1.data.toList with
              | none => have k1 := M.hex_not e1; rw [ha.2] at k1; rw [k1.2]; rfl
              | some x1 =>
                cases e2 : M.hex T2.data.toList with
                | none => have k2 := M.hex_not e2; rw [hb.2] at k2; rw [k2.2]; simp
                | some y1 =>
                  rw [e1, e2] at h
                  have k1 := M.hex_has e1
                  have k2 := M.hex_has e2
                  rw [ha.1] at k1
                  rw [hb.1] at k2
                  by_cases hle : x1 ≤ y1
                  · simp only [if_pos hle] at h; cases h
                  · rw [k1.1, k2.1]; simp; intro _ _; omega
          have FIN := Lib.hid fin
          obtain ⟨a, ha⟩ : ∃ a, M.hexInt T1.data.toList = a := ⟨_, rfl⟩
          obtain ⟨p, hp⟩ : ∃ a, M.hexIs T1.data.toList = a := ⟨_, rfl⟩
          obtain ⟨b, hb⟩ : ∃ a, M.hexInt T2.data.toList = a := ⟨_, rfl⟩
          obtain ⟨q, hq⟩ : ∃ a, M.hexIs T2.data.toList = a := ⟨_, rfl⟩
          have HA := Lib.hid (And.intro ha hp)
          have HBQ := Lib.hid (And.intro hb hq)
          clear fin ha hp hb hq
          cases p
          all_goals
            cases q
            all_goals
              by_cases hab : a ≤ b
              all_goals
                go_wp2_with fail
                refine (refHex_any T1 w hz1).mono ?_
                rintro e w1 ⟨rfl, rfl⟩
                rw [HA.out.1, HA.out.2]
                go_wp2_with fail
                refine (refHex_any T2 w hz2).mono ?_
                rintro e w1 ⟨rfl, rfl⟩
                rw [HBQ.out.1, HBQ.out.2]
                go_wp2
                first
                | (refine bodyPost_ret (v := .tuple #[.int .i64 a, .int .i64 b, .bool true]) ?_ rfl ⟨FIN.out _ _ _ _ HA.out HBQ.out _ ?_, rfl⟩
                   · (simp [results, Tryz.results28, go_sem]; try omega)
                   · simp; exact hab)
                | (refine bodyPost_ret (v := .tuple #[.int .i64 a, .int .i64 b, .bool false]) ?_ rfl ⟨FIN.out _ _ _ _ HA.out HBQ.out _ ?_, rfl⟩
                   · (simp [results, Tryz.results28, go_sem]; try omega)
                   · simp)
                | (refine bodyPost_ret (v := .tuple #[.int .i64 a, .int .i64 b, .bool false]) ?_ rfl ⟨FIN.out _ _ _ _ HA.out HBQ.out _ ?_, rfl⟩
                   · (simp [results, Tryz.results28, go_sem]; try omega)
                   · simp; omega)
        · have HNN := Lib.hid (show ∀ j, j < k + 1 → ¬ M.dots s.data.toList j from fun j hj => by
            rcases Nat.lt_or_ge j k with h | h
            · exact HNO.out j h
            · rw [show j = k by omega]; exact hd)
          by_cases g1 : (s[k].toNat : Int) = 46
          · have g2 : ((s[k + 1].toNat : Int) == 46) = false := by
              rw [beq_eq_false_iff_ne]
              intro h
              refine hd ⟨?_, ?_⟩
              · rw [at_get s k hlt0, UInt8.toNat_inj.1 (show s[k].toNat = (46 : UInt8).toNat by have h0 : (46 : UInt8).toNat = 46 := rfl; omega)]
              · rw [at_get s (k + 1) hlt, UInt8.toNat_inj.1 (show s[k + 1].toNat = (46 : UInt8).toNat by have h0 : (46 : UInt8).toNat = 46 := rfl; omega)]
            clear hd
            go_wp2
            go_round
            case rel => exact ⟨k + 1, .inr hlt, by go_num, HNN.out⟩
            case measure => simp [intOf]; omega
          · have g2 : ((s[k].toNat : Int) == 46) = false := by rw [beq_eq_false_iff_ne]; exact g1
            clear hd
            go_wp2
            go_round
            case rel => exact ⟨k + 1, .inr hlt, by go_num, HNN.out⟩
            case measure => simp [intOf]; omega
      · have HE := Lib.hid (M.ends_no HN.out (show ∀ j, ¬ M.dots s.data.toList j from fun j h => by
          rcases Nat.lt_or_ge j k with h' | h'
          · exact HNO.out j h' h
          · have := (List.getElem?_eq_some_iff.1 h.2).1
            rw [HL.out] at this
            omega))
        have hdc : decide ((k : Int) + 1 < (s.size : Int)) = false := by rw [decide_eq_false_iff_not]; omega
        have hdn : ¬ (k : Int) + 1 < (s.size : Int) := by omega
        have hd3 : decide (k + 1 < s.size) = false := by rw [decide_eq_false_iff_not]; omega
        go_wp2
        refine bodyPost_ret (v := .tuple #[.int .i64 0, .int .i64 0, .bool false]) (by simp [results, Tryz.results28, go_sem]) rfl ⟨⟨_, _, _, rfl, fun x y h => ?_, fun _ => rfl⟩, rfl⟩
        rw [HE.out] at h
        cases h
end Go.Proofs.YtjbpjnnflcmmhaaGreatDoor
