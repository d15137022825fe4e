/- The document's own way to take the blanks off a string's ends. Conditions: a string is no longer than the model lets it be. -/
import Derived.Test.YtjbpjnnflcmmhaaGreatDoorRefHex
namespace Go.Proofs.YtjbpjnnflcmmhaaGreatDoor
open Go.RowKit

theorem ext_list (T : ByteArray) (i j : Nat) : (T.extract i j).data.toList = (T.data.toList.take j).drop i := by
  obtain ⟨⟨l⟩⟩ := T
  rw [ByteArray.extract_mk]
  simp [List.drop_take]
theorem head_at (T : ByteArray) (h : 0 < T.size) : T.data.toList = T[0] :: T.data.toList.drop 1 := by
  obtain ⟨⟨l⟩⟩ := T
  cases l with
  | nil => exact absurd h (by decide)
  | cons x r => rfl
theorem last_at (T : ByteArray) (n : Nat) (h : T.size = n + 1) : T.data.toList = T.data.toList.take n ++ [T[n]'(by omega)] := by
  have := take_snoc T n (by omega)
  rw [List.take_of_length_le (by simp; omega)] at this
  exact this

set_option maxHeartbeats 4000000 in
theorem refTrim_any (s : ByteArray) (w : World) (hm : s.size ≤ maxLen) :
    Calls Tryz.prog 27 #[.string s] w fun e w' => e = .returned (.string (M.bytes (M.trim s.data.toList))) ∧ w = w' := by
  unfold maxLen at hm
  go_enter Tryz.func27, Tryz.ntmps27
  go_wp2
  go_loop [0] (fun v => ∃ (T : ByteArray) (a : List UInt8), v = .string T ∧ T.size ≤ s.size ∧ M.blank a ∧ s.data.toList = a ++ T.data.toList) (fun v => match v with | .string t => t.size | _ => 0)
  case atStart => exact ⟨s, [], rfl, Nat.le_refl _, M.blank_nil, rfl⟩
  case round =>
    obtain ⟨T, a, rfl, hTs, ha, hs⟩ := hrel
    have HA := Lib.hid ha
    have HS := Lib.hid hs
    clear ha hs
    by_cases h0 : 0 < T.size
    · by_cases hb : T[0] = 32 ∨ T[0] = 9
      · have HN := Lib.hid (show M.blank (a ++ [T[0]]) ∧ s.data.toList = (a ++ [T[0]]) ++ (T.extract 1 T.size).data.toList by
          refine ⟨fun c hc => ?_, ?_⟩
          · rw [List.mem_append, List.mem_singleton] at hc
            rcases hc with hc | rfl
            · exact HA.out c hc
            · exact hb
          · rw [HS.out, ext_list, List.take_of_length_le (by simp), List.append_assoc]
            congr 1
            exact head_at T h0)
        have hsz : (T.extract 1 T.size).size = T.size - 1 := by simp
        rcases (show (T[0].toNat : Int) = 32 ∨ ¬ (T[0].toNat : Int) = 32 ∧ (T[0].toNat : Int) = 9 by
          rcases hb with h | h
          · left; rw [h]; rfl
          · right; rw [h]; exact ⟨by decide, rfl⟩) with h32 | ⟨h32, h9⟩
        all_goals
          clear hb
          go_wp2
          go_round
          case rel => exact ⟨_, _, rfl, by omega, HN.out.1, HN.out.2⟩
          case measure => simp; omega
      · have g32 : ¬ (T[0].toNat : Int) = 32 := fun h => hb (.inl (UInt8.toNat_inj.1 (by have h0 : (32 : UInt8).toNat = 32 := rfl; omega)))
        have g9 : ¬ (T[0].toNat : Int) = 9 := fun h => hb (.inr (UInt8.toNat_inj.1 (by have h0 : (9 : UInt8).toNat = 9 := rfl; omega)))
        have HHD := Lib.hid (show ∀ c, T.data.toList.head? = some c → c ≠ 32 ∧ c ≠ 9 from fun c hc => by
          rw [head_at T h0] at hc
          obtain rfl : T[0] = c := by simpa using hc
          exact ⟨fun h => hb (.inl h), fun h => hb (.inr h)⟩)
        have HNE := Lib.hid (show T.data.toList ≠ [] by rw [head_at T h0]; simp)
        have b32 : ((T[0].toNat : Int) == 32) = false := by rw [beq_eq_false_iff_ne]; exact g32
        have b9 : ((T[0].toNat : Int) == 9) = false := by rw [beq_eq_false_iff_ne]; exact g9
        clear hb
        go_wp2
        go_loop [0] (fun v => ∃ (U : ByteArray) (b : List UInt8), v = .string U ∧ U.size ≤ T.size ∧ M.blank b ∧ T.data.toList = U.data.toList ++ b) (fun v => match v with | .string t => t.size | _ => 0)
        case atStart => exact ⟨T, [], rfl, Nat.le_refl _, M.blank_nil, by simp⟩
        case round =>
          obtain ⟨U, b, rfl, hUs, hbb, hT⟩ := hrel
          have HBB := Lib.hid hbb
          have HT := Lib.hid hT
          have hUne : U.data.toList ≠ [] := fun h => by
            rw [h, List.nil_append] at hT
            cases hb : b with
            | nil => rw [hb] at hT; exact HNE.out hT
            | cons x r =>
              have h1 := HHD.out x (by rw [hT, hb]; rfl)
              rcases hbb x (by rw [hb]; simp) with h | h
              · exact h1.1 h
              · exact h1.2 h
          have hUhd : ∀ c, U.data.toList.head? = some c → c ≠ 32 ∧ c ≠ 9 := fun c hc => HHD.out c (by rw [hT, List.head?_append, hc]; rfl)
          obtain ⟨n, hn⟩ : ∃ n, U.size = n + 1 := by
            have : U.data.toList.length ≠ 0 := fun h => hUne (List.eq_nil_of_length_eq_zero h)
            have hz : U.data.toList.length = U.size := by simp
            exact ⟨U.size - 1, by omega⟩
          have HUN := Lib.hid hUne
          have HUH := Lib.hid hUhd
          clear hbb hT hUne hUhd
          have hlt : n < U.size := by omega
          by_cases hb : U[n] = 32 ∨ U[n] = 9
          · have HN := Lib.hid (show M.blank ([U[n]] ++ b) ∧ T.data.toList = (U.extract 0 n).data.toList ++ ([U[n]] ++ b) by
              refine ⟨fun c hc => ?_, ?_⟩
              · rw [List.mem_append, List.mem_singleton] at hc
                rcases hc with rfl | hc
                · exact hb
                · exact HBB.out c hc
              · rw [HT.out, ext_list, List.drop_zero, ← List.append_assoc]
                congr 1
                exact last_at U n hn)
            have hsz : (U.extract 0 n).size = n := by simp; omega
            rcases (show (U[n].toNat : Int) = 32 ∨ ¬ (U[n].toNat : Int) = 32 ∧ (U[n].toNat : Int) = 9 by
              rcases hb with h | h
              · left; rw [h]; rfl
              · right; rw [h]; exact ⟨by decide, rfl⟩) with h32 | ⟨h32, h9⟩
            all_goals
              clear hb
              go_wp2
              go_round
              case rel => exact ⟨_, _, rfl, by omega, HN.out.1, HN.out.2⟩
              case measure => simp; omega
          · have k32 : ¬ (U[n].toNat : Int) = 32 := fun h => hb (.inl (UInt8.toNat_inj.1 (by have h0 : (32 : UInt8).toNat = 32 := rfl; omega)))
            have k9 : ¬ (U[n].toNat : Int) = 9 := fun h => hb (.inr (UInt8.toNat_inj.1 (by have h0 : (9 : UInt8).toNat = 9 := rfl; omega)))
            have HE := Lib.hid (show M.trim s.data.toList = U.data.toList by
              rw [HS.out, HT.out, ← List.append_assoc]
              refine M.trim_solid HA.out HBB.out ⟨HUN.out, HUH.out, fun c hc => ?_⟩
              rw [last_at U n hn, List.getLast?_append] at hc
              obtain rfl : U[n] = c := by simpa using hc
              exact ⟨fun h => hb (.inl h), fun h => hb (.inr h)⟩)
            have d32 : ((U[n].toNat : Int) == 32) = false := by rw [beq_eq_false_iff_ne]; exact k32
            have d9 : ((U[n].toNat : Int) == 9) = false := by rw [beq_eq_false_iff_ne]; exact k9
            clear hb
            go_wp2
            go_ret
            exact ⟨ret_str (by rw [HE.out, M.bytes_self]), rfl⟩
    · have HE := Lib.hid (show M.trim s.data.toList = T.data.toList by
        have hz : T.data.toList.length = T.size := by simp
        have h1 : T.data.toList = [] := List.eq_nil_of_length_eq_zero (by omega)
        rw [HS.out, h1, List.append_nil]
        exact M.trim_blank HA.out)
      go_wp2
      go_loop [0] (fun v => v = .string T) (fun _ => 0)
      case atStart => exact rfl
      case round =>
        obtain rfl := hrel
        go_wp2
        go_ret
        exact ⟨ret_str (by rw [HE.out, M.bytes_self]), rfl⟩
end Go.Proofs.YtjbpjnnflcmmhaaGreatDoor
