/- The contract of the document's Next over the translation. Conditions: the slice reads as a list of bytes. -/
import Derived.Test.YteknpodofmmklaaDoorRefLeaf
import Derived.Test.YteknpodofmmklaaDoorMathE
import Derived.Test.YteknpodofmmklaaDoorStr
import Derived.Deep.RegionWith
import Derived.Deep.DeepCutAuto
import Derived.Deep.QuietTactic
import Derived.BigQuiet
namespace Go.Proofs.YteknpodofmmklaaDoor
open Go.RowKit

/-- What the document's Next answers. -/
def nextOut (bs : List Int) : Value := match M.firstM bs with
  | none => .tuple #[.int .i64 0, .int .i64 0, .int .i64 11]
  | some (c, n) => .tuple #[.int .i64 c, .int .i64 n, .int .i64 0]

theorem below_undrewN {w w' : World} (h : Below w.drew.heap.size w.drew w') : Below w.heap.size w w' := ⟨h.os, h.tape, h.output, h.size, h.block⟩
theorem RdS.drew {k : IntKind} {w : World} {B : Nat} {A : Option Addr} {l : List Int} (h : RdS k w B A l) : RdS k w.drew B A l := h
theorem str_same {a b : List Int} (h : a = b) : ((str a).toList == (str b).toList) = true := by rw [h]; exact beq_self_eq_true _
theorem str_other {a b : List Int} (ha : M.Bytes a) (hb : M.Bytes b) (h : ¬ a = b) : ((str a).toList == (str b).toList) = false := by
  rw [beq_eq_false_iff_ne, str_list, str_list]
  exact fun e => h (map_byte_inj ha hb e)

theorem next_hit {x : Int} {r T : List Int} {k : Nat} {cc : Int} (hb : M.Bytes (x :: r)) (hlen : k ≤ r.length + 1) (hT : T = (x :: r).take k) (hQ : M.cand k x r = cc) (hs : M.scal cc = true) (hq : ((str (M.bytes1 cc)).toList == (str T).toList) = true) :
    nextOut (x :: r) = .tuple #[.int .i64 cc, .int .i64 k, .int .i64 0] := by
  have he : M.bytes1 cc = T := by
    have := eq_of_beq hq
    rw [str_list, str_list] at this
    exact map_byte_inj (M.bytes1_range hs) (fun y hy => hb y (by rw [hT] at hy; exact List.mem_of_mem_take hy)) this
  have hf := M.cand_hit (x := x) (r := r) (n := k) hlen (by rw [hQ]; exact hs) (by rw [hQ, he, hT])
  rw [hQ] at hf
  unfold nextOut
  rw [hf]
theorem next_miss {x : Int} {r T : List Int} {k : Nat} {cc : Int} (hT : T = (x :: r).take k) (hQ : M.cand k x r = cc) (hq : ((str (M.bytes1 cc)).toList == (str T).toList) = false) :
    ¬ (M.scal (M.cand k x r) = true ∧ M.bytes1 (M.cand k x r) = (x :: r).take k) := fun h => by
  rw [hQ, ← hT] at h
  rw [str_same h.2] at hq
  cases hq

set_option maxHeartbeats 400000 in
theorem refNext_empty (A : Option Addr) (cap : Nat) (w : World) :
    Calls Tryd.prog 42 #[.slice A 0 cap] w fun e w' => e = .returned (nextOut []) ∧ Below w.heap.size w w' := by
  go_enter Tryd.func42, Tryd.ntmps42
  go_wp2
  refine wp_loop_rounds 1 ?_
  rw [rounds_succ]
  go_wp2
  go_ret3
  exact ⟨rfl, Below.refl _ _⟩

set_option maxHeartbeats 4000000 in
theorem refNext_some (A : Option Addr) (cap : Nat) (x : Int) (r : List Int) (w : World) (hby : M.Bytes (x :: r)) (hrd : RdS .u8 w w.heap.size A (x :: r)) (hcap : r.length + 1 ≤ cap) (_hm : cap ≤ maxLen) :
    Calls Tryd.prog 42 #[.slice A (r.length + 1) cap] w fun e w' => e = .returned (nextOut (x :: r)) ∧ Below w.heap.size w w' := by
  unfold maxLen at _hm
  obtain ⟨x0, x1⟩ := hby x (by simp)
  obtain ⟨ad, rfl, hbl, hc0⟩ := hrd 0 x rfl
  have hc : w.cell? ad = some (.int .u8 x) := by simpa [Addr.add] using hc0
  have HR := Lib.hid hrd
  have HB := Lib.hid hby
  clear hrd hby hc0
  go_enter Tryd.func42, Tryd.ntmps42
  go_wp2
  go_loopw [5] (fun n wr => ∃ k : Nat, 1 ≤ k ∧ k ≤ 5 ∧ n = .int .i64 k ∧ M.NoneTo (x :: r) k ∧ Below w.heap.size w wr) (fun n _ => 5 - (intOf n).toNat)
  case atStart => exact ⟨1, by omega, by omega, rfl, M.noneTo_one _, Below.refl _ _⟩
  case round =>
    obtain ⟨k, hk1, hk5, rfl, hno, hbr⟩ := hrel
    have HN := Lib.hid hno
    clear hno
    have hcr : wr.cell? ad = some (.int .u8 x) := (hbr.cell hbl).trans hc
    by_cases hk4 : k ≤ 4
    · by_cases hlen : k ≤ r.length + 1
      · have i1 : decide ((k : Int) ≤ (r.length : Int) + 1) = true := by simp; omega
        go_upto_if 24 with (fail)
        go_cut [6] (fun s6 wx => s6 = .int .i64 (if k = 2 then x % 32 else x) ∧ wr = wx)
        case first =>
          by_cases e2 : k = 2
          · subst e2
            go_wp2
            go_meet
            exact ⟨rfl, rfl⟩
          · have f2 : ((k : Int) == 2) = false := beq_eq_false_iff_ne.2 (by omega)
            go_wp2
            go_meet
            exact ⟨by rw [if_neg e2], rfl⟩
        case rest =>
          obtain ⟨rfl, rfl⟩ := hcut
          obtain ⟨m2, hm2⟩ : ∃ m2, m2 = (if k = 2 then x % 32 else x) := ⟨_, rfl⟩
          rw [← hm2]
          have q2 : 0 ≤ m2 ∧ m2 ≤ 255 := by rw [hm2]; split <;> omega
          obtain ⟨q20, q21⟩ := q2
          have HM2 := Lib.hid hm2
          clear hm2
          go_upto_if 28 with (fail)
          go_cut [6] (fun s6 wx => s6 = .int .i64 (if k = 3 then m2 % 16 else m2) ∧ wr = wx)
          case first =>
            by_cases e2 : k = 3
            · subst e2
              go_wp2
              go_meet
              exact ⟨rfl, rfl⟩
            · have f2 : ((k : Int) == 3) = false := beq_eq_false_iff_ne.2 (by omega)
              go_wp2
              go_meet
              exact ⟨by rw [if_neg e2], rfl⟩
          case rest =>
            obtain ⟨rfl, rfl⟩ := hcut
            obtain ⟨m3, hm3⟩ : ∃ m3, m3 = (if k = 3 then m2 % 16 else m2) := ⟨_, rfl⟩
            rw [← hm3]
            have q3 : 0 ≤ m3 ∧ m3 ≤ 255 := by rw [hm3]; split <;> omega
            obtain ⟨q30, q31⟩ := q3
            have HM3 := Lib.hid hm3
            clear hm3
            go_upto_if 32 with (fail)
            go_cut [6] (fun s6 wx => s6 = .int .i64 (if k = 4 then m3 % 8 else m3) ∧ wr = wx)
            case first =>
              by_cases e2 : k = 4
              · subst e2
                go_wp2
                go_meet
                exact ⟨rfl, rfl⟩
              · have f2 : ((k : Int) == 4) = false := beq_eq_false_iff_ne.2 (by omega)
                go_wp2
                go_meet
                exact ⟨by rw [if_neg e2], rfl⟩
            case rest =>
              obtain ⟨rfl, rfl⟩ := hcut
              obtain ⟨m4, hm4⟩ : ∃ m4, m4 = (if k = 4 then m3 % 8 else m3) := ⟨_, rfl⟩
              rw [← hm4]
              have q4 : 0 ≤ m4 ∧ m4 ≤ 255 := by rw [hm4]; split <;> omega
              obtain ⟨q40, q41⟩ := q4
              have HM := Lib.hid (show m4 = M.mask k x by
                rw [hm4, HM3.out, HM2.out, M.mask]
                by_cases a2 : k = 2
                · simp [a2]
                · by_cases a3 : k = 3
                  · simp [a3]
                  · by_cases a4 : k = 4
                    · simp [a4]
                    · simp [a2, a3, a4])
              clear hm4 q20 q21 q30 q31
              go_wp2
              go_loop [6, 7] (fun c i => ∃ (j : Nat) (cc : Int), j ≤ k - 1 ∧ i = .int .i64 (j + 1 : Nat) ∧ c = .int .i64 cc ∧ M.candL m4 (r.take j) = cc ∧ 0 ≤ cc ∧ (j ≤ 0 → cc ≤ 255) ∧ (j ≤ 1 → cc ≤ 16383) ∧ (j ≤ 2 → cc ≤ 1048575) ∧ cc ≤ 67108863) (fun _ i => k - (intOf i).toNat)
              case atStart => exact ⟨0, m4, by omega, rfl, rfl, rfl, by omega, by omega, by omega, by omega, by omega⟩
              case round =>
                obtain ⟨j, cc, hj, rfl, rfl, hcc, b0, b1, b2, b3, b4⟩ := hrel
                have HC := Lib.hid hcc
                clear hcc
                by_cases hlt : j < k - 1
                · obtain ⟨y, hy⟩ : ∃ y, r[j]? = some y := ⟨_, List.getElem?_eq_getElem (by omega)⟩
                  obtain ⟨ad', he, _, hcell⟩ := (HR.out.below hbr) (j + 1) y (by simpa using hy)
                  obtain rfl : ad = ad' := by injection he
                  obtain ⟨y0, y1⟩ := HB.out y (List.mem_cons_of_mem _ (List.mem_of_getElem? hy))
                  have HY := Lib.hid (M.candL_step m4 r j y hy)
                  clear he hy
                  rw [addr_add_pos _ _ (by omega)] at hcell
                  go_wp2
                  go_round
                  case rel => exact ⟨j + 1, 64 * cc + y % 64, by omega, by go_num, by go_num, by rw [HY.out, HC.out], by omega, by omega, by omega, by omega, by omega⟩
                  case measure => simp [intOf]; omega
                · have HQ := Lib.hid (show M.cand k x r = cc by rw [← HC.out, HM.out, show j = k - 1 by omega]; rfl)
                  cases hs : M.scal cc with
                  | true =>
                    have hrt := ((HR.out.below hbr).take k)
                    have hln : ((x :: r).take k).length = k := by rw [List.length_take, List.length_cons]; omega
                    obtain ⟨T, hT⟩ : ∃ T, T = (x :: r).take k := ⟨_, rfl⟩
                    rw [← hT] at hrt hln
                    have HT := Lib.hid hT
                    have HRT := Lib.hid (hrt.more hbr.size)
                    have HLN := Lib.hid hln
                    have r0 := run_str wr.drew _ (some ad) T k cap hln (HRT.out.drew)
                    have i3 : (k : Int) ≤ (cap : Int) := by omega
                    clear hT hrt hln
                    go_wp2_with fail
                    refine (refScalar_any cc _).mono ?_
                    rintro e w' ⟨rfl, rfl⟩
                    rw [hs]
                    go_wp2_with fail
                    go_region_with (go_at_call 46; refine (refBytes_any cc _ hs).mono ?_; rintro e w2 ⟨A2, c2, rfl, hr2, hn2, hb2⟩; have hb2u := below_undrewN hb2; have r1 := run_str w2 _ A2 (M.bytes1 cc) _ c2 rfl hr2; have r2 := run_str w2 _ (some ad) T k cap HLN.out (HRT.out.below hb2u))
                    all_goals go_wp2
                    all_goals first
                      | (have hq : ((str (M.bytes1 cc)).toList == (str T).toList) = true := by assumption
                         go_ret3
                         exact ⟨by rw [next_hit HB.out hlen HT.out HQ.out hs hq]; rfl, hbr.trans (hb2u.mono hbr.size)⟩)
                      | (have hq : ((str (M.bytes1 cc)).toList == (str T).toList) = false := by assumption
                         have HMS := Lib.hid (M.noneTo_step HB.out HN.out (next_miss HT.out HQ.out hq))
                         go_roundw
                         case rel => exact ⟨k + 1, by omega, by omega, by go_num, HMS.out, hbr.trans (hb2u.mono hbr.size)⟩
                         case measure => simp [intOf]; omega)
                  | false =>
                    have HMS := Lib.hid (M.noneTo_step HB.out HN.out (by rw [HQ.out]; simp [hs]))
                    go_wp2_with fail
                    refine (refScalar_any cc _).mono ?_
                    rintro e w' ⟨rfl, rfl⟩
                    rw [hs]
                    go_wp2_with fail
                    go_quiet (fail)
                    go_wp2
                    go_roundw
                    case rel => exact ⟨k + 1, by omega, by omega, by go_num, HMS.out, below_drewN hbr _⟩
                    case measure => simp [intOf]; omega
      · have i1 : decide ((k : Int) ≤ (r.length : Int) + 1) = false := by simp; omega
        have HE := Lib.hid (M.noneTo_end HN.out (.inr (by simp; omega)))
        go_wp2
        go_ret3
        exact ⟨by unfold nextOut; rw [HE.out]; rfl, hbr⟩
    · have HE := Lib.hid (M.noneTo_end HN.out (.inl (by omega)))
      go_wp2
      go_ret3
      exact ⟨by unfold nextOut; rw [HE.out]; rfl, hbr⟩
theorem refNext_any (A : Option Addr) (cap : Nat) (bs : List Int) (w : World) (hby : M.Bytes bs) (hrd : RdS .u8 w w.heap.size A bs) (hcap : bs.length ≤ cap) (hm : cap ≤ maxLen) :
    Calls Tryd.prog 42 #[.slice A bs.length cap] w fun e w' => e = .returned (nextOut bs) ∧ Below w.heap.size w w' := by
  cases bs with
  | nil => exact refNext_empty A cap w
  | cons x r => exact refNext_some A cap x r w hby hrd hcap hm
end Go.Proofs.YteknpodofmmklaaDoor
