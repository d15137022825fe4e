/- The contract of the statements' fits over the translation: where it is true, the lists are short. Conditions: the slices read as lists of entries, and of strings, no longer than the model lets them be. -/
import Derived.Test.YtjbpjnnflcmmhaaObj
namespace Go.Proofs.Ytjbpjnnflcmmhaa
open Go.RowKit

/-- What fits leaves. -/
def FitsOut (l : List M.E) (ns : List ByteArray) (w : World) (e : Ending) (w' : World) : Prop :=
  ∃ q, e = .returned (.bool q) ∧ (q = true → l.length ≤ 60 ∧ ns.length ≤ 60) ∧ Below w.heap.size w w'
theorem fits_no {l : List M.E} {ns : List ByteArray} {w w' : World} (h : Below w.heap.size w w') : FitsOut l ns w (.returned (.bool false)) w' := ⟨false, rfl, (fun h => by cases h), h⟩

set_option maxRecDepth 100000 in
set_option maxHeartbeats 4000000 in
theorem fits_any (A B : Option Addr) (ca cb : Nat) (l : List M.E) (ns : List ByteArray) (w : World) (hr : RdE w w.heap.size A l) (hn : RdN w w.heap.size B ns) (hm : l.length ≤ maxLen) (hmn : ns.length ≤ maxLen) (hz : Sized l) (hzn : SizedN ns) :
    Calls Try.prog 8 #[.agg #[.slice A l.length ca, .slice B ns.length cb]] w (FitsOut l ns w) := by
  unfold maxLen at hm hmn
  obtain ⟨W, hW⟩ : ∃ W, w.alloc (.cells #[.slice A l.length ca, .slice B ns.length cb] 25) = W := ⟨_, rfl⟩
  have hbW : Below w.heap.size w W := by rw [← hW]; exact (Below.refl _ _).alloc (Nat.le_refl _) _
  have x0 : W.cell? ⟨w.heap.size, 0, none⟩ = some (.slice A l.length ca) := by rw [← hW]; simp [go_sem]
  have x1 : W.cell? ⟨w.heap.size, 1, none⟩ = some (.slice B ns.length cb) := by rw [← hW]; simp [go_sem]
  have HBW := Lib.hid hbW
  have HR := Lib.hid (hr.below hbW)
  have HN := Lib.hid (hn.below hbW)
  have HZ := Lib.hid hz
  have HZN := Lib.hid hzn
  clear hr hn hz hzn hbW
  go_enter Try.func8, Try.ntmps8
  go_wp2
  go_loop [3] (fun i => ∃ k : Nat, k ≤ l.length ∧ k ≤ 60 ∧ i = .int .i64 k) (fun i => l.length - (intOf i).toNat)
  case atStart => exact ⟨0, by omega, by omega, rfl⟩
  case round =>
    obtain ⟨k, hk, hk60, rfl⟩ := hrel
    by_cases hlt : k < l.length
    · by_cases hlt60 : k < 60
      · obtain ⟨e, he⟩ : ∃ e, l[k]? = some e := ⟨_, List.getElem?_eq_getElem hlt⟩
        obtain ⟨hzv, hzx⟩ := HZ.out e (List.mem_of_getElem? he)
        unfold maxLen at hzv hzx
        obtain ⟨ad, rfl, hab, c0, c1, c2, c3⟩ := HR.out k e he
        have hk1 : (0 : Int) ≤ (k : Int) := by omega
        have hk2 : (k : Int) < (l.length : Int) := by omega
        clear he c0 c1 hab
        by_cases hv : e.v.size ≤ 100
        · by_cases hx : e.x.size ≤ 100
          · have d1 : decide ((100 : Int) < (e.v.size : Int)) = false := by rw [decide_eq_false_iff_not]; omega
            have d2 : decide ((100 : Int) < (e.x.size : Int)) = false := by rw [decide_eq_false_iff_not]; omega
            go_wp2
            go_round
            case rel => exact ⟨k + 1, by omega, by omega, by go_num⟩
            case measure => simp [intOf]; omega
          · have d1 : decide ((100 : Int) < (e.v.size : Int)) = false := by rw [decide_eq_false_iff_not]; omega
            have d2 : decide ((100 : Int) < (e.x.size : Int)) = true := by rw [decide_eq_true_iff]; omega
            go_wp2
            go_ret
            exact fits_no HBW.out
        · have d1 : decide ((100 : Int) < (e.v.size : Int)) = true := by rw [decide_eq_true_iff]; omega
          go_wp2
          go_ret
          exact fits_no HBW.out
      · go_wp2
        go_loop [4] (fun i => ∃ j : Nat, j ≤ ns.length ∧ j ≤ 60 ∧ i = .int .i64 j) (fun i => ns.length - (intOf i).toNat)
        case atStart => exact ⟨0, by omega, by omega, rfl⟩
        case round =>
          obtain ⟨j, hj, hj60, rfl⟩ := hrel
          by_cases hjt : j < ns.length
          · by_cases hjt60 : j < 60
            · obtain ⟨s, hs⟩ : ∃ s, ns[j]? = some s := ⟨_, List.getElem?_eq_getElem hjt⟩
              have hzs := HZN.out s (List.mem_of_getElem? hs)
              unfold maxLen at hzs
              obtain ⟨bd, rfl, hbb, c0⟩ := HN.out j s hs
              have hj1 : (0 : Int) ≤ (j : Int) := by omega
              have hj2 : (j : Int) < (ns.length : Int) := by omega
              clear hs hbb
              by_cases hv : s.size ≤ 100
              · have d1 : decide ((100 : Int) < (s.size : Int)) = false := by rw [decide_eq_false_iff_not]; omega
                go_wp2
                go_round
                case rel => exact ⟨j + 1, by omega, by omega, by go_num⟩
                case measure => simp [intOf]; omega
              · have d1 : decide ((100 : Int) < (s.size : Int)) = true := by rw [decide_eq_true_iff]; omega
                go_wp2
                go_ret
                exact fits_no HBW.out
            · have d1 : decide (l.length ≤ 60) = false := by rw [decide_eq_false_iff_not]; omega
              go_wp2
              go_ret
              exact fits_no HBW.out
          · have d1 : decide (l.length ≤ 60) = false := by rw [decide_eq_false_iff_not]; omega
            go_wp2
            go_ret
            exact fits_no HBW.out
    · go_wp2
      go_loop [4] (fun i => ∃ j : Nat, j ≤ ns.length ∧ j ≤ 60 ∧ i = .int .i64 j) (fun i => ns.length - (intOf i).toNat)
      case atStart => exact ⟨0, by omega, by omega, rfl⟩
      case round =>
        obtain ⟨j, hj, hj60, rfl⟩ := hrel
        by_cases hjt : j < ns.length
        · by_cases hjt60 : j < 60
          · obtain ⟨s, hs⟩ : ∃ s, ns[j]? = some s := ⟨_, List.getElem?_eq_getElem hjt⟩
            have hzs := HZN.out s (List.mem_of_getElem? hs)
            unfold maxLen at hzs
            obtain ⟨bd, rfl, hbb, c0⟩ := HN.out j s hs
            have hj1 : (0 : Int) ≤ (j : Int) := by omega
            have hj2 : (j : Int) < (ns.length : Int) := by omega
            clear hs hbb
            by_cases hv : s.size ≤ 100
            · have d1 : decide ((100 : Int) < (s.size : Int)) = false := by rw [decide_eq_false_iff_not]; omega
              go_wp2
              go_round
              case rel => exact ⟨j + 1, by omega, by omega, by go_num⟩
              case measure => simp [intOf]; omega
            · have d1 : decide ((100 : Int) < (s.size : Int)) = true := by rw [decide_eq_true_iff]; omega
              go_wp2
              go_ret
              exact fits_no HBW.out
          · have hl : l.length ≤ 60 := by omega
            have d1 : decide (l.length ≤ 60) = true := by rw [decide_eq_true_iff]; omega
            go_wp2
            go_ret
            exact ⟨decide ((ns.length : Int) ≤ 60), rfl, (fun h => ⟨hl, by have := of_decide_eq_true h; omega⟩), HBW.out⟩
        · have hl : l.length ≤ 60 := by omega
          have d1 : decide (l.length ≤ 60) = true := by rw [decide_eq_true_iff]; omega
          go_wp2
          go_ret
          exact ⟨decide ((ns.length : Int) ≤ 60), rfl, (fun h => ⟨hl, by have := of_decide_eq_true h; omega⟩), HBW.out⟩
end Go.Proofs.Ytjbpjnnflcmmhaa
