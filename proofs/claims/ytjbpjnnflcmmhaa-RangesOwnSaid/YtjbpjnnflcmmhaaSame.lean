/- The contract of the document's Same over the translation. Conditions: the slices read as lists of entries below the heap's end. -/
import Derived.Test.YtjbpjnnflcmmhaaRight
import Derived.Deep.QuietTactic
import Derived.BigQuiet
import Derived.RegionTactic
import Derived.Laws.StructEq
namespace Go.Proofs.Ytjbpjnnflcmmhaa
open Go.RowKit

def M.eqE (e f : M.E) : Bool := decide (e.a = f.a) && (decide (e.b = f.b) && (decide (e.v = f.v) && decide (e.x = f.x)))
theorem M.eqE_iff (e f : M.E) : M.eqE e f = true ↔ e = f := by
  obtain ⟨a, b, v, x⟩ := e
  obtain ⟨a', b', v', x'⟩ := f
  simp [M.eqE]
def M.same : List M.E → List M.E → Bool
  | [], [] => true
  | e :: r, f :: s => M.eqE e f && M.same r s
  | _, _ => false
theorem M.same_iff (l m : List M.E) : M.same l m = true ↔ l = m := by
  induction l generalizing m with
  | nil => cases m <;> simp [M.same]
  | cons e r ih => cases m with
    | nil => simp [M.same]
    | cons f s => simp [M.same, M.eqE_iff, ih]
theorem M.same_self (l : List M.E) : M.same l l = true := (M.same_iff l l).2 rfl
theorem M.same_len {l m : List M.E} (h : l.length ≠ m.length) : M.same l m = false := by
  cases hs : M.same l m with
  | false => rfl
  | true => exact absurd (congrArg List.length ((M.same_iff l m).1 hs)) h
theorem M.same_at {l m : List M.E} {j : Nat} {e f : M.E} (h1 : l[j]? = some e) (h2 : m[j]? = some f) (hne : M.eqE e f = false) : M.same l m = false := by
  cases hs : M.same l m with
  | false => rfl
  | true =>
    rw [(M.same_iff l m).1 hs, h2] at h1
    obtain rfl : f = e := by injection h1
    rw [(M.eqE_iff f f).2 rfl] at hne
    cases hne
theorem stood_entry : Try.prog.stoodInHeld 36 = false := by kernel_rfl
theorem guard_entry : Try.prog.eqGuardType Try.prog.depth 36 = false := by kernel_rfl
theorem byte_ext' {v v' : ByteArray} : v.data.toList = v'.data.toList ↔ v = v' := ⟨fun h => by cases v; cases v'; simp at h; rw [h], fun h => by rw [h]⟩
theorem toList_iff (v v' : ByteArray) : v.toList = v'.toList ↔ v = v' := by
  rw [ByteArray.toList_eq, ByteArray.toList_eq]
  exact byte_ext'
theorem neq_entry (w : World) (e f : M.E) : (binOp .neq 36 (.agg #[.int .i64 e.a, .int .i64 e.b, .string e.v, .string e.x]) (.agg #[.int .i64 f.a, .int .i64 f.b, .string f.v, .string f.x])).run Try.prog w = .ok (.bool (!M.eqE e f)) w := by
  rw [run_neq_struct, run_equalIn_struct w 9999 36 _ _ (by kernel_rfl) stood_entry]
  simp [Program.fieldsOf, Try.underlying36, Op.eqFields, go_sem, toList_iff]
  unfold M.eqE
  (repeat' split) <;> simp_all
set_option maxHeartbeats 2000000 in
theorem same_any (A B : Option Addr) (ca cb : Nat) (l m : List M.E) (w : World) (hl : RdE w w.heap.size A l) (hm : RdE w w.heap.size B m) (h1 : l.length ≤ maxLen) :
    Calls Try.prog 14 #[.slice A l.length ca, .slice B m.length cb] w fun e w' => e = .returned (.bool (M.same l m)) ∧ Below w.heap.size w w' := by
  unfold maxLen at h1
  have HL := Lib.hid hl
  have HM := Lib.hid hm
  clear hl hm
  by_cases hlen : l.length = m.length
  · have hlen1 : (l.length != m.length) = false := by rw [bne_eq_false_iff_eq]; exact hlen
    have hlen2 : ((l.length : Int) != (m.length : Int)) = false := by rw [bne_eq_false_iff_eq]; omega
    have HLEN := Lib.hid hlen
    have hml : m.length ≤ l.length := by omega
    have hlm : l.length ≤ m.length := by omega
    clear hlen
    go_enter Try.func14, Try.ntmps14
    go_wp2
    go_loopw [5] (fun i wr => ∃ k : Nat, k ≤ l.length ∧ i = .int .i64 k ∧ (∀ j, j < k → l[j]? = m[j]?) ∧ Below w.heap.size w wr) (fun i _ => l.length - (intOf i).toNat)
    case atStart => exact ⟨0, by omega, rfl, (fun j h => by omega), Below.refl _ _⟩
    case round =>
      obtain ⟨k, hk, rfl, heq, hb⟩ := hrel
      have HEQ := Lib.hid heq
      have HB := Lib.hid hb
      clear heq hb
      by_cases hlt : k < l.length
      · obtain ⟨e, he⟩ : ∃ e, l[k]? = some e := ⟨_, List.getElem?_eq_getElem hlt⟩
        obtain ⟨f, hf⟩ : ∃ f, m[k]? = some f := ⟨_, List.getElem?_eq_getElem (by omega)⟩
        obtain ⟨ad, rfl, hab, c0, c1, c2, c3⟩ := HL.out.below HB.out k e he
        obtain ⟨bd, rfl, hbb, d0, d1, d2, d3⟩ := HM.out.below HB.out k f hf
        have hk1 : (0 : Int) ≤ (k : Int) := by omega
        have hk2 : (k : Int) < (l.length : Int) := by omega
        have hk3 : (k : Int) < (m.length : Int) := by omega
        have HE := Lib.hid he
        have HF := Lib.hid hf
        clear he hf
        have hg := guard_entry
        cases heq : M.eqE e f with
        | true =>
          have hq := fun w => neq_entry w e f
          rw [heq] at hq
          have HN := Lib.hid (show ∀ j, j < k + 1 → l[j]? = m[j]? from fun j hj => by
            rcases Nat.lt_or_ge j k with h | h
            · exact HEQ.out j h
            · obtain rfl : j = k := by omega
              rw [HE.out, HF.out, (M.eqE_iff e f).1 heq])
          clear heq
          go_wp2
          go_quiet (fail)
          go_wp2
          go_roundw
          case rel => exact ⟨k + 1, by omega, by go_num, HN.out, by first | exact HB.out.drew | exact below_drewN HB.out _⟩
          case measure => simp [intOf]; omega
        | false =>
          have hq := fun w => neq_entry w e f
          rw [heq] at hq
          have HN := Lib.hid (M.same_at HE.out HF.out heq)
          clear heq
          go_wp2
          go_quiet (fail)
          go_wp2
          go_ret
          exact ⟨ret_bool HN.out.symm, by first | exact HB.out.drew | exact below_drewN HB.out _⟩
      · have HN := Lib.hid (show M.same l m = true by
          rw [M.same_iff]
          apply List.ext_getElem?
          intro j
          rcases Nat.lt_or_ge j k with h | h
          · exact HEQ.out j h
          · rw [List.getElem?_eq_none (by omega), List.getElem?_eq_none (by omega)])
        go_wp2
        go_ret
        exact ⟨ret_bool HN.out.symm, HB.out⟩
  · have hlen1 : (l.length != m.length) = true := by rw [bne_iff_ne]; exact hlen
    have hlen2 : ((l.length : Int) != (m.length : Int)) = true := by rw [bne_iff_ne]; omega
    have HS := Lib.hid (M.same_len hlen)
    clear hlen
    go_enter Try.func14, Try.ntmps14
    go_wp2
    go_ret
    exact ⟨ret_bool HS.out.symm, Below.refl _ _⟩
end Go.Proofs.Ytjbpjnnflcmmhaa
