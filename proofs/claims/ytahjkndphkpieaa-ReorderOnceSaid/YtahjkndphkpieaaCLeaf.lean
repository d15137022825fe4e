/- The contracts of package reorder's wrong, deeper and Mirrors, and of the library's IndexFunc and ContainsFunc as they are called there. Conditions: the slice reads as a list of whole numbers, within its capacity, and takes at most 2^47 bytes. -/
import Derived.Test.YtahjkndphkpieaaCBk
import Derived.Laws.BitsLemmas
namespace Go.Proofs.Ytahjkndphkpieaa
open Go.RowKit
set_option maxRecDepth 100000

theorem cwrong_any (x : Int) (w : World) : Calls Try.prog 18 #[.int .i64 x] w fun r w' => r = .returned (.bool (decide (x < 0 ∨ 127 < x))) ∧ w = w' := by
  by_cases h0 : x < 0
  · go_enter Try.func18, Try.ntmps18
    go_wp2_with fail
    go_ret
    exact ⟨ret_bool (by rw [eq_comm, decide_eq_true_eq]; exact .inl h0), rfl⟩
  · by_cases h1 : 127 < x
    · go_enter Try.func18, Try.ntmps18
      go_wp2_with fail
      go_ret
      exact ⟨ret_bool (by simp), rfl⟩
    · go_enter Try.func18, Try.ntmps18
      go_wp2_with fail
      go_ret
      exact ⟨ret_bool (by simp; omega), rfl⟩
theorem cshal_any (x k : Int) (b : Nat) (w : World) (hc : w.cell? ⟨b, 0, none⟩ = some (.int .i64 k)) : Calls Try.prog 24 #[.int .i64 x, .pointer (some ⟨b, 0, none⟩)] w fun r w' => r = .returned (.bool (decide (x ≤ k))) ∧ w = w' := by
  go_enter Try.func24, Try.ntmps24
  go_wp2_with fail
  go_ret
  exact ⟨rfl, rfl⟩
/-- p holds of none of the first k. -/
def M.NoTo (p : Int → Prop) (l : List Int) (k : Nat) : Prop := ∀ j x, j < k → l[j]? = some x → ¬ p x
theorem M.NoTo.succ {p : Int → Prop} {l : List Int} {k : Nat} {c : Int} (h : M.NoTo p l k) (hc : l[k]? = some c) (hp : ¬ p c) : M.NoTo p l (k + 1) := fun j x hj hx => by
  by_cases e : j = k
  · subst e
    rw [hc] at hx
    injection hx with hx
    rw [← hx]
    exact hp
  · exact h j x (by omega) hx
/-- The first place that p holds of, or -1. -/
def M.FirstAt (p : Int → Prop) (l : List Int) (r : Int) : Prop := (r = -1 ∧ M.NoTo p l l.length) ∨ ∃ k x, r = (k : Nat) ∧ M.NoTo p l k ∧ l[k]? = some x ∧ p x
set_option maxHeartbeats 4000000 in
theorem cidxw_any (A : Option Addr) (ca n : Nat) (l : List Int) (w : World) (hr : RdS .i64 w w.heap.size A l) (hn : l.length = n) (hl : n * 8 ≤ 140737488351232) :
    Calls Try.prog 23 #[.slice A n ca, .func (.func 18) #[] #[]] w fun r w' => (∃ v, r = .returned (.int .i64 v) ∧ M.FirstAt (fun x => x < 0 ∨ 127 < x) l v) ∧ w = w' := by
  have HR := Lib.hid hr
  have HN := Lib.hid hn
  have hl1 : (n : Int) ≤ 17592186043904 := by omega
  clear hr hn hl
  go_enter Try.func23, Try.ntmps23
  go_wp2_with fail
  go_loopw [8] (fun v wr => ∃ k : Nat, k ≤ n ∧ v = .int .i64 k ∧ M.NoTo (fun x => x < 0 ∨ 127 < x) l k ∧ w = wr) (fun v _ => n - (intOf v).toNat)
  case atStart => exact ⟨0, Nat.zero_le _, rfl, fun j z hj => absurd hj (Nat.not_lt_zero j), rfl⟩
  case round =>
    obtain ⟨k, hk, rfl, hno, rfl⟩ := hrel
    have HNO := Lib.hid hno
    have k0 : (0 : Int) ≤ k := by omega
    clear hno
    by_cases hlt : k < n
    · have k1 : (k : Int) < n := by omega
      obtain ⟨ad, c, rfl, hcc, hc, -⟩ := rd_at HR.out (Below.refl _ _) (by rw [HN.out]; exact hlt : k < l.length)
      have HC := Lib.hid hc
      have HCL := Lib.hid (cwrong_any c w)
      clear hc
      go_wp2_with fail
      refine HCL.out.mono ?_
      rintro r w1 ⟨rfl, rfl⟩
      by_cases hp : c < 0 ∨ 127 < c
      · have hd : decide (c < 0 ∨ 127 < c) = true := decide_eq_true hp
        have HP := Lib.hid hp
        clear hp
        go_wp2_with fail
        go_ret
        exact ⟨⟨_, rfl, .inr ⟨k, c, rfl, HNO.out, HC.out, HP.out⟩⟩, rfl⟩
      · have hd : decide (c < 0 ∨ 127 < c) = false := decide_eq_false hp
        have HP := Lib.hid hp
        clear hp
        go_wp2_with fail
        go_roundw
        case rel => exact ⟨k + 1, by omega, by go_num, HNO.out.succ HC.out (by have := HP.out; omega), by trivial⟩
        case measure => simp [intOf]; omega
    · obtain rfl : n = k := by omega
      have k1 : ¬ (n : Int) < n := by omega
      go_wp2_with fail
      go_ret
      exact ⟨⟨_, rfl, .inl ⟨rfl, by rw [HN.out]; exact HNO.out⟩⟩, rfl⟩
set_option maxHeartbeats 4000000 in
theorem cidxs_any (A : Option Addr) (ca n : Nat) (l : List Int) (q : Int) (b : Nat) (w : World) (hr : RdS .i64 w w.heap.size A l) (hn : l.length = n) (hl : n * 8 ≤ 140737488351232) (hcb : w.cell? ⟨b, 0, none⟩ = some (.int .i64 q)) :
    Calls Try.prog 23 #[.slice A n ca, .func (.func 24) #[] #[.pointer (some ⟨b, 0, none⟩)]] w fun r w' => (∃ v, r = .returned (.int .i64 v) ∧ M.FirstAt (fun x => x ≤ q) l v) ∧ w = w' := by
  have HR := Lib.hid hr
  have HN := Lib.hid hn
  have hl1 : (n : Int) ≤ 17592186043904 := by omega
  have HCB := Lib.hid hcb
  clear hr hn hl hcb
  go_enter Try.func23, Try.ntmps23
  go_wp2_with fail
  go_loopw [8] (fun v wr => ∃ k : Nat, k ≤ n ∧ v = .int .i64 k ∧ M.NoTo (fun x => x ≤ q) l k ∧ w = wr) (fun v _ => n - (intOf v).toNat)
  case atStart => exact ⟨0, Nat.zero_le _, rfl, fun j z hj => absurd hj (Nat.not_lt_zero j), rfl⟩
  case round =>
    obtain ⟨k, hk, rfl, hno, rfl⟩ := hrel
    have HNO := Lib.hid hno
    have k0 : (0 : Int) ≤ k := by omega
    clear hno
    by_cases hlt : k < n
    · have k1 : (k : Int) < n := by omega
      obtain ⟨ad, c, rfl, hcc, hc, -⟩ := rd_at HR.out (Below.refl _ _) (by rw [HN.out]; exact hlt : k < l.length)
      have HC := Lib.hid hc
      have HCL := Lib.hid (cshal_any c q b w HCB.out)
      clear hc
      go_wp2_with fail
      refine HCL.out.mono ?_
      rintro r w1 ⟨rfl, rfl⟩
      by_cases hp : c ≤ q
      · have hd : decide (c ≤ q) = true := decide_eq_true hp
        have HP := Lib.hid hp
        clear hp
        go_wp2_with fail
        go_ret
        exact ⟨⟨_, rfl, .inr ⟨k, c, rfl, HNO.out, HC.out, HP.out⟩⟩, rfl⟩
      · have hd : decide (c ≤ q) = false := decide_eq_false hp
        have HP := Lib.hid hp
        clear hp
        go_wp2_with fail
        go_roundw
        case rel => exact ⟨k + 1, by omega, by go_num, HNO.out.succ HC.out (by have := HP.out; omega), by trivial⟩
        case measure => simp [intOf]; omega
    · obtain rfl : n = k := by omega
      have k1 : ¬ (n : Int) < n := by omega
      go_wp2_with fail
      go_ret
      exact ⟨⟨_, rfl, .inl ⟨rfl, by rw [HN.out]; exact HNO.out⟩⟩, rfl⟩
theorem ccont_any (A : Option Addr) (ca n : Nat) (l : List Int) (w : World) (hr : RdS .i64 w w.heap.size A l) (hn : l.length = n) (hl : n * 8 ≤ 140737488351232) :
    Calls Try.prog 17 #[.slice A n ca, .func (.func 18) #[] #[]] w fun r w' => r = .returned (.bool (!decide (M.ordOk l))) ∧ w = w' := by
  have HC := Lib.hid (cidxw_any A ca n l w hr hn hl)
  clear hr hn hl
  go_enter Try.func17, Try.ntmps17
  go_wp2_with fail
  refine HC.out.mono ?_
  rintro r w1 ⟨⟨v, rfl, hv⟩, rfl⟩
  have HV := Lib.hid hv
  rcases hv with ⟨rfl, -⟩ | ⟨k, x, rfl, -, -, -⟩
  · go_wp2_with fail
    go_ret
    refine ⟨ret_bool ?_, rfl⟩
    rcases HV.out with ⟨-, h⟩ | ⟨k, x, e, -⟩
    · have : M.ordOk l := fun x hx => by
        obtain ⟨j, hj⟩ := List.mem_iff_getElem?.1 hx
        have := h j x (List.getElem?_eq_some_iff.1 hj).1 hj
        omega
      rw [decide_eq_true this]
      rfl
    · omega
  · have k0 : (0 : Int) ≤ k := by omega
    go_wp2_with fail
    go_ret
    refine ⟨ret_bool ?_, rfl⟩
    rcases HV.out with ⟨e, -⟩ | ⟨j, x, -, -, hj, hx⟩
    · omega
    · have : ¬ M.ordOk l := fun h => by
        have := h x (List.mem_of_getElem? hj)
        omega
      rw [decide_eq_false this]
      rfl
/-- As many as are deeper, from the first on. -/
structure M.Deep (l : List Int) (q : Int) (d : Nat) : Prop where
  le : d ≤ l.length
  all : ∀ j x, j < d → l[j]? = some x → q < x
  ends : ∀ x, l[d]? = some x → x ≤ q
set_option maxHeartbeats 4000000 in
theorem cdeep_any (A : Option Addr) (ca n : Nat) (l : List Int) (q : Int) (w : World) (hr : RdS .i64 w w.heap.size A l) (hn : l.length = n) (hl : n * 8 ≤ 140737488351232) :
    Calls Try.prog 20 #[.slice A n ca, .int .i64 q] w fun r w' => (∃ d : Nat, r = .returned (.int .i64 d) ∧ M.Deep l q d) ∧ Below w.heap.size w w' := by
  obtain ⟨W1, hW1⟩ : ∃ W1, w.alloc (.cells #[.int .i64 q] 3) = W1 := ⟨_, rfl⟩
  have hb1 : Below w.heap.size w W1 := by rw [← hW1]; exact (Below.refl _ _).alloc (Nat.le_refl _) _
  have hcell : W1.cell? ⟨w.heap.size, 0, none⟩ = some (.int .i64 q) := by rw [← hW1]; simp
  have HC := Lib.hid (cidxs_any A ca n l q w.heap.size W1 ((hr.below hb1).more hb1.size) hn hl hcell)
  have HB1 := Lib.hid hb1
  have HN := Lib.hid hn
  clear hr hn hl hb1 hcell
  go_enter Try.func20, Try.ntmps20
  go_wp2_with fail
  refine HC.out.mono ?_
  rintro r w1 ⟨⟨v, rfl, hv⟩, rfl⟩
  have HV := Lib.hid hv
  rcases hv with ⟨rfl, -⟩ | ⟨k, x, rfl, -, -, -⟩
  · go_wp2_with fail
    go_ret
    refine ⟨⟨n, rfl, ?_⟩, HB1.out⟩
    rcases HV.out with ⟨-, h⟩ | ⟨k, x, e, -⟩
    · refine ⟨Nat.le_of_eq HN.out.symm, fun j x hj hx => ?_, fun x hx => ?_⟩
      · have := h j x (by rw [HN.out]; exact hj) hx
        omega
      · have := (List.getElem?_eq_some_iff.1 hx).1
        rw [HN.out] at this
        omega
    · omega
  · have k0 : ¬ (k : Int) < 0 := by omega
    go_wp2_with fail
    go_ret
    refine ⟨⟨k, rfl, ?_⟩, HB1.out⟩
    rcases HV.out with ⟨e, -⟩ | ⟨j, x, e, hno, hj, hx⟩
    · omega
    · obtain rfl : k = j := by omega
      refine ⟨Nat.le_of_lt (List.getElem?_eq_some_iff.1 hj).1, fun i y hi hy => ?_, fun y hy => ?_⟩
      · have := hno i y hi hy
        omega
      · rw [hj] at hy
        injection hy with hy
        omega
theorem M.and_one (k : Int) (h0 : 0 ≤ k) (h1 : k ≤ 127) : bits BinOp.and IntKind.i64 k 1 = k % 2 := by
  have := bits_mask .i64 63 (by decide) (fun n h0 h1 => by rw [IntKind.wrap_i64]; omega) 1 (by decide) k h0 (by omega)
  simpa using this
theorem cmirrors_any (k : Int) (rev : Bool) (w : World) (h0 : 0 ≤ k) (h1 : k ≤ 127) :
    Calls Try.prog 16 #[.int .i64 k, .bool rev] w fun r w' => r = .returned (.bool (decide (k % 2 = 1) != rev)) ∧ w = w' := by
  have ha := M.and_one k h0 h1
  obtain ⟨p, hp⟩ : ∃ p : Int, k % 2 = p := ⟨_, rfl⟩
  rw [hp] at ha
  rw [hp]
  have HP := Lib.hid hp
  rcases (show p = 0 ∨ p = 1 by omega) with rfl | rfl
  all_goals
    cases rev
    all_goals
      clear hp
      go_enter Try.func16, Try.ntmps16
      go_wp2_with fail
      go_ret
      exact ⟨rfl, rfl⟩
end Go.Proofs.Ytahjkndphkpieaa
