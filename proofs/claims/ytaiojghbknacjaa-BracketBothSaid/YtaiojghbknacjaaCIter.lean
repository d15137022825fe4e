/- The contracts of slices.Backward and of the function that it makes, at whole numbers and at classes: what the slice holds comes from its end on, each with its place. Conditions: the slice reads as a list of at most 2^44, and a round that goes on keeps what lay below. -/
import Derived.Test.YtaiojghbknacjaaRRes
import Derived.Test.YtaiojghbknacjaaRange
import Derived.Shelf.Abstract
import Derived.OwnWalkIn
import Derived.TacticsInMore
import Derived.LoopNIn
import Derived.LoopIn
namespace Go.Proofs.Ytaiojghbknacjaa
open Go.RowKit Go.Shelf
attribute [local go_sem] Oper.semAt_some

/-- The first k of a list, from the last of them on, each with its place. -/
def M.bks (l : List Int) : Nat → List (Nat × Int)
  | 0 => []
  | k + 1 => (k, l.getD k 0) :: M.bks l k
theorem M.bks_len (l : List Int) (k : Nat) : (M.bks l k).length = k := by
  induction k with
  | zero => rfl
  | succ k ih => simp [M.bks, ih]
/-- No block is the iterator's own to turn. -/
def mineN (_ : Obj) : Bool := false
theorem mineN_not (o : Obj) (_ : o.isCells = false) : mineN o = false := rfl
theorem keeps_below {n : Nat} {w : World} (hn : n ≤ w.heap.size) (W : World) (l : Nat) (o o' : Obj) (hl : w.heap.size ≤ l) (h : W.heap[l]? = some o) (ho : o.isCells = false) : Below n W (W.putObj l o') := (still_put (mine := mineN) (B := n) o' h ho (by omega)).below

set_option maxRecDepth 100000 in
set_option maxHeartbeats 4000000 in
theorem iback1_in (n l b n₀ : Nat) (A : Option Addr) (ca N : Nat) (js : List Int) (J Jx : List (Nat × Int) → World → Prop) (hn : 1 ≤ n) (W : World)
    (hJ : ∀ s X Y, J s X → Still mineN W.heap.size X Y → J s Y)
    (hY : ∀ pre x X, J pre X → pre.length < N → (∃ k, k < N ∧ (pre ++ [x]) ++ M.bks js k = M.bks js N) → YieldAt Fence.wide (n - 1) Try.prog l #[.int .i64 (x : Nat × Int).1, .int .i64 x.2] X fun e Y =>
      (e = .returned (.bool true) ∧ J (pre ++ [x]) Y ∧ Below n₀ X Y) ∨ (e = .returned (.bool false) ∧ Jx (pre ++ [x]) Y))
    (hb : W.cell? ⟨b, 0, none⟩ = some (.slice A N ca)) (hbl : b < n₀) (hr : RdS .i64 W n₀ A js) (hN : js.length = N) (hl : N ≤ 17592186044416) (hn₀ : n₀ ≤ W.heap.size) (h0 : J [] W) :
    CallsIn Fence.wide n Try.prog 27 #[.func (.yield l) #[] #[], .pointer (some ⟨b, 0, none⟩)] W fun e W' => (∃ v, e = .returned v) ∧
      ((∃ xs, xs = M.bks js N ∧ J xs W') ∨ (∃ pre, (∃ k, k < N ∧ pre ++ M.bks js k = M.bks js N) ∧ Jx pre W')) := by
  have HY := Lib.hid hY
  have HJ := Lib.hid hJ
  have HR := Lib.hid hr
  have HB := Lib.hid hb
  have HBL := Lib.hid hbl
  have HN := Lib.hid hN
  have H0 := Lib.hid h0
  have HN0 := Lib.hid hn₀
  have hl1 : (N : Int) ≤ 17592186044416 := by omega
  have hn0 : (0 : Int) ≤ N := by omega
  clear hY hJ hr hb hN h0 hbl hn₀ hl
  refine callsIn_of_wp Try.func27 rfl trivial ?_ rfl
  simp only [Try.ntmps27, List.size_toArray, List.length_cons, List.length_nil, Nat.reduceAdd, Nat.reduceSub, Array.replicate_succ, Array.replicate_zero, List.push_toArray, List.append_toArray, List.nil_append, List.cons_append]
  have hb0 := HB.out
  gi_wp2_with fail
  clear hb0
  gi_loopw [3] (fun ix wr => ∃ (k : Nat) (pre : List (Nat × Int)), ix = .int .i64 ((k : Int) - 1) ∧ k ≤ N ∧ pre ++ M.bks js k = M.bks js N ∧ J pre wr ∧ Below n₀ W wr) (fun ix _ => (intOf ix + 1).toNat)
  case atStart => exact ⟨N, [], rfl, Nat.le_refl _, rfl, H0.out, Below.refl _ _⟩
  case round =>
    obtain ⟨k, pre, rfl, hk, hpre, hj, hbel⟩ := hrel
    have HP := Lib.hid hpre
    have HJP := Lib.hid hj
    have HW := Lib.hid hbel
    have hcb := (hbel.cell (p := ⟨b, 0, none⟩) HBL.out).trans HB.out
    clear hpre hj
    cases k with
    | zero =>
      have z0 : ¬ (0 : Int) ≤ ((0 : Nat) : Int) - 1 := by omega
      clear hbel hcb
      gi_wp2_with fail
      go_end0
      have e := HP.out
      rw [show M.bks js 0 = [] from rfl, List.append_nil] at e
      rw [← e]
      exact ⟨⟨_, rfl⟩, .inl HJP.out⟩
    | succ k =>
      obtain ⟨ad, x, rfl, hcx, hx, -⟩ := rd_at HR.out hbel (by rw [HN.out]; omega : k < js.length)
      have k0 : ((k + 1 : Nat) : Int) - 1 = k := by omega
      have k1 : (0 : Int) ≤ k := by omega
      have k2 : (k : Int) < N := by omega
      have hlen : pre.length < N := by
        have := congrArg List.length HP.out
        rw [List.length_append, M.bks_len, M.bks_len] at this
        omega
      have hbk : (pre ++ [(k, x)]) ++ M.bks js k = M.bks js N := by
        rw [List.append_assoc, ← HP.out]
        congr 1
        show _ = (k, js.getD k 0) :: M.bks js k
        rw [List.getD_eq_getElem?_getD, hx]
        rfl
      have HBK := Lib.hid hbk
      obtain ⟨fn, tmps, assign, body, hy, hR⟩ := HY.out pre (k, x) wr HJP.out hlen ⟨k, by omega, hbk⟩
      dsimp only at hy
      have HRR := Lib.hid hR
      rw [k0]
      clear hbel hx hbk hlen k0 hR
      gi_wp2_with fail
      refine HRR.out.mono ?_
      rintro e W' (⟨rfl, hJ', hk'⟩ | ⟨rfl, hJx'⟩)
      · have HJ' := Lib.hid hJ'
        have HK' := Lib.hid hk'
        clear hJ' hk' hcb hcx
        gi_wp2_with fail
        go_roundw
        case rel => exact ⟨k, pre ++ [(k, x)], by go_num, by omega, HBK.out, HJ'.out, HW.out.trans HK'.out⟩
        case measure => simp [intOf]
      · have HJ' := Lib.hid hJx'
        clear hJx' hcb hcx
        gi_wp2_with fail
        refine bodyPost_ret (results_none rfl _ _ _) rfl ?_
        exact ⟨⟨_, rfl⟩, .inr ⟨pre ++ [(k, x)], ⟨k, by omega, HBK.out⟩, HJ'.out⟩⟩
theorem iback_gives (n b n₀ : Nat) (A : Option Addr) (ca N : Nat) (js : List Int) (w : World) (hn : 1 ≤ n) (hb : w.cell? ⟨b, 0, none⟩ = some (.slice A N ca)) (hbl : b < n₀) (hr : RdS .i64 w n₀ A js) (hN : js.length = N) (hl : N ≤ 17592186044416) (hn₀ : n₀ ≤ w.heap.size) :
    Gives mineN n Try.prog 27 #[.pointer (some ⟨b, 0, none⟩)] (fun x : Nat × Int => #[.int .i64 x.1, .int .i64 x.2]) (Below n₀) (fun xs => xs = M.bks js N) (fun pre => ∃ k, k < N ∧ pre ++ M.bks js k = M.bks js N) (fun pre => ∃ k, k < N ∧ pre ++ M.bks js k = M.bks js N) N w :=
  fun l J Jx W hB hJ _ hY h0 => iback1_in n l b n₀ A ca N js J Jx hn W hJ hY ((hB.cell (p := ⟨b, 0, none⟩) (by show b < w.heap.size; omega)).trans hb) hbl (hr.keep fun _ hp => hB.cell (by omega)) hN hl (Nat.le_trans hn₀ hB.size) h0
theorem ibackward_any (A : Option Addr) (ca n : Nat) (w : World) : Calls Try.prog 17 #[.slice A n ca] w fun r w' => r = .returned (.func (.func 27) #[] #[.pointer (some ⟨w.heap.size, 0, none⟩)]) ∧ w' = w.alloc (.cells #[.slice A n ca] 44) := by
  go_enter Try.func17, Try.ntmps17
  go_wp2_with fail
  go_ret
  exact ⟨rfl, rfl⟩

set_option maxRecDepth 100000 in
set_option maxHeartbeats 4000000 in
theorem cback1_in (n l b n₀ : Nat) (A : Option Addr) (ca N : Nat) (js : List Int) (J Jx : List (Nat × Int) → World → Prop) (hn : 1 ≤ n) (W : World)
    (hJ : ∀ s X Y, J s X → Still mineN W.heap.size X Y → J s Y)
    (hY : ∀ pre x X, J pre X → pre.length < N → (∃ k, k < N ∧ (pre ++ [x]) ++ M.bks js k = M.bks js N) → YieldAt Fence.wide (n - 1) Try.prog l #[.int .i64 (x : Nat × Int).1, .int .i64 x.2] X fun e Y =>
      (e = .returned (.bool true) ∧ J (pre ++ [x]) Y ∧ Below n₀ X Y) ∨ (e = .returned (.bool false) ∧ Jx (pre ++ [x]) Y))
    (hb : W.cell? ⟨b, 0, none⟩ = some (.slice A N ca)) (hbl : b < n₀) (hr : RdS .i64 W n₀ A js) (hN : js.length = N) (hl : N ≤ 17592186044416) (hn₀ : n₀ ≤ W.heap.size) (h0 : J [] W) :
    CallsIn Fence.wide n Try.prog 50 #[.func (.yield l) #[] #[], .pointer (some ⟨b, 0, none⟩)] W fun e W' => (∃ v, e = .returned v) ∧
      ((∃ xs, xs = M.bks js N ∧ J xs W') ∨ (∃ pre, (∃ k, k < N ∧ pre ++ M.bks js k = M.bks js N) ∧ Jx pre W')) := by
  have HY := Lib.hid hY
  have HJ := Lib.hid hJ
  have HR := Lib.hid hr
  have HB := Lib.hid hb
  have HBL := Lib.hid hbl
  have HN := Lib.hid hN
  have H0 := Lib.hid h0
  have HN0 := Lib.hid hn₀
  have hl1 : (N : Int) ≤ 17592186044416 := by omega
  have hn0 : (0 : Int) ≤ N := by omega
  clear hY hJ hr hb hN h0 hbl hn₀ hl
  refine callsIn_of_wp Try.func50 rfl trivial ?_ rfl
  simp only [Try.ntmps50, List.size_toArray, List.length_cons, List.length_nil, Nat.reduceAdd, Nat.reduceSub, Array.replicate_succ, Array.replicate_zero, List.push_toArray, List.append_toArray, List.nil_append, List.cons_append]
  have hb0 := HB.out
  gi_wp2_with fail
  clear hb0
  gi_loopw [3] (fun ix wr => ∃ (k : Nat) (pre : List (Nat × Int)), ix = .int .i64 ((k : Int) - 1) ∧ k ≤ N ∧ pre ++ M.bks js k = M.bks js N ∧ J pre wr ∧ Below n₀ W wr) (fun ix _ => (intOf ix + 1).toNat)
  case atStart => exact ⟨N, [], rfl, Nat.le_refl _, rfl, H0.out, Below.refl _ _⟩
  case round =>
    obtain ⟨k, pre, rfl, hk, hpre, hj, hbel⟩ := hrel
    have HP := Lib.hid hpre
    have HJP := Lib.hid hj
    have HW := Lib.hid hbel
    have hcb := (hbel.cell (p := ⟨b, 0, none⟩) HBL.out).trans HB.out
    clear hpre hj
    cases k with
    | zero =>
      have z0 : ¬ (0 : Int) ≤ ((0 : Nat) : Int) - 1 := by omega
      clear hbel hcb
      gi_wp2_with fail
      go_end0
      have e := HP.out
      rw [show M.bks js 0 = [] from rfl, List.append_nil] at e
      rw [← e]
      exact ⟨⟨_, rfl⟩, .inl HJP.out⟩
    | succ k =>
      obtain ⟨ad, x, rfl, hcx, hx, -⟩ := rd_at HR.out hbel (by rw [HN.out]; omega : k < js.length)
      have k0 : ((k + 1 : Nat) : Int) - 1 = k := by omega
      have k1 : (0 : Int) ≤ k := by omega
      have k2 : (k : Int) < N := by omega
      have hlen : pre.length < N := by
        have := congrArg List.length HP.out
        rw [List.length_append, M.bks_len, M.bks_len] at this
        omega
      have hbk : (pre ++ [(k, x)]) ++ M.bks js k = M.bks js N := by
        rw [List.append_assoc, ← HP.out]
        congr 1
        show _ = (k, js.getD k 0) :: M.bks js k
        rw [List.getD_eq_getElem?_getD, hx]
        rfl
      have HBK := Lib.hid hbk
      obtain ⟨fn, tmps, assign, body, hy, hR⟩ := HY.out pre (k, x) wr HJP.out hlen ⟨k, by omega, hbk⟩
      dsimp only at hy
      have HRR := Lib.hid hR
      rw [k0]
      clear hbel hx hbk hlen k0 hR
      gi_wp2_with fail
      refine HRR.out.mono ?_
      rintro e W' (⟨rfl, hJ', hk'⟩ | ⟨rfl, hJx'⟩)
      · have HJ' := Lib.hid hJ'
        have HK' := Lib.hid hk'
        clear hJ' hk' hcb hcx
        gi_wp2_with fail
        go_roundw
        case rel => exact ⟨k, pre ++ [(k, x)], by go_num, by omega, HBK.out, HJ'.out, HW.out.trans HK'.out⟩
        case measure => simp [intOf]
      · have HJ' := Lib.hid hJx'
        clear hJx' hcb hcx
        gi_wp2_with fail
        refine bodyPost_ret (results_none rfl _ _ _) rfl ?_
        exact ⟨⟨_, rfl⟩, .inr ⟨pre ++ [(k, x)], ⟨k, by omega, HBK.out⟩, HJ'.out⟩⟩
theorem cback_gives (n b n₀ : Nat) (A : Option Addr) (ca N : Nat) (js : List Int) (w : World) (hn : 1 ≤ n) (hb : w.cell? ⟨b, 0, none⟩ = some (.slice A N ca)) (hbl : b < n₀) (hr : RdS .i64 w n₀ A js) (hN : js.length = N) (hl : N ≤ 17592186044416) (hn₀ : n₀ ≤ w.heap.size) :
    Gives mineN n Try.prog 50 #[.pointer (some ⟨b, 0, none⟩)] (fun x : Nat × Int => #[.int .i64 x.1, .int .i64 x.2]) (Below n₀) (fun xs => xs = M.bks js N) (fun pre => ∃ k, k < N ∧ pre ++ M.bks js k = M.bks js N) (fun pre => ∃ k, k < N ∧ pre ++ M.bks js k = M.bks js N) N w :=
  fun l J Jx W hB hJ _ hY h0 => cback1_in n l b n₀ A ca N js J Jx hn W hJ hY ((hB.cell (p := ⟨b, 0, none⟩) (by show b < w.heap.size; omega)).trans hb) hbl (hr.keep fun _ hp => hB.cell (by omega)) hN hl (Nat.le_trans hn₀ hB.size) h0
theorem cbackward_any (A : Option Addr) (ca n : Nat) (w : World) : Calls Try.prog 44 #[.slice A n ca] w fun r w' => r = .returned (.func (.func 50) #[] #[.pointer (some ⟨w.heap.size, 0, none⟩)]) ∧ w' = w.alloc (.cells #[.slice A n ca] 22) := by
  go_enter Try.func44, Try.ntmps44
  go_wp2_with fail
  go_ret
  exact ⟨rfl, rfl⟩
end Go.Proofs.Ytaiojghbknacjaa
