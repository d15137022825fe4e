/- The contracts of cluster's breaks and of the function that it makes, over the translation: the places of breaks come one by one. Conditions: the slice reads as a list of joins, at most a thousand long, within its capacity; each round keeps what lay below a block, and the slice's box. -/
import Derived.Test.YtpnbkakilmigeaaJoined
import Derived.Test.YtpnbkakilmigeaaMathEach
import Derived.RangeFuncNested
import Derived.RangeFuncBound
import Derived.RangeFuncCalls
import Derived.RangeFuncLeaves
import Derived.Shelf.Abstract
import Derived.Shelf.RegionOpen
import Derived.OwnWalkIn
import Derived.TacticsInMore
import Derived.LoopNIn
import Derived.LoopIn
namespace Go.Proofs.Ytpnbkakilmigeaa
open Go.RowKit Go.Shelf
attribute [local go_sem] Oper.semAt_some

/-- What a round keeps: what lay below a block, and the slice's box. -/
def Keeps (n₀ Bs : Nat) (W W' : World) : Prop := Below n₀ W W' ∧ ∀ v, Boxed W Bs 22 v → Boxed W' Bs 22 v
theorem Keeps.refl (n₀ Bs : Nat) (W : World) : Keeps n₀ Bs W W := ⟨Below.refl _ _, fun _ h => h⟩
theorem Keeps.trans {n₀ Bs : Nat} {A B C : World} (h : Keeps n₀ Bs A B) (k : Keeps n₀ Bs B C) : Keeps n₀ Bs A C := ⟨h.1.trans k.1, fun v hv => k.2 v (h.2 v hv)⟩

/-- The places from a break on tell alone. -/
theorem M.window {l : List Int} {s k : Nat} {b : Int} (hs : s < k) (hk : l[k]? = some b) (hbrk : M.brk l s = true) : M.cut ((l.drop s).take (k - s)).reverse b = M.brk l k := by
  have hkl := (List.getElem?_eq_some_iff.1 hk).1
  have h1 := M.brk_drop (l := l) (i := s) (k := k - s) (by omega) hbrk (by omega)
  rw [show s + (k - s) = k by omega] at h1
  rw [h1, M.brk_in (b := b) (by rw [List.getElem?_drop, show s + (k - s) = k by omega]; exact hk)]
  rfl

set_option maxRecDepth 100000 in
set_option maxHeartbeats 4000000 in
theorem breaks1_in (n l Bs n₀ : Nat) (A : Option Addr) (ca N : Nat) (js : List Int) (J Jx : List Int → World → Prop) (hn : 1 ≤ n)
    (hY : ∀ pre x W, J pre W → pre.length < N → YieldAt Fence.wide (n - 1) Try.prog l #[.int .i64 x] W fun e W' =>
      (e = .returned (.bool true) ∧ J (pre ++ [x]) W' ∧ Keeps n₀ Bs W W') ∨ (e = .returned (.bool false) ∧ Jx (pre ++ [x]) W'))
    (W : World) (hBs : Boxed W Bs 22 (.slice A N ca)) (hr : RdS .i64 W n₀ A js) (hN : js.length = N) (hl : N ≤ 1000) (hca : N ≤ ca) (hn₀ : n₀ ≤ W.heap.size) (h0 : J [] W) :
    CallsIn Fence.wide n Try.prog 23 #[.func (.yield l) #[] #[], .pointer (some ⟨Bs, 0, none⟩)] W fun e W' => (∃ v, e = .returned v) ∧
      ((∃ xs, xs = M.startsTo js N ∧ J xs W') ∨ (∃ pre : List Int, True ∧ Jx pre W')) := by
  have HY := Lib.hid hY
  have HR := Lib.hid hr
  have HB := Lib.hid hBs
  have HN := Lib.hid hN
  have H0 := Lib.hid h0
  have hl1 : (N : Int) ≤ 1000 := by omega
  have hc1 : (N : Int) ≤ ca := by omega
  have hcell := hBs.cell
  clear hY hr hBs hN h0
  refine callsIn_of_wp Try.func23 rfl trivial ?_ rfl
  simp only [Try.ntmps23, List.size_toArray, List.length_cons, List.length_nil, Nat.reduceAdd, Nat.reduceSub, Array.replicate_succ, Array.replicate_zero, List.push_toArray, List.append_toArray, List.nil_append, List.cons_append]
  gi_wp2
  gi_loopw [3, 8] (fun st ix wr => ∃ s k : Nat, st = .int .i64 s ∧ ix = .int .i64 k ∧ k ≤ N ∧ (s < k ∧ M.brk js s = true ∨ k = 0) ∧ J (M.startsTo js k) wr ∧ Keeps n₀ Bs W wr)
    (fun _ ix _ => N - (intOf ix).toNat)
  case atStart => exact ⟨0, 0, rfl, rfl, Nat.zero_le _, .inr rfl, H0.out, Keeps.refl _ _ _⟩
  case round =>
    obtain ⟨s, k, rfl, rfl, hk, hs, hj, hkp⟩ := hrel
    have hcw := (hkp.2 _ HB.out).cell
    have HS := Lib.hid hs
    have HJ := Lib.hid hj
    have HK := Lib.hid hkp
    have hn := HN.out
    have k0 : (0 : Int) ≤ k := by omega
    clear hs hj hkp hcell
    by_cases hlt : k < N
    · have k1 : (k : Int) < N := by omega
      obtain ⟨ad, b, rfl, hcb, hb, hab⟩ := rd_at HR.out HK.out.1 (by omega : k < js.length)
      have hnext : M.startsTo js (k + 1) = if M.brk js k = true then M.startsTo js k ++ [(k : Int)] else M.startsTo js k := rfl
      cases hbr : M.brk js k with
      | true =>
        rw [hbr, if_pos rfl] at hnext
        have HNX := Lib.hid hnext
        have HBR := Lib.hid hbr
        obtain ⟨fn, tmps, assign, body, hy, hR⟩ := HY.out (M.startsTo js k) k wr HJ.out (by have := M.startsTo_len js k; omega)
        have HRD := Lib.hid hR
        rcases Nat.eq_zero_or_pos k with hz | hpos
        · have HZ := Lib.hid hz
          have kz : ¬ (0 : Int) < k := by omega
          clear hz hn hb hab hbr hnext hR HS
          gi_wp2_with fail
          refine ⟨trivial, ?_⟩
          gi_wp2_with fail
          refine HRD.out.mono ?_
          rintro e W3 (⟨rfl, hJ3, hk3⟩ | ⟨rfl, hJx3⟩)
          · have HJ3 := Lib.hid hJ3
            have HK3 := Lib.hid (HK.out.trans hk3)
            clear hJ3 hk3 hy
            gi_wp2
            go_roundw
            case rel => exact ⟨k, k + 1, rfl, by go_num, by omega, .inl ⟨by omega, HBR.out⟩, by rw [HNX.out]; exact HJ3.out, HK3.out⟩
            case measure => simp [intOf]; omega
          · have HJX := Lib.hid hJx3
            clear hJx3 hy
            gi_wp2
            refine bodyPost_ret (results_none rfl _ _ _) rfl ?_
            exact ⟨⟨_, rfl⟩, .inr ⟨_, trivial, HJX.out⟩⟩
        · obtain ⟨hsk, hsb⟩ : s < k ∧ M.brk js s = true := by
            rcases HS.out with h | h
            · exact h
            · omega
          have hwin := M.window hsk hb hsb
          rw [hbr] at hwin
          obtain ⟨a, ha⟩ : ∃ a, ((js.drop s).take (k - s))[k - s - 1]? = some a := ⟨_, List.getElem?_eq_getElem (by simp; omega)⟩
          have HCALL := Lib.hid (joined_any (some (ad.add s)) (ca - s) (k - s) ((js.drop s).take (k - s)) a b wr (((HR.out.below HK.out.1).more (Nat.le_trans hn₀ HK.out.1.size)).drop s |>.take _) (by simp; omega) (by omega) (by omega) (by omega) ha)
          rw [hwin] at HCALL
          have s0 : (0 : Int) ≤ s := by omega
          have s1 : (s : Int) < k := by omega
          have k2 : (0 : Int) < k := by omega
          have k3 : (k : Int) ≤ ca := by omega
          have e1 : ((k : Int) - s).toNat = k - s := by omega
          have e2 : ((ca : Int) - s).toNat = ca - s := by omega
          have hne : (ca == s) = false := by rw [beq_eq_false_iff_ne]; omega
          clear hn hb hab hbr hnext hR HS hwin ha hsb
          gi_wp2_with fail
          refine ⟨trivial, ?_⟩
          refine (callsIn_wide.2 HCALL.out).mono ?_
          rintro e w2 ⟨rfl, rfl⟩
          rw [Bool.not_true]
          gi_wp2_with fail
          refine HRD.out.mono ?_
          rintro e W3 (⟨rfl, hJ3, hk3⟩ | ⟨rfl, hJx3⟩)
          · have HJ3 := Lib.hid hJ3
            have HK3 := Lib.hid (HK.out.trans hk3)
            clear hJ3 hk3 hy
            gi_wp2
            go_roundw
            case rel => exact ⟨k, k + 1, rfl, by go_num, by omega, .inl ⟨by omega, HBR.out⟩, by rw [HNX.out]; exact HJ3.out, HK3.out⟩
            case measure => simp [intOf]; omega
          · have HJX := Lib.hid hJx3
            clear hJx3 hy
            gi_wp2
            refine bodyPost_ret (results_none rfl _ _ _) rfl ?_
            exact ⟨⟨_, rfl⟩, .inr ⟨_, trivial, HJX.out⟩⟩
      | false =>
        rw [hbr, if_neg (by decide)] at hnext
        have HNX := Lib.hid hnext
        have hpos : 0 < k := by
          rcases Nat.eq_zero_or_pos k with hz | hpos
          · subst hz
            rw [M.brk_zero (by intro h; rw [h] at hn; simp at hn; omega)] at hbr
            cases hbr
          · exact hpos
        obtain ⟨hsk, hsb⟩ : s < k ∧ M.brk js s = true := by
          rcases HS.out with h | h
          · exact h
          · omega
        have HSB := Lib.hid hsb
        have hwin := M.window hsk hb hsb
        rw [hbr] at hwin
        obtain ⟨a, ha⟩ : ∃ a, ((js.drop s).take (k - s))[k - s - 1]? = some a := ⟨_, List.getElem?_eq_getElem (by simp; omega)⟩
        have HCALL := Lib.hid (joined_any (some (ad.add s)) (ca - s) (k - s) ((js.drop s).take (k - s)) a b wr (((HR.out.below HK.out.1).more (Nat.le_trans hn₀ HK.out.1.size)).drop s |>.take _) (by simp; omega) (by omega) (by omega) (by omega) ha)
        rw [hwin] at HCALL
        have s0 : (0 : Int) ≤ s := by omega
        have s1 : (s : Int) < k := by omega
        have k2 : (0 : Int) < k := by omega
        have k3 : (k : Int) ≤ ca := by omega
        have e1 : ((k : Int) - s).toNat = k - s := by omega
        have e2 : ((ca : Int) - s).toNat = ca - s := by omega
        have hne : (ca == s) = false := by rw [beq_eq_false_iff_ne]; omega
        clear hn hb hab hbr hnext HS hwin ha hsb
        gi_wp2_with fail
        refine ⟨trivial, ?_⟩
        refine (callsIn_wide.2 HCALL.out).mono ?_
        rintro e w2 ⟨rfl, rfl⟩
        rw [Bool.not_false]
        gi_wp2
        go_roundw
        case rel => exact ⟨s, k + 1, rfl, by go_num, by omega, .inl ⟨by omega, HSB.out⟩, by rw [HNX.out]; exact HJ.out, HK.out⟩
        case measure => simp [intOf]; omega
    · obtain rfl : k = N := by omega
      clear hn
      gi_wp2
      go_end0
      exact ⟨⟨_, rfl⟩, .inl ⟨_, rfl, HJ.out⟩⟩

set_option maxHeartbeats 1000000 in
theorem breaks_any (A : Option Addr) (ca n : Nat) (w : World) :
    Calls Try.prog 15 #[.slice A n ca] w fun e w' => e = .returned (.func (.func 23) #[] #[.pointer (some ⟨w.heap.size, 0, none⟩)]) ∧ w.alloc (.cells #[.slice A n ca] 22) = w' := by
  have hmf : ∀ (fn : Fn) (first cap : Array Value) (w : World), (Instr.makeFunc fn first cap).run Try.prog w = .ok (.func fn first cap) w := fun _ _ _ _ => rfl
  go_enter Try.func15, Try.ntmps15
  go_wp2
  go_ret
  exact ⟨rfl, rfl⟩

theorem breaks_stops (n Bs n₀ : Nat) (A : Option Addr) (ca N : Nat) (js : List Int) (w : World) (hn : 1 ≤ n) (hBs : Boxed w Bs 22 (.slice A N ca)) (hr : RdS .i64 w n₀ A js) (hN : js.length = N) (hl : N ≤ 1000) (hca : N ≤ ca) (hn₀ : n₀ ≤ w.heap.size) :
    SeqStopsK Fence.wide n Try.prog 23 #[.pointer (some ⟨Bs, 0, none⟩)] (fun x : Int => #[Value.int .i64 x]) (Keeps n₀ Bs) (fun xs => xs = M.startsTo js N) (fun _ => True) N w := fun l J Jx W hW _ _ hY h0 =>
  breaks1_in n l Bs n₀ A ca N js J Jx hn hY W ((hW.block Bs hBs.lt).trans hBs) (hr.below (hW.mono hn₀)) hN hl hca (Nat.le_trans hn₀ hW.size) h0
end Go.Proofs.Ytpnbkakilmigeaa
