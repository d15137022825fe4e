/- The contracts of ucd's lines and of the function that it makes, over the translation. Conditions: the slice reads as a list of bytes below a block; the variable MaxLen of the library holds some number; each round goes on or panics. -/
import Derived.Test.YtjbpjnnflcmmhaaGreatDoorCounted
import Derived.Test.YtjbpjnnflcmmhaaGreatDoorRound
import Derived.RangeFuncNested
import Derived.RangeFuncBound
import Derived.RangeFuncCalls
import Derived.RangeFuncLeaves
import Derived.Shelf.Abstract
import Derived.Shelf.RegionOpen
import Derived.OwnWalkIn
import Derived.TacticsInMore
import Derived.LoopNIn
import Derived.LoopIn
namespace Go.Proofs.YtjbpjnnflcmmhaaGreatDoor
open Go.RowKit

theorem cutB_miss (A : Option Addr) (cap : Nat) (l : List UInt8) (B : Addr) (w : World) (b : Nat) (hr : RdB w b A l) (hs : w.cell? B = some (.int .u8 10)) (hm : MaxOk w) (hc : l.length ≤ cap) (hp : A = none → cap = 0) (hl : l.length < 4294967281) (h : Lib.index l [10] = -1) :
    Calls Tryz.prog 21 #[.slice A l.length cap, .slice (some B) 1 1] w fun e w' => e = .returned (.tuple #[.slice A l.length cap, .slice none 0 0, .bool false]) ∧ Below w.heap.size w w' := by
  obtain ⟨m, hm⟩ := hm
  have := Any.bytes_Cut_all Tryz.laysT4 A (some B) l.length cap 1 1 (ints l) [10] m w (ints_length l) rfl (ints_range l) (by intro y hy; simp at hy; subst hy; decide) hr.bytesIn
    (Lib.BytesIn.of_cells fun i hi => by
      have h0 : i = 0 := by omega
      rw [h0, show B.add 0 = B by simp [Addr.add]]; exact hs) hp hc hl (by decide) hm
  rw [ints_bytes, show Lib.bytesOf [10] = [10] from rfl, h] at this
  refine this.mono fun e w' ⟨he, n, hw⟩ => ⟨he, by subst hw; exact below_drewN (Below.refl _ _) n⟩
theorem cutB_hit (A : Option Addr) (cap : Nat) (l : List UInt8) (B : Addr) (w : World) (b i : Nat) (hr : RdB w b A l) (hs : w.cell? B = some (.int .u8 10)) (hm : MaxOk w) (hc : l.length ≤ cap) (hp : A = none → cap = 0) (hl : l.length < 4294967281) (h : Lib.index l [10] = i) :
    Calls Tryz.prog 21 #[.slice A l.length cap, .slice (some B) 1 1] w fun e w' => e = .returned (.tuple #[.slice A i cap, .slice (if cap = i + 1 then A else A.map (fun x => x.add (i + 1))) (l.length - (i + 1)) (cap - (i + 1)), .bool true]) ∧ Below w.heap.size w w' := by
  obtain ⟨m, hm⟩ := hm
  have := Any.bytes_Cut_all Tryz.laysT4 A (some B) l.length cap 1 1 (ints l) [10] m w (ints_length l) rfl (ints_range l) (by intro y hy; simp at hy; subst hy; decide) hr.bytesIn
    (Lib.BytesIn.of_cells fun i hi => by
      have h0 : i = 0 := by omega
      rw [h0, show B.add 0 = B by simp [Addr.add]]; exact hs) hp hc hl (by decide) hm
  rw [ints_bytes, show Lib.bytesOf [10] = [10] from rfl, h] at this
  refine this.mono fun e w' ⟨he, n, hw⟩ => ⟨?_, by subst hw; exact below_drewN (Below.refl _ _) n⟩
  rw [he]
  unfold Lib.cutV
  rw [if_pos (by omega)]
  simp [Lib.fromV]

def lenOf : Value → Nat
  | .slice _ n _ => n
  | _ => 0
def boolN : Value → Nat
  | .bool true => 1
  | _ => 0

set_option maxHeartbeats 2000000 in
theorem lines1_in (n l Bn n₀ : Nat) (A : Option Addr) (cap : Nat) (txt : List UInt8) (J : List (List UInt8) → World → Prop) (Jp : World → Prop)
    (hJ : ∀ pre W W', J pre W → Below W.heap.size W W' → J pre W')
    (hY : ∀ pre x W, J pre W → pre ++ [x] <+: M.parts 10 txt → YieldAt Fence.wide n Tryz.prog l #[.string (M.bytes (M.counted x))] W fun e W' =>
      (e = .returned (.bool true) ∧ J (pre ++ [x]) W' ∧ Below n₀ W W') ∨ (e = .panicked ucdPanic ∧ Jp W'))
    (W : World) (hBn : W.cell? ⟨Bn, 0, none⟩ = some (.slice A txt.length cap)) (hr : RdB W n₀ A txt) (hn : n₀ ≤ W.heap.size) (hm : MaxOk W) (hg : 0 < n₀) (hc : txt.length ≤ cap) (hx : cap ≤ maxLen) (hp : A = none → cap = 0) (hs : txt.length < 4294967281) (h0 : J [] W) :
    CallsIn Fence.wide (n + 1) Tryz.prog 20 #[.func (.yield l) #[] #[], .pointer (some ⟨Bn, 0, none⟩)] W fun e W' => ((∃ v, e = .returned v) ∧ J (M.parts 10 txt) W') ∨ (e = .panicked ucdPanic ∧ Jp W') := by
  have HJ := Lib.hid hJ
  have HY := Lib.hid hY
  have HR := Lib.hid hr
  have HM := Lib.hid hm
  have HP := Lib.hid hp
  have H0 := Lib.hid h0
  clear hJ hY hr hm hp h0
  refine callsIn_of_wp Tryz.func20 rfl trivial ?_ rfl
  simp only [Tryz.ntmps20, List.size_toArray, List.length_cons, List.length_nil, Nat.reduceAdd, Nat.reduceSub, Array.replicate_succ, Array.replicate_zero, List.push_toArray, List.append_toArray, List.nil_append, List.cons_append]
  gi_wp2
  gi_loopw [3, 4] (fun v b wr => (∃ pre rest A' cap', v = .slice A' (List.length rest) cap' ∧ b = .bool true ∧ M.parts 10 txt = pre ++ M.parts 10 rest ∧ RdB wr n₀ A' rest ∧ rest.length ≤ cap' ∧ cap' ≤ maxLen ∧ (A' = none → cap' = 0) ∧ rest.length < 4294967281 ∧ J pre wr ∧ Below n₀ W wr) ∨ (b = .bool false ∧ J (M.parts 10 txt) wr))
    (fun v b _ => lenOf v + boolN b)
  case atStart => exact .inl ⟨[], txt, A, cap, rfl, rfl, rfl, HR.out, hc, hx, HP.out, hs, H0.out, Below.refl _ _⟩
  case round =>
    rcases hrel with ⟨pre, rest, A', cap', rfl, rfl, hx', hr', hc', hm', hp', hl', hj', hb'⟩ | ⟨rfl, hj'⟩
    · have HX := Lib.hid hx'
      have HR' := Lib.hid hr'
      have HP' := Lib.hid hp'
      have HJ' := Lib.hid hj'
      have HB' := Lib.hid hb'
      have hnr : n₀ ≤ wr.heap.size := Nat.le_trans hn hb'.size
      clear hx' hr' hp' hj' hb'
      rcases M.index_byte rest 10 with ⟨hi, hn10⟩ | ⟨p, q, hpq, hn10, hi⟩
      · have HI := Lib.hid hi
        have HN := Lib.hid hn10
        clear hi hn10
        gi_wp2_with fail
        refine ⟨trivial, ?_⟩
        refine (callsIn_wide.2 (cutB_miss A' cap' rest ⟨wr.heap.size, 0, none⟩ _ n₀ (HR'.out.below ((Below.refl _ _).alloc hnr _)) (by simp) ((HM.out.below HB'.out hg).next ((Below.refl _ _).alloc (Nat.le_refl _) _)) hc' HP'.out hl' HI.out)).mono ?_
        rintro e w2 ⟨rfl, hb2⟩
        have hb02 : Below wr.heap.size wr w2 := ((Below.refl _ _).alloc (Nat.le_refl _) _).trans (hb2.mono (by simp))
        have HB2 := Lib.hid hb02
        have hz2 := hb02.size
        clear hb2 hb02
        gi_wp2_with fail
        refine ⟨trivial, ?_⟩
        refine (callsIn_wide.2 (counted_any A' cap' rest w2 ((HR'.out.below (HB2.out.mono hnr)).more (by omega)) hc' hm' HP'.out)).mono ?_
        rintro e w3 ⟨rfl, hb3⟩
        have HB3 := Lib.hid (HB2.out.trans (hb3.mono hz2))
        have hz3 := Nat.le_trans hz2 hb3.size
        clear hb3
        have hparts : M.parts 10 txt = pre ++ [rest] := by rw [HX.out, M.parts_free HN.out]
        obtain ⟨fn, tm, asg, bdy, hy, hR⟩ := HY.out pre rest w3 (HJ.out _ _ _ HJ'.out HB3.out) (by rw [hparts]; exact List.prefix_refl _)
        have HPT := Lib.hid hparts
        have HRD := Lib.hid hR
        clear hparts hR
        gi_wp2_with fail
        refine HRD.out.mono ?_
        rintro e w4 (⟨rfl, hj4, hb4⟩ | ⟨rfl, hjp⟩)
        · have HJ4 := Lib.hid hj4
          clear hj4 hy
          gi_wp2
          go_roundw
          case rel => exact .inr ⟨rfl, by rw [HPT.out]; exact HJ4.out⟩
          case measure => simp [lenOf, boolN]
        · have HJP := Lib.hid hjp
          clear hjp hy
          gi_wp2
          exact ⟨rfl, .inr ⟨rfl, HJP.out⟩⟩
      · have HI := Lib.hid hi
        have HN := Lib.hid hn10
        have HPQ := Lib.hid hpq
        have hlen : rest.length = p.length + (q.length + 1) := by rw [hpq]; simp
        have hq : rest.drop (p.length + 1) = q := by rw [hpq]; simp
        have hpt : rest.take p.length = p := by rw [hpq]; simp
        have hrq := HR'.out.cut (n := p.length + 1) (cap := cap') hc'
        rw [hq] at hrq
        have hrp := HR'.out.take p.length
        rw [hpt] at hrp
        have HRQ := Lib.hid hrq
        have HRP := Lib.hid hrp
        have HL := Lib.hid hlen
        have hll : p.length + (q.length + 1) ≤ rest.length := by omega
        have hll2 : rest.length ≤ p.length + (q.length + 1) := by omega
        obtain ⟨Aq, hAq⟩ : ∃ X, (if cap' = p.length + 1 then A' else A'.map (fun x => x.add (p.length + 1))) = X := ⟨_, rfl⟩
        have HAQ := Lib.hid hAq
        have hql : rest.length - (p.length + 1) = q.length := by omega
        have HCUT := Lib.hid (cutB_hit A' cap' rest ⟨wr.heap.size, 0, none⟩ (wr.alloc (.cells #[.int .u8 10] 5)) n₀ p.length (HR'.out.below ((Below.refl _ _).alloc hnr _)) (by simp) ((HM.out.below HB'.out hg).next ((Below.refl _ _).alloc (Nat.le_refl _) _)) hc' HP'.out hl' HI.out)
        rw [hAq, hql] at HCUT
        rw [hAq] at HRQ
        clear hi hn10 hpq hlen hq hpt hrq hrp hAq hql
        gi_wp2_with fail
        refine ⟨trivial, ?_⟩
        refine (callsIn_wide.2 HCUT.out).mono ?_
        rintro e w2 ⟨rfl, hb2⟩
        have hb02 : Below wr.heap.size wr w2 := ((Below.refl _ _).alloc (Nat.le_refl _) _).trans (hb2.mono (by simp))
        have HB2 := Lib.hid hb02
        have hz2 := hb02.size
        clear hb2 hb02 HCUT
        gi_wp2_with fail
        refine ⟨trivial, ?_⟩
        refine (callsIn_wide.2 (counted_any A' cap' p w2 ((HRP.out.below (HB2.out.mono hnr)).more (by omega)) (by omega) hm' HP'.out)).mono ?_
        rintro e w3 ⟨rfl, hb3⟩
        have HB3 := Lib.hid (HB2.out.trans (hb3.mono hz2))
        have hz3 := Nat.le_trans hz2 hb3.size
        clear hb3
        have hparts : M.parts 10 txt = (pre ++ [p]) ++ M.parts 10 q := by rw [HX.out, HPQ.out, M.parts_at q HN.out]; simp
        obtain ⟨fn, tm, asg, bdy, hy, hR⟩ := HY.out pre p w3 (HJ.out _ _ _ HJ'.out HB3.out) (by rw [hparts]; exact List.prefix_append _ _)
        have HPT := Lib.hid hparts
        have HRD := Lib.hid hR
        clear hparts hR
        gi_wp2_with fail
        refine HRD.out.mono ?_
        rintro e w4 (⟨rfl, hj4, hb4⟩ | ⟨rfl, hjp⟩)
        · have HJ4 := Lib.hid hj4
          have HB4 := Lib.hid (((HB3.out.mono hnr).trans hb4))
          clear hj4 hy hb4
          gi_wp2
          go_roundw
          case rel => exact .inl ⟨pre ++ [p], q, Aq, cap' - (p.length + 1), rfl, rfl, HPT.out, HRQ.out.below HB4.out, by omega, by unfold maxLen at hm' ⊢; omega, fun e => by
            rw [← HAQ.out] at e
            split at e
            · omega
            · rw [Option.map_eq_none_iff] at e
              have := HP'.out e
              omega, by omega, HJ4.out, HB'.out.trans HB4.out⟩
          case measure => simp [lenOf, boolN]; omega
        · have HJP := Lib.hid hjp
          clear hjp hy
          gi_wp2
          exact ⟨rfl, .inr ⟨rfl, HJP.out⟩⟩
    · have HJ' := Lib.hid hj'
      clear hj'
      gi_wp2
      go_end0
      exact .inl ⟨⟨_, rfl⟩, HJ'.out⟩
end Go.Proofs.YtjbpjnnflcmmhaaGreatDoor
