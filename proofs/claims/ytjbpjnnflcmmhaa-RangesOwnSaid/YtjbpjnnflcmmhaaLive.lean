/- The contract of the statements' live question over the translation: it is true. -/
import Derived.Test.YtjbpjnnflcmmhaaPair
import Derived.Test.YtjbpjnnflcmmhaaShortMath
namespace Go.Proofs.Ytjbpjnnflcmmhaa
open Go.RowKit

def M.nL : ByteArray := ⟨#[76]⟩
def M.nR : ByteArray := ⟨#[82]⟩
def M.l0 : List M.E := [⟨10, 19, M.nR, ⟨#[]⟩⟩, ⟨20, 29, M.nR, ⟨#[]⟩⟩, ⟨40, 40, M.nL, ⟨#[]⟩⟩]
def M.n0 : List ByteArray := [M.nL, M.nR]
def M.p0 : List M.E := [⟨40, 40, ⟨#[48, 48, 50, 57]⟩, ⟨#[111]⟩⟩]
def M.t0 : List M.E := [⟨10, 29, M.nR, ⟨#[]⟩⟩]
theorem M.short0 : M.short M.n0 M.l0 = M.t0 := by
  have h1 : M.idx0 M.n0 M.nR ≠ 0 := by decide
  have e1 : M.l0 = ([] ++ [⟨10, 19, M.nR, ⟨#[]⟩⟩] ++ [⟨20, 29, M.nR, ⟨#[]⟩⟩]) ++ [⟨40, 40, M.nL, ⟨#[]⟩⟩] := rfl
  rw [e1, M.short_snoc, M.short_snoc, M.short_snoc]
  have s1 : M.step M.n0 (M.short M.n0 []) ⟨10, 19, M.nR, ⟨#[]⟩⟩ = [] ++ [⟨10, 19, M.nR, ⟨#[]⟩⟩] := M.step_first h1
  have s2 : M.step M.n0 ([] ++ [⟨10, 19, M.nR, ⟨#[]⟩⟩]) ⟨20, 29, M.nR, ⟨#[]⟩⟩ = [] ++ [M.ext ⟨10, 19, M.nR, ⟨#[]⟩⟩ ⟨20, 29, M.nR, ⟨#[]⟩⟩] := M.step_ext h1 (by decide) rfl
  rw [s1, s2]
  exact M.step_skip (by decide)
theorem M.rises0 : M.Rises M.l0 := by
  refine ⟨by decide, fun j e hj he => ?_⟩
  match j, hj with
  | 0, _ => obtain rfl := Option.some.inj he; exact ⟨by decide, fun f h => by omega⟩
  | 1, _ => obtain rfl := Option.some.inj he; exact ⟨by decide, fun f _ hf => by obtain rfl := Option.some.inj hf; decide⟩
  | 2, _ => obtain rfl := Option.some.inj he; exact ⟨by decide, fun f _ hf => by obtain rfl := Option.some.inj hf; decide⟩
  | n + 3, h => exact absurd h (by simp [M.l0])
theorem M.tab0 : M.TabOk M.l0 M.n0 := by
  refine ⟨⟨by decide, fun j s hj hs => ?_⟩, M.rises0, fun j e hj he => ?_⟩
  · match j, hj with
    | 0, _ => obtain rfl := Option.some.inj hs; exact ⟨by decide, by decide⟩
    | 1, _ => obtain rfl := Option.some.inj hs; exact ⟨by decide, by decide⟩
    | n + 2, h => exact absurd h (by simp [M.n0])
  · match j, hj with
    | 0, _ => obtain rfl := Option.some.inj he; decide
    | 1, _ => obtain rfl := Option.some.inj he; decide
    | 2, _ => obtain rfl := Option.some.inj he; decide
    | n + 3, h => exact absurd h (by simp [M.l0])
theorem M.pair0 : M.PairOk M.p0 := by
  refine ⟨⟨by decide, fun j e hj he => ?_⟩, fun j e hj he => ?_⟩
  · match j, hj with
    | 0, _ => obtain rfl := Option.some.inj he; exact ⟨by decide, fun f h => by omega⟩
    | n + 1, h => exact absurd h (by simp [M.p0])
  · match j, hj with
    | 0, _ => obtain rfl := Option.some.inj he; exact ⟨rfl, by decide⟩
    | n + 1, h => exact absurd h (by simp [M.p0])
theorem M.srt_t0 : M.Srt M.t0 := by
  have h := M.rises0.2.srt.pair
  have g := M.short_good M.n0 M.l0 h.1 h.2
  rw [M.short0] at g
  exact M.Srt.of_pair g.1 g.2.1
theorem M.num9 : M.numAt M.t0 M.n0 9 = 0 := by decide
theorem M.num25 : M.numAt M.t0 M.n0 25 = 1 := by decide
theorem M.num40 : M.numAt M.t0 M.n0 40 = 0 := by decide
theorem M.other40 : M.other (M.find M.p0 40) = .tuple #[.int .i64 41, .string ⟨#[111]⟩, .bool true] := by
  have h1 : M.find M.p0 40 = some ⟨40, 40, ⟨#[48, 48, 50, 57]⟩, ⟨#[111]⟩⟩ := rfl
  have h2 : M.hexInt [48, 48, 50, 57] = 41 := by decide
  rw [h1]
  show Value.tuple #[.int .i64 (M.hexInt [48, 48, 50, 57]), _, _] = _
  rw [h2]
theorem sized_l0 : Sized M.l0 := fun e he => by
  simp [M.l0] at he
  rcases he with rfl | rfl | rfl <;> exact ⟨by decide, by decide⟩
theorem sized_t0 : Sized M.t0 := fun e he => by
  simp [M.t0] at he
  subst he
  exact ⟨by decide, by decide⟩
theorem sized_p0 : Sized M.p0 := fun e he => by
  simp [M.p0] at he
  subst he
  exact ⟨by decide, by decide⟩
theorem sized_n0 : SizedN M.n0 := fun e he => by
  simp [M.n0] at he
  rcases he with rfl | rfl <;> decide

/-- The world in which the live question calls New; and Pair. -/
abbrev W0 (w : World) : World := (w.alloc (.cells #[.int .i64 10, .int .i64 19, .string ⟨#[82]⟩, .string ⟨#[]⟩, .int .i64 20, .int .i64 29, .string ⟨#[82]⟩, .string ⟨#[]⟩, .int .i64 40, .int .i64 40, .string ⟨#[76]⟩, .string ⟨#[]⟩] 36)).alloc (.cells #[.string ⟨#[76]⟩, .string ⟨#[82]⟩] 9)
abbrev W1 (w : World) : World := w.alloc (.cells #[.int .i64 40, .int .i64 40, .string ⟨#[48, 48, 50, 57]⟩, .string ⟨#[111]⟩] 36)
theorem rd_l0 (w : World) : RdE (W0 w) (W0 w).heap.size (some ⟨w.heap.size, 0, none⟩) M.l0 := fun j e he => by
  refine ⟨_, rfl, by simp; omega, ?_⟩
  match j, he with
  | 0, he => obtain rfl := Option.some.inj he; simp [go_sem, M.nR, Addr.add]
  | 1, he => obtain rfl := Option.some.inj he; simp [go_sem, M.nR, Addr.add]
  | 2, he => obtain rfl := Option.some.inj he; simp [go_sem, M.nL, Addr.add]
  | n + 3, h => exact absurd h (by simp [M.l0])
theorem rd_n0 (w : World) : RdN (W0 w) (W0 w).heap.size (some ⟨w.heap.size + 1, 0, none⟩) M.n0 := fun j s hs => by
  refine ⟨_, rfl, by simp, ?_⟩
  match j, hs with
  | 0, hs => obtain rfl := Option.some.inj hs; simp [go_sem, M.nL, Addr.add]
  | 1, hs => obtain rfl := Option.some.inj hs; simp [go_sem, M.nR, Addr.add]
  | n + 2, h => exact absurd h (by simp [M.n0])
theorem rd_p0 (w : World) : RdE (W1 w) (W1 w).heap.size (some ⟨w.heap.size, 0, none⟩) M.p0 := fun j e he => by
  refine ⟨_, rfl, by simp, ?_⟩
  match j, he with
  | 0, he => obtain rfl := Option.some.inj he; simp [go_sem, Addr.add]
  | n + 1, h => exact absurd h (by simp [M.p0])

set_option maxRecDepth 100000 in
set_option maxHeartbeats 4000000 in
theorem alive_true (w : World) : Calls Try.prog 9 #[] w fun e w' => e = .returned (.bool true) ∧ Below w.heap.size w w' := by
  have HB0 := Lib.hid (show Below w.heap.size w (W0 w) from ((Below.refl _ _).alloc (Nat.le_refl _) _).alloc (by simp) _)
  go_enter Try.func9, Try.ntmps9
  go_wp2_with fail
  refine (new_any (some ⟨w.heap.size, 0, none⟩) (some ⟨w.heap.size + 1, 0, none⟩) 3 2 M.l0 M.n0 (W0 w) (rd_l0 w) (rd_n0 w) (by decide) (by decide) sized_l0 sized_n0).mono ?_
  rintro r w1 ⟨hb1, hyes, _⟩
  obtain ⟨tb, rfl, ht⟩ := hyes M.tab0
  rw [M.short0] at ht
  have HT1 := Lib.hid ht
  have HB1 := Lib.hid (HB0.out.trans (hb1.mono HB0.out.size))
  clear hb1 hyes ht
  have HBp := Lib.hid (show Below w1.heap.size w1 (W1 w1) from (Below.refl _ _).alloc (Nat.le_refl _) _)
  go_wp2_with fail
  refine (pair_any (some ⟨w1.heap.size, 0, none⟩) 1 M.p0 (W1 w1) (rd_p0 w1) (fun h => by cases h) (by decide) sized_p0).mono ?_
  rintro r w2 ⟨hb2, hyes, _⟩
  obtain ⟨pb, rfl, hp⟩ := hyes M.pair0
  have HP2 := Lib.hid hp
  have hb12 := HBp.out.trans (hb2.mono HBp.out.size)
  have HT2 := Lib.hid (HT1.out.below hb12)
  have HB2 := Lib.hid (HB1.out.trans (hb12.mono HB1.out.size))
  clear hb2 hb12 hyes hp
  go_wp2_with fail
  refine (pairsAt_any _ pb M.p0 40 w2 HP2.out M.pair0.rises.2.srt (by decide) sized_p0).mono ?_
  rintro r w3 ⟨rfl, hb3⟩
  rw [M.other40]
  have HT3 := Lib.hid (HT2.out.below hb3)
  have HB3 := Lib.hid (HB2.out.trans (hb3.mono HB2.out.size))
  clear hb3
  go_wp2_with fail
  refine (tableRanges_any _ tb M.t0 M.n0 w3 HT3.out (by decide)).mono ?_
  rintro r w4 ⟨⟨v, rfl, ho⟩, hb4⟩
  obtain ⟨A4, c4, rfl, hrd, _, _, _⟩ := ho.shape
  have HR4 := Lib.hid hrd
  have HT4 := Lib.hid (HT3.out.below hb4)
  have HB4 := Lib.hid (HB3.out.trans (hb4.mono HB3.out.size))
  clear hb4 ho hrd
  go_wp2_with fail
  refine (tableAt_any _ tb M.t0 M.n0 9 w4 HT4.out M.srt_t0 (by decide) sized_t0).mono ?_
  rintro r w5 ⟨rfl, hb5⟩
  rw [M.num9]
  have HT5 := Lib.hid (HT4.out.below hb5)
  have HR5 := Lib.hid ((HR4.out.below hb5).more hb5.size)
  have HB5 := Lib.hid (HB4.out.trans (hb5.mono HB4.out.size))
  clear hb5
  go_wp2_with fail
  refine (tableAt_any _ tb M.t0 M.n0 25 w5 HT5.out M.srt_t0 (by decide) sized_t0).mono ?_
  rintro r w6 ⟨rfl, hb6⟩
  rw [M.num25]
  have HT6 := Lib.hid (HT5.out.below hb6)
  have HR6 := Lib.hid ((HR5.out.below hb6).more hb6.size)
  have HB6 := Lib.hid (HB5.out.trans (hb6.mono HB5.out.size))
  clear hb6
  go_wp2_with fail
  refine (tableAt_any _ tb M.t0 M.n0 40 w6 HT6.out M.srt_t0 (by decide) sized_t0).mono ?_
  rintro r w7 ⟨rfl, hb7⟩
  rw [M.num40]
  have HR7 := (HR6.out.below hb7).more hb7.size
  have HB7 := Lib.hid (HB6.out.trans (hb7.mono HB6.out.size))
  obtain ⟨ad, rfl, _, c0, c1, c2, c3⟩ := HR7 0 _ rfl
  have hlen : M.t0.length = 1 := rfl
  rw [show ad.add (0 * 4) = ad from rfl] at c0 c1 c2 c3
  clear hb7 HR7 c0 c2 c3
  rw [hlen]
  go_wp2
  go_ret
  exact ⟨rfl, HB7.out⟩
end Go.Proofs.Ytjbpjnnflcmmhaa
