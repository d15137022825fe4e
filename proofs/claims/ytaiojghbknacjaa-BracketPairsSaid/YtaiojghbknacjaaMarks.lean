/- The contract of the statements' marks: a copy. Condition: the slice reads as a list of marks that takes at most 2^47 bytes. -/
import Derived.Test.YtaiojghbknacjaaTwo
import Derived.Deep.RegionHeld3
import Derived.Deep.AppendLies
namespace Go.Proofs.Ytaiojghbknacjaa
open Go.RowKit
set_option maxRecDepth 100000

set_option maxHeartbeats 8000000 in
theorem marks_any (B : Option Addr) (cb m : Nat) (ms : List (Int × Int)) (w : World) (hr : RdT w w.heap.size B ms) (hm : ms.length = m) (hl : m ≤ 8796093022208) :
    Calls Try.prog 11 #[.slice B m cb] w (OutT 45 ms w) := by
  obtain ⟨i0, hi, hz0, hz1, hz2⟩ := info_parts Try.infoMark
  have HR := Lib.hid hr
  have HM := Lib.hid hm
  have hl1 : (m : Int) ≤ 8796093022208 := by omega
  clear hr hm
  go_enter Try.func11, Try.ntmps11
  go_wp2_with fail
  go_loopw [3, 4] (fun o v wr => ∃ (k : Nat) (acc : List (Int × Int)), v = .int .i64 k ∧ k ≤ m ∧ acc = ms.take k ∧ OwnT wr w.heap.size 45 o acc ∧ Below w.heap.size w wr) (fun _ v _ => m - (intOf v).toNat)
  case atStart => exact ⟨0, [], rfl, Nat.zero_le _, rfl, OwnT.nil _ _ _, Below.refl _ _⟩
  case round =>
    obtain ⟨k, acc, rfl, hk, hacc, ho, hb⟩ := hrel
    rename World => wr
    have HB := Lib.hid hb
    have k0 : (0 : Int) ≤ k := by omega
    by_cases hlt : k < m
    · have k1 : (k : Int) < m := by omega
      obtain ⟨ad, a, b, rfl, c0, c1, hab, hbl⟩ := two_at HR.out hb (by rw [HM.out]; exact hlt)
      have hal : acc.length = k := by rw [hacc, List.length_take, HM.out]; omega
      have ho' := ho
      unfold OwnT at ho'
      rw [hal] at ho'
      have HO := Lib.hid ho'
      have HAL := Lib.hid hal
      have HNX := Lib.hid (show acc ++ [(a, b)] = ms.take (k + 1) by
        obtain ⟨hj, e⟩ := List.getElem?_eq_some_iff.1 hab
        rw [hacc, List.take_succ_eq_append_getElem hj, e])
      have hbs := hb.size
      have hsV : ad.block < wr.heap.size := Nat.lt_of_lt_of_le hbl hbs
      have hne := fun (hh : some ad.block = Value.ownBlock _) => (show False by have := (World.ownsRow.lt HO.out _ hh.symm).1; omega)
      clear hb ho ho' hal hacc hab
      go_wp2_with fail
      go_region_held3 (fun w' => w'.cell? (ad.add (k * 2)) = some (.int .i64 a) ∧ w'.cell? ⟨(ad.add (k * 2)).block, (ad.add (k * 2)).off + 1, none⟩ = some (.int .i64 b))
        (first | go_keep | (refine ⟨?_, ?_⟩ <;> (rw [hgrow3.cell_far _ (by simp [addr_block] <;> omega) (by simpa only [addr_block] using hne)]; first | assumption | simp [*])))
        ((refine step_append_lies _ (by rfl) _ _ _ (by rfl) w.heap.size 45 i0 _ 2 16 Try.underlying28 hi hz0 hz1 hz2 rfl (by omega) _ _ _ (by rfl) ((World.ownsRow.alloc HO.out _).drew) ⟨wr.heap.size, 0, none⟩ 1 1 [.int .i64 a, .int .i64 b] (by rfl) (by rfl) (two_new wr a b _) (two_one) (by omega) (by unfold maxLen; omega) (by omega) (by simp; omega) (wr.heap.size + 1) (by simp) ?_; intro gg cap w3 hown3 hgrow3 hat hlt))
      have HO3 := Lib.hid (show OwnT w3 w.heap.size 45 (.slice (some ⟨gg, 0, none⟩) (k + 1) cap) (acc ++ [(a, b)]) from OwnT.snoc (by rw [HAL.out]; exact hown3))
      have HB3 := Lib.hid (((HB.out.alloc hbs _).drew).grown hgrow3 (by simp; omega) (fun j hj => (World.ownsRow.lt HO.out j hj).1))
      clear hown3 hgrow3 hat hlt
      go_wp2_with fail
      go_roundw
      case rel => exact ⟨k + 1, acc ++ [(a, b)], by go_num, by omega, HNX.out, HO3.out, HB3.out⟩
      case measure => simp [intOf]; omega
    · obtain rfl : k = m := by omega
      have hnk : ¬ (k : Int) < (k : Int) := by omega
      have he : acc = ms := by rw [hacc, List.take_of_length_le (by rw [HM.out]; exact Nat.le_refl _)]
      rw [he] at ho
      have HO := Lib.hid ho
      clear hb ho hacc he
      go_wp2_with fail
      go_ret
      exact ⟨_, rfl, HO.out, HB.out⟩
end Go.Proofs.Ytaiojghbknacjaa
