/- The walk of stage 5's second law: it answers true. Conditions: the slice reads as a list of whole numbers, within its capacity. -/
import Derived.Test.YtpnbkakilmigeaaAlive
import Derived.Deep.RegionLaw
import Derived.Deep.AppendLies
import Derived.IntWalk
namespace Go.Proofs.Ytpnbkakilmigeaa
open Go.RowKit

theorem and_seven (n : Int) : 0 ≤ bits .and .i64 n 7 ∧ bits .and .i64 n 7 ≤ 7 := by
  have h : (BitVec.ofInt 64 n &&& BitVec.ofInt 64 7).toNat ≤ 7 := by
    rw [BitVec.toNat_and]
    exact Nat.and_le_right
  have e : bits .and .i64 n 7 = IntKind.i64.wrap ((BitVec.ofInt 64 n &&& BitVec.ofInt 64 7).toNat : Int) := rfl
  obtain ⟨k, hk⟩ : ∃ k, (BitVec.ofInt 64 n &&& BitVec.ofInt 64 7).toNat = k := ⟨_, rfl⟩
  rw [hk] at h e
  rw [e, IntKind.wrap_i64]
  omega
theorem rise_snoc {init : List Int} {x y : Int} (h : (init ++ [x]).Pairwise (· < ·)) (hxy : x < y) : (init ++ [x] ++ [y]).Pairwise (· < ·) := by
  rw [List.pairwise_append]
  refine ⟨h, List.pairwise_singleton _ _, fun a ha b hb => ?_⟩
  simp at hb
  subst hb
  rcases List.mem_append.1 ha with ha | ha
  · have := (List.pairwise_append.1 h).2.2 a ha x (by simp); omega
  · simp at ha; omega

set_option maxRecDepth 100000 in
set_option maxHeartbeats 4000000 in
theorem ofLaw_any (A : Option Addr) (ca n : Nat) (i : Int) (l : List Int) (w : World) (hr : RdS .i64 w w.heap.size A l) (hn : l.length = n) (hm : n ≤ maxLen) :
    Calls Try.prog 4 #[.slice A n ca, .int .i64 i] w fun r w' => r = .returned (.bool true) ∧ Below w.heap.size w w' := by
  obtain ⟨i0, hi, hz0, hz1, hz2⟩ := info_parts Try.infoInt
  unfold maxLen at hm
  have HR := Lib.hid hr
  have HN := Lib.hid hn
  have hm1 : (n : Int) ≤ 9223372036854775807 := by omega
  clear hr hn
  obtain ⟨W1, hW1⟩ : ∃ W1, w.alloc (.cells #[.int .i64 0] 3) = W1 := ⟨_, rfl⟩
  have hb1 : Below w.heap.size w W1 := by rw [← hW1]; exact (Below.refl _ _).alloc (Nat.le_refl _) _
  have hown : W1.ownsRow w.heap.size 3 1 (.slice (some ⟨w.heap.size, 0, none⟩) 1 1) 1 [.int .i64 0] := by rw [← hW1]; exact World.ownsRow_lit w #[.int .i64 0] 1 (Nat.le_refl _) (by unfold maxLen; omega) rfl
  have HOWN := Lib.hid hown
  have HB1 := Lib.hid hb1
  have HW1 := Lib.hid hW1
  clear hW1 hb1 hown
  go_enter Try.func4, Try.ntmps4
  go_wp2_with fail
  rw [HW1.out]
  go_loopw [5, 6] (fun s v wr => ∃ (k : Nat) (init : List Int) (x : Int), v = .int .i64 k ∧ k ≤ n ∧ k ≤ 120 ∧ init.length = k ∧ (init ++ [x]).Pairwise (· < ·) ∧ 0 ≤ x ∧ x ≤ 8 * k ∧ wr.ownsRow w.heap.size 3 1 s (k + 1) ((init ++ [x]).map (Value.int .i64)) ∧ Below w.heap.size w wr) (fun _ v _ => n - (intOf v).toNat)
  case atStart => exact ⟨0, [], 0, rfl, by omega, by omega, rfl, List.pairwise_singleton _ _, by omega, by omega, HOWN.out, HB1.out⟩
  case round =>
    obtain ⟨k, init, x, rfl, hk, hk2, hil, hup, hx0, hx1, ho, hb⟩ := hrel
    obtain ⟨g, cap, rfl⟩ := ownsRow_succ ho
    have HO := Lib.hid ho
    have HB := Lib.hid hb
    have HIL := Lib.hid hil
    have HUP := Lib.hid hup
    have hn := HN.out
    have k0 : (0 : Int) ≤ k := by omega
    by_cases hlt : k < n ∧ k < 120
    · obtain ⟨hlt1, hlt2⟩ := hlt
      have k1 : (k : Int) < n := by omega
      have k2 : (k : Int) < 120 := by omega
      obtain ⟨ad, y, rfl, hcy, hy, hab⟩ := rd_at HR.out hb (by omega : k < l.length)
      have hcx : wr.cell? ⟨g, k, none⟩ = some (.int .i64 x) := by
        have := World.ownsRow.cells HO.out rfl k (.int .i64 x) (by rw [List.map_append, List.getElem?_append_right (by simp; omega)]; simp [HIL.out])
        rw [← this]
        congr 1
        unfold Addr.add
        split <;> simp_all
      obtain ⟨d0, d1⟩ := and_seven y
      obtain ⟨d, hd⟩ : ∃ d, bits .and .i64 y 7 = d := ⟨_, rfl⟩
      rw [hd] at d0 d1
      have HNX := Lib.hid (rise_snoc hup (y := x + 1 + d) (by omega))
      have hbs := HB.out.size
      clear ho hb hil hup hy hab hn
      go_wp2_with fail
      have wr1 : IntKind.i64.wrap (k : Int) = k := IntWalk.i64_in _ (by omega)
      have wr2 : IntKind.i64.wrap (x + 1) = x + 1 := IntWalk.i64_in _ (by omega)
      have wr3 : IntKind.i64.wrap (x + 1 + d) = x + 1 + d := IntWalk.i64_in _ (by omega)
      have e1 : (k : Int).toNat = k := by omega
      have lt1 : (k : Int) < (k : Int) + 1 := by omega
      go_region_law ((refine step_append_lies _ (by rfl) _ _ _ (by rfl) w.heap.size 3 i0 _ 1 8 Try.underlying24 hi hz0 hz1 hz2 rfl (by omega) _ _ _ (by rfl) ((World.ownsRow.alloc (World.ownsRow.drew HO.out) _)) ⟨wr.heap.size, 0, none⟩ 1 1 [.int .i64 (x + 1 + d)] (by rfl) (by rfl) (one_new _ _ _) one_cell (by omega) (by unfold maxLen; omega) (by omega) (by simp; omega) (wr.heap.size + 1) (by simp) ?_; intro gg cap w3 hown3 hgrow3 hat hlt))
      all_goals
        have HO3 := Lib.hid (show w3.ownsRow w.heap.size 3 1 (.slice (some ⟨gg, 0, none⟩) (k + 1 + 1) cap) (k + 1 + 1) ((init ++ [x] ++ [x + 1 + d]).map (Value.int .i64)) by simpa using hown3)
        have HB3 := Lib.hid (((HB.out.drew).alloc (by simpa using hbs) _).grown hgrow3 (by simp; omega) (fun j hj => (World.ownsRow.lt HO.out j hj).1))
        clear hown3 hgrow3 hat hlt wr1 wr2 wr3 e1
        go_wp2_with fail
        go_roundw
        case rel => exact ⟨k + 1, init ++ [x], x + 1 + d, by go_num, by omega, by omega, by simp [HIL.out], HNX.out, by omega, by omega, HO3.out, HB3.out⟩
        case measure => simp [intOf]; omega
    · obtain ⟨A2, c2, e2, hr2, _, _, _⟩ := reads_own (l := init ++ [x]) (by simp [hil] at ho ⊢; exact ho)
      injection e2 with eA eN eC
      subst eA
      subst eC
      have HR2 := Lib.hid hr2
      have HLEN := Lib.hid (show (init ++ [x]).length = k + 1 by simp; exact hil)
      have hnot : ¬ ((k : Int) < n ∧ (k : Int) < 120) := by omega
      obtain ⟨ans, hans⟩ : ∃ a, M.ofI (init ++ [x]) i = a := ⟨_, rfl⟩
      have HANS := Lib.hid hans
      have HNIL := Lib.hid (show M.ofI [] i = -1 by unfold M.ofI; split <;> rfl)
      clear ho hb hil hup hn hr2 hans eN
      by_cases hkn : (k : Int) < n
      all_goals
        have hk3 : (k : Int) ≤ 120 := by omega
        go_wp2_with fail
        refine (alive_any _).mono ?_
        rintro r w4 ⟨rfl, hb4⟩
        have HR4 := Lib.hid ((HR2.out.below hb4).more hb4.size)
        have HB4 := Lib.hid (HB.out.trans (hb4.mono HB.out.size))
        clear hb4
        go_wp2_with fail
        refine (of_any w4 i HR4.out HLEN.out (by omega) HUP.out).mono ?_
        rintro r w5 ⟨rfl, hb5⟩
        rw [HANS.out]
        have HR5 := Lib.hid ((HR4.out.below hb5).more hb5.size)
        have HB5 := Lib.hid (HB4.out.trans (hb5.mono HB4.out.size))
        clear hb5
        go_wp2_with fail
        refine (refOf_any _ _ _ _ i w5 HR5.out HLEN.out (by omega)).mono ?_
        rintro r w6 ⟨rfl, hb6⟩
        rw [HANS.out]
        have HB6 := Lib.hid (HB5.out.trans (hb6.mono HB5.out.size))
        clear hb6
        go_wp2_with fail
        refine (of_any (A := none) (ca := 0) (n := 0) (l := []) w6 i RdS.nil rfl (by omega) List.Pairwise.nil).mono ?_
        rintro r w7 ⟨rfl, hb7⟩
        rw [HNIL.out]
        have HB7 := Lib.hid (HB6.out.trans (hb7.mono HB6.out.size))
        clear hb7
        go_wp2_with fail
        go_ret
        exact ⟨ret_bool (by simp), HB7.out⟩
end Go.Proofs.Ytpnbkakilmigeaa
