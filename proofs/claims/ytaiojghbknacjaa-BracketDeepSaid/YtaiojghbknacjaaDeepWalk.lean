/- The walk of BracketDeep: it answers true. No condition. -/
import Derived.Test.YtaiojghbknacjaaAlive
import Derived.Test.YtaiojghbknacjaaBrkD
namespace Go.Proofs.Ytaiojghbknacjaa
open Go.RowKit
set_option maxRecDepth 100000

theorem and_127 (n : Int) : 0 ≤ bits .and .i64 n 127 ∧ bits .and .i64 n 127 ≤ 127 := by
  have h : (BitVec.ofInt 64 n &&& BitVec.ofInt 64 127).toNat ≤ 127 := by
    rw [BitVec.toNat_and]
    exact Nat.and_le_right
  have e : bits .and .i64 n 127 = IntKind.i64.wrap ((BitVec.ofInt 64 n &&& BitVec.ofInt 64 127).toNat : Int) := rfl
  obtain ⟨k, hk⟩ : ∃ k, (BitVec.ofInt 64 n &&& BitVec.ofInt 64 127).toNat = k := ⟨_, rfl⟩
  rw [hk] at h e
  rw [e, IntKind.wrap_i64]
  omega
/-- A row of classes and a row of marks, both one's own, that grow side by side. -/
structure DpAt (B : Nat) (w wr : World) (vl vm : Value) (L : List Int) (Q : List (Int × Int)) : Prop where
  below : Below B w wr
  rl : wr.ownsRow B 32 1 vl L.length (L.map (Value.int .i64))
  rm : wr.ownsRow B 45 2 vm Q.length (cells2 Q)
  ap : ∀ b, vl.ownBlock = some b → vm.ownBlock ≠ some b
section
variable {B : Nat} {w wr w3 : World} {vl vm : Value} {L : List Int} {Q : List (Int × Int)}
theorem DpAt.pushL (h : DpAt B w wr vl vm L Q) (hB : B ≤ wr.heap.size) {x : Int} {q c : Nat} {o : Obj} (hown : w3.ownsRow B 32 1 (.slice (some ⟨q, 0, none⟩) (L.length + 1) c) (L.length + 1) (L.map (Value.int .i64) ++ [.int .i64 x]))
    (hg : (wr.alloc o).grownBy w3 vl.ownBlock) (hat : vl.ownBlock = some q ∨ q = wr.heap.size + 1) : DpAt B w w3 (.slice (some ⟨q, 0, none⟩) (L.length + 1) c) vm (L ++ [x]) Q := by
  refine ⟨(h.below.alloc hB o).grown hg (by simp; omega) (fun k hk => (World.ownsRow.lt h.rl k hk).1), ?_, World.ownsRow.kept (h.rm.alloc o) hg ?_, ?_⟩
  · rw [List.length_append, List.map_append]
    exact hown
  · cases hv : vm.ownBlock with
    | none => exact .inl rfl
    | some b => exact .inr fun e => h.ap b e.symm hv
  · intro b hb e
    have e2 : q = b := by simpa [Value.ownBlock] using hb
    subst e2
    rcases hat with h1 | h1
    · exact h.ap q h1 e
    · have := (World.ownsRow.lt h.rm q e).2
      omega
theorem DpAt.pushM (h : DpAt B w wr vl vm L Q) (hB : B ≤ wr.heap.size) {x y : Int} {q c : Nat} {o : Obj} (hown : w3.ownsRow B 45 2 (.slice (some ⟨q, 0, none⟩) (Q.length + 1) c) (Q.length + 1) (cells2 Q ++ [.int .i64 x, .int .i64 y]))
    (hg : (wr.alloc o).grownBy w3 vm.ownBlock) (hat : vm.ownBlock = some q ∨ q = wr.heap.size + 1) : DpAt B w w3 vl (.slice (some ⟨q, 0, none⟩) (Q.length + 1) c) L (Q ++ [(x, y)]) := by
  refine ⟨(h.below.alloc hB o).grown hg (by simp; omega) (fun k hk => (World.ownsRow.lt h.rm k hk).1), World.ownsRow.kept (h.rl.alloc o) hg ?_, ?_, ?_⟩
  · cases hv : vl.ownBlock with
    | none => exact .inl rfl
    | some b => exact .inr fun e => h.ap b hv e.symm
  · rw [List.length_append, cells2_snoc]
    exact hown
  · intro b hb e
    have e2 : q = b := by simpa [Value.ownBlock] using e
    subst e2
    rcases hat with h1 | h1
    · exact h.ap q hb h1
    · have := (World.ownsRow.lt h.rl q hb).2
      omega
end
set_option maxHeartbeats 16000000 in
theorem deepLaw_any (nn id : Int) (w : World) :
    Calls Try.prog 7 #[.int .i64 nn, .int .i64 id] w fun r w' => r = .returned (.bool true) ∧ Below w.heap.size w w' := by
  obtain ⟨i0, hi, hz0, hz1, hz2⟩ := info_parts Try.infoCls2
  obtain ⟨i1, hj, hy0, hy1, hy2⟩ := info_parts Try.infoMark
  obtain ⟨b, hb⟩ : ∃ b, bits .and .i64 nn 127 = b := ⟨_, rfl⟩
  have hb1 := and_127 nn
  rw [hb] at hb1
  obtain ⟨K, hK⟩ : ∃ K : Nat, 1 + b = (K : Int) := ⟨(1 + b).toNat, by omega⟩
  have hwk : IntKind.i64.wrap (1 + b) = (K : Int) := by rw [IntKind.wrap_i64]; omega
  have hK1 : 0 < K := by omega
  have hK2 : K ≤ 128 := by omega
  obtain ⟨M2, hM2⟩ : ∃ M : Nat, M = 2 * K := ⟨_, rfl⟩
  have hw2 : IntKind.i64.wrap (2 * (K : Int)) = (M2 : Int) := by rw [IntKind.wrap_i64]; omega
  obtain ⟨M1, hM1⟩ : ∃ M : Nat, M = 2 * K - 1 := ⟨_, rfl⟩
  have hw1 : IntKind.i64.wrap ((M2 : Int) - 1) = (M1 : Int) := by rw [IntKind.wrap_i64]; omega
  have HM2 := Lib.hid hM2
  have HM1 := Lib.hid hM1
  have m256 : (M2 : Int) ≤ 256 := by omega
  have k128 : (K : Int) ≤ 128 := by omega
  have k0 : (0 : Int) ≤ K := by omega
  clear hb1 hK hM2 hM1
  go_enter Try.func7, Try.ntmps7
  go_wp2_with fail
  go_loopw [6, 7, 8] (fun vl vm v wr => ∃ (i : Nat) (L : List Int) (Q : List (Int × Int)), v = .int .i64 i ∧ i ≤ M2 ∧ L = List.replicate i 13 ∧ Q = (M.deepM id K).take i ∧ DpAt w.heap.size w wr vl vm L Q) (fun _ _ v _ => M2 - (intOf v).toNat)
  case atStart => exact ⟨0, [], [], rfl, Nat.zero_le _, rfl, rfl, Below.refl _ _, World.ownsRow_nil _ _ _ _, World.ownsRow_nil _ _ _ _, fun b hb => by simp [Value.ownBlock] at hb⟩
  case round =>
    obtain ⟨i, L, Q, rfl, hi2, hLe, hQe, hd⟩ := hrel
    rename World => wr
    have HD := Lib.hid hd
    have i00 : (0 : Int) ≤ i := by omega
    have hml : (M.deepM id K).length = M2 := by unfold M.deepM; rw [List.length_append, List.length_replicate, List.length_replicate, HM2.out]; omega
    have hLl : L.length = i := by rw [hLe, List.length_replicate]
    have hQl : Q.length = i := by rw [hQe, List.length_take, hml]; omega
    have HLE := Lib.hid hLe
    have HQE := Lib.hid hQe
    have HLL := Lib.hid hLl
    have HQL := Lib.hid hQl
    by_cases hlt : i < M2
    · have i01 : (i : Int) < M2 := by omega
      have i02 : (i : Int) ≤ 256 := by omega
      have hnext : ∀ h : Int, (if i < K then (1 : Int) else 2) = h → Q ++ [(h, id)] = (M.deepM id K).take (i + 1) := fun h hh => by
        have ha := M.deep_at (id := id) (k := K) (i := i) (by rw [← HM2.out]; exact hlt)
        obtain ⟨hl, e⟩ := List.getElem?_eq_some_iff.1 ha
        rw [hQe, List.take_succ_eq_append_getElem hl, e, hh]
      have HNX := Lib.hid hnext
      have HLN := Lib.hid (show L ++ [13] = List.replicate (i + 1) 13 by rw [hLe, List.replicate_succ'])
      have hsz := hd.below.size
      have hrl := hd.rl
      rw [hLl] at hrl
      have HRL := Lib.hid hrl
      clear hd hml hLl hQl hLe hQe hnext hrl
      by_cases hik : i < K
      · have ik : ¬ (K : Int) ≤ i := by omega
        go_wp2_with (at_builtin; refine wpList_append_lies _ rfl _ _ 22 rfl w.heap.size 32 i0 (.int .i64 0) 1 8 Try.underlying22 hi hz0 hz1 hz2 rfl (by decide) _ _ _ rfl (World.ownsRow.alloc HRL.out _) ⟨wr.heap.size, 0, none⟩ 1 1 [.int .i64 13] rfl rfl (one_new _ _ _) one_cell (by decide) (by unfold maxLen; omega) (by omega) (by simp; omega) (wr.heap.size + 1) (by simp) ?_)
        intro g cap w5 hown5 hgrow5 hat5 _
        have hd5 := DpAt.pushL (x := 13) HD.out hsz (by rw [HLL.out]; exact hown5) hgrow5 (hat5.imp_right (fun e => by simpa using e))
        rw [HLL.out] at hd5
        have HD5 := Lib.hid hd5
        have hs5 := hd5.below.size
        have hrm := hd5.rm
        rw [HQL.out] at hrm
        have HRM := Lib.hid hrm
        clear hown5 hgrow5 hat5 hd5 hrm
        go_wp2_with (at_builtin; refine wpList_append_lies _ rfl _ _ 28 rfl w.heap.size 45 i1 (.agg #[.int .i64 0, .int .i64 0]) 2 16 Try.underlying28 hj hy0 hy1 hy2 rfl (by decide) _ _ _ rfl (World.ownsRow.alloc HRM.out _) ⟨w5.heap.size, 0, none⟩ 1 1 [.int .i64 1, .int .i64 id] rfl rfl (two_new _ _ _ _) two_one (by decide) (by unfold maxLen; omega) (by omega) (by simp; omega) (w5.heap.size + 1) (by simp) ?_)
        intro g2 cap2 w6 hown6 hgrow6 hat6 _
        have hd6 := DpAt.pushM (x := 1) (y := id) HD5.out hs5 (by rw [HQL.out]; exact hown6) hgrow6 (hat6.imp_right (fun e => by simpa using e))
        rw [HQL.out] at hd6
        have HD6 := Lib.hid hd6
        have HN2 := Lib.hid (HNX.out 1 (by first | rw [if_pos hik] | rw [if_neg hik]))
        clear hown6 hgrow6 hat6 hd6
        go_wp2_with fail
        go_roundw
        case rel => exact ⟨i + 1, L ++ [13], Q ++ [(1, id)], by go_num, by omega, HLN.out, HN2.out, HD6.out⟩
        case measure => simp [intOf]; omega
      · have ik : (K : Int) ≤ i := by omega
        go_wp2_with (at_builtin; refine wpList_append_lies _ rfl _ _ 22 rfl w.heap.size 32 i0 (.int .i64 0) 1 8 Try.underlying22 hi hz0 hz1 hz2 rfl (by decide) _ _ _ rfl (World.ownsRow.alloc HRL.out _) ⟨wr.heap.size, 0, none⟩ 1 1 [.int .i64 13] rfl rfl (one_new _ _ _) one_cell (by decide) (by unfold maxLen; omega) (by omega) (by simp; omega) (wr.heap.size + 1) (by simp) ?_)
        intro g cap w5 hown5 hgrow5 hat5 _
        have hd5 := DpAt.pushL (x := 13) HD.out hsz (by rw [HLL.out]; exact hown5) hgrow5 (hat5.imp_right (fun e => by simpa using e))
        rw [HLL.out] at hd5
        have HD5 := Lib.hid hd5
        have hs5 := hd5.below.size
        have hrm := hd5.rm
        rw [HQL.out] at hrm
        have HRM := Lib.hid hrm
        clear hown5 hgrow5 hat5 hd5 hrm
        go_wp2_with (at_builtin; refine wpList_append_lies _ rfl _ _ 28 rfl w.heap.size 45 i1 (.agg #[.int .i64 0, .int .i64 0]) 2 16 Try.underlying28 hj hy0 hy1 hy2 rfl (by decide) _ _ _ rfl (World.ownsRow.alloc HRM.out _) ⟨w5.heap.size, 0, none⟩ 1 1 [.int .i64 2, .int .i64 id] rfl rfl (two_new _ _ _ _) two_one (by decide) (by unfold maxLen; omega) (by omega) (by simp; omega) (w5.heap.size + 1) (by simp) ?_)
        intro g2 cap2 w6 hown6 hgrow6 hat6 _
        have hd6 := DpAt.pushM (x := 2) (y := id) HD5.out hs5 (by rw [HQL.out]; exact hown6) hgrow6 (hat6.imp_right (fun e => by simpa using e))
        rw [HQL.out] at hd6
        have HD6 := Lib.hid hd6
        have HN2 := Lib.hid (HNX.out 2 (by first | rw [if_pos hik] | rw [if_neg hik]))
        clear hown6 hgrow6 hat6 hd6
        go_wp2_with fail
        go_roundw
        case rel => exact ⟨i + 1, L ++ [13], Q ++ [(2, id)], by go_num, by omega, HLN.out, HN2.out, HD6.out⟩
        case measure => simp [intOf]; omega
    · obtain rfl : M2 = i := by omega
      have i01 : ¬ (M2 : Int) < (M2 : Int) := by omega
      have hLd : L = M.deepL K := by rw [HLE.out, HM2.out]; rfl
      have hQd : Q = M.deepM id K := by rw [HQE.out, List.take_of_length_le (by omega)]
      have hrl := hd.rl
      have hrm : OwnT wr w.heap.size 45 _ Q := hd.rm
      obtain ⟨AL, cL, rfl, hrdL, hcL, -, -⟩ := reads_own hrl
      obtain ⟨AM, cM, rfl, hrdM, hcM, -, -⟩ := hrm.shape
      rw [hLl] at hcL ⊢
      rw [hQl] at hcM ⊢
      have hC := cpairs_any AL AM cL cM M2 M2 L Q wr hrdL hLl (by omega) hrdM hQl (by omega) hcL hcM
      rw [hLd, hQd] at hC
      have HC := Lib.hid hC
      have HB := Lib.hid hd.below
      clear hd hml hLl hQl hLe hQe hLd hQd hrl hrm hrdL hrdM hcL hcM hC
      by_cases h63 : K ≤ 63
      · obtain ⟨hp1, hp2⟩ := M.deep_prs (id := id) hK1 h63
        have n63 : ¬ (63 : Int) < K := by omega
        have bk : ((K : Int) == 0) = false := by simp; omega
        have HP1 := Lib.hid hp1
        have HP2 := Lib.hid hp2
        clear hp1 hp2 h63
        go_wp2_with fail
        refine HC.out.mono ?_
        rintro r w2 ⟨v, rfl, ho2, hb2⟩
        obtain ⟨g, cp, rfl, hg, hcell⟩ := own_some ho2 (by rw [HP1.out]; exact hK1)
        obtain ⟨c0, c1⟩ := cells2_at HP2.out
        have z0 : w2.cell? ⟨g, 0, none⟩ = some (.int .i64 0) := (hcell 0 (by rw [HP1.out]; omega)).trans c0
        have z1 : w2.cell? ⟨g, 1, none⟩ = some (.int .i64 M1) := by
          rw [HM1.out]
          exact (hcell 1 (by rw [HP1.out]; omega)).trans c1
        rw [HP1.out]
        have HZ := Lib.hid (And.intro hg (And.intro z0 z1))
        have HB2 := Lib.hid (HB.out.trans (hb2.mono HB.out.size))
        clear ho2 hb2 hg hcell c0 c1 z0 z1
        go_wp2_with fail
        refine (alive_any _).mono ?_
        rintro r w3 ⟨rfl, hb3⟩
        obtain ⟨hg, z0, z1⟩ := HZ.out
        have d0 := (hb3.cell (p := ⟨g, 0, none⟩) hg).trans z0
        have d1 := (hb3.cell (p := ⟨g, 1, none⟩) hg).trans z1
        have HB3 := Lib.hid (HB2.out.trans (hb3.mono HB2.out.size))
        clear hb3 hg z0 z1
        go_wp2_with fail
        go_ret
        exact ⟨rfl, HB3.out⟩
      · have HP := Lib.hid (M.deep_none (id := id) (k := K) (by omega))
        have n63 : (63 : Int) < K := by omega
        clear h63
        go_wp2_with fail
        refine HC.out.mono ?_
        rintro r w2 ⟨v, rfl, ho2, hb2⟩
        rw [HP.out] at ho2
        obtain ⟨A2, c2, rfl, -⟩ := ho2.shape
        have HB2 := Lib.hid (HB.out.trans (hb2.mono HB.out.size))
        clear ho2 hb2
        simp only [List.length_nil]
        go_wp2_with fail
        refine (alive_any _).mono ?_
        rintro r w3 ⟨rfl, hb3⟩
        have HB3 := Lib.hid (HB2.out.trans (hb3.mono HB2.out.size))
        clear hb3
        go_wp2_with fail
        go_ret
        exact ⟨rfl, HB3.out⟩
end Go.Proofs.Ytaiojghbknacjaa
