/- The contracts of the document's Match, Strong and between. Conditions: the slice reads as a list of classes, at most a thousand long. -/
import Derived.Test.YticiofpbijahbaaGBb
section
namespace Go.Proofs.Yticiofpbijahbaa
open Go.RowKit
set_option maxRecDepth 100000

theorem M.endI_begins {l : List Int} {k : Nat} {c : Int} (h : l[k]? = some c) (hb : M.begins c = true) : M.endI l k = match M.endR 1 (l.drop (k + 1)) with | some j => ((k + 1 + j : Nat) : Int) | none => -1 := by
  unfold M.endI
  rw [h]
  simp only [hb, if_true]
  rfl
theorem M.strong_at {l : List Int} {k : Nat} {c : Int} (h : l[k]? = some c) : M.strong (l.drop k) = if c = 10 ∨ c = 0 then 0 else if c = 1 ∨ c = 2 then 1 else if M.begins c = true then (match M.endR 1 (l.drop (k + 1)) with | none => 0 | some j => M.strong (l.drop (k + 1 + (j + 1)))) else M.strong (l.drop (k + 1)) := by
  obtain ⟨hk, rfl⟩ := List.getElem?_eq_some_iff.1 h
  rw [List.drop_eq_getElem_cons hk, M.strong_cons]
  cases M.endR 1 (l.drop (k + 1)) with
  | none => rfl
  | some j => simp only [List.drop_drop]
set_option maxHeartbeats 4000000 in
theorem strong_any (A : Option Addr) (ca n : Nat) (l : List Int) (w : World) (hr : RdS .i64 w w.heap.size A l) (hn : l.length = n) (hl : n ≤ 1000) :
    Calls Try.prog 41 #[.slice A n ca] w fun r w' => r = .returned (.int .i64 (M.strong l)) ∧ w = w' := by
  have HR := Lib.hid hr
  have HN := Lib.hid hn
  have hl1 : (n : Int) ≤ 1000 := by omega
  clear hr hn
  go_enter Try.func41, Try.ntmps41
  go_wp2_with fail
  go_loop [3] (fun v => ∃ i : Nat, i ≤ n ∧ v = .int .i64 i ∧ M.strong l = M.strong (l.drop i)) (fun v => n - (intOf v).toNat)
  case atStart => exact ⟨0, Nat.zero_le _, rfl, rfl⟩
  case round =>
    obtain ⟨i, hi, rfl, he⟩ := hrel
    by_cases hlt : i < n
    · obtain ⟨ad, c, hA, hcc, hc, -⟩ := rd_at HR.out (Below.refl _ _) (by rw [HN.out]; exact hlt : i < l.length)
      subst hA
      have hi0 : (0 : Int) ≤ (i : Int) := by omega
      have hi1 : (i : Int) < (n : Int) := by omega
      have HE := Lib.hid (he.trans (M.strong_at hc))
      have HC := Lib.hid hc
      have HBC := Lib.hid (begins_any c w)
      clear he hc
      by_cases h10 : c = 10
      · subst h10
        have HF := Lib.hid (show M.strong l = 0 by rw [HE.out]; rfl)
        go_wp2_with fail
        go_ret
        exact ⟨ret_int (by rw [HF.out]), rfl⟩
      · have h10b : (c != 10) = true := by rw [bne_iff_ne]; exact h10
        by_cases h0 : c = 0
        · subst h0
          have HF := Lib.hid (show M.strong l = 0 by rw [HE.out]; rfl)
          go_wp2_with fail
          go_ret
          exact ⟨ret_int (by rw [HF.out]), rfl⟩
        · have h0b : (c == 0) = false := by rw [beq_eq_false_iff_ne]; exact h0
          by_cases h1 : c = 1
          · subst h1
            have HF := Lib.hid (show M.strong l = 1 by rw [HE.out]; rfl)
            go_wp2_with fail
            go_ret
            exact ⟨ret_int (by rw [HF.out]), rfl⟩
          · have h1b : (c == 1) = false := by rw [beq_eq_false_iff_ne]; exact h1
            by_cases h2 : c = 2
            · subst h2
              have HF := Lib.hid (show M.strong l = 1 by rw [HE.out]; rfl)
              go_wp2_with fail
              go_ret
              exact ⟨ret_int (by rw [HF.out]), rfl⟩
            · have h2b : (c == 2) = false := by rw [beq_eq_false_iff_ne]; exact h2
              have HG := Lib.hid (show M.strong l = if M.begins c = true then (match M.endR 1 (l.drop (i + 1)) with | none => 0 | some j => M.strong (l.drop (i + 1 + (j + 1)))) else M.strong (l.drop (i + 1)) by
                rw [HE.out, if_neg (by omega), if_neg (by omega)])
              clear h10 h0 h1 h2
              cases hbg : M.begins c
              · rw [hbg] at HBC HG
                have HF := Lib.hid (show M.strong l = M.strong (l.drop (i + 1)) by rw [HG.out]; rfl)
                clear hbg
                go_wp2_with fail
                refine HBC.out.mono ?_
                rintro r w1 ⟨rfl, rfl⟩
                go_wp2_with fail
                go_round
                case rel => exact ⟨i + 1, by omega, by go_num, HF.out⟩
                case measure => simp [intOf]; omega
              · rw [hbg] at HBC HG
                have HEND := Lib.hid (end_any (some ad) ca n i l w HR.out HN.out hl hlt)
                have hei := M.endI_begins HC.out hbg
                clear hbg
                cases her : M.endR 1 (l.drop (i + 1)) with
                | none =>
                  rw [her] at hei HG
                  dsimp only at hei
                  rw [hei] at HEND
                  have HF := Lib.hid (show M.strong l = 0 by rw [HG.out]; rfl)
                  clear hei her
                  go_wp2_with fail
                  refine HBC.out.mono ?_
                  rintro r w1 ⟨rfl, rfl⟩
                  go_wp2_with fail
                  refine HEND.out.mono ?_
                  rintro r w1 ⟨rfl, rfl⟩
                  go_wp2_with fail
                  go_ret
                  exact ⟨ret_int (by rw [HF.out]), rfl⟩
                | some j =>
                  have hj := M.endR_lt her
                  rw [List.length_drop, HN.out] at hj
                  rw [her] at hei HG
                  dsimp only at hei
                  rw [hei] at HEND
                  have HF := Lib.hid (show M.strong l = M.strong (l.drop (i + 1 + j + 1)) by rw [HG.out]; rfl)
                  obtain ⟨q, hq⟩ : ∃ q : Nat, i + 1 + j = q := ⟨_, rfl⟩
                  rw [hq] at HEND HF
                  have hq0 : (0 : Int) ≤ (q : Int) := by omega
                  have hq1 : (q : Int) ≤ 1000 := by omega
                  have hqn : q + 1 ≤ n := by omega
                  have hqi : i < q + 1 := by omega
                  clear hei her hq
                  go_wp2_with fail
                  refine HBC.out.mono ?_
                  rintro r w1 ⟨rfl, rfl⟩
                  go_wp2_with fail
                  refine HEND.out.mono ?_
                  rintro r w1 ⟨rfl, rfl⟩
                  go_wp2_with fail
                  go_round
                  case rel => exact ⟨q + 1, hqn, by go_num, HF.out⟩
                  case measure => simp [intOf]; omega
    · obtain rfl : i = n := by omega
      have HF := Lib.hid (show M.strong l = 0 by rw [he, List.drop_eq_nil_of_le (by rw [HN.out]; exact Nat.le_refl _)]; rfl)
      clear he
      go_wp2_with fail
      go_ret
      exact ⟨ret_int (by rw [HF.out]), rfl⟩

theorem map_add (A : Option Addr) (n : Nat) (h : n ≠ 0) : A.map (fun x => x.add n) = A.map (fun x => ⟨x.block, x.off + n, none⟩) := by
  cases A with
  | none => rfl
  | some a => simp only [Option.map_some]; rw [addr_add_pos a n h]
/-- What stands in an isolate that begins at a place. -/
def M.betw (l : List Int) (k : Nat) : List Int := match M.endR 1 (l.drop (k + 1)) with | some j => (l.drop (k + 1)).take j | none => l.drop (k + 1)
/-- A slice that reads as a list; nothing has turned. -/
def SameOut (t : List Int) (w : World) (r : Ending) (w' : World) : Prop := ∃ A c, r = .returned (.slice A t.length c) ∧ RdS .i64 w w.heap.size A t ∧ w = w'
set_option maxHeartbeats 400000 in
theorem between_any (A : Option Addr) (ca n k : Nat) (l : List Int) (c : Int) (w : World) (hr : RdS .i64 w w.heap.size A l) (hn : l.length = n) (hl : n ≤ 1000) (hca : n ≤ ca) (hk : l[k]? = some c) (hbg : M.begins c = true) :
    Calls Try.prog 47 #[.slice A n ca, .int .i64 k] w (SameOut (M.betw l k) w) := by
  have hkn : k < n := by rw [← hn]; exact (List.getElem?_eq_some_iff.1 hk).1
  have HEND := Lib.hid (end_any A ca n k l w hr hn hl hkn)
  have hei := M.endI_begins hk hbg
  have hcut := hr.cut (n := k + 1) (cap := ca) (by rw [hn]; exact hca)
  have hlen : (l.drop (k + 1)).length = n - (k + 1) := by rw [List.length_drop, hn]
  have hl1 : (n : Int) ≤ 1000 := by omega
  have hk0 : (0 : Int) ≤ (k : Int) := by omega
  have hk1 : (k : Int) < (n : Int) := by omega
  have hkc : (n : Int) ≤ (ca : Int) := by omega
  have HCUT := Lib.hid hcut
  clear hcut
  cases her : M.endR 1 (l.drop (k + 1)) with
  | none =>
    have HBT := Lib.hid (show M.betw l k = l.drop (k + 1) by unfold M.betw; rw [her])
    rw [her] at hei
    dsimp only at hei
    rw [hei] at HEND
    have HLEN := Lib.hid hlen
    clear hei her hr hn hk hbg hlen
    by_cases hcap : ca = k + 1
    · subst hcap
      obtain rfl : n = k + 1 := by omega
      go_enter Try.func47, Try.ntmps47
      go_wp2_with fail
      refine HEND.out.mono ?_
      rintro r w1 ⟨rfl, rfl⟩
      go_wp2_with fail
      go_ret
      refine ⟨A, 0, ?_, ?_, rfl⟩
      · rw [HBT.out, HLEN.out, Nat.sub_self]; rfl
      · rw [HBT.out]
        have h := HCUT.out
        rw [if_pos trivial] at h
        exact h
    · have hc1 : ¬ ca = k + 1 := hcap
      clear hcap
      go_enter Try.func47, Try.ntmps47
      go_wp2_with fail
      refine HEND.out.mono ?_
      rintro r w1 ⟨rfl, rfl⟩
      go_wp2_with fail
      go_ret
      refine ⟨A.map (fun x => ⟨x.block, x.off + (k + 1), none⟩), ca - (k + 1), ?_, ?_, rfl⟩
      · rw [HBT.out, HLEN.out]; rfl
      · rw [HBT.out]
        have h := HCUT.out
        rw [if_neg hc1, map_add A (k + 1) (by omega)] at h
        exact h
  | some j =>
    have hj := M.endR_lt her
    rw [hlen] at hj
    have HBT := Lib.hid (show M.betw l k = (l.drop (k + 1)).take j by unfold M.betw; rw [her])
    have HLT := Lib.hid (show ((l.drop (k + 1)).take j).length = j by rw [List.length_take, hlen]; omega)
    rw [her] at hei
    dsimp only at hei
    rw [hei] at HEND
    obtain ⟨q, hq⟩ : ∃ q : Nat, k + 1 + j = q := ⟨_, rfl⟩
    rw [hq] at HEND
    have hq0 : (0 : Int) ≤ (q : Int) := by omega
    have hq1 : (k : Int) + 1 ≤ (q : Int) := by omega
    have hq2 : (q : Int) ≤ (ca : Int) := by omega
    have hq3 : k + 1 ≤ q := by omega
    have hq4 : q ≤ ca := by omega
    have hc1 : ¬ ca = k + 1 := by omega
    have HQ := Lib.hid (show q - (k + 1) = j by omega)
    have HCT := Lib.hid ((HCUT.out.take j))
    clear hei her hr hn hk hbg hlen hj hq
    go_enter Try.func47, Try.ntmps47
    go_wp2_with fail
    refine HEND.out.mono ?_
    rintro r w1 ⟨rfl, rfl⟩
    go_wp2_with fail
    go_ret
    refine ⟨A.map (fun x => ⟨x.block, x.off + (k + 1), none⟩), ca - (k + 1), ?_, ?_, rfl⟩
    · rw [HBT.out, HLT.out, ← HQ.out]; rfl
    · rw [HBT.out]
      have h := HCT.out
      rw [if_neg hc1, map_add A (k + 1) (by omega)] at h
      exact h
end Go.Proofs.Yticiofpbijahbaa
end
