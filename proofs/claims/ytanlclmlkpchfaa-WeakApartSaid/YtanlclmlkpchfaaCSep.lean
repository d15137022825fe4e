/- The contract of package weak's separatorsJoin: W4, in the row's places. -/
import Derived.Test.YtanlclmlkpchfaaCIn
namespace Go.Proofs.Ytanlclmlkpchfaa
open Go.RowKit
set_option maxRecDepth 100000

theorem M.four_first {f c : Int} {q : List Int} : M.wrule 4 f (c :: q) = [c] ++ M.wgo 4 f [c] [c] q := by
  unfold M.wrule
  rw [M.wgo_cons, M.wat4_first]
  rfl
theorem Inp.first {f : Int} {l : List Int} {G : Nat} {w : World} (h : BlockAt w G 23 l) {c : Int} (hc : l[0]? = some c) : Inp 4 f l G w w 1 [c] := by
  have h0 := Inp.start (nn := 4) (f := f) h
  exact h0.keep hc (M.wat4_first _ _ _ _)
theorem Inp.last {f : Int} {l O : List Int} {G k : Nat} {w wr : World} (h : Inp 4 f l G w wr k O) (hk : k + 1 = l.length) : BlockAt wr G 23 (M.wrule 4 f l) := by
  obtain ⟨c, hc⟩ : ∃ c, l[k]? = some c := ⟨_, List.getElem?_eq_getElem (by omega)⟩
  exact (h.keep hc (by rw [List.drop_eq_nil_of_le (by omega)]; exact M.wat4_last _ _ _ _)).done (by omega)
theorem Inp.regrown {nn f : Int} {l O : List Int} {G k : Nat} {w wr : World} (h : Inp nn f l G w wr k O) (d : Nat) (os : Array Obj) : Inp nn f l G w (Sort.grow (redrawn wr d) os) k O :=
  ⟨h.hk, h.ho, h.blk.below (below_regrown wr d os) h.blk.lt, h.res, h.bel.trans ((below_regrown wr d os).mono (Nat.le_of_lt h.blk.lt))⟩
theorem M.four_short {f : Int} {l : List Int} (h : l.length ≤ 1) : M.wrule 4 f l = l := by
  match l, h with
  | [], _ => rfl
  | [c], _ => rw [M.four_first]; rfl
set_option maxHeartbeats 8000000 in
theorem separators_any (G n : Nat) (f : Int) (l : List Int) (w : World) (h : BlockAt w G 23 l) (hn : l.length = n) (hl : n ≤ 1000) :
    Calls Try.prog 20 #[.slice (some ⟨G, 0, none⟩) n n, .int .i64 f] w (Rul G (M.wrule 4 f l) w) := by
  have H := Lib.hid h
  have HN := Lib.hid hn
  have hl1 : (n : Int) ≤ 1000 := by omega
  have hw0 : IntKind.i64.wrap ((n : Int) - 1) = (n : Int) - 1 := by rw [IntKind.wrap_i64]; omega
  by_cases hs : n ≤ 1
  · have HS := Lib.hid (M.four_short (f := f) (hn ▸ hs))
    have hs1 : ¬ (1 : Int) < (n : Int) - 1 := by omega
    clear h hn
    go_enter Try.func20, Try.ntmps20
    go_wp2_with fail
    go_loopw [4] (fun v wr => v = .int .i64 1 ∧ wr = w) (fun v _ => 0)
    case atStart => exact ⟨rfl, rfl⟩
    case round =>
      obtain ⟨rfl, rfl⟩ := hrel
      go_wp2_with fail
      go_end0
      exact ⟨rfl, by rw [HS.out]; exact H.out, Below.refl _ _⟩
  · obtain ⟨c0, hc0⟩ : ∃ c, l[0]? = some c := ⟨_, List.getElem?_eq_getElem (by omega)⟩
    have HI := Lib.hid (Inp.first (f := f) h hc0)
    clear h hn hc0
    go_enter Try.func20, Try.ntmps20
    go_wp2_with fail
    go_loopw [4] (fun v wr => ∃ (k : Nat) (O : List Int), v = .int .i64 ((k : Int) + 1) ∧ k + 1 < n ∧ Inp 4 f l G w wr (k + 1) O) (fun v _ => n - (intOf v).toNat)
    case atStart => exact ⟨0, [c0], rfl, by omega, HI.out⟩
    case round =>
      obtain ⟨k, O, rfl, hk, hin⟩ := hrel
      have k0 : (0 : Int) ≤ k := by omega
      have hkn : (k : Int) + 1 < n := by omega
      have hw1 : IntKind.i64.wrap ((k : Int) + 1 - 1) = (k : Int) := by rw [IntKind.wrap_i64]; omega
      have hw2 : IntKind.i64.wrap ((k : Int) + 1 + 1) = (k : Int) + 1 + 1 := by rw [IntKind.wrap_i64]; omega
      by_cases hlt : k + 2 < n
      · have k1 : (k : Int) + 1 < (n : Int) - 1 := by omega
        have k2 : (k : Int) + 1 + 1 < (n : Int) := by omega
        obtain ⟨c, hc⟩ : ∃ c, l[k + 1]? = some c := ⟨_, List.getElem?_eq_getElem (by rw [HN.out]; omega)⟩
        obtain ⟨b, hb⟩ : ∃ c, l[k + 2]? = some c := ⟨_, List.getElem?_eq_getElem (by rw [HN.out]; omega)⟩
        obtain ⟨Q, a, rfl⟩ : ∃ Q a, O = Q ++ [a] := by
          refine ⟨O.dropLast, O.getLast (fun e => by have := hin.ho; rw [e] at this; cases this), (List.dropLast_concat_getLast _).symm⟩
        have hQ : Q.length = k := by have := hin.ho; rw [List.length_append] at this; simpa using this
        have hcell := hin.blk.cell (hin.at_ hc)
        have ha' : (Q ++ [a] ++ l.drop (k + 1))[k]? = some a := by rw [List.append_assoc, List.getElem?_append_right (by omega), hQ, Nat.sub_self]; rfl
        have hcella := hin.blk.cell (j := k) (x := a) ha'
        have hcellb := hin.blk.cell (j := k + 2) (x := b) (by rw [List.getElem?_append_right (by rw [hin.ho]; omega), hin.ho, List.getElem?_drop, show k + 1 + (k + 2 - (k + 1)) = k + 2 by omega]; exact hb)
        have hcell' := fun d os => cell_regrown hcell d os
        have hcella' := fun d os => cell_regrown hcella d os
        have hcellb' := fun d os => cell_regrown hcellb d os
        have hw := M.wat4 f (l.take (k + 1)).reverse a Q.reverse c b (l.drop (k + 2 + 1))
        rw [← M.drop_next' hb, show a :: Q.reverse = (Q ++ [a]).reverse by simp] at hw
        have HC := Lib.hid (fun d os => Calls.regrown_of ((joins_any c a (Sort.grow (redrawn wr d) os)).mono fun r w' h => ⟨h.1, by rw [← h.2]; exact Below.refl _ _⟩))
        have HA := Lib.hid ha'
        have HCC := Lib.hid hc
        have hIN := Lib.hid hin
        by_cases hab : a = b
        · have e : (a == b) = true := by simp [hab]
          by_cases hj : M.jn c a = true
          · rw [if_pos ⟨hab, hj⟩] at hw
            have HW := Lib.hid hw
            rw [hj] at HC
            clear hin hc hw hb hab hj hQ ha'
            go_wp2_with fail
            refine wp_region_quiet_below (by kernel_rfl) (by kernel_rfl) ?_
            repeat (go_big_quiet_step (first | (with_reducible exact HC.out _ _)))
            refine wpQuiet_nil ?_
            intro _ hw'
            obtain ⟨⟨dq, osq⟩, hw4⟩ := hw'
            subst hw4
            obtain ⟨Y, hY⟩ : ∃ Y, Sort.grow (redrawn wr dq) osq = Y := ⟨_, rfl⟩
            have hin := hIN.out.regrown dq osq
            rw [hY] at hin
            dsimp only
            rw [hY]
            clear hY hcell hcella hcellb hcell' hcella' hcellb'
            have hcell := hin.blk.cell (hin.at_ HCC.out)
            have hcella := hin.blk.cell (j := k) (x := a) HA.out
            have hfr := hin.blk.frozen (j := k + 1)
            have HP := Lib.hid (hin.put HCC.out HW.out)
            clear hin
            go_wp2_with fail
            go_roundw
            case rel => exact ⟨k + 1, Q ++ [a] ++ [a], by go_num, by omega, HP.out⟩
            case measure => simp [intOf]; omega
          · rw [if_neg (fun e => hj e.2)] at hw
            have HW := Lib.hid hw
            rw [Bool.not_eq_true] at hj
            rw [hj] at HC
            clear hin hc hw hb hab hj hQ ha'
            go_wp2_with fail
            refine wp_region_quiet_below (by kernel_rfl) (by kernel_rfl) ?_
            repeat (go_big_quiet_step (first | (with_reducible exact HC.out _ _)))
            refine wpQuiet_nil ?_
            intro _ hw'
            obtain ⟨⟨dq, osq⟩, hw4⟩ := hw'
            subst hw4
            obtain ⟨Y, hY⟩ : ∃ Y, Sort.grow (redrawn wr dq) osq = Y := ⟨_, rfl⟩
            have hin := hIN.out.regrown dq osq
            rw [hY] at hin
            dsimp only
            rw [hY]
            clear hY hcell hcella hcellb hcell' hcella' hcellb'
            have hcell := hin.blk.cell (hin.at_ HCC.out)
            have hcella := hin.blk.cell (j := k) (x := a) HA.out
            have hfr := hin.blk.frozen (j := k + 1)
            have HP := Lib.hid (hin.keep HCC.out HW.out)
            clear hin
            go_wp2_with fail
            go_roundw
            case rel => exact ⟨k + 1, Q ++ [a] ++ [c], by go_num, by omega, HP.out⟩
            case measure => simp [intOf]; omega
        · rw [if_neg (fun e => hab e.1)] at hw
          have HW := Lib.hid hw
          have e : (a == b) = false := by simp [hab]
          clear hin hc hw hb hab hQ ha'
          go_wp2_with fail
          refine wp_region_quiet_below (by kernel_rfl) (by kernel_rfl) ?_
          repeat (go_big_quiet_step (first | (with_reducible exact HC.out _ _)))
          refine wpQuiet_nil ?_
          intro _ hw'
          obtain ⟨⟨dq, osq⟩, hw4⟩ := hw'
          subst hw4
          obtain ⟨Y, hY⟩ : ∃ Y, Sort.grow (redrawn wr dq) osq = Y := ⟨_, rfl⟩
          have hin := hIN.out.regrown dq osq
          rw [hY] at hin
          dsimp only
          rw [hY]
          clear hY hcell hcella hcellb hcell' hcella' hcellb'
          have hcell := hin.blk.cell (hin.at_ HCC.out)
          have hcella := hin.blk.cell (j := k) (x := a) HA.out
          have hfr := hin.blk.frozen (j := k + 1)
          have HP := Lib.hid (hin.keep HCC.out HW.out)
          clear hin
          go_wp2_with fail
          go_roundw
          case rel => exact ⟨k + 1, Q ++ [a] ++ [c], by go_num, by omega, HP.out⟩
          case measure => simp [intOf]; omega
      · have k1 : ¬ (k : Int) + 1 < (n : Int) - 1 := by omega
        have HD := Lib.hid (hin.last (by rw [HN.out]; omega))
        have HB := Lib.hid hin.bel
        clear hin
        go_wp2_with fail
        go_end0
        exact ⟨rfl, HD.out, HB.out⟩
end Go.Proofs.Ytanlclmlkpchfaa
