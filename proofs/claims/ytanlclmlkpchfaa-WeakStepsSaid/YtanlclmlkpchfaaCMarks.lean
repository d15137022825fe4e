/- The contract of package weak's marksFollow: W1, in the row's places. -/
import Derived.Test.YtanlclmlkpchfaaCIn
namespace Go.Proofs.Ytanlclmlkpchfaa
open Go.RowKit
set_option maxRecDepth 100000

theorem M.ah_next (f x : Int) (O : List Int) : M.ah f (O ++ [x]).reverse = M.mkd x := by
  rw [List.reverse_append]
  rfl
set_option maxHeartbeats 4000000 in
theorem marks_any (G n : Nat) (f : Int) (l : List Int) (w : World) (h : BlockAt w G 23 l) (hn : l.length = n) (hl : n ≤ 1000) :
    Calls Try.prog 17 #[.slice (some ⟨G, 0, none⟩) n n, .int .i64 f] w (Rul G (M.wrule 1 f l) w) := by
  have H := Lib.hid h
  have HN := Lib.hid hn
  have hl1 : (n : Int) ≤ 1000 := by omega
  clear h hn
  go_enter Try.func17, Try.ntmps17
  go_wp2_with fail
  go_loopw [4, 10] (fun a v wr => ∃ (k : Nat) (O : List Int), a = .int .i64 (M.ah f O.reverse) ∧ v = .int .i64 k ∧ Inp 1 f l G w wr k O) (fun _ v _ => n - (intOf v).toNat)
  case atStart => exact ⟨0, [], rfl, rfl, .start H.out⟩
  case round =>
    obtain ⟨k, O, rfl, rfl, hin⟩ := hrel
    have HI := Lib.hid hin
    have k0 : (0 : Int) ≤ k := by omega
    have hkn : k ≤ n := by rw [← HN.out]; exact hin.hk
    by_cases hlt : k < n
    · have k1 : (k : Int) < n := by omega
      obtain ⟨c, hc⟩ : ∃ c, l[k]? = some c := ⟨_, List.getElem?_eq_getElem (by rw [HN.out]; exact hlt)⟩
      have hcell := hin.blk.cell (hin.at_ hc)
      have hfr := hin.blk.frozen (j := k)
      have hw := M.wat1 f (l.take k).reverse O.reverse c (l.drop (k + 1))
      obtain ⟨a, ha⟩ : ∃ a, M.ah f O.reverse = a := ⟨_, rfl⟩
      rw [ha] at hw ⊢
      by_cases h8 : c = 8
      · subst h8
        rw [if_pos rfl] at hw
        have HP := Lib.hid (hin.put hc hw)
        have hcell2 := HP.out.blk.cell (j := k) (x := a) (by rw [List.getElem?_append_left (by rw [List.length_append, hin.ho]; simp), List.getElem?_append_right (by rw [hin.ho]; exact Nat.le_refl _), hin.ho, Nat.sub_self]; rfl)
        have HC := Lib.hid (marked_any a)
        clear hin hc hw ha hkn
        go_wp2_with fail
        refine (HC.out _).mono ?_
        rintro r w2 ⟨rfl, rfl⟩
        go_wp2_with fail
        go_roundw
        case rel => exact ⟨k + 1, O ++ [a], by rw [M.ah_next], by go_num, HP.out⟩
        case measure => simp [intOf]; omega
      · rw [if_neg h8] at hw
        have HP := Lib.hid (hin.keep hc hw)
        have HC := Lib.hid (marked_any c)
        have hb : (c == 8) = false := by simp [h8]
        clear hin hc hw ha hkn h8
        go_wp2_with fail
        refine (HC.out _).mono ?_
        rintro r w2 ⟨rfl, rfl⟩
        go_wp2_with fail
        go_roundw
        case rel => exact ⟨k + 1, O ++ [c], by rw [M.ah_next], by go_num, HP.out⟩
        case measure => simp [intOf]; omega
    · have k1 : ¬ (k : Int) < (n : Int) := by omega
      have HD := Lib.hid (hin.done (by rw [HN.out]; omega))
      have HB := Lib.hid hin.bel
      clear hin hkn
      go_wp2_with fail
      go_end0
      exact ⟨rfl, HD.out, HB.out⟩
end Go.Proofs.Ytanlclmlkpchfaa
