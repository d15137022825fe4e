/- The contract of the function that package weak's numbersBehind makes: W2 and W7, in the row's places. Condition: what it caught lies below the row. -/
import Derived.Test.YtanlclmlkpchfaaCIn
namespace Go.Proofs.Ytanlclmlkpchfaa
open Go.RowKit
set_option maxRecDepth 100000

theorem M.stg_next {l : List Int} {k : Nat} {c : Int} (hc : l[k]? = some c) (f : Int) : M.stg f (l.take (k + 1)).reverse = if c = 0 ∨ c = 1 ∨ c = 2 then c else M.stg f (l.take k).reverse := by
  rw [M.take_next' hc, M.stg_cons]
set_option maxHeartbeats 8000000 in
theorem behind_any (nn s o : Int) (G n b1 b2 : Nat) (f : Int) (l : List Int) (w : World) (h : BlockAt w G 23 l) (hn : l.length = n) (hl : n ≤ 1000)
    (hw : ∀ (p q r : List Int) (c : Int), M.wat nn f p q c r = if c = 3 ∧ M.stg f p = s then o else c)
    (h1 : w.cell? ⟨b1, 0, none⟩ = some (.int .i64 s)) (h2 : w.cell? ⟨b2, 0, none⟩ = some (.int .i64 o)) (l1 : b1 < G) (l2 : b2 < G) :
    Calls Try.prog 27 #[.slice (some ⟨G, 0, none⟩) n n, .int .i64 f, .pointer (some ⟨b1, 0, none⟩), .pointer (some ⟨b2, 0, none⟩)] w (Rul G (M.wrule nn f l) w) := by
  have H := Lib.hid h
  have HN := Lib.hid hn
  have HW := Lib.hid hw
  have H1 := Lib.hid (show w.cell? ⟨b1, 0, none⟩ = some (.int .i64 s) ∧ w.cell? ⟨b2, 0, none⟩ = some (.int .i64 o) from ⟨h1, h2⟩)
  have hl1 : (n : Int) ≤ 1000 := by omega
  clear h hn hw h1 h2
  go_enter Try.func27, Try.ntmps27
  go_wp2_with fail
  go_loopw [6, 12] (fun a v wr => ∃ (k : Nat) (O : List Int), a = .int .i64 (M.stg f (l.take k).reverse) ∧ v = .int .i64 k ∧ Inp nn f l G w wr k O) (fun _ v _ => n - (intOf v).toNat)
  case atStart => exact ⟨0, [], rfl, rfl, .start H.out⟩
  case round =>
    obtain ⟨k, O, rfl, rfl, hin⟩ := hrel
    have k0 : (0 : Int) ≤ k := by omega
    have hkn : k ≤ n := by rw [← HN.out]; exact hin.hk
    have hc1 := (hin.bel.cell (p := ⟨b1, 0, none⟩) l1).trans H1.out.1
    have hc2 := (hin.bel.cell (p := ⟨b2, 0, none⟩) l2).trans H1.out.2
    have hg1 : b1 ≠ G := by omega
    by_cases hlt : k < n
    · have k1 : (k : Int) < n := by omega
      obtain ⟨c, hc⟩ : ∃ c, l[k]? = some c := ⟨_, List.getElem?_eq_getElem (by rw [HN.out]; exact hlt)⟩
      have hcell := hin.blk.cell (hin.at_ hc)
      have hfr := hin.blk.frozen (j := k)
      have hw := HW.out (l.take k).reverse O.reverse (l.drop (k + 1)) c
      have hnx := M.stg_next hc f
      obtain ⟨a, ha⟩ : ∃ a, M.stg f (l.take k).reverse = a := ⟨_, rfl⟩
      rw [ha] at hw hnx ⊢
      by_cases h3 : c = 3
      · subst h3
        rw [if_neg (by omega)] at hnx
        have HX := Lib.hid hnx
        by_cases has : a = s
        · rw [if_pos ⟨rfl, has⟩] at hw
          have HP := Lib.hid (hin.put hc hw)
          have hb : (a == s) = true := by simp [has]
          clear hin hc hw ha hkn has hnx
          go_wp2_with fail
          go_roundw
          case rel => exact ⟨k + 1, O ++ [o], by rw [HX.out], by go_num, HP.out⟩
          case measure => simp [intOf]; omega
        · rw [if_neg (fun e => has e.2)] at hw
          have HP := Lib.hid (hin.keep hc hw)
          have hb : (a == s) = false := by simp [has]
          clear hin hc hw ha hkn has hnx
          go_wp2_with fail
          go_roundw
          case rel => exact ⟨k + 1, O ++ [3], by rw [HX.out], by go_num, HP.out⟩
          case measure => simp [intOf]; omega
      · rw [if_neg (fun e => h3 e.1)] at hw
        have HP := Lib.hid (hin.keep hc hw)
        have b3 : (c == 3) = false := by simp [h3]
        by_cases hs : c = 0 ∨ c = 1 ∨ c = 2
        · rw [if_pos hs] at hnx
          have HX := Lib.hid hnx
          clear hin hc hw ha hkn hnx h3
          rcases hs with rfl | rfl | rfl
          all_goals
            go_wp2_with fail
            go_roundw
            case rel => exact ⟨k + 1, _, by rw [HX.out], by go_num, HP.out⟩
            case measure => simp [intOf]; omega
        · rw [if_neg hs] at hnx
          have HX := Lib.hid hnx
          have b0 : (c == 0) = false := by simp; omega
          have b1 : (c == 1) = false := by simp; omega
          have b2 : (c == 2) = false := by simp; omega
          clear hin hc hw ha hkn hnx h3 hs
          go_wp2_with fail
          go_roundw
          case rel => exact ⟨k + 1, _, by rw [HX.out], by go_num, HP.out⟩
          case measure => simp [intOf]; omega
    · have k1 : ¬ (k : Int) < (n : Int) := by omega
      have HD := Lib.hid (hin.done (by rw [HN.out]; omega))
      have HB := Lib.hid hin.bel
      clear hin hkn
      go_wp2_with fail
      go_end0
      exact ⟨rfl, HD.out, HB.out⟩
end Go.Proofs.Ytanlclmlkpchfaa
