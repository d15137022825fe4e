/- The contract of the function that package weak's become makes: W3 and W6, in the row's places. Condition: what it caught lies below the row. -/
import Derived.Test.YtanlclmlkpchfaaCIn
namespace Go.Proofs.Ytanlclmlkpchfaa
open Go.RowKit
set_option maxRecDepth 100000

set_option maxHeartbeats 8000000 in
theorem become_any (nn o : Int) (m : List Int) (mn mc : Nat) (A : Option Addr) (G n b1 b2 : Nat) (f : Int) (l : List Int) (w : World) (h : BlockAt w G 23 l) (hn : l.length = n) (hl : n ≤ 1000)
    (hw : ∀ (p q r : List Int) (c : Int), M.wat nn f p q c r = if c ∈ m then o else c)
    (h1 : w.cell? ⟨b1, 0, none⟩ = some (.slice A mn mc)) (h2 : w.cell? ⟨b2, 0, none⟩ = some (.int .i64 o)) (l1 : b1 < G) (l2 : b2 < G)
    (hr : RdS .i64 w G A m) (hm : m.length = mn) (hml : mn ≤ 1000) :
    Calls Try.prog 28 #[.slice (some ⟨G, 0, none⟩) n n, .int .i64 f, .pointer (some ⟨b1, 0, none⟩), .pointer (some ⟨b2, 0, none⟩)] w (Rul G (M.wrule nn f l) w) := by
  have H := Lib.hid h
  have HN := Lib.hid hn
  have HW := Lib.hid hw
  have HR := Lib.hid hr
  have HM := Lib.hid hm
  have HML := Lib.hid hml
  have H1 := Lib.hid (show w.cell? ⟨b1, 0, none⟩ = some (.slice A mn mc) ∧ w.cell? ⟨b2, 0, none⟩ = some (.int .i64 o) from ⟨h1, h2⟩)
  have hl1 : (n : Int) ≤ 1000 := by omega
  clear h hn hw h1 h2 hr hm hml
  go_enter Try.func28, Try.ntmps28
  go_wp2_with fail
  go_loopw [10] (fun v wr => ∃ (k : Nat) (O : List Int), v = .int .i64 k ∧ Inp nn f l G w wr k O) (fun v _ => n - (intOf v).toNat)
  case atStart => exact ⟨0, [], rfl, .start H.out⟩
  case round =>
    obtain ⟨k, O, rfl, hin⟩ := hrel
    have k0 : (0 : Int) ≤ k := by omega
    have hkn : k ≤ n := by rw [← HN.out]; exact hin.hk
    have hc1 := (hin.bel.cell (p := ⟨b1, 0, none⟩) l1).trans H1.out.1
    have hc2 := (hin.bel.cell (p := ⟨b2, 0, none⟩) l2).trans H1.out.2
    by_cases hlt : k < n
    · have k1 : (k : Int) < n := by omega
      obtain ⟨c, hc⟩ : ∃ c, l[k]? = some c := ⟨_, List.getElem?_eq_getElem (by rw [HN.out]; exact hlt)⟩
      have hcell := hin.blk.cell (hin.at_ hc)
      have hfr := hin.blk.frozen (j := k)
      have hw := HW.out (l.take k).reverse O.reverse (l.drop (k + 1)) c
      have hg := hin.blk.lt
      have HC := Lib.hid (contains_any A mc mn m c wr ((HR.out.below hin.bel).more (by omega)) HM.out HML.out)
      by_cases hcm : c ∈ m
      · rw [if_pos hcm] at hw
        have HP := Lib.hid (hin.put hc hw)
        rw [decide_eq_true hcm] at HC
        clear hin hc hw hkn hcm hg
        go_wp2_with fail
        refine HC.out.mono ?_
        rintro r w2 ⟨rfl, rfl⟩
        go_wp2_with fail
        go_roundw
        case rel => exact ⟨k + 1, O ++ [o], by go_num, HP.out⟩
        case measure => simp [intOf]; omega
      · rw [if_neg hcm] at hw
        have HP := Lib.hid (hin.keep hc hw)
        rw [decide_eq_false hcm] at HC
        clear hin hc hw hkn hcm hg
        go_wp2_with fail
        refine HC.out.mono ?_
        rintro r w2 ⟨rfl, rfl⟩
        go_wp2_with fail
        go_roundw
        case rel => exact ⟨k + 1, O ++ [c], by go_num, HP.out⟩
        case measure => simp [intOf]; omega
    · have k1 : ¬ (k : Int) < (n : Int) := by omega
      have HD := Lib.hid (hin.done (by rw [HN.out]; omega))
      have HB := Lib.hid hin.bel
      clear hin hkn
      go_wp2_with fail
      go_end0
      exact ⟨rfl, HD.out, HB.out⟩
end Go.Proofs.Ytanlclmlkpchfaa
