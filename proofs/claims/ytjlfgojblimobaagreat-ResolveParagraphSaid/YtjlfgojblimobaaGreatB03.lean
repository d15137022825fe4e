/- The contract of the document's All. Conditions: the slice reads as a list of classes, at most a thousand long. -/
import Derived.Test.YtjlfgojblimobaaGreatA19
section
namespace Go.Proofs.YtjlfgojblimobaaGreat.S10
open Go.RowKit
set_option maxRecDepth 100000

set_option maxHeartbeats 4000000 in
theorem refAll_no (A : Option Addr) (ca n : Nat) (f : Int) (l : List Int) (w : World) (h : ¬ (f = 0 ∨ f = 1)) :
    Calls Tryz.prog 24 #[.slice A n ca, .int .i64 f] w (RuleOut (f = 0 ∨ f = 1) (M.wall f l) w) := by
  have HM := Lib.hid h
  have HC := Lib.hid (refRule_no A ca n 1 f l w (fun hm => h hm.2))
  clear h
  go_enter Tryz.func24, Tryz.ntmps24
  go_wp2_with fail
  go_loopw [0, 6] (fun x v wr => x = .slice A n ca ∧ v = .int .i64 1 ∧ wr = w) (fun _ _ _ => 0)
  case atStart => exact ⟨rfl, rfl, rfl⟩
  case round =>
    obtain ⟨rfl, rfl, rfl⟩ := hrel
    go_wp2_with fail
    refine HC.out.mono ?_
    rintro r w1 ⟨hb, -, hno⟩
    obtain rfl := hno (fun hm => HM.out hm.2)
    have HB := Lib.hid hb
    clear hb hno
    go_wp2_with fail
    go_returns
    exact ⟨HB.out, fun h => absurd h HM.out, fun _ => rfl⟩
set_option maxHeartbeats 8000000 in
theorem refAll_ok (A : Option Addr) (ca n : Nat) (f : Int) (l : List Int) (w : World) (hr : RdS .i64 w w.heap.size A l) (hn : l.length = n) (hl : n ≤ 1000) (h : f = 0 ∨ f = 1) :
    Calls Tryz.prog 24 #[.slice A n ca, .int .i64 f] w (RuleOut (f = 0 ∨ f = 1) (M.wall f l) w) := by
  have HM := Lib.hid h
  have HR := Lib.hid hr
  have HN := Lib.hid hn
  clear hr hn h
  go_enter Tryz.func24, Tryz.ntmps24
  go_wp2_with fail
  go_loopw [0, 6] (fun v x wr => ∃ (k : Nat) (A1 : Option Addr) (c1 : Nat), v = .slice A1 n c1 ∧ x = .int .i64 ((k : Int) + 1) ∧ k ≤ 7 ∧ RdS .i64 wr wr.heap.size A1 (M.wto f k l) ∧ (k = 0 ∨ wr.ownsRow w.heap.size 39 1 (.slice A1 n c1) n ((M.wto f k l).map (Value.int .i64))) ∧ Below w.heap.size w wr) (fun _ x _ => (8 - intOf x).toNat)
  case atStart => exact ⟨0, A, ca, rfl, rfl, by omega, HR.out, .inl rfl, Below.refl _ _⟩
  case round =>
    obtain ⟨k, A1, c1, rfl, rfl, hk, hrd, hown, hb⟩ := hrel
    have HB := Lib.hid hb
    have hk0 : (0 : Int) ≤ k := by omega
    by_cases hlt : k < 7
    · have hk7 : (k : Int) + 1 ≤ 7 := by omega
      have hmay : M.may ((k : Int) + 1) f := ⟨by omega, HM.out⟩
      have HC := Lib.hid (refRule_ok A1 c1 n ((k : Int) + 1) f (M.wto f k l) wr hrd (by rw [M.wto_len, HN.out]) hl hmay)
      have HMAY := Lib.hid hmay
      clear hrd hown hb hmay
      go_wp2_with fail
      refine HC.out.mono ?_
      rintro r w1 ⟨hb1, hok, -⟩
      obtain ⟨v, rfl, ho⟩ := hok HMAY.out
      obtain ⟨A2, c2, rfl, hr2, -, -, -⟩ := reads_own ho
      have hlen : (M.wrule ((k : Int) + 1) f (M.wto f k l)).length = n := by rw [M.wrule_len, M.wto_len, HN.out]
      rw [hlen] at ho ⊢
      have HO := Lib.hid (own_base ho HB.out.size)
      have HR2 := Lib.hid hr2
      have HB1 := Lib.hid (HB.out.trans (hb1.mono HB.out.size))
      clear ho hr2 hb1 hok hlen
      go_wp2_with fail
      go_roundw
      case rel => exact ⟨k + 1, A2, c2, rfl, by go_num, by omega, HR2.out, .inr HO.out, HB1.out⟩
      case measure => simp [intOf]; omega
    · obtain rfl : k = 7 := by omega
      have ho := hown.resolve_left (by omega)
      have HO := Lib.hid ho
      clear hrd hown hb ho
      go_wp2_with fail
      go_returns
      refine ⟨HB.out, fun _ => ⟨_, rfl, ?_⟩, fun h => absurd HM.out h⟩
      have h := HO.out
      rw [M.wto_all] at h
      rw [M.wall_len, HN.out]
      exact h
theorem refAll_any (A : Option Addr) (ca n : Nat) (f : Int) (l : List Int) (w : World) (hr : RdS .i64 w w.heap.size A l) (hn : l.length = n) (hl : n ≤ 1000) :
    Calls Tryz.prog 24 #[.slice A n ca, .int .i64 f] w (RuleOut (f = 0 ∨ f = 1) (M.wall f l) w) := by
  by_cases h : f = 0 ∨ f = 1
  · exact refAll_ok A ca n f l w hr hn hl h
  · exact refAll_no A ca n f l w h
end Go.Proofs.YtjlfgojblimobaaGreat.S10
end
