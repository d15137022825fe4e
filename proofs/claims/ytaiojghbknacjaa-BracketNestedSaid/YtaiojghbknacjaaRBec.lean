/- The contract of the document's becomes. Conditions: the classes as they came read as a list in old blocks; the others are a row of the caller's own, as many, at most a thousand. -/
import Derived.Test.YtaiojghbknacjaaRBetw
import Derived.Laws.OwnMore
import Derived.Handy
namespace Go.Proofs.Ytaiojghbknacjaa
open Go.RowKit
set_option maxRecDepth 100000

/-- Nothing has turned but one block, and none is new. -/
structure Turned (w w' : World) (G : Nat) : Prop where
  os : w'.os = w.os
  tape : w'.tape = w.tape
  output : w'.output = w.output
  size : w'.heap.size = w.heap.size
  block : ∀ b, b ≠ G → w'.heap[b]? = w.heap[b]?
theorem Turned.refl (w : World) (G : Nat) : Turned w w G := ⟨rfl, rfl, rfl, rfl, fun _ _ => rfl⟩
theorem Turned.trans {w w1 w2 : World} {G : Nat} (h : Turned w w1 G) (k : Turned w1 w2 G) : Turned w w2 G :=
  ⟨k.os.trans h.os, k.tape.trans h.tape, k.output.trans h.output, k.size.trans h.size, fun b hb => (k.block b hb).trans (h.block b hb)⟩
theorem Turned.setCell {w w' : World} {G : Nat} (h : Turned w w' G) (k : Nat) (u : Value) : Turned w (w'.setCell ⟨G, k, none⟩ u) G :=
  ⟨h.os, h.tape, h.output, by simpa [World.setCell] using h.size, fun b hb => (Below.heap_setCell _ _ _ _ hb).trans (h.block b hb)⟩
theorem Turned.below {w w' : World} {G base : Nat} (h : Turned w w' G) (hb : base ≤ G) : Below base w w' :=
  ⟨h.os, h.tape, h.output, by rw [h.size]; exact Nat.le_refl _, fun b hlt => h.block b (by omega)⟩
theorem Turned.cell {w w' : World} {G : Nat} (h : Turned w w' G) {p : Addr} (hp : p.block ≠ G) : w'.cell? p = w.cell? p := World.cell?_of_block (h.block _ hp)
set_option maxHeartbeats 4000000 in
theorem refBec_any (A : Option Addr) (ca G cb n at_ base : Nat) (came O : List Int) (s : Int) (w : World) (hr : RdS .i64 w base A came) (hn : came.length = n) (hl : n ≤ 1000) (ho : w.ownsRow base 32 1 (.slice (some ⟨G, 0, none⟩) n cb) n (O.map (Value.int .i64))) (hol : O.length = n) (hat : at_ < n) :
    Calls Try.prog 26 #[.slice A n ca, .slice (some ⟨G, 0, none⟩) n cb, .int .i64 at_, .int .i64 s] w fun r w' => r = .returned (.tuple #[]) ∧ w'.ownsRow base 32 1 (.slice (some ⟨G, 0, none⟩) n cb) n ((M.bec came O at_ s).map (Value.int .i64)) ∧ Turned w w' G := by
  have hG := World.ownsRow.lt ho G rfl
  obtain ⟨R, hR⟩ : ∃ R, M.bec came O at_ s = R := ⟨_, rfl⟩
  rw [hR]
  obtain ⟨x0, hx0⟩ : ∃ x, O[at_]? = some x := ⟨_, List.getElem?_eq_getElem (by omega)⟩
  have c0 : w.cell? ⟨G, at_, none⟩ = some (.int .i64 x0) := by
    rw [World.ownsRow.cellAt ho at_ (by omega), List.getElem?_map, hx0]
    rfl
  have f0 := World.ownsRow.frozenAt ho at_
  have ho1 := (World.ownsRow.stored ho at_ (.int .i64 s)).1
  rw [← List.map_set] at ho1
  have HO1 := Lib.hid ho1
  have HR := Lib.hid hr
  have HN := Lib.hid hn
  have HG := Lib.hid hG
  have HOL := Lib.hid hol
  have HRR := Lib.hid (show M.mk came s (n - (at_ + 1)) (at_ + 1) (O.set at_ s) = R by rw [← hR, ← hol]; rfl)
  have hl1 : (n : Int) ≤ 1000 := by omega
  have ha0 : (0 : Int) ≤ at_ := by omega
  have ha1 : (at_ : Int) < n := by omega
  clear hr hn hR ho hol ho1 hG hx0
  go_enter Try.func26, Try.ntmps26
  go_wp2_with fail
  go_loopw [8] (fun v wr => ∃ (k : Nat) (O' : List Int), v = .int .i64 k ∧ at_ < k ∧ k ≤ n ∧ wr.ownsRow base 32 1 (.slice (some ⟨G, 0, none⟩) n cb) n (O'.map (Value.int .i64)) ∧ O'.length = n ∧ Turned w wr G ∧ M.mk came s (n - k) k O' = R) (fun v _ => n - (intOf v).toNat)
  case atStart => exact ⟨at_ + 1, O.set at_ s, by go_num, by omega, by omega, HO1.out, by rw [List.length_set, HOL.out], (Turned.refl w G).setCell _ _, HRR.out⟩
  case round =>
    obtain ⟨k, O', rfl, hak, hkn, ho, hol, ht, hto⟩ := hrel
    have HT := Lib.hid ht
    have HTO := Lib.hid hto
    have HO := Lib.hid ho
    have HOL2 := Lib.hid hol
    have hk0 : (0 : Int) ≤ k := by omega
    by_cases hlt : k < n
    · have hk1 : (k : Int) < n := by omega
      obtain ⟨ad, x, rfl, hcx, hx, -⟩ := rd_at HR.out (HT.out.below HG.out.1) (by rw [HN.out]; exact hlt : k < came.length)
      obtain ⟨m, hm⟩ : ∃ m, n - k = m + 1 := ⟨n - k - 1, by omega⟩
      have h1 := hto
      rw [hm] at h1
      have h2 : (if came[k]? = some 8 then M.mk came s m (k + 1) (O'.set k s) else O') = R := h1
      rw [hx] at h2
      by_cases h8 : x = 8
      · subst h8
        rw [if_pos rfl, show m = n - (k + 1) by omega] at h2
        have H1 := Lib.hid h2
        obtain ⟨y, hy⟩ : ∃ y, O'[k]? = some y := ⟨_, List.getElem?_eq_getElem (by omega)⟩
        have c1 : wr.cell? ⟨G, k, none⟩ = some (.int .i64 y) := by
          rw [World.ownsRow.cellAt ho k (by omega), List.getElem?_map, hy]
          rfl
        have f1 := World.ownsRow.frozenAt ho k
        have ho2 := (World.ownsRow.stored ho k (.int .i64 s)).1
        rw [← List.map_set] at ho2
        have HO2 := Lib.hid ho2
        clear h1 h2 hx hto ht ho hol hm ho2 hy
        go_wp2_with fail
        go_roundw
        case rel => exact ⟨k + 1, O'.set k s, by go_num, by omega, by omega, HO2.out, by rw [List.length_set, HOL2.out], HT.out.setCell _ _, H1.out⟩
        case measure => simp [intOf]; omega
      · rw [if_neg (by intro e; injection e with e; exact h8 e)] at h2
        have b8 : (x == 8) = false := by simp; omega
        have H1 := Lib.hid h2
        clear h1 h2 hx hto ht ho hol hm h8
        go_wp2_with fail
        go_returns
        exact ⟨rfl, by rw [← H1.out]; exact HO.out, HT.out⟩
    · obtain rfl : k = n := by omega
      have hk1 : ¬ (k : Int) < (k : Int) := by omega
      rw [Nat.sub_self] at hto
      have H1 := Lib.hid (show O' = R from hto)
      clear hto ht ho hol
      go_wp2_with fail
      go_returns
      exact ⟨rfl, by rw [← H1.out]; exact HO.out, HT.out⟩
end Go.Proofs.Ytaiojghbknacjaa
