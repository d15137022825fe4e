/- What the document's Levels knows of its machine behind k classes: it is right, and its counts are small. No function of the program is walked here. -/
import Derived.Test.YtdipaiflfhdpoaaClosed
namespace Go.Proofs.Ytdipaiflfhdpoaa
open Go.RowKit

namespace M
structure Mc.Fit (b : Int) (m : Mc) (k : Nat) : Prop where
  ok : m.Ok b
  len : m.s.length ≤ k + 1
  o1 : m.o ≤ k
  e1 : m.e ≤ k
theorem fresh_fit {b : Int} (h : b ≤ 125) (k : Nat) : (fresh b).Fit b k := ⟨fresh_ok h, by simp [fresh], by simp [fresh], by simp [fresh]⟩
theorem Mc.Fit.more {b : Int} {m : Mc} {k : Nat} (h : m.Fit b k) : m.Fit b (k + 1) := ⟨h.ok, by have := h.len; omega, by have := h.o1; omega, by have := h.e1; omega⟩
theorem Mc.Fit.embed {b : Int} {m : Mc} {k : Nat} (h : m.Fit b k) (odd ov : Int) : (m.embed odd ov).Fit b (k + 1) := by
  refine ⟨h.ok.embed _ _, ?_, ?_, ?_⟩ <;>
  · have h1 := h.len
    have h2 := h.o1
    have h3 := h.e1
    unfold Mc.embed
    (repeat' split) <;> simp <;> omega
theorem Mc.Fit.isolate {b : Int} {m : Mc} {k : Nat} (h : m.Fit b k) (odd : Int) : (m.isolate odd).Fit b (k + 1) := by
  refine ⟨h.ok.isolate _, ?_, ?_, ?_⟩ <;>
  · have h1 := h.len
    have h2 := h.o1
    have h3 := h.e1
    unfold Mc.isolate
    (repeat' split) <;> simp <;> omega
theorem Mc.Fit.pop {b : Int} {m : Mc} {k : Nat} (h : m.Fit b k) : m.pop.Fit b k := by
  refine ⟨h.ok.pop, ?_, ?_, ?_⟩ <;>
  · have h1 := h.len
    have h2 := h.o1
    have h3 := h.e1
    unfold Mc.pop
    (repeat' split) <;> simp <;> omega
theorem drop_le (s : List Ent) : (s.dropWhile fun x => !x.iso).length ≤ s.length := by
  induction s with
  | nil => simp
  | cons x r ih =>
    rw [List.dropWhile_cons]
    split
    · exact Nat.le_succ_of_le ih
    · exact Nat.le_refl _
theorem Mc.Fit.closed {b : Int} {m : Mc} {k : Nat} (h : m.Fit b k) : m.closed.Fit b k := by
  refine ⟨h.ok.closed, ?_, ?_, ?_⟩ <;>
  · have h1 := h.len
    have h2 := h.o1
    have h3 := h.e1
    have h4 := drop_le m.s
    unfold Mc.closed
    (repeat' split) <;> simp <;> omega
theorem Mc.Fit.does {b : Int} {m : Mc} {k : Nat} (h : m.Fit b k) (c : Int) : (m.does c).Fit b (k + 1) := by
  unfold Mc.does
  (repeat' split) <;> first | exact h.embed _ _ | exact h.pop.more | exact h.more
theorem Mc.Fit.turn {b odd : Int} {m : Mc} {k : Nat} (hb : b ≤ 125) (h : m.Fit b k) (c : Int) : (m.turn b odd c).Fit b (k + 1) := by
  unfold Mc.turn
  (repeat' split) <;> first | exact h.does _ | exact fresh_fit hb _ | exact h.closed.more | exact h.isolate _ | exact h.more
/-- What the contracts ask. -/
theorem Mc.Fit.size {b : Int} {m : Mc} {k : Nat} (h : m.Fit b k) : ∃ n, m.s.length = n + 1 ∧ n ≤ k := by
  obtain ⟨x, y, hs, _⟩ := h.ok.bot
  have h1 := h.len
  refine ⟨m.s.length - 1, ?_, by omega⟩
  rw [hs]
  simp
theorem Mc.Fit.top {b : Int} {m : Mc} {k : Nat} (h : m.Fit b k) (hb : 0 ≤ b) : 0 ≤ m.top.lv ∧ m.top.lv ≤ 125 := by
  have := h.ok.lvs _ h.ok.top_mem
  exact ⟨by omega, this.2⟩
theorem Mc.Fit.v0 {b : Int} {m : Mc} {k : Nat} (h : m.Fit b k) : 0 ≤ m.v ∧ m.v ≤ k + 1 := by
  have h1 := h.ok.cnt
  have h2 : m.s.countP (·.iso) ≤ m.s.length := List.countP_le_length
  have h3 := h.len
  have e : List.countP Ent.iso m.s = m.s.countP (·.iso) := rfl
  omega
end M
end Go.Proofs.Ytdipaiflfhdpoaa
