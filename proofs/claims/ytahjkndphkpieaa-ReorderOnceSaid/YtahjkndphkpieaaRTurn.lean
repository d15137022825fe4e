/- The contract of the document's turn: places of a row of one's own, turned round. Conditions: the places lie in the row, at most a thousand long. -/
import Derived.Test.YtahjkndphkpieaaBase
import Derived.Test.YtahjkndphkpieaaBackM
import Derived.Handy
namespace Go.Proofs.Ytahjkndphkpieaa
open Go.RowKit
set_option maxRecDepth 100000

/-- The places from f on, below t, turned round. -/
def M.seg (l : List Int) (f t : Nat) : List Int := l.take f ++ ((l.drop f).take (t - f)).reverse ++ l.drop t
/-- k of them, from both ends, have been changed for one another. -/
def M.TrnTo (l : List Int) (f t k : Nat) (X : List Int) : Prop := ∀ i, X[i]? = if (f ≤ i ∧ i < f + k) ∨ (t - k ≤ i ∧ i < t) then l[f + t - 1 - i]? else l[i]?
section
variable {l X : List Int} {f t k : Nat}
theorem M.seg_mid (D S R : List Int) : M.seg (D ++ S ++ R) D.length (D.length + S.length) = D ++ S.reverse ++ R := by
  have a1 : (D ++ S ++ R).take D.length = D := by rw [List.append_assoc, List.take_left]
  have a2 : (D ++ S ++ R).drop D.length = S ++ R := by rw [List.append_assoc, List.drop_left]
  have a3 : (D ++ S ++ R).drop (D.length + S.length) = R := by rw [← List.length_append, List.drop_left]
  unfold M.seg
  rw [a1, a2, a3, Nat.add_sub_cancel_left, List.take_left]
theorem M.seg_at (hft : f ≤ t) (htn : t ≤ l.length) (i : Nat) : (M.seg l f t)[i]? = if f ≤ i ∧ i < t then l[f + t - 1 - i]? else l[i]? := by
  have h1 : (l.take f).length = f := by rw [List.length_take]; omega
  have h2 : ((l.drop f).take (t - f)).length = t - f := by rw [List.length_take, List.length_drop]; omega
  unfold M.seg
  rw [List.append_assoc]
  by_cases e1 : i < f
  · rw [List.getElem?_append_left (by omega), List.getElem?_take, if_pos e1, if_neg (by omega)]
  · rw [List.getElem?_append_right (by omega), h1]
    by_cases e2 : i < t
    · rw [List.getElem?_append_left (by rw [List.length_reverse]; omega), if_pos (by omega), List.getElem?_reverse (by omega), h2, List.getElem?_take, if_pos (by omega), List.getElem?_drop]
      congr 1
      omega
    · rw [List.getElem?_append_right (by rw [List.length_reverse]; omega), if_neg (by omega), List.length_reverse, h2, List.getElem?_drop]
      congr 1
      omega
theorem M.seg_len (hft : f ≤ t) (htn : t ≤ l.length) : (M.seg l f t).length = l.length := by
  unfold M.seg
  simp
  omega
theorem M.TrnTo.start : M.TrnTo l f t 0 l := fun i => by rw [if_neg (by omega)]
theorem M.TrnTo.done (h : M.TrnTo l f t k X) (hft : f ≤ t) (htn : t ≤ l.length) (hk : t ≤ f + k + k + 1) (hk2 : f + k + k ≤ t) : X = M.seg l f t := by
  refine List.ext_getElem? fun i => ?_
  rw [h i, M.seg_at hft htn]
  by_cases e : (f ≤ i ∧ i < f + k) ∨ (t - k ≤ i ∧ i < t)
  · rw [if_pos e, if_pos (by omega)]
  · rw [if_neg e]
    split
    · congr 1
      omega
    · rfl
theorem M.TrnTo.step {a b : Int} (h : M.TrnTo l f t k X) (hx : X.length = l.length) (hk : f + k + k + 1 < t) (htn : t ≤ l.length) (ha : X[f + k]? = some a) (hb : X[t - k - 1]? = some b) :
    M.TrnTo l f t (k + 1) ((X.set (f + k) b).set (t - k - 1) a) := fun i => by
  have ha' : l[f + k]? = some a := by rw [← ha, h (f + k), if_neg (by omega)]
  have hb' : l[t - k - 1]? = some b := by rw [← hb, h (t - k - 1), if_neg (by omega)]
  rw [List.getElem?_set, List.getElem?_set, List.length_set]
  by_cases e1 : t - k - 1 = i
  · subst e1
    rw [if_pos rfl, if_pos (by omega), if_pos (by omega), ← ha']
    congr 1
    omega
  · rw [if_neg e1]
    by_cases e2 : f + k = i
    · subst e2
      rw [if_pos rfl, if_pos (by omega), if_pos (by omega), ← hb']
      congr 1
      omega
    · rw [if_neg e2, h i]
      by_cases e3 : (f ≤ i ∧ i < f + k) ∨ (t - k ≤ i ∧ i < t)
      · rw [if_pos e3, if_pos (by omega)]
      · rw [if_neg e3, if_neg (by omega)]
end
/-- One block alone has turned. -/
structure Turned (w w' : World) (G : Nat) : Prop where
  os : w'.os = w.os
  tape : w'.tape = w.tape
  output : w'.output = w.output
  size : w'.heap.size = w.heap.size
  block : ∀ b, b ≠ G → w'.heap[b]? = w.heap[b]?
theorem Turned.refl (w : World) (G : Nat) : Turned w w G := ⟨rfl, rfl, rfl, rfl, fun _ _ => rfl⟩
theorem Turned.trans {w w1 w2 : World} {G : Nat} (h : Turned w w1 G) (k : Turned w1 w2 G) : Turned w w2 G :=
  ⟨k.os.trans h.os, k.tape.trans h.tape, k.output.trans h.output, k.size.trans h.size, fun b hb => (k.block b hb).trans (h.block b hb)⟩
theorem Turned.setCell {w w' : World} {G : Nat} (h : Turned w w' G) (k : Nat) (u : Value) : Turned w (w'.setCell ⟨G, k, none⟩ u) G :=
  ⟨h.os, h.tape, h.output, by simpa [World.setCell] using h.size, fun b hb => (Below.heap_setCell _ _ _ _ hb).trans (h.block b hb)⟩
theorem Turned.below {w w' : World} {G base : Nat} (h : Turned w w' G) (hb : base ≤ G) : Below base w w' :=
  ⟨h.os, h.tape, h.output, by rw [h.size]; exact Nat.le_refl _, fun b hlt => h.block b (by omega)⟩
theorem Turned.cell {w w' : World} {G : Nat} (h : Turned w w' G) {p : Addr} (hp : p.block ≠ G) : w'.cell? p = w.cell? p := World.cell?_of_block (h.block _ hp)
theorem own_form {W : World} {base size : Nat} {e : TypeId} {v : Value} {xs : List Value} {k : Nat} (h : W.ownsRow base e size v k xs) : ∃ A c, v = .slice A k c ∧ k ≤ c ∧ c ≤ maxLen ∧ (A = none → c = 0) ∧ (0 < k → ∃ g, A = some ⟨g, 0, none⟩) := by
  rcases h.2 with ⟨rfl, h0⟩ | ⟨g, cap, cur, rfl, _, _, hn, hm, _, _⟩
  · exact ⟨none, 0, by rw [h0], by omega, by unfold maxLen; omega, fun _ => rfl, fun h => by omega⟩
  · exact ⟨_, cap, rfl, hn, hm, fun h => (by cases h), fun _ => ⟨g, rfl⟩⟩
set_option maxHeartbeats 8000000 in
theorem refTurn_some (G cb n f t base : Nat) (O : List Int) (w : World) (ho : w.ownsRow base 3 1 (.slice (some ⟨G, 0, none⟩) n cb) n (O.map (Value.int .i64))) (hol : O.length = n) (hft : f ≤ t) (htn : t ≤ n) (hl : n ≤ 1000) :
    Calls Try.prog 22 #[.slice (some ⟨G, 0, none⟩) n cb, .int .i64 f, .int .i64 t] w fun r w' => r = .returned (.tuple #[]) ∧ w'.ownsRow base 3 1 (.slice (some ⟨G, 0, none⟩) n cb) n ((M.seg O f t).map (Value.int .i64)) ∧ Turned w w' G := by
  have HO := Lib.hid ho
  have HOL := Lib.hid hol
  have HB := Lib.hid (And.intro hft htn)
  have hl1 : (n : Int) ≤ 1000 := by omega
  clear ho hol
  go_enter Try.func22, Try.ntmps22
  go_wp2_with fail
  go_loopw [1, 2] (fun a b wr => ∃ (k x y : Nat) (X : List Int), a = .int .i64 x ∧ b = .int .i64 y ∧ x = f + k ∧ y = t - k ∧ f + k + k ≤ t ∧ X.length = n ∧ M.TrnTo O f t k X ∧ wr.ownsRow base 3 1 (.slice (some ⟨G, 0, none⟩) n cb) n (X.map (Value.int .i64)) ∧ Turned w wr G) (fun a b _ => (intOf b - intOf a).toNat)
  case atStart => exact ⟨0, f, t, O, rfl, rfl, rfl, rfl, hft, HOL.out, .start, HO.out, .refl _ _⟩
  case round =>
    obtain ⟨k, x, y, X, rfl, rfl, hx, hy, hk, hX, hto, hrow, ht⟩ := hrel
    have HT := Lib.hid ht
    have HX := Lib.hid hX
    have HTO := Lib.hid hto
    have x0 : (0 : Int) ≤ x := by omega
    have y1 : (y : Int) ≤ n := by omega
    by_cases hlt : x + 1 < y
    · have h1 : (x : Int) < y - 1 := by omega
      obtain ⟨z, hz⟩ : ∃ z : Nat, (y : Int) - 1 = z := ⟨y - 1, by omega⟩
      rw [hz] at h1
      have z1 : (z : Int) < n := by omega
      have hzy : z = t - k - 1 := by omega
      obtain ⟨p, hp⟩ : ∃ p, X[x]? = some p := ⟨_, List.getElem?_eq_getElem (by omega)⟩
      obtain ⟨q, hq⟩ : ∃ q, X[z]? = some q := ⟨_, List.getElem?_eq_getElem (by omega)⟩
      have c0 : wr.cell? ⟨G, x, none⟩ = some (.int .i64 p) := by
        rw [World.ownsRow.cellAt hrow x (by omega), List.getElem?_map, hp]
        rfl
      have c1 : wr.cell? ⟨G, z, none⟩ = some (.int .i64 q) := by
        rw [World.ownsRow.cellAt hrow z (by omega), List.getElem?_map, hq]
        rfl
      have f0 := World.ownsRow.frozenAt hrow x
      have hr1 := (World.ownsRow.stored hrow x (.int .i64 q)).1
      rw [← List.map_set] at hr1
      have hr2 := (World.ownsRow.stored hr1 z (.int .i64 p)).1
      rw [← List.map_set] at hr2
      have f1 := World.ownsRow.frozenAt hr1 z
      have hne : x ≠ z := by omega
      have hst := hto.step (a := p) (b := q) (by rw [hX, HOL.out]) (by omega) (by rw [HOL.out]; omega) (by rw [← hx]; exact hp) (by rw [← hzy]; exact hq)
      rw [← hx, ← hzy] at hst
      have HST := Lib.hid hst
      have HR2 := Lib.hid hr2
      have HN := Lib.hid (show x + 1 = f + (k + 1) ∧ z = t - (k + 1) ∧ f + (k + 1) + (k + 1) ≤ t by omega)
      have xz : (x : Int) < z := h1
      clear hto hrow ht hX hp hq hr1 hr2 hst hx hy hk hzy hft htn
      go_wp2_with fail
      go_roundw
      case rel => exact ⟨k + 1, x + 1, z, _, by go_num, rfl, HN.out.1, HN.out.2.1, HN.out.2.2, by rw [List.length_set, List.length_set, HX.out], HST.out, HR2.out, (HT.out.setCell _ _).setCell _ _⟩
      case measure => simp [intOf]; omega
    · have h1 : ¬ (x : Int) < y - 1 := by omega
      have hd := hto.done HB.out.1 (by rw [HOL.out]; exact HB.out.2) (by omega) hk
      rw [hd] at hrow
      have HROW := Lib.hid hrow
      clear hto hrow ht hX hd hx hy hk hft htn
      go_wp2_with fail
      go_end0
      exact ⟨rfl, HROW.out, HT.out⟩
theorem refTurn_none (A : Option Addr) (n cb : Nat) (f t : Nat) (w : World) (hft : t ≤ f + 1) (hl : t ≤ 1000) :
    Calls Try.prog 22 #[.slice A n cb, .int .i64 f, .int .i64 t] w fun r w' => r = .returned (.tuple #[]) ∧ w = w' := by
  have h1 : ¬ (f : Int) < t - 1 := by omega
  have h2 : (t : Int) ≤ 1000 := by omega
  have h3 : (0 : Int) ≤ t := by omega
  clear hft hl
  go_enter Try.func22, Try.ntmps22
  go_wp2_with fail
  go_loopw [1, 2] (fun a b wr => a = .int .i64 f ∧ b = .int .i64 t ∧ wr = w) (fun _ _ _ => 0)
  case atStart => exact ⟨rfl, rfl, rfl⟩
  case round =>
    obtain ⟨rfl, rfl, rfl⟩ := hrel
    go_wp2_with fail
    go_end0
    exact ⟨rfl, rfl⟩
/-- Whichever the row is. -/
theorem refTurn_any (v : Value) (n f t base : Nat) (O : List Int) (w : World) (ho : w.ownsRow base 3 1 v n (O.map (Value.int .i64))) (hol : O.length = n) (hft : f ≤ t) (htn : t ≤ n) (hl : n ≤ 1000) :
    Calls Try.prog 22 #[v, .int .i64 f, .int .i64 t] w fun r w' => r = .returned (.tuple #[]) ∧ w'.ownsRow base 3 1 v n ((M.seg O f t).map (Value.int .i64)) ∧ Below base w w' ∧ w'.heap.size = w.heap.size ∧ (∀ b, v.ownBlock ≠ some b → w'.heap[b]? = w.heap[b]?) := by
  obtain ⟨A, c, rfl, hc, hm, hA, hg⟩ := own_form ho
  by_cases h : t ≤ f + 1
  · refine (refTurn_none A n c f t w h (by omega)).mono ?_
    rintro r w' ⟨rfl, rfl⟩
    have : M.seg O f t = O := by
      refine (M.TrnTo.done (k := 0) .start hft (by omega) (by omega) (by omega)).symm
    rw [this]
    exact ⟨rfl, ho, Below.refl _ _, rfl, fun _ _ => rfl⟩
  · obtain ⟨g, rfl⟩ := hg (by omega)
    have hgl := World.ownsRow.lt ho g rfl
    refine (refTurn_some g c n f t base O w ho hol hft htn hl).mono ?_
    rintro r w' ⟨rfl, h1, h2⟩
    exact ⟨rfl, h1, h2.below hgl.1, h2.size, fun b hb => h2.block b fun e => hb (by rw [e]; rfl)⟩
end Go.Proofs.Ytahjkndphkpieaa
