/- The contract of ucd's Parse over the translation: the entries of a text, or the error. Conditions: the slice reads as a list of bytes below the heap's end, shorter than 4294967281; the variable MaxLen of the library holds some number. -/
import Derived.Test.YtjbpjnnflcmmhaaGreatDoorBody
import Derived.RecoverIn
namespace Go.Proofs.YtjbpjnnflcmmhaaGreatDoor
open Go.RowKit
attribute [local go_sem] Oper.semAt_some

theorem catch_panicking (n : Nat) (p q : Addr) (x y : Value) (u : TypeId) (pv : Value) (older : List PanicEntry) (w : World) (hp : w.cell? p = some x) (hq : w.cell? q = some y) (fp : w.frozen? p = false) (fq : w.frozen? q = false) (hpq : ¬ p = q) :
    CallsDIn Fence.wide n Tryz.prog 11 #[.pointer (some p), .pointer (some q)] (.panicking ({ v := .iface u pv, recovered := false } :: older)) w fun e u' w' =>
      e = .returned (.tuple #[]) ∧ u' = .panicking ({ v := .iface u pv, recovered := true } :: older) ∧ w' = (w.setCell p (.slice none 0 0)).setCell q (.int .i64 21) := by
  refine callsDIn_of_wpSIn Tryz.func11 rfl trivial fun c₀ cs hu => ?_
  apply wpSIn_seq
  apply wpSIn_region
  simp [wpOpsSIn, go_sem, recoverD, hu, Tryz.ntmps11, Exit.thenS]
  refine wpSIn_cond (t := true) (by simp [Act.eval, Array.replicate]) ?_
  simp only [if_true]
  apply wpSIn_region
  have q1 : (w.setCell p (.slice none 0 0)).cell? q = some y := (World.cell?_setCell_other _ _ _ _ hpq).trans hq
  simp [wpOpsSIn, go_sem, hp, fp, fq, q1, bodyPostS, results, Tryz.results11]

theorem catch_idle (n : Nat) (p q : Addr) (w : World) :
    CallsDIn Fence.wide n Tryz.prog 11 #[.pointer (some p), .pointer (some q)] .returning w fun e u' w' => e = .returned (.tuple #[]) ∧ u' = .returning ∧ w' = w := by
  refine callsDIn_of_wpSIn Tryz.func11 rfl trivial fun c₀ cs hu => ?_
  apply wpSIn_seq
  apply wpSIn_region
  simp [wpOpsSIn, go_sem, recoverD, hu, Tryz.ntmps11, Exit.thenS]
  refine wpSIn_cond (t := false) (by simp [Act.eval, Array.replicate]) ?_
  simp only [Bool.false_eq_true, if_false]
  refine wpSIn_of_wpIn rfl (wpIn_skip ?_)
  cases c₀
  simp_all [bodyPostS, results, Tryz.results11]

set_option maxHeartbeats 1000000 in
theorem lines_any (v : Value) (h1 : v.oneCell' = true) (A : Option Addr) (k cap : Nat) (hv : v = .slice A k cap) (w : World) :
    Calls Tryz.prog 12 #[v] w fun e w' => e = .returned (.func (.func 20) #[] #[.pointer (some ⟨w.heap.size, 0, none⟩)]) ∧ w.alloc (.cells #[v] 22) = w' := by
  have hmf : ∀ (fn : Fn) (first cap : Array Value) (w : World), (Instr.makeFunc fn first cap).run Tryz.prog w = .ok (.func fn first cap) w := fun _ _ _ _ => rfl
  subst hv
  clear h1
  go_enter Tryz.func12, Tryz.ntmps12
  go_wp2
  go_ret
  exact ⟨rfl, rfl⟩

section
variable {W : World} {l : Nat} {o : Obj}
theorem put_cell {p : Addr} (h : p.block ≠ l) : (W.putObj l o).cell? p = W.cell? p := World.cell?_of_block (World.putObj_heap_other h)
theorem put_frozen {p : Addr} (h : p.block ≠ l) : (W.putObj l o).frozen? p = W.frozen? p := World.frozen?_of_block (World.putObj_heap_other h)
theorem put_own {base : Nat} {v : Value} {acc : List M.E} (h : OwnE W base v acc) (hl : l < base) : OwnE (W.putObj l o) base v acc :=
  World.ownsRow.kept h (grownBy_putObj' W l o) (.inr fun e => by have := (World.ownsRow.lt h l e).1; omega)
theorem put_below {B : Nat} (hB : B ≤ l) : Below B W (W.putObj l o) := ⟨rfl, rfl, rfl, by simp, fun k hk => World.putObj_heap_other (by omega)⟩
end

/-- Between two rounds of Parse: what its boxes hold, the record, and how the reading goes on. -/
structure Inv (w : World) (txt : List UInt8) (rec : Loop) (pre : List (List UInt8)) (acc : List M.E) (v : Value) (W : World) : Prop where
  cell : W.cell? ⟨w.heap.size, 0, none⟩ = some v
  fz : W.frozen? ⟨w.heap.size, 0, none⟩ = false
  cell1 : W.cell? ⟨w.heap.size + 1, 0, none⟩ = some (.int .i64 0)
  fz1 : W.frozen? ⟨w.heap.size + 1, 0, none⟩ = false
  own : OwnE W (w.heap.size + 5) v acc
  loop : W.heap[w.heap.size + 4]? = some (.loop rec)
  dfr : W.heap[w.heap.size + 3]? = some (.deferred (some []))
  below : Below w.heap.size w W
  size : w.heap.size + 5 ≤ W.heap.size
  len : acc.length ≤ 600
  go : ∀ rest, M.parts 10 txt = pre ++ rest → M.parse txt = M.parseGo rest acc
/-- Behind a panic. -/
structure Fell (w : World) (txt : List UInt8) (W : World) : Prop where
  wrong : M.parse txt = none
  cell : ∃ v, W.cell? ⟨w.heap.size, 0, none⟩ = some v
  fz : W.frozen? ⟨w.heap.size, 0, none⟩ = false
  cell1 : W.cell? ⟨w.heap.size + 1, 0, none⟩ = some (.int .i64 0)
  fz1 : W.frozen? ⟨w.heap.size + 1, 0, none⟩ = false
  dfr : W.heap[w.heap.size + 3]? = some (.deferred (some []))
  below : Below w.heap.size w W

section
variable {w W W' : World} {txt : List UInt8} {rec rec' : Loop} {pre : List (List UInt8)} {acc : List M.E} {v : Value}
theorem Inv.next (h : Inv w txt rec pre acc v W) (hb : Below W.heap.size W W') : Inv w txt rec pre acc v W' := by
  have hs := h.size
  exact ⟨(hb.cell (p := ⟨w.heap.size, 0, none⟩) (by show w.heap.size < _; omega)).trans h.cell, (hb.frozen (p := ⟨w.heap.size, 0, none⟩) (by show w.heap.size < _; omega)).trans h.fz,
    (hb.cell (p := ⟨w.heap.size + 1, 0, none⟩) (by show w.heap.size + 1 < _; omega)).trans h.cell1, (hb.frozen (p := ⟨w.heap.size + 1, 0, none⟩) (by show w.heap.size + 1 < _; omega)).trans h.fz1,
    h.own.below hb, (hb.block _ (by omega)).trans h.loop, (hb.block _ (by omega)).trans h.dfr, h.below.trans (hb.mono h.below.size), Nat.le_trans h.size hb.size, h.len, h.go⟩
theorem Inv.put (h : Inv w txt rec pre acc v W) : Inv w txt rec' pre acc v (W.putObj (w.heap.size + 4) (.loop rec')) := by
  have hs := h.size
  exact ⟨(put_cell (by show w.heap.size ≠ _; omega)).trans h.cell, (put_frozen (by show w.heap.size ≠ _; omega)).trans h.fz, (put_cell (by show w.heap.size + 1 ≠ _; omega)).trans h.cell1, (put_frozen (by show w.heap.size + 1 ≠ _; omega)).trans h.fz1,
    put_own h.own (by omega), World.putObj_heap_same (by omega), (World.putObj_heap_other (by omega)).trans h.dfr, h.below.trans (put_below (by omega)), by simp; omega, h.len, h.go⟩
theorem Inv.fell (h : Inv w txt rec pre acc v W) (hp : M.parse txt = none) : Fell w txt W := ⟨hp, ⟨_, h.cell⟩, h.fz, h.cell1, h.fz1, h.dfr, h.below⟩
theorem Inv.shape (h : Inv w txt rec pre acc v W) : ∃ A cap, v = .slice A acc.length cap := by
  rcases h.own.2 with ⟨rfl, h0⟩ | ⟨g, cap, cur, rfl, _⟩
  · exact ⟨none, 0, by rw [h0]⟩
  · exact ⟨_, _, rfl⟩
end

/-- The record of Parse's range. -/
noncomputable def parseRec (w : World) (tmps : Array Value) (st : LoopState) : Loop :=
  { state := st, pending := none, fn := 5, tmps := tmps, params := #[8], assign := rangeAssign Tryz.f5.body, body := rangeBody Tryz.f5.body, defers := w.heap.size + 3 }
abbrev startTmps (B : Nat) (c0 c5 c6 c7 : Value) : Array Value :=
  #[c0, undef, .pointer (some ⟨B, 0, none⟩), .pointer (some ⟨B + 1, 0, none⟩), undef, c5, c6, c7, undef, undef, undef, undef, undef, undef, undef, undef, undef, undef, undef, undef, undef]

set_option maxHeartbeats 1000000 in
theorem assign_any (l n B : Nat) (x : ByteArray) (c0 c5 c6 c7 : Value) (W : World) (K : Act → World → Prop) (h : K { tmps := roundTmps B x c0 c5 c6 c7, defers := [] } W) :
    (rangeAssign Tryz.f5.body).wpIn (Fence.wide.inRound l) n Tryz.prog (Exit.then K (fun _ _ _ => False)) { tmps := #[c0, undef, .pointer (some ⟨B, 0, none⟩), .pointer (some ⟨B + 1, 0, none⟩), undef, c5, c6, c7, .string x, undef, undef, undef, undef, undef, undef, undef, undef, undef, undef, undef, undef], defers := [] } W := by
  unfold rangeAssign Tryz.f5
  dsimp only
  gi_wp2
  exact h

theorem Inv.kept {w W W' : World} {txt : List UInt8} {rec : Loop} {pre : List (List UInt8)} {acc : List M.E} {v v' : Value} {e : M.E} {x : List UInt8} (h : Inv w txt rec pre acc v W) (hk : Kept w.heap.size (w.heap.size + 5) W W') (hc : W'.cell? ⟨w.heap.size, 0, none⟩ = some v') (hf : W'.frozen? ⟨w.heap.size, 0, none⟩ = false)
    (ho : OwnE W' (w.heap.size + 5) v' (acc ++ [e])) (hl : acc.length < 600) (hx : ¬ M.counted x = []) (he : M.entry (M.counted x) = some e) : Inv w txt rec (pre ++ [x]) (acc ++ [e]) v' W' := by
  have b1 := hk.block (w.heap.size + 1) (by omega) (by omega)
  refine ⟨hc, hf, (World.cell?_of_block (a := ⟨w.heap.size + 1, 0, none⟩) b1).trans h.cell1, (World.frozen?_of_block (a := ⟨w.heap.size + 1, 0, none⟩) b1).trans h.fz1, ho, (hk.block _ (by omega) (by omega)).trans h.loop, (hk.block _ (by omega) (by omega)).trans h.dfr,
    h.below.trans hk.below, Nat.le_trans h.size hk.size, by simp; omega, fun rest hr => ?_⟩
  have := h.go (x :: rest) (by rw [hr]; simp)
  rw [this, M.parseGo, if_neg hx, if_neg (by omega), he]
theorem Inv.skip {w W : World} {txt : List UInt8} {rec : Loop} {pre : List (List UInt8)} {acc : List M.E} {v : Value} {x : List UInt8} (h : Inv w txt rec pre acc v W) (hx : M.counted x = []) : Inv w txt rec (pre ++ [x]) acc v W :=
  ⟨h.cell, h.fz, h.cell1, h.fz1, h.own, h.loop, h.dfr, h.below, h.size, h.len, fun rest hr => by
    have := h.go (x :: rest) (by rw [hr]; simp)
    rw [this, M.parseGo, if_pos hx]⟩

theorem counted_le (x : List UInt8) : (M.counted x).length ≤ x.length := by
  unfold M.counted
  exact Nat.le_trans (trim_le _) (List.takeWhile_sublist _).length_le
theorem part_le {c : UInt8} {l p : List UInt8} (h : p ∈ M.parts c l) : p.length ≤ l.length := by
  induction l generalizing p with
  | nil => simp [M.parts] at h; subst h; simp
  | cons x r ih =>
    unfold M.parts at h
    split at h
    · simp only [List.mem_cons] at h
      rcases h with rfl | h
      · simp
      · have := ih h; simp; omega
    · split at h
      · simp at h; subst h; simp
      · rename_i a t e
        simp only [List.mem_cons] at h
        rcases h with rfl | h
        · have := ih (p := a) (by rw [e]; simp); simp; omega
        · have := ih (p := p) (by rw [e]; simp [h]); simp; omega

set_option maxHeartbeats 2000000 in
/-- One round. -/
theorem round_any (n : Nat) (w W : World) (txt : List UInt8) (c0 c5 c6 c7 : Value) (hm : MaxOk w) (hs : txt.length < 4294967281) (pre : List (List UInt8)) (x : List UInt8) (acc : List M.E) (v : Value)
    (hI : Inv w txt (parseRec w (startTmps w.heap.size c0 c5 c6 c7) .ready) pre acc v W) (hpre : pre ++ [x] <+: M.parts 10 txt) :
    YieldAt Fence.wide n Tryz.prog (w.heap.size + 4) #[.string (M.bytes (M.counted x))] W fun e W' =>
      (e = .returned (.bool true) ∧ (∃ acc v, Inv w txt (parseRec w (startTmps w.heap.size c0 c5 c6 c7) .ready) (pre ++ [x]) acc v W') ∧ Below w.heap.size W W') ∨ (e = .panicked ucdPanic ∧ Fell w txt W') := by
  obtain ⟨rest, hrest⟩ := hpre
  have hparts : M.parts 10 txt = pre ++ (x :: rest) := by rw [← hrest]; simp
  have hxl : x.length ≤ txt.length := part_le (c := 10) (by rw [hparts]; simp)
  have hcl := counted_le x
  have hyield := run_yield (P := Tryz.prog) (args := #[.string (M.bytes (M.counted x))]) hI.loop rfl
  have htm : (((parseRec w (startTmps w.heap.size c0 c5 c6 c7) .ready).params.zip #[.string (M.bytes (M.counted x))]).foldl (fun t (p, a) => t.setIfInBounds p a) (parseRec w (startTmps w.heap.size c0 c5 c6 c7) .ready).tmps) =
      #[c0, undef, .pointer (some ⟨w.heap.size, 0, none⟩), .pointer (some ⟨w.heap.size + 1, 0, none⟩), undef, c5, c6, c7, .string (M.bytes (M.counted x)), undef, undef, undef, undef, undef, undef, undef, undef, undef, undef, undef, undef] := by simp [parseRec]
  rw [htm] at hyield
  refine ⟨5, _, rangeAssign Tryz.f5.body, rangeBody Tryz.f5.body, hyield, roundIn_panics Tryz.func5 trivial ?_⟩
  have hbusy := hI.put (rec' := parseRec w (startTmps w.heap.size c0 c5 c6 c7) .busy)
  have hbW : Below w.heap.size W (W.putObj (w.heap.size + 4) (.loop (parseRec w (startTmps w.heap.size c0 c5 c6 c7) .busy))) := put_below (by omega)
  have hbegin : (Instr.beginRound (w.heap.size + 4)).run Tryz.prog W = .ok () (W.putObj (w.heap.size + 4) (.loop (parseRec w (startTmps w.heap.size c0 c5 c6 c7) .busy))) := run_beginRound hI.loop rfl
  obtain ⟨W1, hW1⟩ : ∃ W1, W.putObj (w.heap.size + 4) (.loop (parseRec w (startTmps w.heap.size c0 c5 c6 c7) .busy)) = W1 := ⟨_, rfl⟩
  rw [hW1] at hbusy hbW hbegin
  have hend : ∀ pre' acc' v' W3, Inv w txt (parseRec w (startTmps w.heap.size c0 c5 c6 c7) .busy) pre' acc' v' W3 → Below w.heap.size W1 W3 → pre' = pre ++ [x] →
      ∃ u W4, (Instr.endRound (w.heap.size + 4) none).run Tryz.prog W3 = .ok u W4 ∧ ((Ending.returned u = .returned (.bool true) ∧ (∃ acc v, Inv w txt (parseRec w (startTmps w.heap.size c0 c5 c6 c7) .ready) (pre ++ [x]) acc v W4) ∧ Below w.heap.size W W4) ∨ (Ending.returned u = .panicked ucdPanic ∧ Fell w txt W4)) := by
    rintro pre' acc' v' W3 hI3 hb3 rfl
    exact ⟨_, _, run_endRound (P := Tryz.prog) none hI3.loop, .inl ⟨rfl, ⟨acc', v', hI3.put⟩, (hbW.trans hb3).trans (put_below (by omega))⟩⟩
  have main : ∀ k, (rangeBody Tryz.f5.body).wpIn (Fence.wide.inRound (w.heap.size + 4)) k Tryz.prog (roundPostP Tryz.prog (w.heap.size + 4) fun e W' =>
      (e = .returned (.bool true) ∧ (∃ acc v, Inv w txt (parseRec w (startTmps w.heap.size c0 c5 c6 c7) .ready) (pre ++ [x]) acc v W') ∧ Below w.heap.size W W') ∨ (e = .panicked ucdPanic ∧ Fell w txt W'))
      { tmps := roundTmps w.heap.size (M.bytes (M.counted x)) c0 c5 c6 c7, defers := [] } W1 := by
    intro k
    by_cases hx : M.counted x = []
    · rw [hx]
      exact body_skip _ _ _ _ _ _ _ _ _ (fun t => hend _ _ _ _ (hbusy.skip hx) (Below.refl _ _) rfl)
    · have hne : ¬ (M.bytes (M.counted x)).toList = [] := by rw [ByteArray.toList_eq, M.bytes_list]; exact hx
      have hgo := hbusy.go (x :: rest) hparts
      rw [M.parseGo, if_neg hx] at hgo
      obtain ⟨A, cap, rfl⟩ := hbusy.shape
      by_cases h6 : acc.length = 600
      · rw [if_pos h6] at hgo
        exact body_full _ _ _ cap A _ _ _ _ _ _ _ hne (by rw [← h6]; exact hbusy.cell) (fun t => ⟨rfl, .inr ⟨rfl, hbusy.fell hgo⟩⟩)
      · rw [if_neg h6] at hgo
        have hl6 : acc.length < 600 := by have := hbusy.len; omega
        have hsz : (M.bytes (M.counted x)).size < 4294967281 := by rw [bytes_size]; omega
        have hs1 : 1 ≤ (M.bytes (M.counted x)).size := by rw [bytes_size]; exact List.length_pos_iff.2 hx
        have hcall := fun W hW => entry_any (M.bytes (M.counted x)) W hW hsz hs1
        rw [M.bytes_list] at hcall
        have hmW : MaxOk W1 := hm.next hbusy.below
        cases he : M.entry (M.counted x) with
        | none =>
          rw [he] at hgo hcall
          exact body_wrong _ _ _ acc.length cap A _ _ _ _ _ _ _ hne hbusy.cell hl6 hcall hmW (fun t W' hb => ⟨rfl, .inr ⟨rfl, (hbusy.next hb).fell hgo⟩⟩)
        | some e =>
          rw [he] at hcall
          exact body_right _ _ _ (w.heap.size + 5) cap acc.length A _ acc e _ _ _ _ _ _ hne hbusy.cell hbusy.fz rfl hl6 (by omega) hbusy.size hbusy.own hcall hmW
            (fun t W' v' c f o kp => hend _ _ _ _ (hbusy.kept kp c f o hl6 hx he) kp.below rfl)
  refine assign_any _ _ _ _ _ _ _ _ _ _ ?_
  exact ⟨W1, hbegin, main _⟩

/-- The entries of a text, or the error. -/
def ParseEnd (w : World) (txt : List UInt8) (e : Ending) (w' : World) : Prop :=
  (match M.parse txt with
   | some l => ∃ v, e = .returned (.tuple #[v, .int .i64 0]) ∧ OwnE w' w.heap.size v l
   | none => e = .returned (.tuple #[.slice none 0 0, .int .i64 21])) ∧ Below w.heap.size w w'

theorem own_base {W : World} {b b' : Nat} {v : Value} {l : List M.E} (h : OwnE W b v l) (hb : b' ≤ b) : OwnE W b' v l := by
  refine ⟨h.1, ?_⟩
  rcases h.2 with h0 | ⟨g, cap, cur, h1, h2, h3⟩
  · exact .inl h0
  · exact .inr ⟨g, cap, cur, h1, by omega, h3⟩
/-- What is deferred in Parse. -/
abbrev parseDefers (B : Nat) : List Deferred := [{ target := .collected (B + 3), args := #[] }, { target := .fn (.func 11) #[.pointer (some ⟨B, 0, none⟩), .pointer (some ⟨B + 1, 0, none⟩)], args := #[] }]
theorem parse_results {W : World} {B : Nat} {A : Option Addr} {k cap : Nat} {y : Int} (tmps : Array Value) (h2 : tmps[2]?.getD undef = .pointer (some ⟨B, 0, none⟩)) (h3 : tmps[3]?.getD undef = .pointer (some ⟨B + 1, 0, none⟩)) (c0 : W.cell? ⟨B, 0, none⟩ = some (.slice A k cap)) (c1 : W.cell? ⟨B + 1, 0, none⟩ = some (.int .i64 y)) :
    (results Tryz.f5 tmps).run Tryz.prog W = .ok (.tuple #[.slice A k cap, .int .i64 y]) W := by
  simp [results, Tryz.results5, go_sem, h2, h3, c0, c1]
theorem leave_right (w W : World) (txt : List UInt8) (acc : List M.E) (A : Option Addr) (cap : Nat) (tmps : Array Value) (h2 : tmps[2]?.getD undef = .pointer (some ⟨w.heap.size, 0, none⟩)) (h3 : tmps[3]?.getD undef = .pointer (some ⟨w.heap.size + 1, 0, none⟩))
    (hD : W.heap[w.heap.size + 3]? = some (.deferred (some []))) (c0 : W.cell? ⟨w.heap.size, 0, none⟩ = some (.slice A acc.length cap)) (c1 : W.cell? ⟨w.heap.size + 1, 0, none⟩ = some (.int .i64 0)) (own : OwnE W (w.heap.size + 5) (.slice A acc.length cap) acc) (hb : Below w.heap.size w W) (hp : M.parse txt = some acc) :
    LeavesInM Fence.wide 5 Tryz.prog Tryz.f5 tmps (ParseEnd w txt) (parseDefers w.heap.size) .returning W := by
  refine ⟨by simp, .inl ⟨_, _, rfl, run_takeDeferred hD, ?_⟩⟩
  have d0 := (put_cell (W := W) (l := w.heap.size + 3) (o := .deferred none) (p := ⟨w.heap.size, 0, none⟩) (by show w.heap.size ≠ _; omega)).trans c0
  have d1 := (put_cell (W := W) (l := w.heap.size + 3) (o := .deferred none) (p := ⟨w.heap.size + 1, 0, none⟩) (by show w.heap.size + 1 ≠ _; omega)).trans c1
  have own' := put_own (l := w.heap.size + 3) (o := .deferred none) own (by omega)
  have hb' : Below w.heap.size w (W.putObj (w.heap.size + 3) (.deferred none)) := hb.trans (put_below (by omega))
  refine ⟨by simp, .inr ⟨fun h => (by cases h), _, _, 11, #[.pointer (some ⟨w.heap.size, 0, none⟩), .pointer (some ⟨w.heap.size + 1, 0, none⟩)], rfl, by simp [go_sem], fun _ _ => trivial, ?_⟩⟩
  refine (catch_idle _ ⟨w.heap.size, 0, none⟩ ⟨w.heap.size + 1, 0, none⟩ _).mono ?_
  rintro e u' w'' ⟨rfl, rfl, rfl⟩
  exact ⟨_, parse_results tmps h2 h3 d0 d1, by unfold ParseEnd; rw [hp]; exact ⟨⟨_, rfl, own_base own' (by omega)⟩, hb'⟩⟩
theorem leave_wrong (w W : World) (txt : List UInt8) (tmps : Array Value) (h2 : tmps[2]?.getD undef = .pointer (some ⟨w.heap.size, 0, none⟩)) (h3 : tmps[3]?.getD undef = .pointer (some ⟨w.heap.size + 1, 0, none⟩)) (hF : Fell w txt W) :
    LeavesInM Fence.wide 5 Tryz.prog Tryz.f5 tmps (ParseEnd w txt) (parseDefers w.heap.size) (.panicking ucdPanic) W := by
  obtain ⟨hp, ⟨v, c0⟩, f0, c1, f1, hD, hb⟩ := hF
  refine ⟨by simp, .inl ⟨_, _, rfl, run_takeDeferred hD, ?_⟩⟩
  have d0 := (put_cell (W := W) (l := w.heap.size + 3) (o := .deferred none) (p := ⟨w.heap.size, 0, none⟩) (by show w.heap.size ≠ _; omega)).trans c0
  have d1 := (put_cell (W := W) (l := w.heap.size + 3) (o := .deferred none) (p := ⟨w.heap.size + 1, 0, none⟩) (by show w.heap.size + 1 ≠ _; omega)).trans c1
  have g0 := (put_frozen (W := W) (l := w.heap.size + 3) (o := .deferred none) (p := ⟨w.heap.size, 0, none⟩) (by show w.heap.size ≠ _; omega)).trans f0
  have g1 := (put_frozen (W := W) (l := w.heap.size + 3) (o := .deferred none) (p := ⟨w.heap.size + 1, 0, none⟩) (by show w.heap.size + 1 ≠ _; omega)).trans f1
  have hb' : Below w.heap.size w (W.putObj (w.heap.size + 3) (.deferred none)) := hb.trans (put_below (by omega))
  refine ⟨by simp, .inr ⟨fun h => (by cases h), _, _, 11, #[.pointer (some ⟨w.heap.size, 0, none⟩), .pointer (some ⟨w.heap.size + 1, 0, none⟩)], rfl, by simp [go_sem], fun _ _ => trivial, ?_⟩⟩
  refine (catch_panicking _ ⟨w.heap.size, 0, none⟩ ⟨w.heap.size + 1, 0, none⟩ _ _ _ _ _ _ d0 d1 g0 g1 (by simp)).mono ?_
  rintro e u' w'' ⟨rfl, rfl, rfl⟩
  have e0 : (((W.putObj (w.heap.size + 3) (.deferred none)).setCell ⟨w.heap.size, 0, none⟩ (.slice none 0 0)).setCell ⟨w.heap.size + 1, 0, none⟩ (.int .i64 21)).cell? ⟨w.heap.size, 0, none⟩ = some (.slice none 0 0) :=
    (World.cell?_setCell_other _ _ _ _ (by simp)).trans (World.cell?_setCell_same (v := .slice none 0 0) _ _ d0)
  have e1 : (((W.putObj (w.heap.size + 3) (.deferred none)).setCell ⟨w.heap.size, 0, none⟩ (.slice none 0 0)).setCell ⟨w.heap.size + 1, 0, none⟩ (.int .i64 21)).cell? ⟨w.heap.size + 1, 0, none⟩ = some (.int .i64 21) :=
    World.cell?_setCell_same (v := .int .i64 21) _ _ ((World.cell?_setCell_other _ _ _ _ (by simp)).trans d1)
  exact ⟨_, parse_results tmps h2 h3 e0 e1, by unfold ParseEnd; rw [hp]; exact ⟨rfl, (hb'.setCell (p := ⟨w.heap.size, 0, none⟩) (Nat.le_refl _) _).setCell (p := ⟨w.heap.size + 1, 0, none⟩) (Nat.le_succ _) _⟩⟩

set_option maxHeartbeats 4000000 in
theorem parse_any (A : Option Addr) (cap : Nat) (txt : List UInt8) (w : World) (hr : RdB w w.heap.size A txt) (hm : MaxOk w) (hc : txt.length ≤ cap) (hx : cap ≤ maxLen) (hp : A = none → cap = 0) (hs : txt.length < 4294967281) :
    Calls Tryz.prog 5 #[.slice A txt.length cap] w (ParseEnd w txt) := by
  have hmf : ∀ (fn : Fn) (first cap : Array Value) (w : World), (Instr.makeFunc fn first cap).run Tryz.prog w = .ok (.func fn first cap) w := fun _ _ _ _ => rfl
  have HR := Lib.hid hr
  have HM := Lib.hid hm
  have HP := Lib.hid hp
  clear hr hm hp
  refine calls_of_wpAt (n := 5) Tryz.func5 rfl ?_
  simp only [Tryz.ntmps5, List.size_toArray, List.length_cons, List.length_nil, Nat.reduceAdd, Nat.reduceSub, Array.replicate_succ, Array.replicate_zero, List.push_toArray, List.append_toArray, List.nil_append, List.cons_append]
  refine wpAt_seq (wpAt_of (n := 5) ?_)
  gi_wp2
  refine wpAt_seq (wpAt_of (n := 5) ?_)
  gi_wp2
  refine wpAt_seq ?_
  refine wpAt_seq (wpAt_of (n := 5) ?_)
  gi_wp2_with fail
  refine ⟨trivial, ?_⟩
  refine (callsIn_wide.2 (lines_any _ rfl A txt.length cap rfl _)).mono ?_
  rintro e w' ⟨rfl, rfl⟩
  simp only [World.size_alloc]
  gi_wp2
  refine wpAt_block ?_
  refine wpAt_range (n := 5) (gf := 20) (lb := #[.pointer (some ⟨w.heap.size + 1 + 1, 0, none⟩)]) rfl (enters_of Tryz.func20 (by kernel_rfl) rfl) ?_
  intro rec W hrec hW
  simp only [World.size_alloc, Nat.add_assoc, Nat.reduceAdd] at hrec hW ⊢
  have r1 : rec .ready none = parseRec w (startTmps w.heap.size (.slice A txt.length cap) (.func (.func 11) #[] #[.pointer (some ⟨w.heap.size, 0, none⟩), .pointer (some ⟨w.heap.size + 1, 0, none⟩)]) (.slice A txt.length cap) (.func (.func 20) #[] #[.pointer (some ⟨w.heap.size + 2, 0, none⟩)])) .ready := by rw [hrec]; rfl
  rw [r1] at hW ⊢
  clear hrec r1
  obtain ⟨R0, hR0⟩ : ∃ r, r = startTmps w.heap.size (.slice A txt.length cap) (.func (.func 11) #[] #[.pointer (some ⟨w.heap.size, 0, none⟩), .pointer (some ⟨w.heap.size + 1, 0, none⟩)]) (.slice A txt.length cap) (.func (.func 20) #[] #[.pointer (some ⟨w.heap.size + 2, 0, none⟩)]) := ⟨_, rfl⟩
  rw [← hR0] at hW ⊢
  have hsz : W.heap.size = w.heap.size + 5 := by rw [hW]; simp
  have hbW : Below w.heap.size w W := by
    rw [hW]
    exact (((((Below.refl _ w).alloc (Nat.le_refl _) _).alloc (by simp) _).alloc (by simp; omega) _).alloc (by simp; omega) _).alloc (by simp; omega) _
  have hI0 : Inv w txt (parseRec w R0 .ready) [] [] (.slice none 0 0) W := by
    refine ⟨?_, ?_, ?_, ?_, ⟨rfl, .inl ⟨rfl, rfl⟩⟩, ?_, ?_, hbW, by omega, by simp, fun rest hr => by simp at hr; rw [← hr]; rfl⟩
    · rw [hW]; simp [go_sem]
    · rw [hW]; simp [go_sem]
    · rw [hW]; simp [go_sem]
    · rw [hW]; simp [go_sem]
    · rw [hW]; have := World.alloc_heap_new ((((w.alloc (.cells #[.slice none 0 0] 24)).alloc (.cells #[.int .i64 0] 25)).alloc (.cells #[.slice A txt.length cap] 22)).alloc (.deferred (some []))) (.loop (parseRec w R0 .ready)); simpa using this
    · rw [hW]
      refine (Below.heap_alloc _ _ _ (by simp)).trans ?_
      have := World.alloc_heap_new (((w.alloc (.cells #[.slice none 0 0] 24)).alloc (.cells #[.int .i64 0] 25)).alloc (.cells #[.slice A txt.length cap] 22)) (.deferred (some []))
      simpa using this
  have hbox : W.cell? ⟨w.heap.size + 2, 0, none⟩ = some (.slice A txt.length cap) := by rw [hW]; simp [go_sem]
  have hlt := HM.out.lt
  refine (lines1_in 4 (w.heap.size + 4) (w.heap.size + 2) w.heap.size A cap txt (fun pre W => ∃ acc v, Inv w txt (parseRec w R0 .ready) pre acc v W) (Fell w txt)
    (fun pre W W' ⟨acc, v, h⟩ hb => ⟨acc, v, h.next hb⟩)
    (fun pre x W ⟨acc, v, h⟩ hpre => by rw [hR0] at h ⊢; exact round_any 4 w W txt _ _ _ _ HM.out hs pre x acc v h hpre)
    W hbox (HR.out.below hbW) (by omega) (HM.out.next hbW) hlt hc hx HP.out hs ⟨[], _, hI0⟩).mono ?_
  clear hI0 hbox hW
  rintro e W' (⟨⟨u, rfl⟩, acc, v, hI⟩ | ⟨rfl, hF⟩)
  · refine .inl ⟨u, rfl, hI.loop, ?_⟩
    have hI2 := hI.put (rec' := rec .exhausted none)
    have hparse : M.parse txt = some acc := by rw [hI.go [] (by simp)]; rfl
    obtain ⟨W2, hW2⟩ : ∃ W2, W'.putObj (w.heap.size + 4) (.loop (rec .exhausted none)) = W2 := ⟨_, rfl⟩
    rw [hW2] at hI2 ⊢
    clear hW2 hI hR0
    obtain ⟨A', cap', rfl⟩ := hI2.shape
    have HI := Lib.hid hI2
    have HPA := Lib.hid hparse
    have c0 := hI2.cell
    have f0 := hI2.fz
    have c1 := hI2.cell1
    have f1 := hI2.fz1
    clear hI2 hparse
    show wpAt _ _ _ _ _ _
    refine wpAt_seq (wpAt_of (n := 5) ?_)
    gi_wp2
    refine wpAt_of (n := 5) (wpIn_ret ?_)
    have d0 : ((W2.setCell ⟨w.heap.size, 0, none⟩ (.slice A' acc.length cap')).setCell ⟨w.heap.size + 1, 0, none⟩ (.int .i64 0)).cell? ⟨w.heap.size, 0, none⟩ = some (.slice A' acc.length cap') :=
      (World.cell?_setCell_other _ _ _ _ (by simp)).trans (World.cell?_setCell_same (v := .slice A' acc.length cap') _ _ c0)
    have d1 : ((W2.setCell ⟨w.heap.size, 0, none⟩ (.slice A' acc.length cap')).setCell ⟨w.heap.size + 1, 0, none⟩ (.int .i64 0)).cell? ⟨w.heap.size + 1, 0, none⟩ = some (.int .i64 0) :=
      World.cell?_setCell_same (v := .int .i64 0) _ _ ((World.cell?_setCell_other _ _ _ _ (by simp)).trans c1)
    have far : ∀ k, k < w.heap.size + 5 → (Value.slice A' acc.length cap').ownBlock ≠ some k := fun k hk e => by have := (World.ownsRow.lt HI.out.own k e).1; omega
    exact leave_right w _ txt acc A' cap' _ rfl rfl ((Below.heap_setCell _ ⟨w.heap.size + 1, 0, none⟩ _ _ (by show w.heap.size + 3 ≠ w.heap.size + 1; omega)).trans ((Below.heap_setCell _ ⟨w.heap.size, 0, none⟩ _ _ (by show w.heap.size + 3 ≠ w.heap.size; omega)).trans HI.out.dfr)) d0 d1
      (World.ownsRow.kept (World.ownsRow.kept HI.out.own (grown_cell _ ⟨w.heap.size, 0, none⟩ _) (.inr (far _ (by show w.heap.size < _; omega)))) (grown_cell _ ⟨w.heap.size + 1, 0, none⟩ _) (.inr (far _ (by show w.heap.size + 1 < _; omega))))
      ((HI.out.below.setCell (p := ⟨w.heap.size, 0, none⟩) (Nat.le_refl _) _).setCell (p := ⟨w.heap.size + 1, 0, none⟩) (Nat.le_succ _) _) HPA.out
  · refine .inr ⟨ucdPanic, rfl, ?_⟩
    exact leave_wrong w W' txt _ rfl rfl hF
end Go.Proofs.YtjbpjnnflcmmhaaGreatDoor
