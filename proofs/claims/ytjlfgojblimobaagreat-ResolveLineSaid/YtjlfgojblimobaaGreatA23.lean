/- The contract of the document's becomes. Conditions: the classes as they came read as a list in old blocks; the others are a row of the caller's own, as many, at most a thousand. -/
/- The document's Pairs in memory: the row of partners, and the row of what stands open. No function of the program is walked here. -/
/- The contract of the document's Pairs. Conditions: the slices read as lists of classes and of marks, at most a thousand long. -/
import Derived.Test.YtjlfgojblimobaaGreatA22
import Derived.Laws.OwnMore
import Derived.Handy
import Derived.WalkSmall
import Derived.StillTailTactics
section
namespace Go.Proofs.YtjlfgojblimobaaGreat.S11
open Go.RowKit
set_option maxRecDepth 100000

structure Turned (w w' : World) (G : Nat) : Prop where
  os : w'.os = w.os
  tape : w'.tape = w.tape
  output : w'.output = w.output
  size : w'.heap.size = w.heap.size
  block : ∀ b, b ≠ G → w'.heap[b]? = w.heap[b]?
theorem Turned.refl (w : World) (G : Nat) : Turned w w G := ⟨rfl, rfl, rfl, rfl, fun _ _ => rfl⟩
theorem Turned.trans {w w1 w2 : World} {G : Nat} (h : Turned w w1 G) (k : Turned w1 w2 G) : Turned w w2 G :=
  ⟨k.os.trans h.os, k.tape.trans h.tape, k.output.trans h.output, k.size.trans h.size, fun b hb => (k.block b hb).trans (h.block b hb)⟩
theorem Turned.setCell {w w' : World} {G : Nat} (h : Turned w w' G) (k : Nat) (u : Value) : Turned w (w'.setCell ⟨G, k, none⟩ u) G :=
  ⟨h.os, h.tape, h.output, by simpa [World.setCell] using h.size, fun b hb => (Below.heap_setCell _ _ _ _ hb).trans (h.block b hb)⟩
theorem Turned.below {w w' : World} {G base : Nat} (h : Turned w w' G) (hb : base ≤ G) : Below base w w' :=
  ⟨h.os, h.tape, h.output, by rw [h.size]; exact Nat.le_refl _, fun b hlt => h.block b (by omega)⟩
theorem Turned.cell {w w' : World} {G : Nat} (h : Turned w w' G) {p : Addr} (hp : p.block ≠ G) : w'.cell? p = w.cell? p := World.cell?_of_block (h.block _ hp)
set_option maxHeartbeats 4000000 in
theorem refBec_any (A : Option Addr) (ca G cb n at_ base : Nat) (came O : List Int) (s : Int) (w : World) (hr : RdS .i64 w base A came) (hn : came.length = n) (hl : n ≤ 1000) (ho : w.ownsRow base 39 1 (.slice (some ⟨G, 0, none⟩) n cb) n (O.map (Value.int .i64))) (hol : O.length = n) (hat : at_ < n) :
    Calls Tryz.prog 51 #[.slice A n ca, .slice (some ⟨G, 0, none⟩) n cb, .int .i64 at_, .int .i64 s] w fun r w' => r = .returned (.tuple #[]) ∧ w'.ownsRow base 39 1 (.slice (some ⟨G, 0, none⟩) n cb) n ((M.bec came O at_ s).map (Value.int .i64)) ∧ Turned w w' G := by
  have hG := World.ownsRow.lt ho G rfl
  obtain ⟨R, hR⟩ : ∃ R, M.bec came O at_ s = R := ⟨_, rfl⟩
  rw [hR]
  obtain ⟨x0, hx0⟩ : ∃ x, O[at_]? = some x := ⟨_, List.getElem?_eq_getElem (by omega)⟩
  have c0 : w.cell? ⟨G, at_, none⟩ = some (.int .i64 x0) := by
    rw [World.ownsRow.cellAt ho at_ (by omega), List.getElem?_map, hx0]
    rfl
  have f0 := World.ownsRow.frozenAt ho at_
  have ho1 := (World.ownsRow.stored ho at_ (.int .i64 s)).1
  rw [← List.map_set] at ho1
  have HO1 := Lib.hid ho1
  have HR := Lib.hid hr
  have HN := Lib.hid hn
  have HG := Lib.hid hG
  have HOL := Lib.hid hol
  have HRR := Lib.hid (show M.mk came s (n - (at_ + 1)) (at_ + 1) (O.set at_ s) = R by rw [← hR, ← hol]; rfl)
  have hl1 : (n : Int) ≤ 1000 := by omega
  have ha0 : (0 : Int) ≤ at_ := by omega
  have ha1 : (at_ : Int) < n := by omega
  clear hr hn hR ho hol ho1 hG hx0
  go_enter Tryz.func51, Tryz.ntmps51
  go_wp2_with fail
  go_loopw [8] (fun v wr => ∃ (k : Nat) (O' : List Int), v = .int .i64 k ∧ at_ < k ∧ k ≤ n ∧ wr.ownsRow base 39 1 (.slice (some ⟨G, 0, none⟩) n cb) n (O'.map (Value.int .i64)) ∧ O'.length = n ∧ Turned w wr G ∧ M.mk came s (n - k) k O' = R) (fun v _ => n - (intOf v).toNat)
  case atStart => exact ⟨at_ + 1, O.set at_ s, by go_num, by omega, by omega, HO1.out, by rw [List.length_set, HOL.out], (Turned.refl w G).setCell _ _, HRR.out⟩
  case round =>
    obtain ⟨k, O', rfl, hak, hkn, ho, hol, ht, hto⟩ := hrel
    have HT := Lib.hid ht
    have HTO := Lib.hid hto
    have HO := Lib.hid ho
    have HOL2 := Lib.hid hol
    have hk0 : (0 : Int) ≤ k := by omega
    by_cases hlt : k < n
    · have hk1 : (k : Int) < n := by omega
      obtain ⟨ad, x, rfl, hcx, hx, -⟩ := rd_at HR.out (HT.out.below HG.out.1) (by rw [HN.out]; exact hlt : k < came.length)
      obtain ⟨m, hm⟩ : ∃ m, n - k = m + 1 := ⟨n - k - 1, by omega⟩
      have h1 := hto
      rw [hm] at h1
      have h2 : (if came[k]? = some 8 then M.mk came s m (k + 1) (O'.set k s) else O') = R := h1
      rw [hx] at h2
      by_cases h8 : x = 8
      · subst h8
        rw [if_pos rfl, show m = n - (k + 1) by omega] at h2
        have H1 := Lib.hid h2
        obtain ⟨y, hy⟩ : ∃ y, O'[k]? = some y := ⟨_, List.getElem?_eq_getElem (by omega)⟩
        have c1 : wr.cell? ⟨G, k, none⟩ = some (.int .i64 y) := by
          rw [World.ownsRow.cellAt ho k (by omega), List.getElem?_map, hy]
          rfl
        have f1 := World.ownsRow.frozenAt ho k
        have ho2 := (World.ownsRow.stored ho k (.int .i64 s)).1
        rw [← List.map_set] at ho2
        have HO2 := Lib.hid ho2
        clear h1 h2 hx hto ht ho hol hm ho2 hy
        go_wp2_with fail
        go_roundw
        case rel => exact ⟨k + 1, O'.set k s, by go_num, by omega, by omega, HO2.out, by rw [List.length_set, HOL2.out], HT.out.setCell _ _, H1.out⟩
        case measure => simp [intOf]; omega
      · rw [if_neg (by intro e; injection e with e; exact h8 e)] at h2
        have b8 : (x == 8) = false := by simp; omega
        have H1 := Lib.hid h2
        clear h1 h2 hx hto ht ho hol hm h8
        go_wp2_with fail
        go_returns
        exact ⟨rfl, by rw [← H1.out]; exact HO.out, HT.out⟩
    · obtain rfl : k = n := by omega
      have hk1 : ¬ (k : Int) < (k : Int) := by omega
      rw [Nat.sub_self] at hto
      have H1 := Lib.hid (show O' = R from hto)
      clear hto ht ho hol
      go_wp2_with fail
      go_returns
      exact ⟨rfl, by rw [← H1.out]; exact HO.out, HT.out⟩
end Go.Proofs.YtjlfgojblimobaaGreat.S11
end

section
namespace Go.Proofs.YtjlfgojblimobaaGreat.S11
open Go.RowKit
set_option maxRecDepth 100000

theorem rep_cells2 (n : Nat) : (madeCells (Value.int IntKind.i64 0).cells (n * 1)).toList = (List.replicate n (0 : Int)).map (Value.int .i64) := by
  rw [Nat.mul_one, List.map_replicate]
  exact toList_madeCells_one _ _
structure PrAt (B : Nat) (w wr : World) (G n : Nat) (pa : List Int) (vo : Value) (O : List Nat) : Prop where
  below : Below B w wr
  ra : wr.ownsRow B 3 1 (.slice (some ⟨G, 0, none⟩) n n) n (pa.map (Value.int .i64))
  ro : wr.ownsRow B 3 1 vo O.length (O.reverse.map fun o : Nat => Value.int .i64 (o : Int))
  ap : vo.ownBlock ≠ some G
section
variable {B : Nat} {w wr w3 : World} {G n : Nat} {pa : List Int} {vo : Value} {O : List Nat}
theorem PrAt.len (h : PrAt B w wr G n pa vo O) : pa.length = n := by
  have := h.ra.1
  rw [List.length_map] at this
  omega
theorem PrAt.glo (h : PrAt B w wr G n pa vo O) : B ≤ G ∧ G < wr.heap.size := World.ownsRow.lt h.ra G rfl
theorem PrAt.form (h : PrAt B w wr G n pa vo O) : ∃ A c, vo = .slice A O.length c ∧ O.length ≤ c ∧ c ≤ maxLen ∧ (A = none → c = 0 ∧ O.length = 0) := by
  rcases h.ro.2 with ⟨h0, h1⟩ | ⟨g, cap, cur, hv, _, _, hn, hc, _, _⟩
  · exact ⟨none, 0, by rw [h0, h1], by omega, Nat.zero_le _, fun _ => ⟨rfl, h1⟩⟩
  · exact ⟨_, cap, hv, hn, hc, fun h => by cases h⟩
theorem PrAt.cell (h : PrAt B w wr G n pa vo O) {j : Nat} {x : Int} (hj : pa[j]? = some x) : wr.cell? ⟨G, j, none⟩ = some (.int .i64 x) := by
  have hl := (List.getElem?_eq_some_iff.1 hj).1
  rw [h.len] at hl
  rw [World.ownsRow.cellAt h.ra j (by omega), List.getElem?_map, hj]
  rfl
theorem PrAt.frozen (h : PrAt B w wr G n pa vo O) (j : Nat) : wr.frozen? ⟨G, j, none⟩ = false := h.ra.frozenAt j
theorem PrAt.set (h : PrAt B w wr G n pa vo O) (j : Nat) (a : Int) : PrAt B w (wr.setCell ⟨G, j, none⟩ (.int .i64 a)) G n (pa.set j a) vo O :=
  ⟨h.below.setCell (p := ⟨G, j, none⟩) h.glo.1 _, by rw [List.map_set]; exact (h.ra.stored _ _).1, ownsRow_setCell_other h.ro h.ap _, h.ap⟩
theorem PrAt.later (h : PrAt B w wr G n pa vo O) (hb : Below wr.heap.size wr w3) (hB : B ≤ wr.heap.size) : PrAt B w w3 G n pa vo O :=
  ⟨h.below.trans (hb.mono hB), own_below h.ra hb, own_below h.ro hb, h.ap⟩
theorem PrAt.at_ (h : PrAt B w wr G n pa vo O) {a O2 : List Nat} {o : Nat} (e : O = a ++ o :: O2) {g c : Nat} (hv : vo = .slice (some ⟨g, 0, none⟩) O.length c) : wr.cell? ⟨g, O2.length, none⟩ = some (.int .i64 (o : Int)) := by
  have ro := h.ro
  rw [hv] at ro
  rw [World.ownsRow.cellAt ro O2.length (by rw [e]; simp; omega), List.getElem?_map, e, List.reverse_append, List.reverse_cons, List.append_assoc, List.getElem?_append_right (by simp)]
  simp
theorem PrAt.last {o : Nat} (h : PrAt B w wr G n pa vo (o :: O)) : ∃ g cap, vo = .slice (some ⟨g, 0, none⟩) (O.length + 1) cap ∧ PrAt B w wr G n pa (.slice (some ⟨g, 0, none⟩) O.length cap) O := by
  have ro := h.ro
  rcases ro.2 with ⟨h0, h1⟩ | ⟨g, cap, cur, hv, _, _, hn, hc, _, _⟩
  · simp at h1
  · subst hv
    rw [List.length_cons] at ro ⊢
    refine ⟨g, cap, rfl, h.below, h.ra, ?_, h.ap⟩
    rw [List.reverse_cons, List.map_append] at ro
    exact ownsRow_pop (by simp) ro
theorem PrAt.cut {a : List Nat} (ha : a ≠ []) (h : PrAt B w wr G n pa vo (a ++ O)) : ∃ g cap, vo = .slice (some ⟨g, 0, none⟩) (a ++ O).length cap ∧ PrAt B w wr G n pa (.slice (some ⟨g, 0, none⟩) O.length cap) O := by
  induction a generalizing vo with
  | nil => exact absurd rfl ha
  | cons x a ih =>
    obtain ⟨g, cap, rfl, h1⟩ := PrAt.last h
    cases a with
    | nil => exact ⟨g, cap, rfl, h1⟩
    | cons y a =>
      obtain ⟨g', cap', e, h2⟩ := ih (by simp) h1
      injection e with e1 _ e3
      injection e1 with e1
      injection e1 with e1
      subst e1 e3
      exact ⟨g, cap, rfl, h2⟩
theorem PrAt.push (h : PrAt B w wr G n pa vo O) {o : Nat} {q c : Nat} {x : Obj} (hown : w3.ownsRow B 3 1 (.slice (some ⟨q, 0, none⟩) (O.length + 1) c) (O.length + 1) ((O.reverse.map fun o : Nat => Value.int .i64 (o : Int)) ++ [.int .i64 (o : Int)]))
    (hg : (wr.alloc x).grownBy w3 vo.ownBlock) (hat : vo.ownBlock = some q ∨ q = wr.heap.size + 1) : PrAt B w w3 G n pa (.slice (some ⟨q, 0, none⟩) (O.length + 1) c) (o :: O) := by
  have hG := h.glo
  refine ⟨(h.below.alloc (by omega) x).grown hg (by simp; omega) (fun k hk => (World.ownsRow.lt h.ro k hk).1), World.ownsRow.kept (h.ra.alloc x) hg (.inr (by simp [Value.ownBlock]; exact fun e => h.ap e.symm)), ?_, ?_⟩
  · rw [List.reverse_cons, List.map_append]
    exact hown
  · intro e
    have e2 : q = G := by simpa [Value.ownBlock] using e
    rcases hat with h1 | h1
    · exact h.ap (by rw [h1, e2])
    · omega
theorem PrAt.reads (h : PrAt B w wr G n pa vo O) : RdS .i64 wr wr.heap.size (some ⟨G, 0, none⟩) pa := fun j x hx => by
  refine ⟨_, rfl, h.glo.2, ?_⟩
  have e : (⟨G, 0, none⟩ : Addr).add j = ⟨G, j, none⟩ := addr0_add2 G j
  rw [e]
  exact h.cell hx
end
end Go.Proofs.YtjlfgojblimobaaGreat.S11
end

section
namespace Go.Proofs.YtjlfgojblimobaaGreat.S11
open Go.RowKit
set_option maxRecDepth 100000

set_option maxHeartbeats 16000000 in
theorem refPairs_any (A B : Option Addr) (ca cb n m : Nat) (l : List Int) (ms : List (Int × Int)) (w : World) (hr : RdS .i64 w w.heap.size A l) (hn : l.length = n) (hl : n ≤ 1000) (hr2 : RdT w w.heap.size B ms) (hm : ms.length = m) (hl2 : m ≤ 1000) :
    Calls Tryz.prog 48 #[.slice A n ca, .slice B m cb] w (OutT 96 (M.prs l ms) w) := by
  obtain ⟨i0, hi, hz0, hz1, hz2⟩ := info_parts Tryz.infoInt2
  obtain ⟨i1, hj1, hy0, hy1, hy2⟩ := info_parts Tryz.infoArr2
  have hmk := run_make (P := Tryz.prog) w 25 3 i0 (.int .i64 0) Tryz.underlying25 hi hz0 .i64 .i64 n n (by omega) (Int.le_refl _) (by rw [hz2]; omega) (by omega)
  rw [Int.toNat_natCast, hz1] at hmk
  obtain ⟨W1, hW1⟩ : ∃ W1, w.alloc (.cells (madeCells (Value.int .i64 0).cells (n * 1)) 3) = W1 := ⟨_, rfl⟩
  have h1 : W1.ownsRow w.heap.size 3 1 (.slice (some ⟨w.heap.size, 0, none⟩) n n) n ((List.replicate n (0 : Int)).map (Value.int .i64)) := by
    rw [← hW1, ← rep_cells2]
    exact World.ownsRow_lit w _ n (Nat.le_refl _) (by unfold maxLen; omega) (by simp [madeCells])
  have hbW : Below w.heap.size w W1 := by rw [← hW1]; exact (Below.refl _ _).alloc (Nat.le_refl _) _
  rw [hW1] at hmk
  have HR := Lib.hid hr
  have HR2 := Lib.hid hr2
  have HN := Lib.hid hn
  have HM := Lib.hid hm
  obtain ⟨PA, hPA⟩ : ∃ PA, M.partner l ms = PA := ⟨_, rfl⟩
  have HPL := Lib.hid (show PA.length = n by rw [← hPA, M.partner_len, hn])
  have HPRS := Lib.hid (show M.prs l ms = M.prsFrom 0 PA by rw [← hPA]; rfl)
  have HPA := Lib.hid (show M.pgo (M.kd l ms) (M.mid ms) (n - 0) 0 [] (List.replicate n 0) = PA by rw [← hPA, ← hn]; rfl)
  have HP1 := Lib.hid (show PrAt w.heap.size w W1 w.heap.size n (List.replicate n 0) (.slice none 0 0) [] from ⟨hbW, h1, World.ownsRow_nil _ _ _ _, by simp [Value.ownBlock]⟩)
  have HI1 := Lib.hid (M.PInv.zero (M.kd l ms) (M.mid ms) n)
  have hP1 := HP1.out
  have hl1 : (n : Int) ≤ 1000 := by omega
  have hl3 : (m : Int) ≤ 1000 := by omega
  clear hr hr2 hn hm hPA h1 hbW hW1
  go_enter Tryz.func48, Tryz.ntmps48
  go_wp2_with fail
  go_loopw [6, 7] (fun vo v wr => ∃ (k : Nat) (O : List Nat) (pa : List Int), v = .int .i64 k ∧ k ≤ n ∧ O.length ≤ 63 ∧ PrAt w.heap.size w wr w.heap.size n pa vo O ∧ M.PInv (M.kd l ms) (M.mid ms) k O pa ∧ M.pgo (M.kd l ms) (M.mid ms) (n - k) k O pa = PA) (fun _ v _ => n - (intOf v).toNat)
  case atStart => exact ⟨0, [], List.replicate n 0, rfl, Nat.zero_le _, Nat.zero_le _, HP1.out, HI1.out, HPA.out⟩
  case round =>
    obtain ⟨k, O, pa, rfl, hk, hO63, hP, hI, hgo⟩ := hrel
    rename Value => vo
    rename World => wr
    have HP := Lib.hid hP
    have HI := Lib.hid hI
    have k0 : (0 : Int) ≤ k := by omega
    by_cases hlt : k < n
    · have k1 : (k : Int) < n := by omega
      obtain ⟨r, hr⟩ : ∃ r, n - k = r + 1 := ⟨n - k - 1, by omega⟩
      have hr1 : r = n - (k + 1) := by omega
      rw [hr, M.pgo] at hgo
      have hbw := hP.below
      have HK := Lib.hid (refKind_any A B ca cb n m k l ms wr ((HR.out.below hbw).more hbw.size) HN.out hl ((HR2.out.below hbw).more hbw.size) HM.out hl2 hlt)
      obtain ⟨κ, hκ⟩ : ∃ κ, M.kd l ms k = κ := ⟨_, rfl⟩
      have hk3 := M.kd_or (l := l) (ms := ms) (i := k)
      rw [hκ] at HK hgo hk3
      obtain ⟨A6, c6, rfl, hc1, hc2, hc3⟩ := hP.form
      obtain ⟨L, hL⟩ : ∃ L, O.length = L := ⟨_, rfl⟩
      rw [hL] at hO63 hgo hc1 hc3 ⊢
      have HL := Lib.hid hL
      have HKD := Lib.hid hκ
      have hl63 : (L : Int) ≤ 63 := by omega
      have hL0 : (0 : Int) ≤ L := by omega
      have HBW := Lib.hid hbw
      have HP' := Lib.hid (show PrAt w.heap.size w wr w.heap.size n pa (.slice A6 L c6) O from by rw [← hL]; exact hP)
      clear hr hbw hP hI hκ hL
      rcases hk3 with rfl | rfl | rfl
      · rw [if_neg (by omega), if_neg (by omega), hr1] at hgo
        have HGO := Lib.hid hgo
        have HI2 := Lib.hid HI.out.skip
        clear hgo
        go_wp2_with fail
        refine HK.out.mono ?_
        rintro r0 w1 ⟨rfl, rfl⟩
        go_wp2_with fail
        go_roundw
        case rel => exact ⟨k + 1, O, pa, by go_num, by omega, by rw [HL.out]; exact hO63, HP'.out, HI2.out, HGO.out⟩
        case measure => simp [intOf]; omega
      · rw [if_pos rfl] at hgo
        by_cases h63 : L = 63
        · rw [if_pos h63] at hgo
          have HPD := Lib.hid (show PrAt w.heap.size w wr w.heap.size n PA (.slice A6 L c6) O from by rw [← hgo]; exact HP'.out)
          have b63 : ((L : Int) == 63) = true := by simp; omega
          clear hgo
          clear h63
          go_wp2_with fail
          refine HK.out.mono ?_
          rintro r0 w1 ⟨rfl, rfl⟩
          have hbG := HPD.out.glo
          have HRP := Lib.hid (HPD.out.reads)
          have HBX := Lib.hid (HPD.out.below)
          have HSZ := Lib.hid (HBX.out.size)
          clear hbG
          go_wp2_with fail
          go_loopw [10, 11] (fun o v ws => ∃ (j : Nat) (acc : List (Int × Int)), v = .int .i64 j ∧ j ≤ n ∧ acc.length ≤ j ∧ OwnT ws wr.heap.size 96 o acc ∧ M.prsFrom 0 PA = acc ++ M.prsFrom j (PA.drop j) ∧ Below wr.heap.size wr ws) (fun _ v _ => n - (intOf v).toNat)
          case atStart => exact ⟨0, [], rfl, Nat.zero_le _, Nat.le_refl _, OwnT.nil _ _ _, rfl, Below.refl _ _⟩
          case round =>
            obtain ⟨j, acc, rfl, hj, hacc, ho, hw, hb⟩ := hrel
            rename World => ws
            have HB := Lib.hid hb
            have HO := Lib.hid ho
            have HW := Lib.hid hw
            have j0 : (0 : Int) ≤ j := by omega
            by_cases hlt : j < n
            · have j1 : (j : Int) < n := by omega
              obtain ⟨x, hx⟩ : ∃ x, PA[j]? = some x := ⟨_, List.getElem?_eq_getElem (by rw [HPL.out]; exact hlt)⟩
              obtain ⟨ad', hA', -, hcx⟩ := (HRP.out.below hb) j x hx
              obtain rfl : (⟨w.heap.size, 0, none⟩ : Addr) = ad' := by injection hA'
              rw [addr0_add2] at hcx
              have hd : PA.drop j = x :: PA.drop (j + 1) := by
                obtain ⟨hl, rfl⟩ := List.getElem?_eq_some_iff.1 hx
                exact List.drop_eq_getElem_cons hl
              rw [hd] at hw
              by_cases h0 : 0 < x
              · have hw2 : M.prsFrom 0 PA = (acc ++ [((j : Int), x)]) ++ M.prsFrom (j + 1) (PA.drop (j + 1)) := by
                  rw [hw, M.prsFrom, if_pos h0, List.append_assoc]
                  rfl
                have HW2 := Lib.hid hw2
                have hbs := hb.size
                obtain ⟨La, hLa⟩ : ∃ L, acc.length = L := ⟨_, rfl⟩
                have HLA := Lib.hid hLa
                have ho' := ho
                unfold OwnT at ho'
                rw [hLa] at ho'
                have HO' := Lib.hid ho'
                have hacc2 : La ≤ j := by omega
                clear hb ho hw hd hx hA' hw2 ho' hLa hacc
                go_wp2_with (at_builtin; refine wpList_append_own _ rfl _ _ 94 rfl wr.heap.size 96 i1 (.agg #[.int .i64 0, .int .i64 0]) 2 16 Tryz.underlying94 hj1 hy0 hy1 hy2 rfl (by decide) _ _ _ rfl (World.ownsRow.alloc HO'.out _) ⟨ws.heap.size, 0, none⟩ 1 1 [.int .i64 j, .int .i64 x] rfl rfl (two_new _ _ _ _) two_one (by unfold maxLen; omega) (by omega) (by simp; omega) ?_)
                intro v4 w4 ho4 hg4 _
                have hb4 : Below wr.heap.size wr w4 := (HB.out.alloc hbs _).grown hg4 (by simp; omega) (fun k hk => (World.ownsRow.lt HO'.out k hk).1)
                have HB4 := Lib.hid hb4
                have HO4 := Lib.hid (show OwnT w4 wr.heap.size 96 v4 (acc ++ [((j : Int), x)]) from OwnT.snoc (by rw [HLA.out]; exact ho4))
                clear ho4 hg4 hb4
                go_wp2_with fail
                go_roundw
                case rel => exact ⟨j + 1, acc ++ [((j : Int), x)], by go_num, by omega, by rw [List.length_append, HLA.out]; simp; omega, HO4.out, HW2.out, HB4.out⟩
                case measure => simp [intOf]; omega
              · have hw2 : M.prsFrom 0 PA = acc ++ M.prsFrom (j + 1) (PA.drop (j + 1)) := by
                  rw [hw, M.prsFrom, if_neg h0]
                have HW2 := Lib.hid hw2
                clear hb ho hw hd hx hA' hw2
                go_wp2_with fail
                go_roundw
                case rel => exact ⟨j + 1, acc, by go_num, by omega, by omega, HO.out, HW2.out, HB.out⟩
                case measure => simp [intOf]; omega
            · obtain rfl : n = j := by omega
              have j1 : ¬ (n : Int) < (n : Int) := by omega
              have he : M.prsFrom 0 PA = acc := by
                rw [hw, List.drop_eq_nil_of_le (by rw [HPL.out]; exact Nat.le_refl _)]
                exact List.append_nil _
              have HE := Lib.hid he
              clear hb ho hw he
              go_wp2_with fail
              go_ret
              exact ⟨_, rfl, by rw [HPRS.out, HE.out]; exact HO.out.less HSZ.out, HBX.out.trans (HB.out.mono HSZ.out)⟩
        · rw [if_neg h63, hr1] at hgo
          have HGO := Lib.hid hgo
          have b63 : ((L : Int) == 63) = false := by simp; omega
          have hL62 : L + 1 ≤ 63 := by omega
          have hi0 : pa[k]? = some 0 := HI.out.later (Nat.le_refl _) (by rw [HP.out.len]; exact hlt)
          have HI2 := Lib.hid (HI.out.open_ HKD.out hi0)
          have hro := HP'.out.ro
          rw [HL.out] at hro
          have HRO := Lib.hid hro
          have hsz := HBW.out.size
          clear hgo hi0 hro h63
          go_wp2_with fail
          refine HK.out.mono ?_
          rintro r0 w1 ⟨rfl, rfl⟩
          go_wp2_with (at_builtin; refine wpList_append_lies _ rfl _ _ 25 rfl w.heap.size 3 i0 (.int .i64 0) 1 8 Tryz.underlying25 hi hz0 hz1 hz2 rfl (by decide) _ _ _ rfl (World.ownsRow.alloc HRO.out _) ⟨wr.heap.size, 0, none⟩ 1 1 [.int .i64 k] rfl rfl (one_new _ _ _) one_cell (by decide) (by unfold maxLen; omega) (by omega) (by simp; omega) (wr.heap.size + 1) (by simp) ?_)
          intro g cap w5 hown5 hgrow5 hat5 _
          have HP5 := Lib.hid (PrAt.push (o := k) HP'.out (by rw [HL.out, List.map_reverse]; exact hown5) hgrow5 (hat5.imp_right (fun e => by simpa using e)))
          rw [HL.out] at HP5
          clear hown5 hgrow5 hat5
          go_wp2_with fail
          go_roundw
          case rel => exact ⟨k + 1, k :: O, pa, by go_num, by omega, by rw [List.length_cons, HL.out]; exact hL62, HP5.out, HI2.out, HGO.out⟩
          case measure => simp [intOf]; omega
      · rw [if_neg (by omega), if_pos rfl, hr1] at hgo
        have HGO := Lib.hid hgo
        clear hgo
        obtain ⟨hlk, mk, hmk1, hmk2, hmk3⟩ := M.kd_is HKD.out (by omega)
        have hkm : k < m := by rw [← HM.out]; exact (List.getElem?_eq_some_iff.1 hmk1).1
        have km : (k : Int) < m := by omega
        obtain ⟨y, hy⟩ : ∃ y, M.mid ms k = y := ⟨_, rfl⟩
        have hmk4 : ms[k]? = some (2, y) := by rw [hmk1, ← hy, ← hmk3, ← hmk2]
        have HMK := Lib.hid hmk4
        have HY := Lib.hid hy
        have hwl : IntKind.i64.wrap ((L : Int) - 1) = (L : Int) - 1 := by rw [IntKind.wrap_i64]; omega
        clear hlk hmk1 hmk2 hmk3 hmk4 hy
        go_wp2_with fail
        refine HK.out.mono ?_
        rintro r0 w1 ⟨rfl, rfl⟩
        go_wp2_with fail
        go_loopw [9] (fun v ws => ∃ (q : Int) (a O1 : List Nat), v = .int .i64 q ∧ O = a ++ O1 ∧ q + 1 = O1.length ∧ O.dropWhile (fun p => decide (M.mid ms p ≠ M.mid ms k)) = O1.dropWhile (fun p => decide (M.mid ms p ≠ M.mid ms k)) ∧ Below wr.heap.size wr ws) (fun v _ => (intOf v + 1).toNat)
        case atStart => exact ⟨(L : Int) - 1, [], O, by go_num, rfl, by rw [HL.out]; omega, rfl, Below.refl _ _⟩
        case round =>
          obtain ⟨q, a, O1, rfl, hOa, hq, hdw, hb⟩ := hrel
          rename World => ws
          have HB := Lib.hid hb
          have HPW := Lib.hid (HP'.out.later hb HBW.out.size)
          cases O1 with
          | nil =>
            obtain rfl : q = -1 := by simp at hq; omega
            have hz := HGO.out
            rw [hdw] at hz
            have HGO2 := Lib.hid (show M.pgo (M.kd l ms) (M.mid ms) (n - (k + 1)) (k + 1) O pa = PA from hz)
            have HI2 := Lib.hid HI.out.skip
            clear hz hdw hb hq hOa
            go_wp2_with fail
            refine wp_region_quiet_below (by kernel_rfl) (by kernel_rfl) ?_
            repeat (go_big_quiet_step (fail))
            refine wpQuiet_nil ?_
            intro _ hw'
            obtain ⟨⟨dq, osq⟩, hw4⟩ := hw'
            subst hw4
            have hbg := below_regrown ws dq osq
            have HPX := Lib.hid (HPW.out.later hbg (Nat.le_trans HBW.out.size HB.out.size))
            obtain ⟨X, hX⟩ : ∃ Z, Sort.grow (redrawn ws dq) osq = Z := ⟨_, rfl⟩
            rw [hX] at HPX
            dsimp only
            rw [hX]
            clear hX hbg
            go_wp2_with fail
            go_roundw
            case rel => exact ⟨k + 1, O, pa, by go_num, by omega, by rw [HL.out]; exact hO63, HPX.out, HI2.out, HGO2.out⟩
            case measure => simp [intOf]; omega
          | cons o O2 =>
            obtain ⟨t, ht⟩ : ∃ t, O2.length = t := ⟨_, rfl⟩
            obtain rfl : q = (t : Nat) := by simp at hq; omega
            have hOL : O.length = a.length + (t + 1) := by rw [hOa, List.length_append, List.length_cons, ht]
            have t0 : (0 : Int) ≤ t := by omega
            have tL : (t : Int) < L := by have := HL.out; omega
            have hos : o ∈ O := by rw [hOa]; simp
            obtain ⟨hok, ho1, ho0⟩ := HI.out.stk o hos
            obtain ⟨-, mo, hmo1, hmo2, hmo3⟩ := M.kd_is ho1 (by omega)
            have hom : o < m := by rw [← HM.out]; exact (List.getElem?_eq_some_iff.1 hmo1).1
            obtain ⟨z, hz⟩ : ∃ z, M.mid ms o = z := ⟨_, rfl⟩
            have hmo4 : ms[o]? = some (1, z) := by rw [hmo1, ← hz, ← hmo3, ← hmo2]
            have hne : a ++ [o] ≠ [] := by simp
            have hOa2 : O = (a ++ [o]) ++ O2 := by rw [hOa]; simp
            obtain ⟨g, cg, hvo, hcut⟩ := PrAt.cut hne (show PrAt w.heap.size w ws w.heap.size n pa (.slice A6 L c6) ((a ++ [o]) ++ O2) from by rw [← hOa2]; exact HPW.out)
            injection hvo with hv1 hv2 hv3
            clear hv2
            subst hv1 hv3
            have cst := HPW.out.at_ hOa (by rw [HL.out])
            rw [ht] at cst hcut
            have hbw2 := HBW.out.trans (hb.mono HBW.out.size)
            obtain ⟨adm, em, -, -, cm1⟩ := (HR2.out.below hbw2) o _ hmo4
            obtain ⟨adm', em', -, -, cm2⟩ := (HR2.out.below hbw2) k _ HMK.out
            subst em
            obtain rfl : adm = adm' := by injection em'
            have o0 : (0 : Int) ≤ o := by omega
            have o1 : (o : Int) < m := by omega
            have on : (o : Int) < n := by omega
            have cst' := fun d os => cell_regrown cst d os
            have cm1' := fun d os => cell_regrown cm1 d os
            have cm2' := fun d os => cell_regrown cm2 d os
            have HCUT := Lib.hid hcut
            have HZ := Lib.hid hz
            have HT2 := Lib.hid ht
            have HOA := Lib.hid hOa2
            have hdw2 := hdw
            rw [List.dropWhile_cons, HY.out, hz] at hdw2
            dsimp only at cm1 cm2 cm1' cm2'
            clear hOL hos hok ho1 hmo1 hmo2 hmo3 hmo4 hne hcut hb hq em' hdw ht hz hOa hOa2 hom
            by_cases hzy : z = y
            · rw [if_neg (by simp [hzy])] at hdw2
              have bz : (z != y) = false := by simp [hzy]
              have hgo2 := HGO.out
              have hdd : O.dropWhile (fun p => decide (M.mid ms p ≠ M.mid ms k)) = o :: O2 := by rw [← hdw2, HY.out]
              rw [hdd] at hgo2
              have HGO2 := Lib.hid (show M.pgo (M.kd l ms) (M.mid ms) (n - (k + 1)) (k + 1) O2 (pa.set o (k : Int)) = PA from hgo2)
              have HI2 := Lib.hid (HI.out.close HKD.out hdd)
              clear hgo2 hdd hdw2 hzy
              go_wp2_with fail
              refine wp_region_quiet_below (by kernel_rfl) (by kernel_rfl) ?_
              repeat (go_big_quiet_step (fail))
              refine wpQuiet_nil ?_
              intro _ hw'
              obtain ⟨⟨dq, osq⟩, hw4⟩ := hw'
              subst hw4
              have hbg := below_regrown ws dq osq
              have HPX := Lib.hid (HCUT.out.later hbg (Nat.le_trans HBW.out.size HB.out.size))
              have HPF := Lib.hid (HPW.out.later hbg (Nat.le_trans HBW.out.size HB.out.size))
              have cs3 := cst' dq osq
              obtain ⟨X, hX⟩ : ∃ Z, Sort.grow (redrawn ws dq) osq = Z := ⟨_, rfl⟩
              rw [hX] at HPX HPF cs3
              dsimp only
              rw [hX]
              clear hX hbg cst' cm1' cm2' cm1 cm2
              obtain ⟨x0, hx0⟩ : ∃ x, pa[o]? = some x := ⟨_, List.getElem?_eq_getElem (by rw [HPX.out.len]; omega)⟩
              have cp := HPX.out.cell hx0
              have fp := HPX.out.frozen o
              have HPS := Lib.hid (HPX.out.set o (k : Int))
              have hcap : (t : Int) ≤ c6 := by omega
              have hO2 : O2.length ≤ 63 := by rw [HT2.out]; omega
              clear hx0
              go_wp2_with fail
              go_roundw
              case rel => exact ⟨k + 1, O2, pa.set o (k : Int), by go_num, by omega, hO2, HPS.out, HI2.out, HGO2.out⟩
              case measure => simp [intOf]; omega
            · rw [if_pos (by simp [hzy])] at hdw2
              have bz : (z != y) = true := by simp [hzy]
              have HDW := Lib.hid (show O.dropWhile (fun p => decide (M.mid ms p ≠ M.mid ms k)) = O2.dropWhile (fun p => decide (M.mid ms p ≠ M.mid ms k)) by rw [HY.out]; exact hdw2)
              have hwt : IntKind.i64.wrap ((t : Int) - 1) = (t : Int) - 1 := by rw [IntKind.wrap_i64]; omega
              clear hdw2 hzy
              go_wp2_with fail
              refine wp_region_quiet_below (by kernel_rfl) (by kernel_rfl) ?_
              repeat (go_big_quiet_step (fail))
              refine wpQuiet_nil ?_
              intro _ hw'
              obtain ⟨⟨dq, osq⟩, hw4⟩ := hw'
              subst hw4
              have hbg := below_regrown ws dq osq
              have HB6 := Lib.hid (HB.out.trans (hbg.mono HB.out.size))
              obtain ⟨X, hX⟩ : ∃ Z, Sort.grow (redrawn ws dq) osq = Z := ⟨_, rfl⟩
              rw [hX] at HB6
              dsimp only
              rw [hX]
              clear hX hbg cst' cm1' cm2' cm1 cm2
              go_wp2_with fail
              go_roundw
              case rel => exact ⟨(t : Int) - 1, a ++ [o], O2, rfl, HOA.out, by rw [HT2.out]; omega, HDW.out, HB6.out⟩
              case measure => simp [intOf]
    · obtain rfl : n = k := by omega
      have k1 : ¬ (n : Int) < (n : Int) := by omega
      rw [Nat.sub_self] at hgo
      obtain rfl : PA = pa := (show pa = PA from hgo).symm
      have HPD := HP
      clear hP hI hgo
      go_wp2_with fail
      have hbG := HPD.out.glo
      have HRP := Lib.hid (HPD.out.reads)
      have HBX := Lib.hid (HPD.out.below)
      have HSZ := Lib.hid (HBX.out.size)
      clear hbG
      go_wp2_with fail
      go_loopw [10, 11] (fun o v ws => ∃ (j : Nat) (acc : List (Int × Int)), v = .int .i64 j ∧ j ≤ n ∧ acc.length ≤ j ∧ OwnT ws wr.heap.size 96 o acc ∧ M.prsFrom 0 PA = acc ++ M.prsFrom j (PA.drop j) ∧ Below wr.heap.size wr ws) (fun _ v _ => n - (intOf v).toNat)
      case atStart => exact ⟨0, [], rfl, Nat.zero_le _, Nat.le_refl _, OwnT.nil _ _ _, rfl, Below.refl _ _⟩
      case round =>
        obtain ⟨j, acc, rfl, hj, hacc, ho, hw, hb⟩ := hrel
        rename World => ws
        have HB := Lib.hid hb
        have HO := Lib.hid ho
        have HW := Lib.hid hw
        have j0 : (0 : Int) ≤ j := by omega
        by_cases hlt : j < n
        · have j1 : (j : Int) < n := by omega
          obtain ⟨x, hx⟩ : ∃ x, PA[j]? = some x := ⟨_, List.getElem?_eq_getElem (by rw [HPL.out]; exact hlt)⟩
          obtain ⟨ad', hA', -, hcx⟩ := (HRP.out.below hb) j x hx
          obtain rfl : (⟨w.heap.size, 0, none⟩ : Addr) = ad' := by injection hA'
          rw [addr0_add2] at hcx
          have hd : PA.drop j = x :: PA.drop (j + 1) := by
            obtain ⟨hl, rfl⟩ := List.getElem?_eq_some_iff.1 hx
            exact List.drop_eq_getElem_cons hl
          rw [hd] at hw
          by_cases h0 : 0 < x
          · have hw2 : M.prsFrom 0 PA = (acc ++ [((j : Int), x)]) ++ M.prsFrom (j + 1) (PA.drop (j + 1)) := by
              rw [hw, M.prsFrom, if_pos h0, List.append_assoc]
              rfl
            have HW2 := Lib.hid hw2
            have hbs := hb.size
            obtain ⟨La, hLa⟩ : ∃ L, acc.length = L := ⟨_, rfl⟩
            have HLA := Lib.hid hLa
            have ho' := ho
            unfold OwnT at ho'
            rw [hLa] at ho'
            have HO' := Lib.hid ho'
            have hacc2 : La ≤ j := by omega
            clear hb ho hw hd hx hA' hw2 ho' hLa hacc
            go_wp2_with (at_builtin; refine wpList_append_own _ rfl _ _ 94 rfl wr.heap.size 96 i1 (.agg #[.int .i64 0, .int .i64 0]) 2 16 Tryz.underlying94 hj1 hy0 hy1 hy2 rfl (by decide) _ _ _ rfl (World.ownsRow.alloc HO'.out _) ⟨ws.heap.size, 0, none⟩ 1 1 [.int .i64 j, .int .i64 x] rfl rfl (two_new _ _ _ _) two_one (by unfold maxLen; omega) (by omega) (by simp; omega) ?_)
            intro v4 w4 ho4 hg4 _
            have hb4 : Below wr.heap.size wr w4 := (HB.out.alloc hbs _).grown hg4 (by simp; omega) (fun k hk => (World.ownsRow.lt HO'.out k hk).1)
            have HB4 := Lib.hid hb4
            have HO4 := Lib.hid (show OwnT w4 wr.heap.size 96 v4 (acc ++ [((j : Int), x)]) from OwnT.snoc (by rw [HLA.out]; exact ho4))
            clear ho4 hg4 hb4
            go_wp2_with fail
            go_roundw
            case rel => exact ⟨j + 1, acc ++ [((j : Int), x)], by go_num, by omega, by rw [List.length_append, HLA.out]; simp; omega, HO4.out, HW2.out, HB4.out⟩
            case measure => simp [intOf]; omega
          · have hw2 : M.prsFrom 0 PA = acc ++ M.prsFrom (j + 1) (PA.drop (j + 1)) := by
              rw [hw, M.prsFrom, if_neg h0]
            have HW2 := Lib.hid hw2
            clear hb ho hw hd hx hA' hw2
            go_wp2_with fail
            go_roundw
            case rel => exact ⟨j + 1, acc, by go_num, by omega, by omega, HO.out, HW2.out, HB.out⟩
            case measure => simp [intOf]; omega
        · obtain rfl : n = j := by omega
          have j1 : ¬ (n : Int) < (n : Int) := by omega
          have he : M.prsFrom 0 PA = acc := by
            rw [hw, List.drop_eq_nil_of_le (by rw [HPL.out]; exact Nat.le_refl _)]
            exact List.append_nil _
          have HE := Lib.hid he
          clear hb ho hw he
          go_wp2_with fail
          go_ret
          exact ⟨_, rfl, by rw [HPRS.out, HE.out]; exact HO.out.less HSZ.out, HBX.out.trans (HB.out.mono HSZ.out)⟩
end Go.Proofs.YtjlfgojblimobaaGreat.S11
end
