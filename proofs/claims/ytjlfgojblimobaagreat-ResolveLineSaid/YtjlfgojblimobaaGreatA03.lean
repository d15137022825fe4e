/- The state of the walk over isolates in memory: the row of what is told of all, and the row of what stands open. No function of the program is walked here. -/
/- The contract of package explicit's isolates: all isolates' ends and first strongs. Condition: the slice reads as a list of classes, at most a thousand long. -/
/- The contract of package explicit's Match. Condition: the slice reads as a list of classes, at most a thousand long. -/
/- The document's machine in memory: its block, its row of entries, and what keeps others. The contracts of fresh, top and next. Condition: the machine is right. -/
/- The contract of the document's next: the least level above the top's, odd or even. Condition: the machine is right, its top's level from 0 to 125. -/
/- Stores into the document's machine: a count, and the stack's slice. No function of the program is walked here. -/
/- An entry put onto the document's machine: what stands behind the append, and behind the store. No function of the program is walked here. -/
import Derived.Test.YtjlfgojblimobaaGreatA02
import Derived.Laws.OwnMore
import Derived.Test.YtjlfgojblimobaaGreatA00
import Derived.Test.YtjlfgojblimobaaGreatA01
import Derived.StillTailTactics
import Derived.WalkSmall
section
namespace Go.Proofs.YtjlfgojblimobaaGreat
open Go.RowKit

def isoCells (l : List (Int × Int)) : List Value := l.flatMap fun x => [.int .i64 x.1, .int .i64 x.2]
theorem isoCells_cons (x : Int × Int) (r : List (Int × Int)) : isoCells (x :: r) = .int .i64 x.1 :: .int .i64 x.2 :: isoCells r := rfl
theorem isoCells_length (l : List (Int × Int)) : (isoCells l).length = l.length * 2 := by
  induction l with
  | nil => rfl
  | cons x r ih => rw [isoCells_cons]; simp [ih]; omega
theorem isoCells_at {l : List (Int × Int)} {j : Nat} {x : Int × Int} (h : l[j]? = some x) : (isoCells l)[j * 2]? = some (.int .i64 x.1) ∧ (isoCells l)[j * 2 + 1]? = some (.int .i64 x.2) := by
  induction l generalizing j with
  | nil => simp at h
  | cons y r ih =>
    rw [isoCells_cons]
    cases j with
    | zero => simp at h; subst h; exact ⟨rfl, rfl⟩
    | succ j =>
      simp at h
      obtain ⟨a, b⟩ := ih h
      rw [show (j + 1) * 2 = j * 2 + 1 + 1 by omega]
      exact ⟨a, b⟩
theorem isoCells_set0 {l : List (Int × Int)} {j : Nat} {e f : Int} (h : l[j]? = some (e, f)) (a : Int) : (isoCells l).set (j * 2) (.int .i64 a) = isoCells (l.set j (a, f)) := by
  induction l generalizing j with
  | nil => simp at h
  | cons y r ih =>
    cases j with
    | zero => simp at h; subst h; rfl
    | succ j =>
      simp at h
      rw [List.set_cons_succ, isoCells_cons, isoCells_cons, ← ih h, show (j + 1) * 2 = j * 2 + 1 + 1 by omega]
      rfl
theorem isoCells_set1 {l : List (Int × Int)} {j : Nat} {e f : Int} (h : l[j]? = some (e, f)) (a : Int) : (isoCells l).set (j * 2 + 1) (.int .i64 a) = isoCells (l.set j (e, a)) := by
  induction l generalizing j with
  | nil => simp at h
  | cons y r ih =>
    cases j with
    | zero => simp at h; subst h; rfl
    | succ j =>
      simp at h
      rw [List.set_cons_succ, isoCells_cons, isoCells_cons, ← ih h, show (j + 1) * 2 + 1 = j * 2 + 1 + 1 + 1 by omega]
      rfl
theorem isoCells_zero (n : Nat) : (madeCells #[.int .i64 0, .int .i64 0] (n * 2)).toList = isoCells (List.replicate n (0, 0)) := by
  apply List.ext_getElem?
  intro j
  by_cases hj : j < n * 2
  · have h1 : (List.replicate n ((0 : Int), (0 : Int)))[j / 2]? = some (0, 0) := by rw [List.getElem?_replicate, if_pos (by omega)]
    obtain ⟨a, b⟩ := isoCells_at h1
    rcases Nat.mod_two_eq_zero_or_one j with h | h
    · rw [show j / 2 * 2 = j by omega] at a
      rw [a]
      simp [madeCells, hj, h]
    · rw [show j / 2 * 2 + 1 = j by omega] at b
      rw [b]
      simp [madeCells, hj, h]
  · rw [List.getElem?_eq_none (by simp [madeCells]; omega), List.getElem?_eq_none (by rw [isoCells_length, List.length_replicate]; omega)]
structure IsoAt (B : Nat) (w wr : World) (G n : Nat) (all : List (Int × Int)) (vo : Value) (O : List Nat) : Prop where
  below : Below B w wr
  ra : wr.ownsRow B 77 2 (.slice (some ⟨G, 0, none⟩) n n) n (isoCells all)
  ro : wr.ownsRow B 3 1 vo O.length (O.reverse.map fun o : Nat => Value.int .i64 (o : Int))
  ap : vo.ownBlock ≠ some G
section
variable {B : Nat} {w wr w3 : World} {G n : Nat} {all : List (Int × Int)} {vo : Value} {O : List Nat}
theorem IsoAt.len (h : IsoAt B w wr G n all vo O) : all.length = n := by
  have := h.ra.1
  rw [isoCells_length] at this
  omega
theorem IsoAt.glo (h : IsoAt B w wr G n all vo O) : B ≤ G ∧ G < wr.heap.size := World.ownsRow.lt h.ra G rfl
theorem IsoAt.cells (h : IsoAt B w wr G n all vo O) {j : Nat} {e f : Int} (hj : all[j]? = some (e, f)) : wr.cell? ⟨G, j * 2, none⟩ = some (.int .i64 e) ∧ wr.cell? ⟨G, j * 2 + 1, none⟩ = some (.int .i64 f) := by
  obtain ⟨a, b⟩ := isoCells_at hj
  have hl := (List.getElem?_eq_some_iff.1 hj).1
  rw [h.len] at hl
  exact ⟨(h.ra.cellAt _ (by omega)).trans a, (h.ra.cellAt _ (by omega)).trans b⟩
theorem IsoAt.frozen (h : IsoAt B w wr G n all vo O) (j : Nat) : wr.frozen? ⟨G, j, none⟩ = false := h.ra.frozenAt j
theorem IsoAt.end_ (h : IsoAt B w wr G n all vo O) {j : Nat} {e f : Int} (hj : all[j]? = some (e, f)) (a : Int) : IsoAt B w (wr.setCell ⟨G, j * 2, none⟩ (.int .i64 a)) G n (all.set j (a, f)) vo O :=
  ⟨h.below.setCell (p := ⟨G, j * 2, none⟩) h.glo.1 _, by rw [← isoCells_set0 hj]; exact (h.ra.stored _ _).1, ownsRow_setCell_other h.ro h.ap _, h.ap⟩
theorem IsoAt.first (h : IsoAt B w wr G n all vo O) {j : Nat} {e f : Int} (hj : all[j]? = some (e, f)) (a : Int) : IsoAt B w (wr.setCell ⟨G, j * 2 + 1, none⟩ (.int .i64 a)) G n (all.set j (e, a)) vo O :=
  ⟨h.below.setCell (p := ⟨G, j * 2 + 1, none⟩) h.glo.1 _, by rw [← isoCells_set1 hj]; exact (h.ra.stored _ _).1, ownsRow_setCell_other h.ro h.ap _, h.ap⟩
theorem IsoAt.told (h : IsoAt B w wr G n all vo O) {j : Nat} {e f : Int} (hj : all[j]? = some (e, f)) (a b : Int) : IsoAt B w ((wr.setCell ⟨G, j * 2, none⟩ (.int .i64 a)).setCell ⟨G, j * 2 + 1, none⟩ (.int .i64 b)) G n (all.set j (a, b)) vo O := by
  have hl := (List.getElem?_eq_some_iff.1 hj).1
  have q := (h.end_ hj a).first (j := j) (e := a) (f := f) (by rw [List.getElem?_set_self hl]) b
  rwa [List.set_set] at q
theorem IsoAt.none_ (h : IsoAt B w wr G n all vo O) : IsoAt B w wr G n all (.slice none 0 0) [] := ⟨h.below, h.ra, World.ownsRow_nil _ _ _ _, by simp [Value.ownBlock]⟩
theorem IsoAt.last {o : Nat} (h : IsoAt B w wr G n all vo (o :: O)) {m : Nat} (hm : O.length = m) : ∃ g cap, vo = .slice (some ⟨g, 0, none⟩) (m + 1) cap ∧ wr.cell? ⟨g, m, none⟩ = some (.int .i64 (o : Int)) ∧ m + 1 ≤ cap ∧ cap ≤ maxLen ∧
    IsoAt B w wr G n all (.slice (some ⟨g, 0, none⟩) m cap) O := by
  subst hm
  have ro := h.ro
  rcases ro.2 with ⟨h0, _⟩ | ⟨g, cap, cur, hv, _, _, hn, hc, _, _⟩
  · have e := ro.1
    subst h0
    simp at *
  · subst hv
    rw [List.length_cons] at ro hn ⊢
    refine ⟨g, cap, rfl, ?_, hn, hc, h.below, h.ra, ?_, h.ap⟩
    · rw [World.ownsRow.cellAt (size := 1) ro O.length (by omega)]
      simp
    · rw [List.reverse_cons, List.map_append] at ro
      exact ownsRow_pop (by simp) ro
theorem IsoAt.push (h : IsoAt B w wr G n all vo O) {o : Nat} {q c : Nat} {x : Obj} (hown : w3.ownsRow B 3 1 (.slice (some ⟨q, 0, none⟩) (O.length + 1) c) (O.length + 1) ((O.reverse.map fun o : Nat => Value.int .i64 (o : Int)) ++ [.int .i64 (o : Int)]))
    (hg : (wr.alloc x).grownBy w3 vo.ownBlock) (hat : vo.ownBlock = some q ∨ q = wr.heap.size + 1) : IsoAt B w w3 G n all (.slice (some ⟨q, 0, none⟩) (O.length + 1) c) (o :: O) := by
  have hG := h.glo
  refine ⟨(h.below.alloc (by omega) x).grown hg (by simp; omega) (fun k hk => (World.ownsRow.lt h.ro k hk).1), World.ownsRow.kept (h.ra.alloc x) hg (.inr (by simp [Value.ownBlock]; exact fun e => h.ap e.symm)), ?_, ?_⟩
  · rw [List.reverse_cons, List.map_append]
    exact hown
  · intro e
    have e2 : q = G := by simpa [Value.ownBlock] using e
    rcases hat with h1 | h1
    · exact h.ap (by rw [h1, e2])
    · omega
end
theorem Tryz.infoIso : (Tryz.prog.info? 77).map (fun i => (i.zero, i.size, i.bytes)) = some (some (.agg #[.int .i64 0, .int .i64 0]), 2, 16) := by kernel_rfl
end Go.Proofs.YtjlfgojblimobaaGreat
end

section
namespace Go.Proofs.YtjlfgojblimobaaGreat
open Go.RowKit
set_option maxRecDepth 100000

def IsosOut (l : List Int) (n : Nat) (w : World) (r : Ending) (w' : World) : Prop :=
  ∃ G all, r = .returned (.slice (some ⟨G, 0, none⟩) n n) ∧ w'.ownsRow w.heap.size 77 2 (.slice (some ⟨G, 0, none⟩) n n) n (isoCells all) ∧ (∀ i, i < n → ∃ x, all[i]? = some x ∧ M.Fin l i x) ∧ Below w.heap.size w w'
theorem set_self_at {α : Type} {l : List α} {i : Nat} {x : α} (h : l[i]? = some x) : l.set i x = l := by
  apply List.ext_getElem?
  intro j
  by_cases e : j = i
  · subst e
    rw [List.getElem?_set_self (List.getElem?_eq_some_iff.1 h).1, h]
  · rw [List.getElem?_set_ne (fun q => e q.symm)]
theorem IsoAt.form {B : Nat} {w wr : World} {G n : Nat} {all : List (Int × Int)} {vo : Value} {O : List Nat} (h : IsoAt B w wr G n all vo O) : ∃ A2 c2, vo = .slice A2 O.length c2 := by
  rcases h.ro.2 with ⟨h1, h0⟩ | ⟨g, cap, cur, hv, _⟩
  · rw [h0]; exact ⟨_, _, h1⟩
  · exact ⟨_, _, hv⟩
set_option maxHeartbeats 8000000 in
theorem isolates_any (A : Option Addr) (ca n : Nat) (l : List Int) (w : World) (hr : RdS .i64 w w.heap.size A l) (hn : l.length = n) (hl : n ≤ 1000) :
    Calls Tryz.prog 36 #[.slice A n ca] w (IsosOut l n w) := by
  obtain ⟨i0, hi, hz0, hz1, hz2⟩ := info_parts Tryz.infoIso
  obtain ⟨j0, hj, hy0, hy1, hy2⟩ := info_parts Tryz.infoInt
  have hmk := run_make (P := Tryz.prog) w 74 77 i0 (.agg #[.int .i64 0, .int .i64 0]) Tryz.underlying74 hi hz0 .i64 .i64 n n (by omega) (Int.le_refl _) (by rw [hz2]; omega) (by omega)
  rw [Int.toNat_natCast, hz1] at hmk
  obtain ⟨W1, hW1⟩ : ∃ W1, w.alloc (.cells (madeCells (Value.agg #[.int .i64 0, .int .i64 0]).cells (n * 2)) 77) = W1 := ⟨_, rfl⟩
  have h1 : IsoAt w.heap.size w W1 w.heap.size n (List.replicate n (0, 0)) (.slice none 0 0) [] := by
    rw [← hW1]
    refine ⟨(Below.refl _ _).alloc (Nat.le_refl _) _, ?_, World.ownsRow_nil _ _ _ _, by simp [Value.ownBlock]⟩
    rw [← isoCells_zero]
    exact World.ownsRow_lit w _ n (Nat.le_refl _) (by unfold maxLen; omega) (by simp [madeCells])
  rw [hW1] at hmk
  have HI := Lib.hid h1
  have HR := Lib.hid hr
  have HN := Lib.hid hn
  have hl1 : (n : Int) ≤ 1000 := by omega
  clear hr hn h1 hW1 hz0 hz1 hz2 hi
  go_enter Tryz.func36, Tryz.ntmps36
  go_wp2_with fail
  go_loopw [4, 15] (fun uo v wr => ∃ (k : Nat) (all : List (Int × Int)) (O : List Nat) (vo : Value), vo = uo ∧ v = .int .i64 k ∧ k ≤ n ∧ IsoAt w.heap.size w wr w.heap.size n all vo O ∧ M.Iso l k all O) (fun _ v _ => n - (intOf v).toNat)
  case atStart => exact ⟨0, _, [], _, rfl, rfl, Nat.zero_le _, HI.out, by have q := M.Iso.zero (l := l); rw [HN.out] at q; exact q⟩
  case round =>
    obtain ⟨k, all, O, vo, rfl, rfl, hk, hi, hm⟩ := hrel
    have HI2 := Lib.hid hi
    have HM := Lib.hid hm
    have hn := HN.out
    have k0 : (0 : Int) ≤ k := by omega
    by_cases hlt : k < n
    · obtain ⟨ad, c, rfl, hcx, hx, hab⟩ := rd_at HR.out hi.below (by omega : k < l.length)
      have k1 : (k : Int) < n := by omega
      obtain ⟨⟨e0, f0⟩, hat⟩ : ∃ x, all[k]? = some x := ⟨_, List.getElem?_eq_getElem (by rw [hm.len]; omega)⟩
      obtain ⟨c0, c1⟩ := hi.cells hat
      have y0 := hi.frozen (k * 2)
      have y1 := hi.frozen (k * 2 + 1)
      obtain ⟨m, hOm⟩ : ∃ m, O.length = m := ⟨_, rfl⟩
      have hmk2 : m ≤ k := by
        rw [← hOm]
        have := List.Nodup.length_le_of_subset (l₂ := List.range k) hm.one (fun o ho => List.mem_range.2 (hm.lt o ho))
        simpa using this
      have HBC := fun w => Lib.hid (cbegins_any c w)
      have HMK := fun w => Lib.hid (makes_any c w)
      obtain ⟨b, hb⟩ : ∃ b, M.begins c = b := ⟨_, rfl⟩
      obtain ⟨s, hs⟩ : ∃ s, M.isStr c = s := ⟨_, rfl⟩
      obtain ⟨t, ht⟩ : ∃ t, M.side c = t := ⟨_, rfl⟩
      rw [hb] at HBC
      rw [hs, ht] at HMK
      have HX := Lib.hid hx
      have HT := Lib.hid (hi.told hat (-1) (-1))
      have HOm := Lib.hid hOm
      have Hb := Lib.hid hb
      have Hs := Lib.hid hs
      have Ht := Lib.hid ht
      obtain ⟨W2, hW2⟩ : ∃ W2, (wr.setCell ⟨w.heap.size, k * 2, none⟩ (.int .i64 (-1))).setCell ⟨w.heap.size, k * 2 + 1, none⟩ (.int .i64 (-1)) = W2 := ⟨_, rfl⟩
      rw [hW2] at HT
      clear hi hm hx hat hn hOm hb hs ht hab
      obtain ⟨A2, c2, hv⟩ : ∃ A2 c2, vo = .slice A2 m c2 := by rw [← HOm.out]; exact HI2.out.form
      subst hv
      cases b with
      | true =>
        have HB := Lib.hid (HM.out.begin_ HX.out Hb.out)
        go_wp2_with fail
        refine (HMK _).out.mono ?_
        rintro r w2 ⟨rfl, rfl⟩
        go_wp2_with fail
        refine (HBC _).out.mono ?_
        rintro r w3 ⟨rfl, rfl⟩
        go_wp2_with (at_builtin; refine wpList_append_lies _ rfl _ _ 25 rfl w.heap.size 3 j0 (.int .i64 0) 1 8 Tryz.underlying25 hj hy0 hy1 hy2 rfl (by decide) _ _ _ rfl (World.ownsRow.alloc (HOm.out ▸ HT.out.ro) _) ⟨W2.heap.size, 0, none⟩ 1 1 [.int .i64 k] rfl rfl (one_new _ _ _) one_cell (by omega) (by unfold maxLen; omega) (by omega) (by have := HT.out.glo; simp; omega) (W2.heap.size + 1) (by simp) ?_)
        intro q cap w4 hown hgrow hat _
        have HP := Lib.hid (HT.out.push (o := k) (by rw [HOm.out, List.map_reverse]; exact hown) hgrow hat)
        clear hown hgrow hat
        go_wp2_with fail
        go_roundw
        case rel => exact ⟨k + 1, _, k :: O, _, rfl, by go_num, by omega, by have q := HP.out; rw [HOm.out] at q; exact q, HB.out⟩
        case measure => simp [intOf]; omega
      | false =>
        by_cases h10 : c = 10
        · subst h10
          have HB := Lib.hid (HM.out.b_ HX.out)
          go_wp2_with fail
          refine (HMK _).out.mono ?_
          rintro r w2 ⟨rfl, rfl⟩
          go_wp2_with fail
          refine (HBC _).out.mono ?_
          rintro r w3 ⟨rfl, rfl⟩
          go_wp2_with fail
          go_roundw
          case rel => exact ⟨k + 1, _, [], _, rfl, by go_num, by omega, HT.out.none_, HB.out⟩
          case measure => simp [intOf]; omega
        · cases O with
          | nil =>
            have hm0 : m = 0 := HOm.out.symm
            subst hm0
            have HB := Lib.hid (HM.out.none_ HX.out Hb.out)
            go_wp2_with fail
            refine (HMK _).out.mono ?_
            rintro r w2 ⟨rfl, rfl⟩
            go_wp2_with fail
            refine (HBC _).out.mono ?_
            rintro r w3 ⟨rfl, rfl⟩
            go_wp2_with fail
            go_roundw
            case rel => exact ⟨k + 1, _, [], _, rfl, by go_num, by omega, HT.out, HB.out⟩
            case measure => simp [intOf]; omega
          | cons o O =>
            obtain ⟨m2, hm2⟩ : ∃ m2, O.length = m2 := ⟨_, rfl⟩
            have hmm : m = m2 + 1 := by rw [← HOm.out, List.length_cons, hm2]
            subst hmm
            have hok := HM.out.lt o (List.mem_cons_self ..)
            obtain ⟨f, ho, -, hf01⟩ := HM.out.opn 0 o rfl
            have ho2 : (all.set k (-1, -1))[o]? = some (-1, f) := by rw [HM.out.keep hok]; exact ho
            obtain ⟨g, cap, hv, hco, hcap1, hcap2, hpop⟩ := HT.out.last hm2
            have hv2 : A2 = some ⟨g, 0, none⟩ := by injection hv
            have hv3 : c2 = cap := by injection hv
            subst hv2 hv3
            obtain ⟨x0, x1⟩ := HT.out.cells ho2
            have z0 := HT.out.frozen (o * 2)
            have z1 := HT.out.frozen (o * 2 + 1)
            have hw1 : IntKind.i64.wrap ((m2 : Int) + 1 - 1) = (m2 : Int) := by rw [IntKind.wrap_i64]; omega
            have hm20 : (0 : Int) ≤ (m2 : Int) := by omega
            have ho0 : (0 : Int) ≤ (o : Int) := by omega
            have hon : (o : Int) < (n : Int) := by omega
            have hm21 : (m2 : Int) < (m2 : Int) + 1 := by omega
            have hm22 : m2 < m2 + 1 := by omega
            have hcc3 : (m2 : Int) ≤ (c2 : Int) := by omega
            have hcc4 : m2 ≤ c2 := by omega
            have HPo := Lib.hid hpop
            have Hho := Lib.hid ho
            have Hho2 := Lib.hid ho2
            have Hm2 := Lib.hid hm2
            clear hpop ho ho2 hm2 hf01 hv
            by_cases h22 : c = 22
            · subst h22
              have HB := Lib.hid (HM.out.pdi_ HX.out Hho.out)
              have HE := Lib.hid (HPo.out.end_ Hho2.out k)
              go_wp2_with fail
              refine (HMK _).out.mono ?_
              rintro r w2 ⟨rfl, rfl⟩
              go_wp2_with fail
              refine (HBC _).out.mono ?_
              rintro r w3 ⟨rfl, rfl⟩
              go_wp2_with fail
              go_roundw
              case rel => exact ⟨k + 1, _, O, _, rfl, by go_num, by omega, HE.out, HB.out⟩
              case measure => simp [intOf]; omega
            · cases s with
              | false =>
                have HB := Lib.hid (HM.out.same_ HX.out Hb.out h10 h22 Hho.out (.inr ⟨by rw [Hs.out]; simp, rfl⟩))
                have HQ := Lib.hid (show (all.set k (-1, -1)).set o (-1, f) = all.set k (-1, -1) from set_self_at Hho2.out)
                rw [HQ.out] at HB
                go_wp2_with fail
                refine (HMK _).out.mono ?_
                rintro r w2 ⟨rfl, rfl⟩
                go_wp2_with fail
                refine (HBC _).out.mono ?_
                rintro r w3 ⟨rfl, rfl⟩
                go_wp2_with fail
                go_roundw
                case rel => exact ⟨k + 1, _, o :: O, _, rfl, by go_num, by omega, HT.out, HB.out⟩
                case measure => simp [intOf]; omega
              | true =>
                by_cases hf : f = -1
                · subst hf
                  have HB := Lib.hid (HM.out.same_ HX.out Hb.out h10 h22 Hho.out (.inl ⟨Hs.out, rfl, rfl⟩))
                  rw [Ht.out] at HB
                  have HF := Lib.hid (HT.out.first Hho2.out t)
                  go_wp2_with fail
                  refine (HMK _).out.mono ?_
                  rintro r w2 ⟨rfl, rfl⟩
                  go_wp2_with fail
                  refine (HBC _).out.mono ?_
                  rintro r w3 ⟨rfl, rfl⟩
                  go_wp2_with fail
                  go_roundw
                  case rel => exact ⟨k + 1, _, o :: O, _, rfl, by go_num, by omega, HF.out, HB.out⟩
                  case measure => simp [intOf]; omega
                · have HB := Lib.hid (HM.out.same_ HX.out Hb.out h10 h22 Hho.out (.inr ⟨fun q => hf q.2, rfl⟩))
                  have HQ := Lib.hid (show (all.set k (-1, -1)).set o (-1, f) = all.set k (-1, -1) from set_self_at Hho2.out)
                  rw [HQ.out] at HB
                  go_wp2_with fail
                  refine (HMK _).out.mono ?_
                  rintro r w2 ⟨rfl, rfl⟩
                  go_wp2_with fail
                  refine (HBC _).out.mono ?_
                  rintro r w3 ⟨rfl, rfl⟩
                  go_wp2_with fail
                  go_roundw
                  case rel => exact ⟨k + 1, _, o :: O, _, rfl, by go_num, by omega, HT.out, HB.out⟩
                  case measure => simp [intOf]; omega
    · obtain rfl : k = n := by omega
      clear hi hm hn
      go_wp2_with fail
      go_ret
      refine ⟨_, all, rfl, HI2.out.ra, fun i hi => ?_, HI2.out.below⟩
      have q := HM.out
      rw [← HN.out] at q hi
      exact q.end_ i hi
end Go.Proofs.YtjlfgojblimobaaGreat
end

section
namespace Go.Proofs.YtjlfgojblimobaaGreat
open Go.RowKit
set_option maxRecDepth 100000

theorem M.match_fill {l : List Int} {k n : Nat} (hk : k < n) : (M.matchTo l k ++ List.replicate (n - k) 0).set k (M.endI l k) = M.matchTo l (k + 1) ++ List.replicate (n - (k + 1)) 0 := by
  rw [M.matchTo_succ, List.set_append_right _ _ (by rw [M.matchTo_len]; exact Nat.le_refl _), M.matchTo_len, Nat.sub_self]
  obtain ⟨m, hm⟩ : ∃ m, n - k = m + 1 := ⟨n - k - 1, by omega⟩
  rw [hm, List.replicate_succ, List.set_cons_zero, List.append_assoc, show n - (k + 1) = m by omega]
  rfl
theorem rep_cells (n : Nat) : (madeCells (Value.int IntKind.i64 0).cells (n * 1)).toList = (List.replicate n (0 : Int)).map (Value.int .i64) := by
  rw [Nat.mul_one, List.map_replicate]
  exact toList_madeCells_one _ _
set_option maxHeartbeats 8000000 in
theorem cmatch_any (A : Option Addr) (ca n : Nat) (l : List Int) (w : World) (hr : RdS .i64 w w.heap.size A l) (hn : l.length = n) (hl : n ≤ 1000) :
    Calls Tryz.prog 70 #[.slice A n ca] w (RowOut 3 (M.matchI l) w) := by
  obtain ⟨i0, hi, hz0, hz1, hz2⟩ := info_parts Tryz.infoInt
  have hmk := run_make (P := Tryz.prog) w 25 3 i0 (.int .i64 0) Tryz.underlying25 hi hz0 .i64 .i64 n n (by omega) (Int.le_refl _) (by rw [hz2]; omega) (by omega)
  rw [Int.toNat_natCast, hz1] at hmk
  obtain ⟨W1, hW1⟩ : ∃ W1, w.alloc (.cells (madeCells (Value.int .i64 0).cells (n * 1)) 3) = W1 := ⟨_, rfl⟩
  have h1 : W1.ownsRow w.heap.size 3 1 (.slice (some ⟨w.heap.size, 0, none⟩) n n) n ((M.matchTo l 0 ++ List.replicate (n - 0) 0).map (Value.int .i64)) := by
    rw [← hW1, show M.matchTo l 0 ++ List.replicate (n - 0) 0 = List.replicate n 0 from rfl, ← rep_cells]
    exact World.ownsRow_lit w _ n (Nat.le_refl _) (by unfold maxLen; omega) (by simp [madeCells])
  have hb1 : Below w.heap.size w W1 := by rw [← hW1]; exact (Below.refl _ _).alloc (Nat.le_refl _) _
  have hs1 : w.heap.size < W1.heap.size := by rw [← hW1]; simp
  rw [hW1] at hmk
  have HI := Lib.hid (isolates_any A ca n l W1 ((hr.below hb1).more hb1.size) hn hl)
  have H1 := Lib.hid h1
  have HB := Lib.hid hb1
  have HN := Lib.hid hn
  have hl1 : (n : Int) ≤ 1000 := by omega
  clear hr hn h1 hW1 hz0 hz1 hz2 hi hb1
  go_enter Tryz.func70, Tryz.ntmps70
  go_wp2_with fail
  refine HI.out.mono ?_
  rintro r w2 ⟨G, all, rfl, hra, hfin, hb2⟩
  have HRA := Lib.hid hra
  have HF := Lib.hid hfin
  have HB2 := Lib.hid hb2
  have hsz := hb2.size
  clear hra hfin hb2
  have H2 := Lib.hid (own_below H1.out HB2.out)
  have HB3 := Lib.hid (HB.out.trans (HB2.out.mono (Nat.le_of_lt hs1)))
  have hG := World.ownsRow.lt HRA.out G rfl
  go_wp2_with fail
  go_loopw [12] (fun v wr => ∃ k : Nat, v = .int .i64 k ∧ k ≤ n ∧ wr.ownsRow w.heap.size 3 1 (.slice (some ⟨w.heap.size, 0, none⟩) n n) n ((M.matchTo l k ++ List.replicate (n - k) 0).map (Value.int .i64)) ∧ wr.ownsRow W1.heap.size 77 2 (.slice (some ⟨G, 0, none⟩) n n) n (isoCells all) ∧ Below w.heap.size w wr) (fun v _ => n - (intOf v).toNat)
  case atStart => exact ⟨0, rfl, Nat.zero_le _, H2.out, HRA.out, HB3.out⟩
  case round =>
    obtain ⟨k, rfl, hk, ho, hra, hb⟩ := hrel
    have HO := Lib.hid ho
    have HA := Lib.hid hra
    have HB4 := Lib.hid hb
    have k0 : (0 : Int) ≤ k := by omega
    by_cases hlt : k < n
    · have k1 : (k : Int) < n := by omega
      obtain ⟨⟨e, f⟩, hx, hfx⟩ := HF.out k hlt
      have he : e = M.endI l k := hfx.1
      obtain ⟨q0, q1⟩ := isoCells_at hx
      have c0 : wr.cell? ⟨G, k * 2, none⟩ = some (.int .i64 e) := (hra.cellAt _ (by omega)).trans q0
      have c1 : wr.cell? ⟨G, k * 2 + 1, none⟩ = some (.int .i64 f) := (hra.cellAt _ (by omega)).trans q1
      obtain ⟨y, hy⟩ : ∃ y, (M.matchTo l k ++ List.replicate (n - k) 0)[k]? = some y := ⟨_, List.getElem?_eq_getElem (by simp [M.matchTo_len]; omega)⟩
      have cy : wr.cell? ⟨w.heap.size, k, none⟩ = some (.int .i64 y) := (ho.cellAt _ (by omega)).trans (by rw [List.getElem?_map, hy]; rfl)
      have fy := ho.frozenAt k
      have hfill := M.match_fill (l := l) hlt
      rw [← he] at hfill
      have HFI := Lib.hid hfill
      have hgw := (World.ownsRow.lt ho w.heap.size rfl).2
      have hgw2 : G < wr.heap.size := (World.ownsRow.lt hra G rfl).2
      have HO5 := Lib.hid ((World.ownsRow.stored ho k (.int .i64 e)).1.alloc (.cells #[.int .i64 e, .int .i64 f] 77))
      have HA5 := Lib.hid ((ownsRow_setCell_other (a := ⟨w.heap.size, k, none⟩) hra (by simp [Value.ownBlock]; omega) (.int .i64 e)).alloc (.cells #[.int .i64 e, .int .i64 f] 77))
      have HB5 := Lib.hid ((hb.setCell (p := ⟨w.heap.size, k, none⟩) (Nat.le_refl _) (.int .i64 e)).alloc (by simp [World.setCell]; omega) (.cells #[.int .i64 e, .int .i64 f] 77))
      clear ho hra hb q0 q1 hy hfx hx hfill he hs1 hsz hG
      go_wp2_with fail
      go_roundw
      case rel => exact ⟨k + 1, by go_num, by omega, by rw [← HFI.out, List.map_set]; exact HO5.out, HA5.out, HB5.out⟩
      case measure => simp [intOf]; omega
    · obtain rfl : k = n := by omega
      clear ho hra hb
      go_wp2_with fail
      go_ret
      refine ⟨_, rfl, ?_, HB4.out⟩
      have q := HO.out
      rw [Nat.sub_self, List.replicate_zero, List.append_nil] at q
      unfold M.matchI
      rw [M.matchTo_len, HN.out]
      exact q
end Go.Proofs.YtjlfgojblimobaaGreat
end

section
namespace Go.Proofs.YtjlfgojblimobaaGreat
open Go.RowKit
set_option maxRecDepth 100000

def M.Ent.cells (e : M.Ent) : List Value := [.int .i64 e.lv, .int .i64 e.ov, .bool e.iso]
def M.Ent.val (e : M.Ent) : Value := .agg #[.int .i64 e.lv, .int .i64 e.ov, .bool e.iso]
def cellsN (l : List M.Ent) : List Value := l.flatMap M.Ent.cells
theorem cellsN_snoc (l : List M.Ent) (e : M.Ent) : cellsN (l ++ [e]) = cellsN l ++ e.cells := by simp [cellsN]
theorem cellsN_length (l : List M.Ent) : (cellsN l).length = l.length * 3 := by
  induction l with
  | nil => rfl
  | cons e r ih => simp [cellsN, M.Ent.cells] at ih ⊢; omega
theorem Tryz.infoEnt : (Tryz.prog.info? 142).map (fun i => (i.zero, i.size, i.bytes)) = some (some (.agg #[.int .i64 0, .int .i64 0, .bool false]), 3, 24) := by kernel_rfl
theorem addr0_add (g k : Nat) : (⟨g, 0, none⟩ : Addr).add k = ⟨g, k, none⟩ := by
  unfold Addr.add
  split
  · rename_i h; subst h; rfl
  · simp
theorem cellsN_at {l : List M.Ent} {j : Nat} {e : M.Ent} (h : l[j]? = some e) (k : Nat) (hk : k < 3) : (cellsN l)[j * 3 + k]? = e.cells[k]? := by
  induction l generalizing j with
  | nil => simp at h
  | cons x r ih =>
    have hx : x.cells.length = 3 := rfl
    show (x.cells ++ cellsN r)[j * 3 + k]? = _
    cases j with
    | zero =>
      simp at h
      subst h
      rw [List.getElem?_append_left (by rw [hx]; omega)]
      simp
    | succ j =>
      simp at h
      rw [List.getElem?_append_right (by rw [hx]; omega), hx, ← ih h]
      congr 1
      omega
theorem ent_cells (w : World) (e : M.Ent) (t : TypeId) : ∀ j u, e.cells[j]? = some u → (w.alloc (.cells #[.int .i64 e.lv, .int .i64 e.ov, .bool e.iso] t)).cell? ((⟨w.heap.size, 0, none⟩ : Addr).add j) = some u := by
  intro j u hj
  match j, hj with
  | 0, hj => simp [M.Ent.cells] at hj; subst hj; simp [Addr.add, go_sem]
  | 1, hj => simp [M.Ent.cells] at hj; subst hj; simp [Addr.add, go_sem]
  | 2, hj => simp [M.Ent.cells] at hj; subst hj; simp [Addr.add, go_sem]
theorem ent_one (e : M.Ent) : ∀ u ∈ e.cells, u.oneCell' = true := by
  intro u hu
  simp [M.Ent.cells] at hu
  rcases hu with rfl | rfl | rfl <;> rfl
def OwnN (w : World) (base g n cap : Nat) (l : List M.Ent) : Prop := w.ownsRow base 142 3 (.slice (some ⟨g, 0, none⟩) n cap) n (cellsN l)
structure MachAt (w : World) (base mb g cap : Nat) (m : M.Mc) : Prop where
  c0 : w.cell? ⟨mb, 0, none⟩ = some (.slice (some ⟨g, 0, none⟩) m.s.length cap)
  c1 : w.cell? ⟨mb, 1, none⟩ = some (.int .i64 m.o)
  c2 : w.cell? ⟨mb, 2, none⟩ = some (.int .i64 m.e)
  c3 : w.cell? ⟨mb, 3, none⟩ = some (.int .i64 m.v)
  f0 : w.frozen? ⟨mb, 0, none⟩ = false
  f1 : w.frozen? ⟨mb, 1, none⟩ = false
  f2 : w.frozen? ⟨mb, 2, none⟩ = false
  f3 : w.frozen? ⟨mb, 3, none⟩ = false
  row : OwnN w base g m.s.length cap m.s.reverse
  lo : base ≤ mb
  lt : mb < w.heap.size
  ne : mb ≠ g
structure Spun (w w' : World) (mb g g' : Nat) : Prop where
  os : w'.os = w.os
  tape : w'.tape = w.tape
  output : w'.output = w.output
  size : w.heap.size ≤ w'.heap.size
  block : ∀ b, b < w.heap.size → b ≠ mb → b ≠ g → w'.heap[b]? = w.heap[b]?
  new : g' = g ∨ w.heap.size ≤ g'
theorem Spun.below {w w' : World} {mb g g' base : Nat} (h : Spun w w' mb g g') (h1 : base ≤ mb) (h2 : base ≤ g) (h3 : base ≤ w.heap.size) : Below base w w' :=
  ⟨h.os, h.tape, h.output, h.size, fun b hb => h.block b (by omega) (by omega) (by omega)⟩
theorem MachAt.glo {w : World} {base mb g cap : Nat} {m : M.Mc} (h : MachAt w base mb g cap m) : base ≤ g ∧ g < w.heap.size := World.ownsRow.lt h.row g rfl
theorem MachAt.below {w w' : World} {base mb g cap : Nat} {m : M.Mc} (h : MachAt w base mb g cap m) (hb : Below w.heap.size w w') : MachAt w' base mb g cap m := by
  obtain ⟨c0, c1, c2, c3, f0, f1, f2, f3, row, lo, lt, ne⟩ := h
  refine ⟨(hb.cell lt).trans c0, (hb.cell lt).trans c1, (hb.cell lt).trans c2, (hb.cell lt).trans c3, (hb.frozen lt).trans f0, (hb.frozen lt).trans f1, (hb.frozen lt).trans f2, (hb.frozen lt).trans f3, ?_, lo, Nat.lt_of_lt_of_le lt hb.size, ne⟩
  exact World.ownsRow.kept row (row := none) ⟨hb.os, hb.tape, hb.output, hb.size, fun k hk _ => hb.block k hk⟩ (by simp [Value.ownBlock])
theorem MachAt.top {w : World} {base mb g cap : Nat} {m : M.Mc} (h : MachAt w base mb g cap m) {n : Nat} (hn : m.s.length = n + 1) :
    w.cell? ⟨g, n * 3, none⟩ = some (.int .i64 m.top.lv) ∧ w.cell? ⟨g, n * 3 + 1, none⟩ = some (.int .i64 m.top.ov) ∧ w.cell? ⟨g, n * 3 + 2, none⟩ = some (.bool m.top.iso) := by
  have hrow := h.row
  have hj : m.s.reverse[n]? = some m.top := by
    cases hs : m.s with
    | nil => rw [hs] at hn; simp at hn
    | cons t r =>
      rw [hs] at hn
      simp at hn
      subst hn
      unfold M.Mc.top
      rw [hs]
      simp
  have c := fun k (hk : k < 3) u (hu : m.top.cells[k]? = some u) => World.ownsRow.cells hrow rfl (n * 3 + k) u (by rw [cellsN_at hj k hk]; exact hu)
  simp only [addr0_add] at c
  exact ⟨c 0 (by omega) _ rfl, c 1 (by omega) _ rfl, c 2 (by omega) _ rfl⟩

set_option maxHeartbeats 2000000 in
theorem top_any (base mb g cap n : Nat) (m : M.Mc) (w : World) (h : MachAt w base mb g cap m) (hn : m.s.length = n + 1) (hl : n ≤ 10000) :
    Calls Tryz.prog 89 #[.pointer (some ⟨mb, 0, none⟩)] w fun r w' => r = .returned m.top.val ∧ Below w.heap.size w w' := by
  obtain ⟨t0, t1, t2⟩ := h.top hn
  have c0 := h.c0
  rw [hn] at c0
  have hlt := h.lt
  have hgl := h.glo.2
  obtain ⟨W, hW⟩ : ∃ W, w.alloc (.cells #[.int .i64 0, .int .i64 0, .bool false] 142) = W := ⟨_, rfl⟩
  have hb : Below w.heap.size w W := by rw [← hW]; exact (Below.refl _ _).alloc (Nat.le_refl _) _
  have k0 := (hb.cell (p := ⟨mb, 0, none⟩) hlt).trans c0
  have k1 := (hb.cell (p := ⟨g, n * 3, none⟩) hgl).trans t0
  have k2 := (hb.cell (p := ⟨g, n * 3 + 1, none⟩) hgl).trans t1
  have k3 := (hb.cell (p := ⟨g, n * 3 + 2, none⟩) hgl).trans t2
  have z0 : W.cell? ⟨w.heap.size, 0, none⟩ = some (.int .i64 0) := by rw [← hW]; simp [go_sem]
  have z1 : W.cell? ⟨w.heap.size, 1, none⟩ = some (.int .i64 0) := by rw [← hW]; simp [go_sem]
  have z2 : W.cell? ⟨w.heap.size, 2, none⟩ = some (.bool false) := by rw [← hW]; simp [go_sem]
  have y0 : W.frozen? ⟨w.heap.size, 0, none⟩ = false := by rw [← hW]; simp [go_sem]
  have y1 : W.frozen? ⟨w.heap.size, 1, none⟩ = false := by rw [← hW]; simp [go_sem]
  have y2 : W.frozen? ⟨w.heap.size, 2, none⟩ = false := by rw [← hW]; simp [go_sem]
  have HB := Lib.hid hb
  have hn0 : (0 : Int) ≤ (n : Int) := by omega
  have hn1 : (n : Int) ≤ 10000 := by omega
  have hn2 : (n : Int) < (n : Int) + 1 := by omega
  have hn3 : n < n + 1 := by omega
  have hw1 : IntKind.i64.wrap ((n : Int) + 1 - 1) = (n : Int) := by rw [IntKind.wrap_i64]; omega
  have hw2 : IntKind.i64.wrap (n : Int) = (n : Int) := by rw [IntKind.wrap_i64]; omega
  clear h hn c0 t0 t1 t2 hb hlt hgl
  go_enter Tryz.func89, Tryz.ntmps89
  go_wp2_with fail
  go_still_tail 12, (by kernel_rfl)
  change wpList _ _ _ _ _ W.drew
  have HB1 := Lib.hid HB.out.drew
  go_wp2_with fail
  refine bodyPost_ret (v := m.top.val) (by simp [results, Tryz.results89, go_sem, M.Ent.val, z0, z1, z2]) rfl ⟨rfl, ?_⟩
  exact (((HB.out.setCell (p := ⟨w.heap.size, 0, none⟩) (Nat.le_refl _) _).setCell (p := ⟨w.heap.size, 1, none⟩) (Nat.le_refl _) _).setCell (p := ⟨w.heap.size, 2, none⟩) (Nat.le_refl _) _).drew
end Go.Proofs.YtjlfgojblimobaaGreat
end

section
namespace Go.Proofs.YtjlfgojblimobaaGreat
open Go.RowKit
set_option maxRecDepth 100000

set_option maxHeartbeats 2000000 in
theorem next_any (base mb g cap n : Nat) (m : M.Mc) (odd : Int) (w : World) (h : MachAt w base mb g cap m) (hn : m.s.length = n + 1) (hl : n ≤ 10000) (h0 : 0 ≤ m.top.lv) (h1 : m.top.lv ≤ 125) :
    Calls Tryz.prog 126 #[.pointer (some ⟨mb, 0, none⟩), .int .i64 odd] w fun r w' => r = .returned (.int .i64 (m.next odd)) ∧ Below w.heap.size w w' := by
  have HT := Lib.hid (top_any base mb g cap n m w h hn hl)
  obtain ⟨t, ht⟩ : ∃ t, m.top = t := ⟨_, rfl⟩
  have HN := Lib.hid (show m.next odd = if (t.lv + 1) % 2 ≠ odd then t.lv + 1 + 1 else t.lv + 1 by rw [← ht]; rfl)
  rw [ht] at HT h0 h1
  obtain ⟨lv, ov, iso⟩ := t
  simp only at h0 h1 HN
  rw [show M.Ent.val ⟨lv, ov, iso⟩ = .agg #[.int .i64 lv, .int .i64 ov, .bool iso] from rfl] at HT
  have hw1 : IntKind.i64.wrap (lv + 1) = lv + 1 := by rw [IntKind.wrap_i64]; omega
  have hw2 : IntKind.i64.wrap (lv + 1 + 1) = lv + 1 + 1 := by rw [IntKind.wrap_i64]; omega
  have hw3 : IntKind.i64.wrap ((lv + 1).tmod 2) = (lv + 1) % 2 := by rw [Int.tmod_eq_emod_of_nonneg (by omega), IntKind.wrap_i64]; omega
  have hf : ∀ w : World, (Instr.field 142 (.agg #[.int .i64 lv, .int .i64 ov, .bool iso]) 0).run Tryz.prog w = .ok (.int .i64 lv) w := fun w => by kernel_rfl
  clear h hn ht
  go_enter Tryz.func126, Tryz.ntmps126
  go_wp2_with fail
  refine HT.out.mono ?_
  rintro r w1 ⟨rfl, hb⟩
  have HB := Lib.hid hb
  clear hb
  by_cases hc : (lv + 1) % 2 = odd
  · rw [if_neg (by omega)] at HN
    go_wp2_with fail
    go_ret
    exact ⟨by rw [HN.out]; rfl, HB.out⟩
  · rw [if_pos (by omega)] at HN
    go_wp2_with fail
    go_ret
    exact ⟨by rw [HN.out]; rfl, HB.out⟩
end Go.Proofs.YtjlfgojblimobaaGreat
end

section
namespace Go.Proofs.YtjlfgojblimobaaGreat
open Go.RowKit

def MachOut (base mb g : Nat) (m : M.Mc) (w : World) (w' : World) : Prop := ∃ g' cap', MachAt w' base mb g' cap' m ∧ Spun w w' mb g g'
theorem Spun.refl (w : World) (mb g : Nat) : Spun w w mb g g := ⟨rfl, rfl, rfl, Nat.le_refl _, fun _ _ _ _ => rfl, .inl rfl⟩
theorem Spun.of_below {w w' : World} (h : Below w.heap.size w w') (mb g : Nat) : Spun w w' mb g g := ⟨h.os, h.tape, h.output, h.size, fun b hb _ _ => h.block b hb, .inl rfl⟩
theorem Spun.trans {w w1 w2 : World} {mb g g1 g2 : Nat} (h : Spun w w1 mb g g1) (k : Spun w1 w2 mb g1 g2) : Spun w w2 mb g g2 := by
  refine ⟨k.os.trans h.os, k.tape.trans h.tape, k.output.trans h.output, Nat.le_trans h.size k.size, fun b hb h1 h2 => ?_, ?_⟩
  · refine (k.block b (Nat.lt_of_lt_of_le hb h.size) h1 (fun e => ?_)).trans (h.block b hb h1 h2)
    subst e
    rcases h.new with h3 | h3
    · exact h2 h3
    · omega
  · have := h.size
    rcases k.new with rfl | h4
    · exact h.new
    · exact .inr (by omega)
theorem Spun.setCell {w w' : World} {mb g g' : Nat} (h : Spun w w' mb g g') (k : Nat) (u : Value) : Spun w (w'.setCell ⟨mb, k, none⟩ u) mb g g' :=
  ⟨h.os, h.tape, h.output, by simpa [World.setCell] using h.size, fun b hb h1 h2 => (Below.heap_setCell _ _ _ _ h1).trans (h.block b hb h1 h2), h.new⟩
theorem off_ne {b i j : Nat} (h : i ≠ j) : (⟨b, i, none⟩ : Addr) ≠ ⟨b, j, none⟩ := fun e => h (by injection e)
theorem row_set {w : World} {base mb g cap n k : Nat} {l : List M.Ent} (h : OwnN w base g n cap l) (hne : mb ≠ g) (u : Value) : OwnN (w.setCell ⟨mb, k, none⟩ u) base g n cap l :=
  ownsRow_setCell_other h (by simp [Value.ownBlock]; exact fun e => hne e.symm) u
theorem MachAt.setO {w : World} {base mb g cap : Nat} {m : M.Mc} (h : MachAt w base mb g cap m) (x : Int) : MachAt (w.setCell ⟨mb, 1, none⟩ (.int .i64 x)) base mb g cap { m with o := x } := by
  obtain ⟨c0, c1, c2, c3, f0, f1, f2, f3, row, lo, lt, ne⟩ := h
  refine ⟨?_, World.cell?_setCell_same _ _ _ c1, ?_, ?_, ?_, ?_, ?_, ?_, row_set row ne _, lo, by simpa [World.setCell] using lt, ne⟩
  · rw [World.cell?_setCell_other _ _ _ _ (off_ne (by omega))]; exact c0
  · rw [World.cell?_setCell_other _ _ _ _ (off_ne (by omega))]; exact c2
  · rw [World.cell?_setCell_other _ _ _ _ (off_ne (by omega))]; exact c3
  all_goals (rw [World.frozen?_setCell]; assumption)
theorem MachAt.setE {w : World} {base mb g cap : Nat} {m : M.Mc} (h : MachAt w base mb g cap m) (x : Int) : MachAt (w.setCell ⟨mb, 2, none⟩ (.int .i64 x)) base mb g cap { m with e := x } := by
  obtain ⟨c0, c1, c2, c3, f0, f1, f2, f3, row, lo, lt, ne⟩ := h
  refine ⟨?_, ?_, World.cell?_setCell_same _ _ _ c2, ?_, ?_, ?_, ?_, ?_, row_set row ne _, lo, by simpa [World.setCell] using lt, ne⟩
  · rw [World.cell?_setCell_other _ _ _ _ (off_ne (by omega))]; exact c0
  · rw [World.cell?_setCell_other _ _ _ _ (off_ne (by omega))]; exact c1
  · rw [World.cell?_setCell_other _ _ _ _ (off_ne (by omega))]; exact c3
  all_goals (rw [World.frozen?_setCell]; assumption)
theorem MachAt.setV {w : World} {base mb g cap : Nat} {m : M.Mc} (h : MachAt w base mb g cap m) (x : Int) : MachAt (w.setCell ⟨mb, 3, none⟩ (.int .i64 x)) base mb g cap { m with v := x } := by
  obtain ⟨c0, c1, c2, c3, f0, f1, f2, f3, row, lo, lt, ne⟩ := h
  refine ⟨?_, ?_, ?_, World.cell?_setCell_same _ _ _ c3, ?_, ?_, ?_, ?_, row_set row ne _, lo, by simpa [World.setCell] using lt, ne⟩
  · rw [World.cell?_setCell_other _ _ _ _ (off_ne (by omega))]; exact c0
  · rw [World.cell?_setCell_other _ _ _ _ (off_ne (by omega))]; exact c1
  · rw [World.cell?_setCell_other _ _ _ _ (off_ne (by omega))]; exact c2
  all_goals (rw [World.frozen?_setCell]; assumption)
theorem MachAt.setS {w : World} {base mb g cap g' cap' n : Nat} {m : M.Mc} {s' : List M.Ent} (h : MachAt w base mb g cap m) (hn : s'.length = n) (hrow : OwnN w base g' n cap' s'.reverse) (hne : mb ≠ g') :
    MachAt (w.setCell ⟨mb, 0, none⟩ (.slice (some ⟨g', 0, none⟩) n cap')) base mb g' cap' { m with s := s' } := by
  subst hn
  obtain ⟨c0, c1, c2, c3, f0, f1, f2, f3, row, lo, lt, ne⟩ := h
  refine ⟨World.cell?_setCell_same _ _ _ c0, ?_, ?_, ?_, ?_, ?_, ?_, ?_, row_set hrow hne _, lo, by simpa [World.setCell] using lt, hne⟩
  · rw [World.cell?_setCell_other _ _ _ _ (off_ne (by omega))]; exact c1
  · rw [World.cell?_setCell_other _ _ _ _ (off_ne (by omega))]; exact c2
  · rw [World.cell?_setCell_other _ _ _ _ (off_ne (by omega))]; exact c3
  all_goals (rw [World.frozen?_setCell]; assumption)
theorem MachAt.drew {w : World} {base mb g cap : Nat} {m : M.Mc} (h : MachAt w base mb g cap m) : MachAt w.drew base mb g cap m :=
  ⟨h.c0, h.c1, h.c2, h.c3, h.f0, h.f1, h.f2, h.f3, h.row, h.lo, h.lt, h.ne⟩
theorem Spun.drew {w w' : World} {mb g g' : Nat} (h : Spun w w' mb g g') : Spun w w'.drew mb g g' := ⟨h.os, h.tape, h.output, h.size, h.block, h.new⟩
end Go.Proofs.YtjlfgojblimobaaGreat
end

section
namespace Go.Proofs.YtjlfgojblimobaaGreat
open Go.RowKit

theorem pushed_block {w w3 : World} {base mb g cap : Nat} {m : M.Mc} {o : Obj} (h : MachAt w base mb g cap m) (hg : (w.alloc o).grownBy w3 (some g)) : w3.heap[mb]? = w.heap[mb]? := by
  have hlt := h.lt
  have hne := h.ne
  exact (hg.block mb (by simp; omega) (fun e => hne (Option.some.inj e))).trans (Below.heap_alloc _ _ _ hlt)
theorem MachAt.pushed {w w3 : World} {base mb g cap g2 cap2 n : Nat} {m : M.Mc} {o : Obj} {s' : List M.Ent} (h : MachAt w base mb g cap m) (hg : (w.alloc o).grownBy w3 (some g)) (hn : s'.length = n)
    (hrow : OwnN w3 base g2 n cap2 s'.reverse) (hat : some g = some g2 ∨ g2 = w.heap.size + 1) :
    MachAt (w3.setCell ⟨mb, 0, none⟩ (.slice (some ⟨g2, 0, none⟩) n cap2)) base mb g2 cap2 { m with s := s' } ∧ Spun w (w3.setCell ⟨mb, 0, none⟩ (.slice (some ⟨g2, 0, none⟩) n cap2)) mb g g2 := by
  subst hn
  have hb := pushed_block h hg
  obtain ⟨c0, c1, c2, c3, f0, f1, f2, f3, row, lo, lt, ne⟩ := h
  have hsz : w.heap.size + 1 ≤ w3.heap.size := by simpa using hg.size
  have hne2 : mb ≠ g2 := by
    rcases hat with h1 | h1
    · injection h1 with h1; omega
    · omega
  have C := fun (k : Nat) => World.cell?_of_block (a := ⟨mb, k, none⟩) hb
  have F := fun (k : Nat) => World.frozen?_of_block (a := ⟨mb, k, none⟩) hb
  refine ⟨⟨World.cell?_setCell_same _ _ _ ((C 0).trans c0), ?_, ?_, ?_, ?_, ?_, ?_, ?_, row_set hrow hne2 _, lo, by simp [World.setCell]; omega, hne2⟩, ?_⟩
  · rw [World.cell?_setCell_other _ _ _ _ (off_ne (by omega))]; exact (C 1).trans c1
  · rw [World.cell?_setCell_other _ _ _ _ (off_ne (by omega))]; exact (C 2).trans c2
  · rw [World.cell?_setCell_other _ _ _ _ (off_ne (by omega))]; exact (C 3).trans c3
  · rw [World.frozen?_setCell]; exact (F 0).trans f0
  · rw [World.frozen?_setCell]; exact (F 1).trans f1
  · rw [World.frozen?_setCell]; exact (F 2).trans f2
  · rw [World.frozen?_setCell]; exact (F 3).trans f3
  · refine Spun.setCell (w := w) (w' := w3) ⟨hg.os, hg.tape, hg.output, by omega, fun b hb1 _ h2 => ?_, ?_⟩ 0 _
    · exact (hg.block b (by simp; omega) (fun e => h2 (Option.some.inj e))).trans (Below.heap_alloc _ _ _ hb1)
    · rcases hat with h1 | h1
      · injection h1 with h1; exact .inl h1.symm
      · exact .inr (by omega)
end Go.Proofs.YtjlfgojblimobaaGreat
end
