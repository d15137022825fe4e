/- The shortest list, and the contract of ranges' shortest over the translation. Conditions: the slice reads as a list of entries whose ends are no scalars beyond the greatest, and whose values are names; the map has the names' places. -/
import Derived.Test.YtjbpjnnflcmmhaaFind
import Derived.Laws.OwnMore
import Derived.RangeFuncBox
namespace Go.Proofs.Ytjbpjnnflcmmhaa
open Go.RowKit

def M.bare (e : M.E) : M.E := ⟨e.a, e.b, e.v, ⟨#[]⟩⟩
def M.ext (f e : M.E) : M.E := ⟨f.a, e.b, f.v, f.x⟩
/-- One entry more. -/
def M.step (ns : List ByteArray) (acc : List M.E) (e : M.E) : List M.E :=
  if M.idx0 ns e.v = 0 then acc else match acc.getLast? with
    | some f => if f.b + 1 = e.a ∧ f.v = e.v then acc.dropLast ++ [M.ext f e] else acc ++ [M.bare e]
    | none => acc ++ [M.bare e]
def M.short (ns : List ByteArray) (l : List M.E) : List M.E := l.foldl (M.step ns) []
theorem M.step_skip {ns : List ByteArray} {acc : List M.E} {e : M.E} (h : M.idx0 ns e.v = 0) : M.step ns acc e = acc := by unfold M.step; rw [if_pos h]
theorem M.step_first {ns : List ByteArray} {e : M.E} (h : M.idx0 ns e.v ≠ 0) : M.step ns [] e = [M.bare e] := by unfold M.step; rw [if_neg h]; rfl
theorem M.step_ext {ns : List ByteArray} {acc : List M.E} {e f : M.E} (h : M.idx0 ns e.v ≠ 0) (h1 : f.b + 1 = e.a) (h2 : f.v = e.v) : M.step ns (acc ++ [f]) e = acc ++ [M.ext f e] := by
  unfold M.step; rw [if_neg h]; simp [h1, h2]
theorem M.step_more {ns : List ByteArray} {acc : List M.E} {e f : M.E} (h : M.idx0 ns e.v ≠ 0) (h1 : ¬ (f.b + 1 = e.a ∧ f.v = e.v)) : M.step ns (acc ++ [f]) e = acc ++ [f] ++ [M.bare e] := by
  unfold M.step; rw [if_neg h]; simp only [List.getLast?_append, List.getLast?_singleton, Option.some_or]; rw [if_neg h1]
theorem M.short_snoc (ns : List ByteArray) (l : List M.E) (e : M.E) : M.short ns (l ++ [e]) = M.step ns (M.short ns l) e := by simp [M.short]

/-- No end lies far. -/
def M.Low (l : List M.E) : Prop := ∀ e ∈ l, 0 ≤ e.b ∧ e.b ≤ 1114111
theorem M.step_low {ns : List ByteArray} {acc : List M.E} {e : M.E} (h : M.Low acc) (he : 0 ≤ e.b ∧ e.b ≤ 1114111) : M.Low (M.step ns acc e) := by
  by_cases h0 : M.idx0 ns e.v = 0
  · rw [M.step_skip h0]; exact h
  · rcases List.eq_nil_or_concat acc with rfl | ⟨init, f, hc⟩
    · rw [M.step_first h0]
      intro g hg
      obtain rfl : g = M.bare e := by simpa using hg
      exact he
    · rw [List.concat_eq_append] at hc
      subst hc
      by_cases hx : f.b + 1 = e.a ∧ f.v = e.v
      · rw [M.step_ext h0 hx.1 hx.2]
        intro g hg
        rcases List.mem_append.1 hg with hg | hg
        · exact h g (List.mem_append_left _ hg)
        · obtain rfl : g = M.ext f e := by simpa using hg
          exact he
      · rw [M.step_more h0 hx]
        intro g hg
        rcases List.mem_append.1 hg with hg | hg
        · exact h g hg
        · obtain rfl : g = M.bare e := by simpa using hg
          exact he
theorem M.step_len (ns : List ByteArray) (acc : List M.E) (e : M.E) : (M.step ns acc e).length ≤ acc.length + 1 := by
  by_cases h0 : M.idx0 ns e.v = 0
  · rw [M.step_skip h0]; omega
  · rcases List.eq_nil_or_concat acc with rfl | ⟨init, f, hc⟩
    · rw [M.step_first h0]; simp
    · rw [List.concat_eq_append] at hc
      subst hc
      by_cases hx : f.b + 1 = e.a ∧ f.v = e.v
      · rw [M.step_ext h0 hx.1 hx.2]; simp
      · rw [M.step_more h0 hx]; simp
theorem M.short_take {ns : List ByteArray} {l : List M.E} {k : Nat} {e : M.E} (h : l[k]? = some e) : M.short ns (l.take (k + 1)) = M.step ns (M.short ns (l.take k)) e := by
  rw [M.take_succ h, M.short_snoc]

theorem news_cells (w : World) (e : M.E) (t : TypeId) : ∀ j u, e.cells[j]? = some u → (w.alloc (.cells #[.int .i64 e.a, .int .i64 e.b, .string e.v, .string e.x] t)).cell? ((⟨w.heap.size, 0, none⟩ : Addr).add j) = some u := by
  intro j u hj
  match j, hj with
  | 0, hj => simp [M.E.cells] at hj; subst hj; simp [Addr.add, go_sem]
  | 1, hj => simp [M.E.cells] at hj; subst hj; simp [Addr.add, go_sem]
  | 2, hj => simp [M.E.cells] at hj; subst hj; simp [Addr.add, go_sem]
  | 3, hj => simp [M.E.cells] at hj; subst hj; simp [Addr.add, go_sem]
theorem news_one (e : M.E) : ∀ u ∈ e.cells, u.oneCell' = true := by
  intro u hu
  simp [M.E.cells] at hu
  rcases hu with rfl | rfl | rfl | rfl <;> rfl
theorem OwnE.below {w w1 : World} {base : Nat} {v : Value} {l : List M.E} (h : OwnE w base v l) (hb : Below w.heap.size w w1) : OwnE w1 base v l :=
  World.ownsRow.kept h (row := none) ⟨hb.os, hb.tape, hb.output, hb.size, fun k hk _ => hb.block k hk⟩ (by cases v.ownBlock <;> simp)
theorem OwnE.belowRow {w w1 : World} {base n : Nat} {v : Value} {xs : List Value} (h : w.ownsRow base 36 4 v n xs) (hb : Below w.heap.size w w1) : w1.ownsRow base 36 4 v n xs :=
  World.ownsRow.kept h (row := none) ⟨hb.os, hb.tape, hb.output, hb.size, fun k hk _ => hb.block k hk⟩ (by cases v.ownBlock <;> simp)
theorem OwnE.snoc {w : World} {base : Nat} {v : Value} {l : List M.E} {e : M.E} (h : w.ownsRow base 36 4 v (l.length + 1) (cellsE l ++ e.cells)) : OwnE w base v (l ++ [e]) := by
  unfold OwnE
  rw [List.length_append, cellsE_snoc]
  exact h
/-- The cells of the last entry. -/
theorem OwnE.last {w : World} {base g cap : Nat} {l : List M.E} {f : M.E} (h : OwnE w base (.slice (some ⟨g, 0, none⟩) (l.length + 1) cap) (l ++ [f])) :
    w.cell? ⟨g, l.length * 4 + 1, none⟩ = some (.int .i64 f.b) ∧ w.cell? ⟨g, l.length * 4 + 2, none⟩ = some (.string f.v) ∧ w.frozen? ⟨g, l.length * 4 + 1, none⟩ = false ∧ base ≤ g ∧ g < w.heap.size := by
  unfold OwnE at h
  rw [List.length_append] at h
  have hj : (l ++ [f])[l.length]? = some f := by simp
  have c := fun k (hk : k < 4) u (hu : f.cells[k]? = some u) => World.ownsRow.cells h rfl (l.length * 4 + k) u (by rw [cellsE_at hj k hk]; exact hu)
  simp only [addr0_add] at c
  exact ⟨c 1 (by omega) _ rfl, c 2 (by omega) _ rfl, World.ownsRow.frozenAt h _, (World.ownsRow.lt h g rfl).1, (World.ownsRow.lt h g rfl).2⟩
theorem cellsE_set (l : List M.E) (f e : M.E) : (cellsE (l ++ [f])).set (l.length * 4 + 1) (.int .i64 e.b) = cellsE (l ++ [M.ext f e]) := by
  rw [cellsE_snoc, cellsE_snoc, List.set_append_right _ _ (by rw [cellsE_length]; omega), cellsE_length]
  rw [show l.length * 4 + 1 - l.length * 4 = 1 by omega]
  rfl
theorem OwnE.setTo {w : World} {base g cap : Nat} {l : List M.E} {f : M.E} (e : M.E) (h : OwnE w base (.slice (some ⟨g, 0, none⟩) (l.length + 1) cap) (l ++ [f])) :
    OwnE (w.setCell ⟨g, l.length * 4 + 1, none⟩ (.int .i64 e.b)) base (.slice (some ⟨g, 0, none⟩) (l.length + 1) cap) (l ++ [M.ext f e]) := by
  unfold OwnE at h ⊢
  rw [List.length_append] at h ⊢
  have := (World.ownsRow.stored h (l.length * 4 + 1) (.int .i64 e.b)).1
  rw [cellsE_set] at this
  exact this
theorem str_eq {a b : ByteArray} : a.toList = b.toList ↔ a = b := by
  rw [ByteArray.toList_eq, ByteArray.toList_eq]
  exact ⟨list_inj, fun h => by rw [h]⟩

set_option maxRecDepth 100000 in
set_option maxHeartbeats 4000000 in
theorem shortest_any (A : Option Addr) (ca mb : Nat) (l : List M.E) (ns : List ByteArray) (w : World) (hr : RdE w w.heap.size A l) (hmap : MapW w mb ns) (hm : l.length ≤ 600) (hz : Sized l) (hl : M.Low l) :
    Calls Try.prog 27 #[.slice A l.length ca, .map (some mb)] w fun r w' => (∃ v, r = .returned v ∧ OwnE w' w.heap.size v (M.short ns l)) ∧ Below w.heap.size w w' := by
  obtain ⟨i0, hi, hz0, hz1, hz2⟩ := info_parts Try.infoEntry
  have HR := Lib.hid hr
  have HZ := Lib.hid hz
  have HL := Lib.hid hl
  have HMAP := Lib.hid hmap
  clear hr hz hl hmap
  go_enter Try.func27, Try.ntmps27
  go_wp2
  go_loopw [5, 11] (fun v i wr => ∃ (k : Nat) (told : List M.E), k ≤ l.length ∧ i = .int .i64 k ∧ told = M.short ns (l.take k) ∧ told.length ≤ k ∧ M.Low told ∧ OwnE wr w.heap.size v told ∧ Below w.heap.size w wr) (fun _ i _ => l.length - (intOf i).toNat)
  case atStart => exact ⟨0, [], Nat.zero_le _, rfl, rfl, Nat.le_refl _, (fun e he => by cases he), ⟨rfl, .inl ⟨rfl, rfl⟩⟩, Below.refl _ _⟩
  case round =>
    obtain ⟨k, told, hk, rfl, htold, htl, hlow, hown, hb⟩ := hrel
    have HT := Lib.hid htold
    have HLOW := Lib.hid hlow
    have HO := Lib.hid hown
    have HB := Lib.hid hb
    have hbs := hb.size
    clear htold hlow hown hb
    by_cases hlt : k < l.length
    · obtain ⟨e, he⟩ : ∃ e, l[k]? = some e := ⟨_, List.getElem?_eq_getElem hlt⟩
      obtain ⟨hzv, hzx⟩ := HZ.out e (List.mem_of_getElem? he)
      have hel := HL.out e (List.mem_of_getElem? he)
      obtain ⟨ad, rfl, hab, c0, c1, c2, c3⟩ := HR.out.below HB.out k e he
      have hk1 : (0 : Int) ≤ (k : Int) := by omega
      have hk2 : (k : Int) < (l.length : Int) := by omega
      have HS := Lib.hid ((M.short_take (ns := ns) he).trans (by rw [← HT.out]))
      obtain ⟨W1, hW1⟩ : ∃ W, wr.alloc (.cells #[.int .i64 e.a, .int .i64 e.b, .string e.v, .string e.x] 36) = W := ⟨_, rfl⟩
      have hb1 : Below wr.heap.size wr W1 := by rw [← hW1]; exact (Below.refl _ _).alloc (Nat.le_refl _) _
      have hF := Four.new wr (.int .i64 e.a) (.int .i64 e.b) (.string e.v) (.string e.x) 36
      rw [hW1] at hF
      obtain ⟨d0, d1, d2, d3, f0, f1, f2, f3⟩ := hF
      clear f0 f1 f2 f3
      have HB1 := Lib.hid (HB.out.trans (hb1.mono HB.out.size))
      have HO1 := Lib.hid (HO.out.below hb1)
      have hs1 : w.heap.size ≤ W1.heap.size := HB1.out.size
      have hlook := (HMAP.out.below HB1.out HMAP.out.lt).look1 hzv
      obtain ⟨x, hx⟩ : ∃ x, M.idx0 ns e.v = x := ⟨_, rfl⟩
      rw [hx] at hlook
      have HX := Lib.hid hx
      have HE := Lib.hid he
      clear hb1 he hx
      by_cases hx0 : x = 0
      · subst hx0
        have HN := Lib.hid (show told = M.short ns (l.take (k + 1)) by rw [HS.out, M.step_skip HX.out])
        go_wp2
        go_roundw
        case rel => exact ⟨k + 1, told, by omega, by go_num, HN.out, by omega, HLOW.out, HO1.out, HB1.out⟩
        case measure => simp [intOf]; omega
      · have hxb : (x == 0) = false := by rw [beq_eq_false_iff_ne]; exact hx0
        have HX0 := Lib.hid (show M.idx0 ns e.v ≠ 0 by rw [HX.out]; exact hx0)
        clear hx0
        rcases List.eq_nil_or_concat told with h0 | ⟨init, f, h0⟩
        · subst h0
          obtain ⟨A2, c2', rfl, _⟩ := reads_own HO1.out
          have HN := Lib.hid (show [] ++ [M.bare e] = M.short ns (l.take (k + 1)) by rw [HS.out, M.step_first HX0.out]; rfl)
          have HLN := Lib.hid (show M.Low ([] ++ [M.bare e]) by rw [HN.out, HS.out]; exact M.step_low HLOW.out hel)
          go_wp2
          go_big_quiet (fail)
          go_wp2_with (at_builtin; refine wpList_append_own _ rfl _ _ 22 rfl w.heap.size 36 i0 _ 4 48 Try.underlying22 hi hz0 hz1 hz2 rfl (by decide) _ _ _ rfl (World.ownsRow.alloc (OwnE.below HO1.out (below_drewN (Below.refl _ _) nq)) _) ⟨W1.heap.size, 0, none⟩ 1 1 (M.bare e).cells rfl rfl (news_cells _ (M.bare e) _) (news_one (M.bare e)) (by unfold maxLen; simp) (by simp) (by simp; omega) ?_)
          intro v3 w3 hown3 hgrow3 _
          have HO3 := Lib.hid (show OwnE w3 w.heap.size v3 ([] ++ [M.bare e]) from OwnE.snoc (l := []) hown3)
          have HB3 := Lib.hid (((below_drewN HB1.out nq).alloc (by exact hs1) _).grown hgrow3 (by simp; omega) (fun j hj => (World.ownsRow.lt HO1.out j hj).1))
          clear hown3 hgrow3
          go_wp2
          go_roundw
          case rel => exact ⟨k + 1, _, by omega, by go_num, HN.out, by simp, HLN.out, HO3.out, HB3.out⟩
          case measure => simp [intOf]; omega
        · rw [List.concat_eq_append] at h0
          subst h0
          obtain ⟨m, hm0⟩ : ∃ m, init.length = m := ⟨_, rfl⟩
          have hmk : m + 1 ≤ k := by rw [List.length_append, hm0] at htl; simpa using htl
          obtain ⟨g, cap, rfl⟩ : ∃ g cap, _ = Value.slice (some ⟨g, 0, none⟩) (m + 1) cap := ownsRow_succ (by have := HO1.out; unfold OwnE at this; rw [List.length_append, hm0] at this; exact this)
          obtain ⟨q1, q2, q3, q4, q5⟩ := OwnE.last (l := init) (f := f) (by rw [hm0]; exact HO1.out)
          have hfl := HLOW.out f (by simp)
          rw [hm0] at q1 q2 q3
          have HM0 := Lib.hid hm0
          have hi1 : (0 : Int) ≤ (m : Int) := by omega
          have hi2 : (m : Int) < (m : Int) + 1 := by omega
          have hi3 : m < m + 1 := by omega
          clear hm0 htl
          by_cases hx1 : f.b + 1 = e.a
          · have hxe : (f.b + 1 == e.a) = true := by rw [beq_iff_eq]; exact hx1
            by_cases hx2 : f.v = e.v
            · have hve : (f.v.toList == e.v.toList) = true := by rw [beq_iff_eq, str_eq]; exact hx2
              have hve2 : f.v.toList = e.v.toList := by rw [str_eq]; exact hx2
              have HN := Lib.hid (show init ++ [M.ext f e] = M.short ns (l.take (k + 1)) by rw [HS.out, M.step_ext HX0.out hx1 hx2])
              have HLN := Lib.hid (show M.Low (init ++ [M.ext f e]) by rw [HN.out, HS.out]; exact M.step_low HLOW.out hel)
              clear hx1 hx2
              go_wp2
              go_big_quiet (fail)
              have HSET := Lib.hid (show OwnE ((W1.drewN nq).setCell ⟨g, m * 4 + 1, none⟩ (.int .i64 e.b)) w.heap.size (.slice (some ⟨g, 0, none⟩) (m + 1) cap) (init ++ [M.ext f e]) by
                have := OwnE.setTo (w := W1.drewN nq) (base := w.heap.size) (g := g) (cap := cap) (l := init) (f := f) e (by rw [HM0.out]; exact HO1.out.below (below_drewN (Below.refl _ _) nq))
                rw [HM0.out] at this
                exact this)
              have HBS := Lib.hid ((below_drewN HB1.out nq).setCell (p := ⟨g, m * 4 + 1, none⟩) q4 (.int .i64 e.b))
              go_wp2
              go_roundw
              case rel => exact ⟨k + 1, _, by omega, by go_num, HN.out, by rw [List.length_append, HM0.out]; simp; omega, HLN.out, HSET.out, HBS.out⟩
              case measure => simp [intOf]; omega
            · have hve : (f.v.toList == e.v.toList) = false := by rw [beq_eq_false_iff_ne, ne_eq, str_eq]; exact hx2
              have hve2 : ¬ f.v.toList = e.v.toList := by rw [str_eq]; exact hx2
              have HN := Lib.hid (show init ++ [f] ++ [M.bare e] = M.short ns (l.take (k + 1)) by rw [HS.out, M.step_more HX0.out (fun h => hx2 h.2)])
              have HLN := Lib.hid (show M.Low (init ++ [f] ++ [M.bare e]) by rw [HN.out, HS.out]; exact M.step_low HLOW.out hel)
              have HOA := Lib.hid (show W1.ownsRow w.heap.size 36 4 (.slice (some ⟨g, 0, none⟩) (m + 1) cap) (m + 1) (cellsE (init ++ [f])) by have := HO1.out; unfold OwnE at this; rw [List.length_append, HM0.out] at this; exact this)
              clear hx1 hx2
              go_wp2
              go_big_quiet (fail)
              go_wp2_with (at_builtin; refine wpList_append_own _ rfl _ _ 22 rfl w.heap.size 36 i0 _ 4 48 Try.underlying22 hi hz0 hz1 hz2 rfl (by decide) _ _ _ rfl (World.ownsRow.alloc (OwnE.belowRow HOA.out (below_drewN (Below.refl _ _) nq)) _) ⟨W1.heap.size, 0, none⟩ 1 1 (M.bare e).cells rfl rfl (news_cells _ (M.bare e) _) (news_one (M.bare e)) (by unfold maxLen; omega) (by omega) (by simp; omega) ?_)
              intro v3 w3 hown3 hgrow3 _
              have HO3 := Lib.hid (show OwnE w3 w.heap.size v3 ((init ++ [f]) ++ [M.bare e]) from OwnE.snoc (l := init ++ [f]) (by rw [List.length_append, HM0.out]; exact hown3))
              have HB3 := Lib.hid (((below_drewN HB1.out nq).alloc (by exact hs1) _).grown hgrow3 (by simp; omega) (fun j hj => (World.ownsRow.lt HO1.out j hj).1))
              clear hown3 hgrow3
              go_wp2
              go_roundw
              case rel => exact ⟨k + 1, _, by omega, by go_num, HN.out, by simp [HM0.out]; omega, HLN.out, HO3.out, HB3.out⟩
              case measure => simp [intOf]; omega
          · have hxe : (f.b + 1 == e.a) = false := by rw [beq_eq_false_iff_ne]; exact hx1
            have HN := Lib.hid (show init ++ [f] ++ [M.bare e] = M.short ns (l.take (k + 1)) by rw [HS.out, M.step_more HX0.out (fun h => hx1 h.1)])
            have HLN := Lib.hid (show M.Low (init ++ [f] ++ [M.bare e]) by rw [HN.out, HS.out]; exact M.step_low HLOW.out hel)
            have HOA := Lib.hid (show W1.ownsRow w.heap.size 36 4 (.slice (some ⟨g, 0, none⟩) (m + 1) cap) (m + 1) (cellsE (init ++ [f])) by have := HO1.out; unfold OwnE at this; rw [List.length_append, HM0.out] at this; exact this)
            clear hx1
            go_wp2
            go_big_quiet (fail)
            go_wp2_with (at_builtin; refine wpList_append_own _ rfl _ _ 22 rfl w.heap.size 36 i0 _ 4 48 Try.underlying22 hi hz0 hz1 hz2 rfl (by decide) _ _ _ rfl (World.ownsRow.alloc (OwnE.belowRow HOA.out (below_drewN (Below.refl _ _) nq)) _) ⟨W1.heap.size, 0, none⟩ 1 1 (M.bare e).cells rfl rfl (news_cells _ (M.bare e) _) (news_one (M.bare e)) (by unfold maxLen; omega) (by omega) (by simp; omega) ?_)
            intro v3 w3 hown3 hgrow3 _
            have HO3 := Lib.hid (show OwnE w3 w.heap.size v3 ((init ++ [f]) ++ [M.bare e]) from OwnE.snoc (l := init ++ [f]) (by rw [List.length_append, HM0.out]; exact hown3))
            have HB3 := Lib.hid (((below_drewN HB1.out nq).alloc (by exact hs1) _).grown hgrow3 (by simp; omega) (fun j hj => (World.ownsRow.lt HO1.out j hj).1))
            clear hown3 hgrow3
            go_wp2
            go_roundw
            case rel => exact ⟨k + 1, _, by omega, by go_num, HN.out, by simp [HM0.out]; omega, HLN.out, HO3.out, HB3.out⟩
            case measure => simp [intOf]; omega
    · have HN := Lib.hid (show told = M.short ns l by have := HT.out; rwa [List.take_of_length_le (by omega)] at this)
      go_wp2
      go_ret
      exact ⟨⟨_, rfl, by rw [← HN.out]; exact HO.out⟩, HB.out⟩
end Go.Proofs.Ytjbpjnnflcmmhaa
