/- Tables in memory, and the contracts of the library's Clone at entries and of ranges' New, At and Ranges of a table over the translation. Conditions: slices read as lists of entries, and of strings, no longer than the model lets them be. -/
import Derived.Test.YtjbpjnnflcmmhaaShort
import Derived.Lib.SliceRun
namespace Go.Proofs.Ytjbpjnnflcmmhaa
open Go.RowKit

/-- A row of entries, as a copy. -/
theorem RdE.cellsAt {w : World} {B : Nat} {A : Option Addr} {l : List M.E} (h : RdE w B A l) {ad : Addr} (hA : A = some ad) : ∀ j u, (cellsE l)[j]? = some u → w.cell? (ad.add j) = some u := by
  intro j u hu
  have hj : j < l.length * 4 := by have := (List.getElem?_eq_some_iff.1 hu).1; rwa [cellsE_length] at this
  have hd := Nat.div_add_mod j 4
  have hm := Nat.mod_lt j (show 0 < 4 by omega)
  obtain ⟨q, hq⟩ : ∃ q, j / 4 = q := ⟨_, rfl⟩
  obtain ⟨r, hr⟩ : ∃ r, j % 4 = r := ⟨_, rfl⟩
  rw [hq, hr] at hd
  rw [hr] at hm
  have hql : q < l.length := by omega
  obtain ⟨e, he⟩ : ∃ e, l[q]? = some e := ⟨_, List.getElem?_eq_getElem hql⟩
  have hj2 : j = q * 4 + r := by omega
  subst hj2
  rw [cellsE_at he r hm] at hu
  obtain ⟨ad', hA', _, c0, c1, c2, c3⟩ := h q e he
  rw [hA] at hA'
  obtain rfl : ad = ad' := by injection hA'
  rw [← addr_add_add]
  match r, hm with
  | 0, _ => simp [M.E.cells] at hu; subst hu; simpa [Addr.add] using c0
  | 1, _ => simp [M.E.cells] at hu; subst hu; rw [addr_add_pos _ 1 (by omega)]; exact c1
  | 2, _ => simp [M.E.cells] at hu; subst hu; rw [addr_add_pos _ 2 (by omega)]; exact c2
  | 3, _ => simp [M.E.cells] at hu; subst hu; rw [addr_add_pos _ 3 (by omega)]; exact c3
theorem cells_one (l : List M.E) : ∀ u ∈ cellsE l, u.oneCell' = true := by
  intro u hu
  simp only [cellsE, List.mem_flatMap] at hu
  obtain ⟨e, _, hu⟩ := hu
  exact news_one e u hu

set_option maxRecDepth 100000 in
set_option maxHeartbeats 2000000 in
theorem clone_any (A : Option Addr) (ca : Nat) (l : List M.E) (w : World) (hr : RdE w w.heap.size A l) (hc : A = none → ca = 0) (hm : l.length ≤ 600) :
    Calls Try.prog 29 #[.slice A l.length ca] w fun r w' => (∃ v, r = .returned v ∧ OwnE w' w.heap.size v l) ∧ Below w.heap.size w w' := by
  obtain ⟨i0, hi, hz0, hz1, hz2⟩ := info_parts Try.infoEntry
  have HR := Lib.hid hr
  clear hr
  have hq : ∀ (w : World) (a : Option Addr) (n c n' c' : Nat), (binOp .eql 22 (.slice a n c) (.slice none n' c')).run Try.prog w = .ok (.bool a.isNone) w := fun w a n c n' c' => Lib.run_eql_slice_nil w _ _ a n c n' c' Try.underlying22
  cases A with
  | none =>
    obtain rfl := hc rfl
    have hl : l = [] := by
      cases l with
      | nil => rfl
      | cons y r =>
        obtain ⟨ad, h', _⟩ := HR.out 0 y rfl
        cases h'
    subst hl
    go_enter Try.func29, Try.ntmps29
    go_wp2
    go_ret
    exact ⟨⟨_, rfl, ⟨rfl, .inl ⟨rfl, rfl⟩⟩⟩, Below.refl _ _⟩
  | some ad =>
    clear hc
    have hcells := HR.out.cellsAt rfl
    have HC := Lib.hid hcells
    have hlt : ∀ j u, (cellsE l)[j]? = some u → ∀ o : Obj, (w.alloc o).cell? (ad.add j) = some u := fun j u hu o => by
      have := HC.out j u hu
      exact (((Below.refl _ w).alloc (Nat.le_refl _) o).cell (block_lt_of_cell this)).trans this
    have HLT := Lib.hid hlt
    clear hcells hlt
    go_enter Try.func29, Try.ntmps29
    go_wp2_with (at_builtin; refine wpList_append_own _ rfl _ _ 22 rfl w.heap.size 36 i0 _ 4 48 Try.underlying22 hi hz0 hz1 hz2 rfl (by decide) _ 0 [] rfl (World.ownsRow_made w #[] 0 (Nat.le_refl _) (Nat.zero_le _) rfl) ad l.length ca (cellsE l) rfl (cellsE_length l) (fun j u hu => HLT.out j u hu _) (cells_one l) (by unfold maxLen; omega) (by omega) (by simp) ?_)
    intro v' w1 hown hgrow _
    have HO := Lib.hid (show OwnE w1 w.heap.size v' l by unfold OwnE; simpa using hown)
    have HB := Lib.hid (((Below.refl _ w).alloc (Nat.le_refl _) (.cells #[] 36)).grown hgrow (by simp) (by intro k hk; simp [Value.ownBlock] at hk; omega))
    clear hown hgrow
    go_wp2
    go_ret
    exact ⟨⟨v', rfl, HO.out⟩, HB.out⟩

/-- What the row of the caller's own begins at is new; a nil one has no room. -/
theorem OwnE.shape {w : World} {base : Nat} {v : Value} {l : List M.E} (h : OwnE w base v l) :
    ∃ A c, v = .slice A l.length c ∧ RdE w w.heap.size A l ∧ l.length ≤ c ∧ c ≤ maxLen ∧ (A = none → c = 0) := by
  obtain ⟨A, c, hv, hr, hc, hm, _⟩ := reads_own h
  refine ⟨A, c, hv, hr, hc, hm, fun hA => ?_⟩
  subst hv
  rcases h.2 with ⟨h1, _⟩ | ⟨g, cap, cur, h1, _⟩
  · injection h1
  · injection h1 with h1 _ _
    rw [hA] at h1
    cases h1

theorem OwnE.less {w : World} {base base' : Nat} {v : Value} {l : List M.E} (h : OwnE w base v l) (hb : base' ≤ base) : OwnE w base' v l := by
  refine ⟨h.1, ?_⟩
  rcases h.2 with h0 | ⟨g, cap, cur, h1, h2, h3⟩
  · exact .inl h0
  · exact .inr ⟨g, cap, cur, h1, Nat.le_trans hb h2, h3⟩

/-- Values are names. -/
def M.ValsTo (l : List M.E) (ns : List ByteArray) (k : Nat) : Prop := ∀ j e, j < k → l[j]? = some e → (M.idx ns e.v).isSome = true
structure M.TabOk (l : List M.E) (ns : List ByteArray) : Prop where
  names : M.NamesOk ns
  rises : M.Rises l
  vals : M.ValsTo l ns l.length
theorem M.Up.low {l : List M.E} (h : M.Up l l.length) : M.Low l := fun e he => by
  obtain ⟨j, hj⟩ := List.getElem?_of_mem he
  have := M.right_le (h j e (List.getElem?_eq_some_iff.1 hj).1 hj).1
  omega

/-- A table in memory, in blocks from lo on. -/
def TableAt (w : World) (lo tb : Nat) (told : List M.E) (ns : List ByteArray) : Prop :=
  ∃ v mb, w.cell? ⟨tb, 0, none⟩ = some v ∧ w.cell? ⟨tb, 1, none⟩ = some (.map (some mb)) ∧ OwnE w lo v told ∧ MapW w mb ns ∧ lo ≤ tb ∧ tb < w.heap.size ∧ lo ≤ mb
theorem TableAt.below {w w' : World} {lo tb : Nat} {told : List M.E} {ns : List ByteArray} (h : TableAt w lo tb told ns) (hb : Below w.heap.size w w') : TableAt w' lo tb told ns := by
  obtain ⟨v, mb, c0, c1, ho, hm, h1, h2, h3⟩ := h
  exact ⟨v, mb, (hb.cell (p := ⟨tb, 0, none⟩) h2).trans c0, (hb.cell (p := ⟨tb, 1, none⟩) h2).trans c1, ho.below hb, hm.below hb hm.lt, h1, Nat.lt_of_lt_of_le h2 hb.size, h3⟩

/-- What New leaves. -/
def NewOut (l : List M.E) (ns : List ByteArray) (w : World) (r : Ending) (w' : World) : Prop :=
  Below w.heap.size w w' ∧ (M.TabOk l ns → ∃ tb, r = .returned (.tuple #[.pointer (some ⟨tb, 0, none⟩), .int .i64 0]) ∧ TableAt w' w.heap.size tb (M.short ns l) ns) ∧ (¬ M.TabOk l ns → r = .returned (.tuple #[.pointer none, .int .i64 31]))
theorem new_no {w w' : World} {l : List M.E} {ns : List ByteArray} (h : ¬ M.TabOk l ns) (hb : Below w.heap.size w w') : NewOut l ns w (.returned (.tuple #[.pointer none, .int .i64 31])) w' :=
  ⟨hb, fun h' => absurd h' h, fun _ => rfl⟩

set_option maxRecDepth 100000 in
set_option maxHeartbeats 4000000 in
theorem new_any (A B : Option Addr) (ca cb : Nat) (l : List M.E) (ns : List ByteArray) (w : World) (hr : RdE w w.heap.size A l) (hn : RdN w w.heap.size B ns) (hm : l.length ≤ maxLen) (hmn : ns.length ≤ maxLen) (hz : Sized l) (hzn : SizedN ns) :
    Calls Try.prog 11 #[.slice A l.length ca, .slice B ns.length cb] w (NewOut l ns w) := by
  have HR := Lib.hid hr
  have HN := Lib.hid hn
  have HZ := Lib.hid hz
  have HZN := Lib.hid hzn
  have HM := Lib.hid hm
  have HMN := Lib.hid hmn
  unfold maxLen at hm
  clear hr hn hz hzn hmn
  go_enter Try.func11, Try.ntmps11
  go_wp2_with fail
  refine (placesOf_any B cb ns w HN.out HMN.out HZN.out).mono ?_
  rintro r w1 ⟨hb1, hyes, hno⟩
  by_cases hnames : M.NamesOk ns
  · obtain ⟨mb, rfl, hmap, hmb⟩ := hyes hnames
    have HNM := Lib.hid hnames
    have HB1 := Lib.hid hb1
    have HMAP := Lib.hid hmap
    clear hyes hno hnames hb1 hmap
    have HRL := Lib.hid (rising_list_any A ca l w1 ((HR.out.below HB1.out).more HB1.out.size) HM.out HZ.out)
    by_cases hris : M.Rises l
    · rw [M.rises_yes hris] at HRL
      have HRS := Lib.hid hris
      have h600 : l.length ≤ 600 := hris.1
      clear hris
      go_wp2_with fail
      refine HRL.out.mono ?_
      rintro r w2 ⟨rfl, hb2⟩
      have HB2 := Lib.hid (HB1.out.trans (hb2.mono HB1.out.size))
      have HMAP2 := Lib.hid (HMAP.out.below hb2 HMAP.out.lt)
      have hs2 := HB2.out.size
      clear hb2
      go_wp2
      go_loopw [26] (fun i wr => ∃ k : Nat, k ≤ l.length ∧ i = .int .i64 k ∧ M.ValsTo l ns k ∧ Below w2.heap.size w2 wr) (fun i _ => l.length - (intOf i).toNat)
      case atStart => exact ⟨0, Nat.zero_le _, rfl, (fun j e hj => by omega), Below.refl _ _⟩
      case round =>
        obtain ⟨k, hk, rfl, hv, hb⟩ := hrel
        have HV := Lib.hid hv
        have HBL := Lib.hid hb
        have HB3 := Lib.hid (HB2.out.trans (hb.mono HB2.out.size))
        have HMAP3 := Lib.hid (HMAP2.out.below hb HMAP2.out.lt)
        clear hv hb
        by_cases hlt : k < l.length
        · obtain ⟨e, he⟩ : ∃ e, l[k]? = some e := ⟨_, List.getElem?_eq_getElem hlt⟩
          obtain ⟨hzv, hzx⟩ := HZ.out e (List.mem_of_getElem? he)
          obtain ⟨ad, rfl, hab, c0, c1, c2, c3⟩ := HR.out.below HB3.out k e he
          have hk1 : (0 : Int) ≤ (k : Int) := by omega
          have hk2 : (k : Int) < (l.length : Int) := by omega
          obtain ⟨W1, hW1⟩ : ∃ W, wr.alloc (.cells #[.int .i64 e.a, .int .i64 e.b, .string e.v, .string e.x] 36) = W := ⟨_, rfl⟩
          have hb1 : Below wr.heap.size wr W1 := by rw [← hW1]; exact (Below.refl _ _).alloc (Nat.le_refl _) _
          have hF := Four.new wr (.int .i64 e.a) (.int .i64 e.b) (.string e.v) (.string e.x) 36
          rw [hW1] at hF
          have d2 := hF.c2
          have hlook := (HMAP3.out.below hb1 HMAP3.out.lt).look2 hzv
          obtain ⟨x, hx⟩ : ∃ x, M.idx0 ns e.v = x := ⟨_, rfl⟩
          rw [hx] at hlook
          have HBW := Lib.hid (HBL.out.trans (hb1.mono HBL.out.size))
          have HE := Lib.hid he
          clear hb1 he hx hF
          cases hq : (M.idx ns e.v).isSome with
          | true =>
            rw [hq] at hlook
            have HV2 := Lib.hid (show M.ValsTo l ns (k + 1) from fun j f hj hf => by
              rcases Nat.lt_or_ge j k with h | h
              · exact HV.out j f h hf
              · obtain rfl : j = k := by omega
                rw [HE.out] at hf
                obtain rfl : e = f := by injection hf
                exact hq)
            clear hq
            go_wp2
            go_roundw
            case rel => exact ⟨k + 1, by omega, by go_num, HV2.out, HBW.out⟩
            case measure => simp [intOf]; omega
          | false =>
            rw [hq] at hlook
            have HNO := Lib.hid (show ¬ M.TabOk l ns from fun h => by
              have := h.vals k e hlt HE.out
              rw [hq] at this
              cases this)
            clear hq
            go_wp2
            go_ret2
            exact new_no HNO.out (HB2.out.trans (HBW.out.mono HB2.out.size))
        · have HOK := Lib.hid (show M.TabOk l ns from ⟨HNM.out, HRS.out, by have := HV.out; rwa [show k = l.length by omega] at this⟩)
          have HMAP4 := Lib.hid HMAP3.out
          go_wp2_with fail
          refine (shortest_any A ca mb l ns wr ((HR.out.below HB3.out).more HB3.out.size) HMAP3.out h600 HZ.out HRS.out.2.low).mono ?_
          rintro r w4 ⟨⟨v, rfl, ho4⟩, hb4⟩
          obtain ⟨A4, c4, rfl, _, _, _, _⟩ := ho4.shape
          have HO4 := Lib.hid ho4
          have HB4 := Lib.hid (HB3.out.trans (hb4.mono HB3.out.size))
          have HMAP5 := Lib.hid (HMAP3.out.below hb4 HMAP3.out.lt)
          have hs34 : w.heap.size ≤ wr.heap.size := HB3.out.size
          have hs4 : w.heap.size ≤ w4.heap.size := HB4.out.size
          clear ho4 hb4
          go_wp2
          go_ret2
          exact ⟨HB4.out.alloc hs4 _, fun _ => ⟨w4.heap.size, rfl, _, mb, by simp [go_sem], by simp [go_sem], (HO4.out.less hs34).below ((Below.refl _ _).alloc (Nat.le_refl _) _), HMAP5.out.below ((Below.refl _ _).alloc (Nat.le_refl _) _) HMAP5.out.lt, hs4, by simp, hmb⟩, fun h => absurd HOK.out h⟩
    · rw [M.rises_no hris] at HRL
      have HNO := Lib.hid (show ¬ M.TabOk l ns from fun h => hris h.rises)
      clear hris
      go_wp2_with fail
      refine HRL.out.mono ?_
      rintro r w2 ⟨rfl, hb2⟩
      have HB2 := Lib.hid (HB1.out.trans (hb2.mono HB1.out.size))
      clear hb2
      go_wp2
      go_ret2
      exact new_no HNO.out HB2.out
  · obtain rfl := hno hnames
    have HB1 := Lib.hid hb1
    have HNO := Lib.hid (show ¬ M.TabOk l ns from fun h => hnames h.names)
    clear hyes hno hnames hb1
    go_wp2
    go_ret2
    exact new_no HNO.out HB1.out

/-- A number's number, in a list of entries. -/
def M.numAt (l : List M.E) (ns : List ByteArray) (c : Int) : Int := match M.find l c with
  | some e => M.idx0 ns e.v
  | none => 0
theorem M.find_mem {l : List M.E} {c : Int} {e : M.E} (h : M.find l c = some e) : e ∈ l := List.mem_of_find?_eq_some h

set_option maxRecDepth 100000 in
set_option maxHeartbeats 2000000 in
theorem tableAt_any (lo tb : Nat) (told : List M.E) (ns : List ByteArray) (c : Int) (w : World) (h : TableAt w lo tb told ns) (hs : M.Srt told) (hm : told.length ≤ maxLen) (hz : Sized told) :
    Calls Try.prog 12 #[.pointer (some ⟨tb, 0, none⟩), .int .i64 c] w fun r w' => r = .returned (.int .i64 (M.numAt told ns c)) ∧ Below w.heap.size w w' := by
  obtain ⟨v, mb, c0, c1, ho, hmap, h1, h2, h3⟩ := h
  obtain ⟨A, ca, rfl, hr, hc, hmx, _⟩ := ho.shape
  have HF := Lib.hid (find_any (A := A) (ca := ca) (l := told) (c := c) w hr hs hm)
  have HMAP := Lib.hid hmap
  clear hr hs hm ho hmap
  cases hf : M.find told c with
  | none =>
    have HN := Lib.hid (show M.numAt told ns c = 0 by unfold M.numAt; rw [hf])
    rw [hf] at HF
    clear hf
    go_enter Try.func12, Try.ntmps12
    go_wp2_with fail
    refine HF.out.mono ?_
    rintro r w1 ⟨rfl, hb1⟩
    have HB1 := Lib.hid hb1
    have hs1 := hb1.size
    clear hb1
    unfold M.found M.zeroOf M.E.val
    dsimp only
    go_wp2
    go_ret
    exact ⟨by rw [HN.out]; rfl, HB1.out.alloc hs1 _⟩
  | some e =>
    have HN := Lib.hid (show M.numAt told ns c = M.idx0 ns e.v by unfold M.numAt; rw [hf])
    have hzv := (hz e (M.find_mem hf)).1
    rw [hf] at HF
    clear hf
    go_enter Try.func12, Try.ntmps12
    go_wp2_with fail
    refine HF.out.mono ?_
    rintro r w1 ⟨rfl, hb1⟩
    have HB1 := Lib.hid hb1
    have hs1 := hb1.size
    have c1' := (hb1.cell (p := ⟨tb, 1, none⟩) h2).trans c1
    have c0' := (hb1.cell (p := ⟨tb, 0, none⟩) h2).trans c0
    have HM1 := Lib.hid (HMAP.out.below hb1 HMAP.out.lt)
    obtain ⟨W1, hW1⟩ : ∃ W, w1.alloc (.cells #[.int .i64 e.a, .int .i64 e.b, .string e.v, .string e.x] 36) = W := ⟨_, rfl⟩
    have hbW : Below w1.heap.size w1 W1 := by rw [← hW1]; exact (Below.refl _ _).alloc (Nat.le_refl _) _
    have hF := Four.new w1 (.int .i64 e.a) (.int .i64 e.b) (.string e.v) (.string e.x) 36
    rw [hW1] at hF
    have d2 := hF.c2
    have k1 := (hbW.cell (p := ⟨tb, 1, none⟩) (Nat.lt_of_lt_of_le h2 hs1)).trans c1'
    have hlook := fun n => ((HM1.out.below hbW HM1.out.lt).below (below_drewN (Below.refl W1.heap.size W1) n) (HM1.out.below hbW HM1.out.lt).lt).look1 hzv
    obtain ⟨x, hx⟩ : ∃ x, M.idx0 ns e.v = x := ⟨_, rfl⟩
    rw [hx] at hlook HN
    have HBW := Lib.hid (HB1.out.trans (hbW.mono HB1.out.size))
    clear hb1 hbW hF hx c0 c1 c0' c1'
    unfold M.found M.E.val
    dsimp only
    go_wp2
    go_quiet (fail)
    go_wp2
    go_ret
    exact ⟨by rw [HN.out]; rfl, below_drewN HBW.out _⟩

set_option maxRecDepth 100000 in
set_option maxHeartbeats 2000000 in
theorem tableRanges_any (lo tb : Nat) (told : List M.E) (ns : List ByteArray) (w : World) (h : TableAt w lo tb told ns) (hm : told.length ≤ 600) :
    Calls Try.prog 15 #[.pointer (some ⟨tb, 0, none⟩)] w fun r w' => (∃ v, r = .returned v ∧ OwnE w' w.heap.size v told) ∧ Below w.heap.size w w' := by
  obtain ⟨v, mb, c0, c1, ho, hmap, h1, h2, h3⟩ := h
  obtain ⟨A, ca, rfl, hr, hc, hmx, hA⟩ := ho.shape
  have HC := Lib.hid (clone_any A ca told w hr hA hm)
  clear hr hA ho hmap hm c1
  go_enter Try.func15, Try.ntmps15
  go_wp2_with fail
  refine HC.out.mono ?_
  rintro r w1 ⟨⟨v, rfl, ho⟩, hb1⟩
  have HO := Lib.hid ho
  have HB := Lib.hid hb1
  clear ho hb1
  go_wp2
  go_ret
  exact ⟨⟨v, rfl, HO.out⟩, HB.out⟩
end Go.Proofs.Ytjbpjnnflcmmhaa
