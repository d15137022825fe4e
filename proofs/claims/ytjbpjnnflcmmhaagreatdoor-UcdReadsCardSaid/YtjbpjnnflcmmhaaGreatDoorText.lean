/- The contract of ucd's Text over the translation: the lines of entries, or the error. Conditions: the slice reads as a list of entries below the heap's end; the library's table deBruijn64tab is as the program's text lays it. -/
import Derived.Test.YtjbpjnnflcmmhaaGreatDoorFigures
import Derived.Lib.AppendStr
namespace Go.Proofs.YtjbpjnnflcmmhaaGreatDoor
open Go.RowKit

/-- The slice that begins at A holds the entries l, in blocks below B. -/
def RdE (w : World) (B : Nat) (A : Option Addr) (l : List M.E) : Prop :=
  ∀ j e, l[j]? = some e → ∃ ad, A = some ad ∧ ad.block < B ∧ w.cell? (ad.add (j * 4)) = some (.int .i64 e.a) ∧ w.cell? ⟨(ad.add (j * 4)).block, (ad.add (j * 4)).off + 1, none⟩ = some (.int .i64 e.b) ∧
    w.cell? ⟨(ad.add (j * 4)).block, (ad.add (j * 4)).off + 2, none⟩ = some (.string e.v) ∧ w.cell? ⟨(ad.add (j * 4)).block, (ad.add (j * 4)).off + 3, none⟩ = some (.string e.x)
theorem RdE.below {w w' : World} {B : Nat} {A : Option Addr} {l : List M.E} (h : RdE w B A l) (hb : Below B w w') : RdE w' B A l := fun j e hj => by
  obtain ⟨ad, hA, hB, c0, c1, c2, c3⟩ := h j e hj
  have hbl : (ad.add (j * 4)).block = ad.block := addr_block _ _
  exact ⟨ad, hA, hB, (hb.cell (by rw [hbl]; exact hB)).trans c0, (hb.cell (by show (ad.add (j * 4)).block < B; rw [hbl]; exact hB)).trans c1, (hb.cell (by show (ad.add (j * 4)).block < B; rw [hbl]; exact hB)).trans c2, (hb.cell (by show (ad.add (j * 4)).block < B; rw [hbl]; exact hB)).trans c3⟩
theorem RdE.more {w : World} {B B' : Nat} {A : Option Addr} {l : List M.E} (h : RdE w B A l) (hB : B ≤ B') : RdE w B' A l := fun j e hj => by
  obtain ⟨ad, hA, hb, c⟩ := h j e hj
  exact ⟨ad, hA, by omega, c⟩

/-- The lines of entries, behind those that are had. -/
def M.textGo : List M.E → List UInt8 → Option (List UInt8)
  | [], acc => some acc
  | e :: r, acc => if M.right e then M.textGo r (acc ++ M.line e ++ [10]) else none
def M.text (l : List M.E) : Option (List UInt8) := if 600 < l.length then none else M.textGo l []

theorem M.line_le {e : M.E} (he : M.right e = true) : (M.line e).length ≤ 60 := by
  obtain ⟨a, b, v, x⟩ := e
  simp only [M.right, Bool.and_eq_true, decide_eq_true_eq, Bool.or_eq_true] at he
  obtain ⟨⟨_, hv⟩, hx⟩ := he
  have hvl := M.word_le hv
  have hxl : x.data.toList.length ≤ 16 := by
    rcases hx with hx | hx
    · rw [hx]; decide
    · exact M.word_le hx
  have h1 := M.ndig_le a.toNat
  have h2 := M.ndig_le b.toNat
  unfold M.line
  dsimp only
  have f1 := @M.figs_length a.toNat
  have f2 := @M.figs_length b.toNat
  split <;> split <;> simp only [List.length_append, List.length_cons, List.length_nil, f1, f2] <;> omega

/-- The caller's own row of bytes. -/
def OwnB (w : World) (base : Nat) (v : Value) (l : List UInt8) : Prop := w.ownsRow base 5 1 v l.length (l.map fun b => Value.int .u8 (b.toNat : Int))
theorem Tryz.infoByte : (Tryz.prog.info? 5).map (fun i => (i.zero, i.size, i.bytes)) = some (some (.int .u8 0), 1, 1) := by kernel_rfl
theorem OwnB.below {w w1 : World} {base : Nat} {v : Value} {bs : List UInt8} (h : OwnB w base v bs) (hb : Below w.heap.size w w1) : OwnB w1 base v bs :=
  World.ownsRow.kept h (row := none) ⟨hb.os, hb.tape, hb.output, hb.size, fun k hk _ => hb.block k hk⟩ (by cases v.ownBlock <;> simp)
theorem grow_below {w w1 w2 : World} {base : Nat} {v : Value} {bs : List UInt8} (hb : Below base w w1) (h : OwnB w1 base v bs) (hg : w1.grownBy w2 v.ownBlock) (hbase : base ≤ w1.heap.size) : Below base w w2 :=
  hb.grown hg hbase (fun k hk => (World.ownsRow.lt h k hk).1)
theorem OwnB.append {w1 : World} {base : Nat} {v' : Value} {bs l : List UInt8} (h : w1.ownsRow base 5 1 v' (bs.length + (M.bytes l).size) (bs.map (fun b => Value.int .u8 (b.toNat : Int)) ++ Lib.strCells (M.bytes l))) : OwnB w1 base v' (bs ++ l) := by
  unfold OwnB
  have e : Lib.strCells (M.bytes l) = l.map fun b => Value.int .u8 (b.toNat : Int) := by unfold Lib.strCells; rw [M.bytes_list]
  rw [e, bytes_size] at h
  rw [List.map_append, List.length_append]
  exact h
theorem one_new (w : World) (x : Value) (ty : TypeId) : ∀ j u, [x][j]? = some u → (w.alloc (.cells #[x] ty)).cell? ((⟨w.heap.size, 0, none⟩ : Addr).add j) = some u := by
  intro j u hj
  match j, hj with
  | 0, hj => simp at hj; subst hj; simp [Addr.add]
theorem one_cell {k : IntKind} {x : Int} : ∀ u ∈ [Value.int k x], u.oneCell' = true := by
  intro u hu; simp at hu; subst hu; rfl

/-- The lines of entries, or the error. -/
def TextEnd (w : World) (l : List M.E) (e : Ending) (w' : World) : Prop :=
  (match M.text l with
   | some b => ∃ v, e = .returned (.tuple #[v, .int .i64 0]) ∧ OwnB w' w.heap.size v b
   | none => e = .returned (.tuple #[.slice none 0 0, .int .i64 21])) ∧ Below w.heap.size w w'

set_option maxHeartbeats 4000000 in
theorem text_any (A : Option Addr) (cap : Nat) (l : List M.E) (w : World) (hr : RdE w w.heap.size A l) (hz : ∀ e ∈ l, e.v.size ≤ maxLen ∧ e.x.size ≤ maxLen) (ht : TabOk w) (hm : cap ≤ maxLen) (hc : l.length ≤ cap) :
    Calls Tryz.prog 10 #[.slice A l.length cap] w (TextEnd w l) := by
  obtain ⟨i0, hi, hz0, hz1, hz2⟩ := info_parts Tryz.infoByte
  have HR := Lib.hid hr
  have HZ := Lib.hid hz
  have HT := Lib.hid ht
  have hm' : l.length ≤ 2 ^ 63 - 1 := Nat.le_trans hc hm
  clear hr hz ht hm hc
  by_cases h6 : 600 < l.length
  · have HP := Lib.hid (show M.text l = none by unfold M.text; rw [if_pos h6])
    have hd : decide ((600 : Int) < (l.length : Int)) = true := by rw [decide_eq_true_iff]; omega
    clear h6
    go_enter Tryz.func10, Tryz.ntmps10
    go_wp2
    go_ret2
    unfold TextEnd
    rw [HP.out]
    exact ⟨rfl, Below.refl _ _⟩
  · have HP := Lib.hid (show M.text l = M.textGo l [] by unfold M.text; rw [if_neg h6])
    have hd : decide ((600 : Int) < (l.length : Int)) = false := by rw [decide_eq_false_iff_not]; omega
    go_enter Tryz.func10, Tryz.ntmps10
    go_wp2
    go_loopw [4, 12] (fun v i wr => ∃ (k : Nat) (acc : List UInt8), k ≤ l.length ∧ i = .int .i64 k ∧ OwnB wr w.heap.size v acc ∧ acc.length ≤ 61 * k ∧ M.textGo l [] = M.textGo (l.drop k) acc ∧ Below w.heap.size w wr) (fun _ i _ => l.length - (intOf i).toNat)
    case atStart => exact ⟨0, [], by omega, rfl, ⟨rfl, .inl ⟨rfl, rfl⟩⟩, by simp, rfl, Below.refl _ _⟩
    case round =>
      obtain ⟨k, acc, hk, rfl, hown, hlen, hgo, hb⟩ := hrel
      have HO := Lib.hid hown
      have HG := Lib.hid hgo
      have HB := Lib.hid hb
      have hsz := hb.size
      clear hown hgo hb
      by_cases hlt : k < l.length
      · obtain ⟨e, he⟩ : ∃ e, l[k]? = some e := ⟨_, List.getElem?_eq_getElem hlt⟩
        have hmem : e ∈ l := List.mem_of_getElem? he
        obtain ⟨hzv, hzx⟩ := HZ.out e hmem
        obtain ⟨ad, rfl, hab, c0, c1, c2, c3⟩ := HR.out.below HB.out k e he
        have hdrop : l.drop k = e :: l.drop (k + 1) := by
          obtain ⟨hk', rfl⟩ := List.getElem?_eq_some_iff.1 he
          exact List.drop_eq_getElem_cons hk'
        have hk1 : (0 : Int) ≤ (k : Int) := by omega
        have hk2 : (k : Int) < (l.length : Int) := by omega
        have HD := Lib.hid hdrop
        have hlen6 : acc.length ≤ 100000 := by omega
        clear hdrop he hmem
        cases hright : M.right e with
        | false =>
          have HRT := Lib.hid hright
          have HFIN := Lib.hid (show M.text l = none by rw [HP.out, HG.out, HD.out, M.textGo, hright]; rfl)
          clear hright
          go_wp2_with fail
          refine (right_any e _ hzv hzx).mono ?_
          rintro r w1 ⟨rfl, hb1⟩
          rw [HRT.out]
          have hbb : Below w.heap.size w w1 := (HB.out.alloc hsz _).trans (hb1.mono (by simp; omega))
          clear hb1
          go_wp2
          go_ret2
          unfold TextEnd
          rw [HFIN.out]
          exact ⟨rfl, hbb⟩
        | true =>
          have HRT := Lib.hid hright
          have HL := Lib.hid (M.line_le hright)
          clear hright
          go_wp2_with fail
          refine (right_any e _ hzv hzx).mono ?_
          rintro r w1 ⟨rfl, hb1⟩
          rw [HRT.out]
          have hbb : Below w.heap.size w w1 := (HB.out.alloc hsz _).trans (hb1.mono (by simp; omega))
          have f1 := (Four.new wr (.int .i64 e.a) (.int .i64 e.b) (.string e.v) (.string e.x) 35).below hb1 (by simp)
          have HO1 := Lib.hid (OwnB.below (World.ownsRow.alloc HO.out (.cells #[.int .i64 e.a, .int .i64 e.b, .string e.v, .string e.x] 35)) hb1)
          have hs1 := hbb.size
          have HBB := Lib.hid hbb
          clear hb1 hbb c0 c1 c2 c3
          obtain ⟨c0, c1, c2, c3, g0, g1, g2, g3⟩ := f1
          clear g0 g1 g2 g3
          go_wp2_with fail
          refine (line_any e _ HRT.out (HT.out.next HBB.out)).mono ?_
          rintro r w2 ⟨rfl, hb2⟩
          have HO2 := Lib.hid (HO1.out.below hb2)
          have hbb2 := HBB.out.trans (hb2.mono hs1)
          have hs2 := hbb2.size
          have HBB2 := Lib.hid hbb2
          clear hb2 hbb2 c0 c1 c2 c3
          have hll : (M.bytes (M.line e)).size ≤ 60 := by rw [bytes_size]; exact HL.out
          obtain ⟨L, hL⟩ : ∃ L, M.bytes (M.line e) = L := ⟨_, rfl⟩
          have HLE := Lib.hid hL
          rw [hL] at hll ⊢
          clear hL
          go_wp2_with (at_builtin; refine Lib.wpList_append_own_string _ rfl _ _ 22 9 rfl w.heap.size 5 i0 Tryz.underlying22 Tryz.underlying9 hi hz0 hz1 hz2 _ _ _ rfl HO2.out L rfl (by unfold maxLen; omega) (by omega) hs2 ?_)
          intro v3 w3 hown3 hgrow3 _
          have hb3 := grow_below HBB2.out HO2.out hgrow3 hs2
          have HO3 := Lib.hid (show OwnB w3 w.heap.size v3 (acc ++ M.line e) by rw [← HLE.out] at hown3; exact OwnB.append hown3)
          have hs3 := hb3.size
          have HB3 := Lib.hid hb3
          clear hown3 hgrow3 hb3
          obtain ⟨ac, hac⟩ : ∃ ac, acc ++ M.line e = ac := ⟨_, rfl⟩
          have hacl : ac.length ≤ acc.length + 60 := by rw [← hac, List.length_append]; have := HL.out; omega
          rw [hac] at HO3
          have HAC := Lib.hid hac
          clear hac
          go_wp2_with (at_builtin; refine wpList_append_own _ rfl _ _ 22 rfl w.heap.size 5 i0 (.int .u8 0) 1 1 Tryz.underlying22 hi hz0 hz1 hz2 rfl (by decide) _ _ _ rfl (World.ownsRow.alloc HO3.out _) ⟨w3.heap.size, 0, none⟩ 1 1 [.int .u8 10] rfl rfl (one_new _ _ _) one_cell (by unfold maxLen; omega) (by omega) (by simp; omega) ?_)
          intro v4 w4 hown4 hgrow4 _
          have hb4 := grow_below (bs := ac) (HB3.out.alloc hs3 _) (World.ownsRow.alloc HO3.out _) hgrow4 (by simp; omega)
          have HO4 := Lib.hid (show OwnB w4 w.heap.size v4 (ac ++ [10]) by unfold OwnB; simpa using hown4)
          have HB4 := Lib.hid hb4
          clear hown4 hgrow4 hb4
          go_wp2
          go_roundw
          case rel => exact ⟨k + 1, ac ++ [10], by omega, by go_num, HO4.out, by simp; omega, by rw [HG.out, HD.out, M.textGo, HRT.out, if_pos rfl, HAC.out], HB4.out⟩
          case measure => simp [intOf]; omega
      · have HFIN := Lib.hid (show M.text l = some acc by rw [HP.out, HG.out, List.drop_eq_nil_of_le (by omega)]; rfl)
        go_wp2
        go_ret2
        unfold TextEnd
        rw [HFIN.out]
        exact ⟨⟨_, rfl, HO.out⟩, HB.out⟩
end Go.Proofs.YtjbpjnnflcmmhaaGreatDoor
