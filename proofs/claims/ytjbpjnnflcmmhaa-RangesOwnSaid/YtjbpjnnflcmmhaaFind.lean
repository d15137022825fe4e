/- Entries that rise, looked up; and the contracts of ranges' closure, of the library's Search over it, and of find over the translation. Conditions: the slice reads as a list of entries that rise. -/
import Derived.Test.YtjbpjnnflcmmhaaRise
import Derived.RegionTactic
namespace Go.Proofs.Ytjbpjnnflcmmhaa
open Go.RowKit

/-- An entry has a number. -/
def M.inE (c : Int) (e : M.E) : Bool := decide (e.a ≤ c ∧ c ≤ e.b)
/-- The entry that has a number. -/
def M.find (l : List M.E) (c : Int) : Option M.E := l.find? (M.inE c)
/-- Each begins behind the ends of all ahead of it, and no end lies ahead of its beginning. -/
structure M.Srt (l : List M.E) : Prop where
  lt : ∀ (i j : Nat) (e f : M.E), i < j → l[i]? = some e → l[j]? = some f → e.b < f.a
  le : ∀ (i : Nat) (e : M.E), l[i]? = some e → e.a ≤ e.b
theorem M.right_le {e : M.E} (h : M.right e = true) : 0 ≤ e.a ∧ e.a ≤ e.b ∧ e.b ≤ 1114111 := by
  unfold M.right M.rising at h
  simp only [Bool.and_eq_true, decide_eq_true_eq] at h
  exact ⟨h.1.1.1, h.1.1.2.1, h.1.1.2.2⟩
theorem M.Up.srt {l : List M.E} (h : M.Up l l.length) : M.Srt l := by
  have hle : ∀ (i : Nat) e, l[i]? = some e → e.a ≤ e.b := fun i e he => (M.right_le (h i e (List.getElem?_eq_some_iff.1 he).1 he).1).2.1
  refine ⟨?_, hle⟩
  intro i j
  induction j with
  | zero => intro e f hij; omega
  | succ j ih =>
    intro e f hij he hf
    have hfl := (List.getElem?_eq_some_iff.1 hf).1
    obtain ⟨g, hg⟩ : ∃ g, l[j]? = some g := ⟨_, List.getElem?_eq_getElem (by omega)⟩
    have h1 := (h (j + 1) f hfl hf).2 g (by omega) hg
    rcases Nat.lt_or_ge i j with hlt | hge
    · have h2 := ih e g hlt he hg
      have h3 := hle j g hg
      omega
    · obtain rfl : i = j := by omega
      rw [he] at hg
      obtain rfl : e = g := by injection hg
      exact h1
theorem M.find_at {l : List M.E} {c : Int} {i : Nat} (hs : M.Srt l) (h1 : ∀ j e, j < i → l[j]? = some e → e.b < c) (h2 : ∀ e, l[i]? = some e → c ≤ e.b) :
    M.find l c = match l[i]? with
      | some e => if e.a ≤ c then some e else none
      | none => none := by
  unfold M.find
  have hno : (l.take i).find? (M.inE c) = none := by
    rw [List.find?_eq_none]
    intro e he
    obtain ⟨j, hj⟩ := List.getElem?_of_mem he
    rw [List.getElem?_take] at hj
    split at hj
    · have := h1 j e (by assumption) hj
      unfold M.inE
      simp
      omega
    · cases hj
  rw [← List.take_append_drop i l, List.find?_append, hno, Option.none_or, List.take_append_drop]
  cases hg : l[i]? with
  | none =>
    rw [List.drop_eq_nil_of_le (by have := List.getElem?_eq_none_iff.1 hg; omega)]
    rfl
  | some e =>
    obtain ⟨hlt, he⟩ := List.getElem?_eq_some_iff.1 hg
    rw [List.drop_eq_getElem_cons hlt, he, List.find?_cons]
    have hc := h2 e hg
    by_cases ha : e.a ≤ c
    · rw [show M.inE c e = true by unfold M.inE; simp; exact ⟨ha, hc⟩]
      simp [ha]
    · rw [show M.inE c e = false by unfold M.inE; simp; omega]
      simp only [if_neg ha]
      rw [List.find?_eq_none]
      intro f hf
      obtain ⟨j, hj⟩ := List.getElem?_of_mem hf
      rw [List.getElem?_drop] at hj
      have := hs.lt i (i + 1 + j) e f (by omega) hg hj
      unfold M.inE
      simp
      omega

section
variable (A : Option Addr) (ca : Nat) (l : List M.E) (c : Int)
/-- What the closure has of its maker: the slice, and the number. -/
structure Caught (w : World) (B : Nat) (bx bc : Nat) : Prop where
  cx : w.cell? ⟨bx, 0, none⟩ = some (.slice A l.length ca)
  cc : w.cell? ⟨bc, 0, none⟩ = some (.int .i64 c)
  rd : RdE w B A l
  lx : bx < B
  lc : bc < B
variable {A ca l c}
theorem Caught.below {w w' : World} {B bx bc : Nat} (h : Caught A ca l c w B bx bc) (hb : Below B w w') : Caught A ca l c w' B bx bc :=
  ⟨(hb.cell (p := ⟨bx, 0, none⟩) h.lx).trans h.cx, (hb.cell (p := ⟨bc, 0, none⟩) h.lc).trans h.cc, h.rd.below hb, h.lx, h.lc⟩

set_option maxHeartbeats 1000000 in
theorem closure_any (w : World) (B bx bc k : Nat) (e : M.E) (h : Caught A ca l c w B bx bc) (he : l[k]? = some e) :
    Calls Try.prog 37 #[.int .i64 k, .pointer (some ⟨bx, 0, none⟩), .pointer (some ⟨bc, 0, none⟩)] w fun r w' => r = .returned (.bool (decide (c ≤ e.b))) ∧ Below w.heap.size w w' := by
  obtain ⟨cx, cc, rd, _, _⟩ := h
  have hlt := (List.getElem?_eq_some_iff.1 he).1
  obtain ⟨ad, rfl, hab, c0, c1, c2, c3⟩ := rd k e he
  have hk1 : (0 : Int) ≤ (k : Int) := by omega
  have hk2 : (k : Int) < (l.length : Int) := by omega
  clear rd he c0 c2 c3 hab
  by_cases hc : c ≤ e.b
  · have hd : decide (c ≤ e.b) = true := by rw [decide_eq_true_iff]; exact hc
    rw [hd]
    go_enter Try.func37, Try.ntmps37
    go_wp2
    go_quiet (fail)
    go_wp2
    go_ret
    exact ⟨rfl, by first | exact (Below.refl _ _).drew | exact below_drewN (Below.refl _ _) _⟩
  · have hd : decide (c ≤ e.b) = false := by rw [decide_eq_false_iff_not]; exact hc
    rw [hd]
    go_enter Try.func37, Try.ntmps37
    go_wp2
    go_quiet (fail)
    go_wp2
    go_ret
    exact ⟨rfl, by first | exact (Below.refl _ _).drew | exact below_drewN (Below.refl _ _) _⟩

/-- What Search leaves: the first place whose end is not ahead of the number. -/
def SearchOut (l : List M.E) (c : Int) (w : World) (r : Ending) (w' : World) : Prop :=
  ∃ i : Nat, r = .returned (.int .i64 i) ∧ i ≤ l.length ∧ (∀ j e, j < i → l[j]? = some e → e.b < c) ∧ (∀ e, l[i]? = some e → c ≤ e.b) ∧ Below w.heap.size w w'

theorem half (i j : Nat) (hj : i + j ≤ 18446744073709551614) : wrap64 (IntKind.u64.wrap (wrap64 ((i : Int) + (j : Int))) / 2) = (((i + j) / 2 : Nat) : Int) := by
  have e1 : ∀ x : Int, wrap64 x = (x + 9223372036854775808) % 18446744073709551616 - 9223372036854775808 := fun x => by rw [wrap64]
  have e2 : ∀ x : Int, IntKind.u64.wrap x = x % 18446744073709551616 := fun x => by simp [IntKind.wrap, IntKind.bits, IntKind.signed]
  rw [e1, e1, e2]
  omega

set_option maxRecDepth 100000 in
set_option maxHeartbeats 2000000 in
theorem search_any (w : World) (bx bc : Nat) (h : Caught A ca l c w w.heap.size bx bc) (hs : M.Srt l) (hm : l.length ≤ maxLen) :
    Calls Try.prog 36 #[.int .i64 l.length, .func (.func 37) #[] #[.pointer (some ⟨bx, 0, none⟩), .pointer (some ⟨bc, 0, none⟩)]] w (SearchOut l c w) := by
  unfold maxLen at hm
  have HC := Lib.hid h
  have HS := Lib.hid hs
  clear h hs
  go_enter Try.func36, Try.ntmps36
  go_wp2
  go_loopw [5, 6] (fun u v wr => ∃ i j : Nat, i ≤ j ∧ j ≤ l.length ∧ u = .int .i64 i ∧ v = .int .i64 j ∧ (∀ k e, k < i → l[k]? = some e → e.b < c) ∧ (∀ e, l[j]? = some e → c ≤ e.b) ∧ Below w.heap.size w wr) (fun u v _ => ((intOf v) - (intOf u)).toNat)
  case atStart => exact ⟨0, l.length, Nat.zero_le _, Nat.le_refl _, rfl, rfl, (fun k e hk => by omega), (fun e he => by rw [List.getElem?_eq_none (Nat.le_refl _)] at he; cases he), Below.refl _ _⟩
  case round =>
    obtain ⟨i, j, hij, hj, rfl, rfl, h1, h2, hb⟩ := hrel
    have H1 := Lib.hid h1
    have H2 := Lib.hid h2
    have HB := Lib.hid hb
    clear h1 h2 hb
    by_cases hlt : i < j
    · obtain ⟨m, hm1⟩ : ∃ m, (i + j) / 2 = m := ⟨_, rfl⟩
      have hmi : i ≤ m := by omega
      have hmj : m < j := by omega
      have hw := half i j (by omega)
      rw [hm1] at hw
      obtain ⟨e, he⟩ : ∃ e, l[m]? = some e := ⟨_, List.getElem?_eq_getElem (by omega)⟩
      have HE := Lib.hid he
      have HW := Lib.hid hw
      clear he hm1 hw
      by_cases hc : c ≤ e.b
      · have HN := Lib.hid (show ∀ f, l[m]? = some f → c ≤ f.b from fun f hf => by
          rw [HE.out] at hf
          obtain rfl : e = f := by injection hf
          exact hc)
        have HD := Lib.hid (show decide (c ≤ e.b) = true by rw [decide_eq_true_iff]; exact hc)
        clear hc
        go_wp2_with fail
        rw [HW.out]
        refine (closure_any wr w.heap.size bx bc m e (HC.out.below HB.out) HE.out).mono ?_
        rintro r w1 ⟨rfl, hb1⟩
        rw [HD.out]
        have HB1 := Lib.hid (HB.out.trans (hb1.mono HB.out.size))
        clear hb1
        go_wp2
        go_roundw
        case rel => exact ⟨i, m, hmi, by omega, rfl, rfl, H1.out, HN.out, HB1.out⟩
        case measure => simp [intOf]; omega
      · have HN := Lib.hid (show ∀ k f, k < m + 1 → l[k]? = some f → f.b < c from fun k f hk hf => by
          rcases Nat.lt_or_ge k m with h | h
          · have := HS.out.lt k m f e h hf HE.out
            have := HS.out.le m e HE.out
            omega
          · obtain rfl : k = m := by omega
            rw [HE.out] at hf
            obtain rfl : e = f := by injection hf
            omega)
        have HD := Lib.hid (show decide (c ≤ e.b) = false by rw [decide_eq_false_iff_not]; exact hc)
        clear hc
        go_wp2_with fail
        rw [HW.out]
        refine (closure_any wr w.heap.size bx bc m e (HC.out.below HB.out) HE.out).mono ?_
        rintro r w1 ⟨rfl, hb1⟩
        rw [HD.out]
        have HB1 := Lib.hid (HB.out.trans (hb1.mono HB.out.size))
        clear hb1
        go_wp2
        go_roundw
        case rel => exact ⟨m + 1, j, by omega, by omega, by go_num, rfl, HN.out, H2.out, HB1.out⟩
        case measure => simp [intOf]; omega
    · obtain rfl : i = j := by omega
      go_wp2
      go_ret
      exact ⟨i, rfl, hj, H1.out, H2.out, HB.out⟩

/-- What find leaves: the entry that has the number, or none. -/
def M.zeroOf : M.E := ⟨0, 0, ⟨#[]⟩, ⟨#[]⟩⟩
def M.found (o : Option M.E) : M.E := match o with
  | some e => e
  | none => M.zeroOf
set_option maxRecDepth 100000 in
set_option maxHeartbeats 2000000 in
theorem find_any (w : World) (hr : RdE w w.heap.size A l) (hs : M.Srt l) (hm : l.length ≤ maxLen) :
    Calls Try.prog 28 #[.slice A l.length ca, .int .i64 c] w fun r w' => r = .returned (.tuple #[(M.found (M.find l c)).val, .bool (M.find l c).isSome]) ∧ Below w.heap.size w w' := by
  have HS := Lib.hid hs
  have HM := Lib.hid hm
  obtain ⟨W, hW⟩ : ∃ W, ((w.alloc (.cells #[.slice A l.length ca] 22)).alloc (.cells #[.int .i64 c] 3)).alloc (.cells #[.int .i64 0, .int .i64 0, .string ⟨#[]⟩, .string ⟨#[]⟩] 36) = W := ⟨_, rfl⟩
  have hb : Below w.heap.size w W := by rw [← hW]; exact (((Below.refl _ _).alloc (Nat.le_refl _) _).alloc (by simp) _).alloc (by simp; omega) _
  have hsz : W.heap.size = w.heap.size + 3 := by rw [← hW]; simp
  have hcx : W.cell? ⟨w.heap.size, 0, none⟩ = some (.slice A l.length ca) := by rw [← hW]; simp [go_sem]
  have hcc : W.cell? ⟨w.heap.size + 1, 0, none⟩ = some (.int .i64 c) := by rw [← hW]; simp [go_sem]
  have h4 : Four W (w.heap.size + 1 + 1) (.int .i64 0) (.int .i64 0) (.string ⟨#[]⟩) (.string ⟨#[]⟩) := by
    have := Four.new ((w.alloc (.cells #[.slice A l.length ca] 22)).alloc (.cells #[.int .i64 c] 3)) (.int .i64 0) (.int .i64 0) (.string ⟨#[]⟩) (.string ⟨#[]⟩) 36
    rw [hW] at this
    simpa using this
  have HC := Lib.hid (show Caught A ca l c W W.heap.size w.heap.size (w.heap.size + 1) from ⟨hcx, hcc, (hr.below hb).more (by omega), by omega, by omega⟩)
  have HB := Lib.hid hb
  have H4 := Lib.hid h4
  have HW := Lib.hid hW
  have hlen := hm
  unfold maxLen at hlen
  clear hr hs hm hb hcx hcc h4 hW
  go_enter Try.func28, Try.ntmps28
  go_wp2_with fail
  rw [HW.out]
  refine (search_any W w.heap.size (w.heap.size + 1) HC.out HS.out HM.out).mono ?_
  rintro r w1 ⟨i, rfl, hi, h1, h2, hb1⟩
  have HFA := Lib.hid (M.find_at HS.out h1 h2)
  have HC1 := HC.out.below hb1
  have h41 := H4.out.below hb1 (by omega)
  have HB1 := Lib.hid (HB.out.trans (hb1.mono HB.out.size))
  have HL41 := Lib.hid h41
  obtain ⟨k0, k1, k2, k3, g0, g1, g2, g3⟩ := h41
  obtain ⟨cx, cc, rd, _, _⟩ := HC1
  have HRD := Lib.hid rd
  clear h1 h2 hb1 rd
  cases hg : l[i]? with
  | none =>
    rw [hg] at HFA
    obtain rfl : i = l.length := by have := List.getElem?_eq_none_iff.1 hg; omega
    clear hg
    go_wp2
    go_quiet (fail)
    go_wp2
    refine bodyPost_ret (v := .tuple #[M.zeroOf.val, .bool false]) (by simp [results, Try.results28, go_sem, M.zeroOf, M.E.val, k0, k1, k2, k3]) rfl ⟨?_, ?_⟩
    · rw [HFA.out]; rfl
    · exact ((((below_drewN HB1.out nq).setCell (p := ⟨w.heap.size + 1 + 1, 0, none⟩) (by show w.heap.size ≤ w.heap.size + 1 + 1; omega) (.int .i64 0)).setCell (p := ⟨w.heap.size + 1 + 1, 1, none⟩) (by show w.heap.size ≤ w.heap.size + 1 + 1; omega) (.int .i64 0)).setCell (p := ⟨w.heap.size + 1 + 1, 2, none⟩) (by show w.heap.size ≤ w.heap.size + 1 + 1; omega) (.string ⟨#[]⟩)).setCell (p := ⟨w.heap.size + 1 + 1, 3, none⟩) (by show w.heap.size ≤ w.heap.size + 1 + 1; omega) (.string ⟨#[]⟩)
  | some e =>
    obtain ⟨ad, rfl, hab, c0, c1, c2, c3⟩ := HRD.out i e hg
    have hlt := (List.getElem?_eq_some_iff.1 hg).1
    have hk1 : (0 : Int) ≤ (i : Int) := by omega
    have hk2 : (i : Int) < (l.length : Int) := by omega
    have hne : ((i : Int) == (l.length : Int)) = false := by rw [beq_eq_false_iff_ne]; omega
    have hne' : (i == l.length) = false := by rw [beq_eq_false_iff_ne]; omega
    have HG := Lib.hid hg
    rw [hg] at HFA
    clear hg
    by_cases hc : e.a ≤ c
    · have hd : decide (c < e.a) = false := by rw [decide_eq_false_iff_not]; omega
      have HF2 := Lib.hid (show M.find l c = some e by rw [HFA.out]; simp [hc])
      clear hc
      go_wp2
      go_quiet (fail)
      go_wp2
      refine bodyPost_ret (v := .tuple #[e.val, .bool true]) (by simp [results, Try.results28, go_sem, M.E.val, k0, k1, k2, k3]) rfl ⟨?_, ?_⟩
      · rw [HF2.out]; rfl
      · exact ((((below_drewN HB1.out nq).setCell (p := ⟨w.heap.size + 1 + 1, 0, none⟩) (by show w.heap.size ≤ w.heap.size + 1 + 1; omega) (.int .i64 e.a)).setCell (p := ⟨w.heap.size + 1 + 1, 1, none⟩) (by show w.heap.size ≤ w.heap.size + 1 + 1; omega) (.int .i64 e.b)).setCell (p := ⟨w.heap.size + 1 + 1, 2, none⟩) (by show w.heap.size ≤ w.heap.size + 1 + 1; omega) (.string e.v)).setCell (p := ⟨w.heap.size + 1 + 1, 3, none⟩) (by show w.heap.size ≤ w.heap.size + 1 + 1; omega) (.string e.x)
    · have hd : decide (c < e.a) = true := by rw [decide_eq_true_iff]; omega
      have HF2 := Lib.hid (show M.find l c = none by rw [HFA.out]; simp [hc])
      clear hc
      go_wp2
      go_quiet (fail)
      go_wp2
      refine bodyPost_ret (v := .tuple #[M.zeroOf.val, .bool false]) (by simp [results, Try.results28, go_sem, M.zeroOf, M.E.val, k0, k1, k2, k3]) rfl ⟨?_, ?_⟩
      · rw [HF2.out]; rfl
      · exact ((((below_drewN HB1.out nq).setCell (p := ⟨w.heap.size + 1 + 1, 0, none⟩) (by show w.heap.size ≤ w.heap.size + 1 + 1; omega) (.int .i64 0)).setCell (p := ⟨w.heap.size + 1 + 1, 1, none⟩) (by show w.heap.size ≤ w.heap.size + 1 + 1; omega) (.int .i64 0)).setCell (p := ⟨w.heap.size + 1 + 1, 2, none⟩) (by show w.heap.size ≤ w.heap.size + 1 + 1; omega) (.string ⟨#[]⟩)).setCell (p := ⟨w.heap.size + 1 + 1, 3, none⟩) (by show w.heap.size ≤ w.heap.size + 1 + 1; omega) (.string ⟨#[]⟩)
end
end Go.Proofs.Ytjbpjnnflcmmhaa
