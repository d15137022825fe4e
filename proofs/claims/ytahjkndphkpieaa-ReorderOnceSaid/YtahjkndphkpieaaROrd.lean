/- The contract of the document's Order. Condition: the slice reads as a list of whole numbers, at most a thousand long. -/
import Derived.Test.YtahjkndphkpieaaRTurn
namespace Go.Proofs.Ytahjkndphkpieaa
open Go.RowKit
set_option maxRecDepth 100000

theorem Try.infoInt2 : (Try.prog.info? 3).map (fun i => (i.zero, i.size, i.bytes)) = some (some (.int .i64 0), 1, 8) := by kernel_rfl
/-- A row of the callee's own, or the error e. -/
def RowE (ty : TypeId) (e : Int) (ok : Prop) (t : List Int) (w : World) (r : Ending) (w' : World) : Prop :=
  Below w.heap.size w w' ∧
  (ok → ∃ v, r = .returned (.tuple #[v, .int .i64 0]) ∧ w'.ownsRow w.heap.size ty 1 v t.length (t.map (Value.int .i64))) ∧
  (¬ ok → r = .returned (.tuple #[.slice none 0 0, .int .i64 e]))
theorem M.seg_ints (X : List Nat) (D S R : List Nat) (h : X = D ++ S ++ R) : M.seg (M.ints X) D.length (D.length + S.length) = M.ints (D ++ S.reverse ++ R) := by
  subst h
  have := M.seg_mid (M.ints D) (M.ints S) (M.ints R)
  rw [M.ints_len, M.ints_len] at this
  unfold M.ints at this ⊢
  rw [List.map_append, List.map_append, List.map_append, List.map_append, List.map_reverse]
  exact this
theorem M.ints_get {X : List Nat} {i x : Nat} (h : X[i]? = some x) : (M.ints X)[i]? = some (x : Int) := by
  unfold M.ints
  rw [List.getElem?_map, h]
  rfl
set_option maxHeartbeats 16000000 in
theorem refOrder_any (A : Option Addr) (ca n : Nat) (l : List Int) (w : World) (hr : RdS .i64 w w.heap.size A l) (hn : l.length = n) (hl : n ≤ 1000) :
    Calls Try.prog 10 #[.slice A n ca] w (RowE 3 81 (M.ordOk l) (M.ints (M.order l)) w) := by
  obtain ⟨i0, hi, hz0, hz1, hz2⟩ := info_parts Try.infoInt2
  have HR := Lib.hid hr
  have HN := Lib.hid hn
  have hl1 : (n : Int) ≤ 1000 := by omega
  clear hr hn
  go_enter Try.func10, Try.ntmps10
  go_wp2_with fail
  go_loopw [4, 5] (fun o v wr => ∃ k : Nat, v = .int .i64 k ∧ k ≤ n ∧ wr.ownsRow w.heap.size 3 1 o k ((M.ints (List.range k)).map (Value.int .i64)) ∧ (∀ j x, j < k → l[j]? = some x → 0 ≤ x ∧ x ≤ 127) ∧ Below w.heap.size w wr) (fun _ v _ => n - (intOf v).toNat)
  case atStart => exact ⟨0, rfl, Nat.zero_le _, ⟨rfl, .inl ⟨rfl, rfl⟩⟩, fun j x hj => by omega, Below.refl _ _⟩
  case round =>
    obtain ⟨k, rfl, hk, ho, hok, hb⟩ := hrel
    rename World => wr
    have HB := Lib.hid hb
    have HO := Lib.hid ho
    have HOK := Lib.hid hok
    have k0 : (0 : Int) ≤ k := by omega
    by_cases hlt : k < n
    · have k1 : (k : Int) < n := by omega
      obtain ⟨ad, c, rfl, hcc, hc, -⟩ := rd_at HR.out hb (by rw [HN.out]; exact hlt : k < l.length)
      have hbs := hb.size
      by_cases h0 : c < 0
      · have hno : ¬ M.ordOk l := fun h => by have := (h c (List.mem_of_getElem? hc)).1; omega
        have HNO := Lib.hid hno
        clear hb ho hok hc hno
        go_wp2_with fail
        go_returns
        exact ⟨HB.out, fun h => absurd h HNO.out, fun _ => rfl⟩
      · by_cases h1 : 127 < c
        · have hno : ¬ M.ordOk l := fun h => by have := (h c (List.mem_of_getElem? hc)).2; omega
          have HNO := Lib.hid hno
          clear hb ho hok hc hno
          go_wp2_with fail
          go_returns
          exact ⟨HB.out, fun h => absurd h HNO.out, fun _ => rfl⟩
        · have hok2 : ∀ j x, j < k + 1 → l[j]? = some x → 0 ≤ x ∧ x ≤ 127 := fun j x hj hx => by
            by_cases e : j = k
            · subst e
              rw [hc] at hx
              injection hx with hx
              omega
            · exact hok j x (by omega) hx
          have HOK2 := Lib.hid hok2
          clear hb ho hok hc hok2
          go_wp2_with (at_builtin; refine wpList_append_own _ rfl _ _ 22 rfl w.heap.size 3 i0 (.int .i64 0) 1 8 Try.underlying22 hi hz0 hz1 hz2 rfl (by decide) _ _ _ rfl (World.ownsRow.alloc HO.out _) ⟨wr.heap.size, 0, none⟩ 1 1 [.int .i64 k] rfl rfl (one_new _ _ _) one_cell (by unfold maxLen; omega) (by omega) (by simp; omega) ?_)
          intro v4 w4 ho4 hg4 _
          have hb4 : Below w.heap.size w w4 := grow_below0 (HB.out.alloc hbs _) (World.ownsRow.alloc HO.out _) hg4 (by simp; omega)
          have HB4 := Lib.hid hb4
          have hmap : (M.ints (List.range k)).map (Value.int .i64) ++ [Value.int .i64 k] = (M.ints (List.range (k + 1))).map (Value.int .i64) := by unfold M.ints; rw [List.range_succ, List.map_append, List.map_append]; rfl
          rw [hmap] at ho4
          have HO4 := Lib.hid ho4
          clear ho4 hg4 hb4 hmap
          go_wp2_with fail
          go_roundw
          case rel => exact ⟨k + 1, by go_num, by omega, HO4.out, HOK2.out, HB4.out⟩
          case measure => simp [intOf]; omega
    · obtain rfl : n = k := by omega
      have k1 : ¬ (n : Int) < (n : Int) := by omega
      have hord : M.ordOk l := fun x hx => by
        obtain ⟨j, hj⟩ := List.mem_iff_getElem?.1 hx
        exact hok j x (by rw [← HN.out]; exact (List.getElem?_eq_some_iff.1 hj).1) hj
      have HORD := Lib.hid hord
      obtain ⟨Ao, co, rfl, hco, hmo, hAo, hgo⟩ := own_form ho
      have HGO := Lib.hid hgo
      clear hb ho hok hord hco hmo hAo hgo HOK
      go_wp2_with fail
      go_loopw [6, 7, 8] (fun q u v wr => ∃ (m : Nat) (X : List Nat), q = .int .i64 m ∧ m ≤ 127 ∧ X.length = n ∧ (∀ x ∈ X, x < n) ∧ M.ord (M.lev l) m X = M.order l ∧ wr.ownsRow w.heap.size 3 1 (.slice Ao n co) n ((M.ints X).map (Value.int .i64)) ∧ Below w.heap.size w wr) (fun q _ _ _ => (intOf q).toNat)
      case atStart => exact ⟨127, List.range n, rfl, Nat.le_refl _, List.length_range, fun x hx => List.mem_range.1 hx, by unfold M.order M.ordN; rw [HN.out], HO.out, HB.out⟩
      case round =>
        obtain ⟨m, X, rfl, hm, hX, hmem, hto, hrow, hbel⟩ := hrel
        rename World => wq
        have HX := Lib.hid hX
        have HMEM := Lib.hid hmem
        have HROW := Lib.hid hrow
        have HBEL := Lib.hid hbel
        cases m with
        | zero =>
          have q1 : ¬ (1 : Int) ≤ ((0 : Nat) : Int) := by omega
          have e : X = M.order l := hto
          have HE := Lib.hid e
          clear hto hX hmem hrow hbel e
          go_wp2_with fail
          go_returns
          refine ⟨HBEL.out, fun _ => ⟨_, rfl, ?_⟩, fun h => absurd HORD.out h⟩
          rw [← HE.out, M.ints_len, HX.out]
          exact HROW.out
        | succ m =>
          have q1 : (1 : Int) ≤ ((m + 1 : Nat) : Int) := by omega
          obtain ⟨q, hq⟩ : ∃ q : Int, ((m + 1 : Nat) : Int) = q := ⟨_, rfl⟩
          have HTO := Lib.hid (show M.ord (M.lev l) m (M.flip (fun x => decide (q ≤ M.lev l x)) X) = M.order l by
            rw [← hq]
            exact hto)
          rw [hq] at q1 ⊢
          have HQ := Lib.hid hq
          have qm : q - 1 = (m : Int) := by omega
          have q2 : q ≤ 127 := by omega
          clear hto hX hmem hrow hbel hq hm
          go_wp2_with fail
          go_loopw [7, 8] (fun fv iv wr => ∃ (d i : Nat) (D S R : List Nat), fv = .int .i64 d ∧ iv = .int .i64 i ∧ ((D.length = d ∧ d + S.length = i ∧ i + R.length = n ∧ (∀ x ∈ D ++ S ++ R, x < n) ∧ M.flip (fun x => decide (q ≤ M.lev l x)) X = D ++ M.fgo (fun x => decide (q ≤ M.lev l x)) S.reverse R) ∨ (i = n + 1 ∧ D ++ S ++ R = M.flip (fun x => decide (q ≤ M.lev l x)) X)) ∧ wr.ownsRow w.heap.size 3 1 (.slice Ao n co) n ((M.ints (D ++ S ++ R)).map (Value.int .i64)) ∧ Below w.heap.size w wr) (fun _ iv _ => n + 1 - (intOf iv).toNat)
          case atStart => exact ⟨0, 0, [], [], X, rfl, rfl, .inl ⟨rfl, rfl, by rw [HX.out]; omega, HMEM.out, rfl⟩, HROW.out, HBEL.out⟩
          case round =>
            obtain ⟨d, i, D, S, R, rfl, rfl, hcase, hrow, hbel⟩ := hrel
            have HBEL2 := Lib.hid hbel
            have HROW2 := Lib.hid hrow
            have i0' : (0 : Int) ≤ i := by omega
            rcases hcase with ⟨hd, hi', hR, hmem, hfl⟩ | ⟨hi', hfl⟩
            · have HD := Lib.hid (And.intro hd (And.intro hi' hR))
              have HMEM2 := Lib.hid hmem
              have HFL := Lib.hid hfl
              have i1 : (i : Int) ≤ n := by omega
              have hlenX : (D ++ S ++ R).length = n := by rw [List.length_append, List.length_append]; omega
              have hturn := refTurn_any (.slice Ao n co) n d i w.heap.size (M.ints (D ++ S ++ R)) _ hrow (by rw [M.ints_len]; exact hlenX) (by omega) (by omega) hl
              have hseg : M.seg (M.ints (D ++ S ++ R)) d i = M.ints (D ++ S.reverse ++ R) := by
                have := M.seg_ints _ D S R rfl
                rw [hd, hi'] at this
                exact this
              rw [hseg] at hturn
              have HTURN := Lib.hid hturn
              cases R with
              | nil =>
                have hin : i = n := by rw [List.length_nil] at hR; omega
                have i2 : ((i : Int) == n) = true := by simp; omega
                have hdone : D ++ S.reverse ++ [] = M.flip (fun x => decide (q ≤ M.lev l x)) X := by rw [hfl, List.append_nil]; rfl
                have HDONE := Lib.hid hdone
                have HIN := Lib.hid hin
                clear hd hi' hR hmem hfl hrow hbel hlenX hturn hseg hdone hin
                go_wp2_with fail
                refine HTURN.out.mono ?_
                rintro r w5 ⟨rfl, h5, hb5, -, -⟩
                have HB5 := Lib.hid (HBEL2.out.trans hb5)
                have H5 := Lib.hid h5
                clear h5 hb5
                go_wp2_with fail
                go_roundw
                case rel => exact ⟨i + 1, i + 1, D, S.reverse, [], by go_num, by go_num, .inr ⟨by rw [HIN.out], HDONE.out⟩, H5.out, HB5.out⟩
                case measure => have := HIN.out; simp [intOf]; omega
              | cons x R =>
                have hin : i < n := by rw [List.length_cons] at hR; omega
                have i2 : ((i : Int) == n) = false := by simp; omega
                have i3 : (i : Int) < n := by omega
                obtain ⟨g, rfl⟩ := HGO.out (by omega)
                have hxi : (D ++ S ++ x :: R)[i]? = some x := by
                  rw [List.getElem?_append_right (by rw [List.length_append]; omega), List.length_append, hd, hi', Nat.sub_self]
                  rfl
                have hxn : x < n := hmem x (by simp)
                have c0 := World.ownsRow.cellAt hrow i (by omega)
                rw [List.getElem?_map, M.ints_get hxi] at c0
                have c0 : World.cell? _ ⟨g, i, none⟩ = some (.int .i64 x) := c0
                obtain ⟨ad, y, rfl, hcy, hy, -⟩ := rd_at HR.out hbel (by rw [HN.out]; exact hxn : x < l.length)
                have hlev : M.lev l x = y := by unfold M.lev; rw [List.getD_eq_getElem?_getD, hy]; rfl
                have x0 : (0 : Int) ≤ x := by omega
                have x1 : (x : Int) < n := by omega
                by_cases hp : q ≤ y
                · have p1 : ¬ y < q := by omega
                  have hnext : M.flip (fun x => decide (q ≤ M.lev l x)) X = D ++ M.fgo (fun x => decide (q ≤ M.lev l x)) (S ++ [x]).reverse R := by
                    rw [hfl, M.fgo_cons, if_pos (by rw [hlev]; exact decide_eq_true hp), List.reverse_append]
                    rfl
                  have happ : D ++ S ++ x :: R = D ++ (S ++ [x]) ++ R := by simp
                  rw [happ] at hmem
                  have hrow2 := hrow
                  rw [happ] at hrow2
                  have HNEXT := Lib.hid hnext
                  have HM3 := Lib.hid hmem
                  have HR3 := Lib.hid hrow2
                  have HI := Lib.hid (show D.length = d ∧ d + (S ++ [x]).length = i + 1 ∧ i + 1 + R.length = n by rw [List.length_append, List.length_singleton]; rw [List.length_cons] at hR; omega)
                  clear hd hi' hR hmem hfl hrow hbel hlenX hturn hseg hin hxi hxn hy hlev hnext happ hrow2 hp
                  go_wp2_with fail
                  go_roundw
                  case rel => exact ⟨d, i + 1, D, S ++ [x], R, rfl, by go_num, .inl ⟨HI.out.1, HI.out.2.1, HI.out.2.2, HM3.out, HNEXT.out⟩, HR3.out, HBEL2.out⟩
                  case measure => simp [intOf]; omega
                · have p1 : y < q := by omega
                  have hnext : M.flip (fun x => decide (q ≤ M.lev l x)) X = (D ++ S.reverse ++ [x]) ++ M.fgo (fun x => decide (q ≤ M.lev l x)) ([] : List Nat).reverse R := by
                    rw [hfl, M.fgo_cons, if_neg (by rw [hlev]; simpa using hp)]
                    simp
                  have HNEXT := Lib.hid hnext
                  have happ : D ++ S.reverse ++ x :: R = (D ++ S.reverse ++ [x]) ++ [] ++ R := by simp
                  rw [happ] at HTURN
                  have HM3 := Lib.hid (show ∀ z ∈ (D ++ S.reverse ++ [x]) ++ [] ++ R, z < n from fun z hz => hmem z (by simp at hz ⊢; exact hz))
                  have HI := Lib.hid (show (D ++ S.reverse ++ [x]).length = i + 1 ∧ i + 1 + ([] : List Nat).length = i + 1 ∧ i + 1 + R.length = n by rw [List.length_append, List.length_append, List.length_singleton, List.length_reverse, List.length_nil]; rw [List.length_cons] at hR; omega)
                  clear hd hi' hR hmem hfl hrow hbel hlenX hturn hseg hin hxi hxn hy hlev hnext happ hp
                  go_wp2_with fail
                  refine HTURN.out.mono ?_
                  rintro r w5 ⟨rfl, h5, hb5, -, -⟩
                  have HB5 := Lib.hid (HBEL2.out.trans hb5)
                  have H5 := Lib.hid h5
                  clear h5 hb5
                  go_wp2_with fail
                  go_roundw
                  case rel => exact ⟨i + 1, i + 1, D ++ S.reverse ++ [x], [], R, by go_num, by go_num, .inl ⟨HI.out.1, HI.out.2.1, HI.out.2.2, HM3.out, HNEXT.out⟩, H5.out, HB5.out⟩
                  case measure => simp [intOf]; omega
            · have i1 : ¬ (i : Int) ≤ n := by omega
              have HFL := Lib.hid hfl
              clear hrow hbel hi' hfl
              go_wp2_with fail
              go_roundw
              case rel => exact ⟨m, D ++ S ++ R, by go_num, by have := HQ.out; omega, by rw [HFL.out, M.flip_len, HX.out], fun x hx => by rw [HFL.out] at hx; exact HMEM.out x (M.flip_perm.mem_iff.1 hx), by rw [HFL.out]; exact HTO.out, HROW2.out, HBEL2.out⟩
              case measure => have := HQ.out; simp [intOf]; omega
end Go.Proofs.Ytahjkndphkpieaa
