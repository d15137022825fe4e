/- The contract of the document's Levels. Condition: the slice reads as a list of classes, at most a thousand long. -/
import Derived.Test.YtjlfgojblimobaaGreatA04
import Derived.Test.YtjlfgojblimobaaGreatA01
import Derived.Test.YtjlfgojblimobaaGreatA02
section
namespace Go.Proofs.YtjlfgojblimobaaGreat
open Go.RowKit

theorem Tryz.infoCls : (Tryz.prog.info? 39).map (fun i => (i.zero, i.size, i.bytes)) = some (some (.int .i64 0), 1, 8) := by kernel_rfl
def LevOut (o : Option (List (Int × Int))) (w : World) (r : Ending) (w' : World) : Prop :=
  match o with
  | none => r = .returned (.tuple #[.slice none 0 0, .slice none 0 0, .int .i64 81]) ∧ Below w.heap.size w w'
  | some ps => ∃ va vb, r = .returned (.tuple #[va, vb, .int .i64 0]) ∧ w'.ownsRow w.heap.size 3 1 va ps.length ((ps.map Prod.fst).map (Value.int .i64)) ∧
      w'.ownsRow w.heap.size 39 1 vb ps.length ((ps.map Prod.snd).map (Value.int .i64)) ∧ Below w.heap.size w w'
structure LvRel (b : Int) (l : List Int) (B : Nat) (w wr : World) (va vb : Value) (k : Nat) (ps : List (Int × Int)) (mb g cap : Nat) (m : M.Mc) : Prop where
  len : ps.length = k
  run : M.run b (M.fresh b) l = ps ++ M.run b m (l.drop k)
  fit : m.Fit b k
  at_ : LvAt B w wr 3 39 va vb k k (ps.map Prod.fst) (ps.map Prod.snd) mb g cap m

theorem LvRel.step {b : Int} {l : List Int} {B : Nat} {w wr w' : World} {va vb va' vb' : Value} {k : Nat} {ps : List (Int × Int)} {mb g cap mb' g' cap' : Nat} {m m' : M.Mc} {x c y z : Int} (h : LvRel b l B w wr va vb k ps mb g cap m) (hx : l[k]? = some x) (hc : M.known x = c) (hb : b ≤ 125)
    (hl : m.lev b c = y) (hz : m.cls c = z) (ht : m.turn b (M.dir c (l.drop (k + 1))) c = m')
    (L : LvAt B w w' 3 39 va' vb' (k + 1) (k + 1) (ps.map Prod.fst ++ [y]) (ps.map Prod.snd ++ [z]) mb' g' cap' m') : LvRel b l B w w' va' vb' (k + 1) (ps ++ [(y, z)]) mb' g' cap' m' := by
  subst hc hl hz ht
  have hk := (List.getElem?_eq_some_iff.1 hx).1
  have hd : l.drop k = x :: l.drop (k + 1) := by
    rw [List.drop_eq_getElem_cons hk]
    congr 1
    rw [List.getElem?_eq_getElem hk] at hx
    exact Option.some.inj hx
  refine ⟨by rw [List.length_append, h.len]; rfl, ?_, h.fit.turn hb _, by rw [List.map_append, List.map_append]; exact L⟩
  rw [h.run, hd, List.append_assoc]
  rfl
namespace M
theorem betw_len (l : List Int) (k : Nat) : (betw l k).length ≤ l.length := by
  unfold betw
  split
  · rw [List.length_take, List.length_drop]; omega
  · rw [List.length_drop]; omega
theorem lev_at {b c : Int} {m m1 : Mc} {t : Ent} (h1 : removed c = false) (h2 : c ≠ 10) (h3 : m.at_ c = m1) (h4 : m1.top = t) : m.lev b c = t.lv := by
  unfold Mc.lev
  rw [if_neg (by rw [h1]; simp), if_neg h2, h3, h4]
theorem cls_on {c : Int} {m m1 : Mc} {t : Ent} (hv : t.ov ≠ 13) (h1 : removed c = false) (h2 : c ≠ 10) (h3 : m.at_ c = m1) (h4 : m1.top = t) : m.cls c = t.ov := by
  unfold Mc.cls
  rw [if_neg (by rw [h1]; simp), if_neg h2, h3, h4, if_pos hv]
theorem cls_off {c : Int} {m m1 : Mc} {t : Ent} (hv : t.ov = 13) (h1 : removed c = false) (h2 : c ≠ 10) (h3 : m.at_ c = m1) (h4 : m1.top = t) : m.cls c = c := by
  unfold Mc.cls
  rw [if_neg (by rw [h1]; simp), if_neg h2, h3, h4, if_neg (fun e => e hv)]
theorem at_no {c : Int} {m : Mc} (h : c ≠ 22) : m.at_ c = m := by unfold Mc.at_; rw [if_neg h]
theorem turn_no {b odd c : Int} {m : Mc} (h1 : removed c = false) (h2 : c ≠ 10) (h3 : c ≠ 22) (h4 : begins c = false) : m.turn b odd c = m := by
  unfold Mc.turn
  rw [if_neg (by rw [h1]; simp), if_neg h2, if_neg h3, if_neg (by rw [h4]; simp)]
theorem turn_yes {b odd odd' c : Int} {m : Mc} (h1 : removed c = false) (h2 : c ≠ 10) (h3 : c ≠ 22) (h4 : begins c = true) (ho : odd = odd') : m.turn b odd c = m.isolate odd' := by
  subst ho
  unfold Mc.turn
  rw [if_neg (by rw [h1]; simp), if_neg h2, if_neg h3, if_pos h4]
end M
set_option maxHeartbeats 2000000 in
theorem lev_low (A : Option Addr) (ca n : Nat) (l : List Int) (base : Int) (w : World) (hb1 : base < -1) :
    Calls Tryz.prog 45 #[.slice A n ca, .int .i64 base] w (LevOut (M.levels l base) w) := by
  have HE := Lib.hid (show M.levels l base = none by unfold M.levels; rw [if_pos (.inl hb1)])
  go_enter Tryz.func45, Tryz.ntmps45
  go_wp2_with fail
  go_returns
  rw [HE.out]
  exact ⟨rfl, Below.refl _ _⟩
set_option maxRecDepth 8000 in
set_option maxHeartbeats 8000000 in
theorem lev_pos (A : Option Addr) (ca n : Nat) (l : List Int) (base : Int) (w : World) (hr : RdS .i64 w w.heap.size A l) (hn : l.length = n) (hl : n ≤ 1000) (hca : n ≤ ca) (hb3 : ¬ base < 0) :
    Calls Tryz.prog 45 #[.slice A n ca, .int .i64 base] w (LevOut (M.levels l base) w) := by
  obtain ⟨i0, hi, hz0, hz1, hz2⟩ := info_parts Tryz.infoInt
  obtain ⟨i1, hj, hy0, hy1, hy2⟩ := info_parts Tryz.infoCls
  have HR := Lib.hid hr
  have HN := Lib.hid hn
  have HCA := Lib.hid hca
  have hl1 : (n : Int) ≤ 1000 := by omega
  clear hr hn hca
  go_enter Tryz.func45, Tryz.ntmps45
  by_cases hb2 : 1 < base
  · have HE := Lib.hid (show M.levels l base = none by unfold M.levels; rw [if_pos (.inr hb2)])
    go_wp2_with fail
    go_returns
    rw [HE.out]
    exact ⟨rfl, Below.refl _ _⟩
  have HE := Lib.hid (show M.levels l base = some (M.run base (M.fresh base) l) by unfold M.levels; rw [if_neg (by omega), if_neg hb3])
  have hb4 : 0 ≤ base := by omega
  have hb5 : base ≤ 125 := by omega
  have HF := Lib.hid (fresh_any base w)
  go_wp2_with fail
  refine HF.out.mono ?_
  rintro r w1 ⟨mb0, g0, cap0, rfl, hm0, hbl0⟩
  have H0 := Lib.hid (show LvRel base l w.heap.size w w1 (.slice none 0 0) (.slice none 0 0) 0 [] mb0 g0 cap0 (M.fresh base) from
    ⟨rfl, rfl, M.fresh_fit hb5 0, ⟨hbl0, World.ownsRow_nil _ _ _ _, World.ownsRow_nil _ _ _ _, hm0, by simp [Value.ownBlock], by simp [Value.ownBlock], by simp [Value.ownBlock], by simp [Value.ownBlock], by simp [Value.ownBlock]⟩⟩)
  clear hm0 hbl0
  go_wp2_with fail
  go_loopw [7, 8, 9, 10] (fun va vb vm i wr => ∃ k ps mb g cap m, k ≤ n ∧ i = .int .i64 (k : Nat) ∧ vm = .pointer (some ⟨mb, 0, none⟩) ∧ LvRel base l w.heap.size w wr va vb k ps mb g cap m) (fun _ _ _ i _ => n - (intOf i).toNat)
  case atStart => exact ⟨0, [], mb0, g0, cap0, _, Nat.zero_le _, rfl, rfl, H0.out⟩
  case round =>
    obtain ⟨k, ps, mb, g, cap, m, hk, rfl, rfl, hrel⟩ := hrel
    have HL := Lib.hid hrel
    clear hrel
    by_cases hlt : k < n
    · obtain ⟨ad, x, hA, hcc, hx, -⟩ := rd_at HR.out HL.out.at_.below (by rw [HN.out]; exact hlt : k < l.length)
      subst hA
      have hk0 : (0 : Int) ≤ (k : Int) := by omega
      have hk1 : (k : Int) < (n : Int) := by omega
      obtain ⟨c, hc⟩ : ∃ c, M.known x = c := ⟨_, rfl⟩
      have KN : ∀ W, Hid (Calls Tryz.prog 86 #[.int .i64 x] W fun r w' => r = .returned (.int .i64 c) ∧ W = w') := fun W => Lib.hid (by have q := known_any x W; rw [hc] at q; exact q)
      obtain ⟨bg, hbg⟩ : ∃ bg, M.begins c = bg := ⟨_, rfl⟩
      have BG : ∀ W, Hid (Calls Tryz.prog 17 #[.int .i64 c] W fun r w' => r = .returned (.bool bg) ∧ W = w') := fun W => Lib.hid (by have q := begins_any c W; rw [hbg] at q; exact q)
      obtain ⟨rm, hrm⟩ : ∃ rm, M.removed c = rm := ⟨_, rfl⟩
      have RM : ∀ W, Hid (Calls Tryz.prog 20 #[.int .i64 c] W fun r w' => r = .returned (.bool rm) ∧ W = w') := fun W => Lib.hid (by have q := removed_any c W; rw [hrm] at q; exact q)
      have HX := Lib.hid hx
      have HC := Lib.hid hc
      have HRM := Lib.hid hrm
      have HBG := Lib.hid hbg
      clear hx hc hbg hrm
      have hle := HL.out.at_.le
      cases rm with
      | true =>
        have HD := Lib.hid (does_any w.heap.size mb g cap k m base c wr HL.out.at_.mach HL.out.fit (by omega) hb4)
        go_wp2_with fail
        refine (KN _).out.mono ?_
        rintro r wx ⟨rfl, rfl⟩
        go_wp2_with fail
        refine (RM _).out.mono ?_
        rintro r wx ⟨rfl, rfl⟩
        go_wp2_with fail
        refine (BG _).out.mono ?_
        rintro r wx ⟨rfl, rfl⟩
        go_wp2_with fail
        refine HD.out.mono ?_
        rintro r w2 ⟨rfl, g2, cap2, hm2, hs2⟩
        have L2 := Lib.hid (HL.out.at_.turn hm2 hs2)
        have hle2 := L2.out.le
        clear hm2 hs2
        go_wp2_with (at_builtin; refine wpList_append_lies _ rfl _ _ 25 rfl w.heap.size 3 i0 (.int .i64 0) 1 8 Tryz.underlying25 hi hz0 hz1 hz2 rfl (by decide) _ _ _ rfl (World.ownsRow.alloc L2.out.ra _) ⟨w2.heap.size, 0, none⟩ 1 1 [.int .i64 (-1)] rfl rfl (one_new _ _ _) one_cell (by omega) (by unfold maxLen; omega) (by omega) (by simp; omega) (w2.heap.size + 1) (by simp) ?_)
        intro q3 c3 w3 hown3 hg3 hat3 _
        have L3 := Lib.hid (L2.out.pushA (x := -1) (by rw [List.map_map]; exact hown3) hg3 hat3)
        have hle3 := L3.out.le
        clear hown3 hg3 hat3
        go_wp2_with (at_builtin; refine wpList_append_lies _ rfl _ _ 22 rfl w.heap.size 39 i1 (.int .i64 0) 1 8 Tryz.underlying22 hj hy0 hy1 hy2 rfl (by decide) _ _ _ rfl (World.ownsRow.alloc L3.out.rb _) ⟨w3.heap.size, 0, none⟩ 1 1 [.int .i64 c] rfl rfl (one_new _ _ _) one_cell (by omega) (by unfold maxLen; omega) (by omega) (by simp; omega) (w3.heap.size + 1) (by simp) ?_)
        intro q4 c4 w4 hown4 hg4 hat4 _
        have L4 := Lib.hid (L3.out.pushB (x := c) (by rw [List.map_map]; exact hown4) hg4 hat4)
        clear hown4 hg4 hat4
        go_wp2_with fail
        go_roundw
        case rel => exact ⟨k + 1, ps ++ [(-1, c)], mb, g2, cap2, m.does c, by omega, by go_num, rfl, HL.out.step HX.out HC.out hb5 (by unfold M.Mc.lev; rw [if_pos HRM.out]) (by unfold M.Mc.cls; rw [if_pos HRM.out]) (by unfold M.Mc.turn; rw [if_pos HRM.out]) L4.out⟩
        case measure => simp [intOf]; omega
      | false =>
        by_cases h10 : c = 10
        · subst h10
          obtain rfl : false = bg := HBG.out
          have FR := fun W => Lib.hid (fresh_any base W)
          go_wp2_with fail
          refine (KN _).out.mono ?_
          rintro r wx ⟨rfl, rfl⟩
          go_wp2_with fail
          refine (RM _).out.mono ?_
          rintro r wx ⟨rfl, rfl⟩
          go_wp2_with fail
          refine (BG _).out.mono ?_
          rintro r wx ⟨rfl, rfl⟩
          go_wp2_with (at_builtin; refine wpList_append_lies _ rfl _ _ 25 rfl w.heap.size 3 i0 (.int .i64 0) 1 8 Tryz.underlying25 hi hz0 hz1 hz2 rfl (by decide) _ _ _ rfl (World.ownsRow.alloc HL.out.at_.ra _) ⟨wr.heap.size, 0, none⟩ 1 1 [.int .i64 base] rfl rfl (one_new _ _ _) one_cell (by omega) (by unfold maxLen; omega) (by omega) (by simp; omega) (wr.heap.size + 1) (by simp) ?_)
          intro q3 c3 w3 hown3 hg3 hat3 _
          have L3 := Lib.hid (HL.out.at_.pushA (x := base) (by rw [List.map_map]; exact hown3) hg3 hat3)
          have hle3 := L3.out.le
          clear hown3 hg3 hat3
          go_wp2_with (at_builtin; refine wpList_append_lies _ rfl _ _ 22 rfl w.heap.size 39 i1 (.int .i64 0) 1 8 Tryz.underlying22 hj hy0 hy1 hy2 rfl (by decide) _ _ _ rfl (World.ownsRow.alloc L3.out.rb _) ⟨w3.heap.size, 0, none⟩ 1 1 [.int .i64 10] rfl rfl (one_new _ _ _) one_cell (by omega) (by unfold maxLen; omega) (by omega) (by simp; omega) (w3.heap.size + 1) (by simp) ?_)
          intro q4 c4 w4 hown4 hg4 hat4 _
          have L4 := Lib.hid (L3.out.pushB (x := 10) (by rw [List.map_map]; exact hown4) hg4 hat4)
          clear hown4 hg4 hat4
          go_wp2_with fail
          refine (FR _).out.mono ?_
          rintro r w5 ⟨mb5, g5, cap5, rfl, hm5, hb5'⟩
          have L5 := Lib.hid (L4.out.anew hm5 hb5')
          clear hm5 hb5'
          go_wp2_with fail
          go_roundw
          case rel => exact ⟨k + 1, ps ++ [(base, 10)], mb5, g5, cap5, M.fresh base, by omega, by go_num, rfl, HL.out.step HX.out HC.out hb5 rfl rfl rfl L5.out⟩
          case measure => simp [intOf]; omega
        · have h10' : (c == 10) = false := by simp [h10]
          by_cases h22 : c = 22
          · subst h22
            obtain rfl : false = bg := HBG.out
            obtain ⟨hv0, hv1⟩ := HL.out.fit.v0
            have CL := Lib.hid (closed_any w.heap.size mb g cap m wr HL.out.at_.mach (by have := HL.out.fit.len; omega) (by have := HL.out.fit.o1; omega) hv0 (by omega) HL.out.fit.ok.cnt)
            clear hv0 hv1
            go_wp2_with fail
            refine (KN _).out.mono ?_
            rintro r wx ⟨rfl, rfl⟩
            go_wp2_with fail
            refine (RM _).out.mono ?_
            rintro r wx ⟨rfl, rfl⟩
            go_wp2_with fail
            refine (BG _).out.mono ?_
            rintro r wx ⟨rfl, rfl⟩
            go_wp2_with fail
            refine CL.out.mono ?_
            rintro r w2 ⟨rfl, g2, cap2, hm2, hs2⟩
            have L2 := Lib.hid (HL.out.at_.turn hm2 hs2)
            have FT := Lib.hid (HL.out.fit.closed)
            clear hm2 hs2
            obtain ⟨n1, hn1, hn1k⟩ := FT.out.size
            have HT := Lib.hid (top_any w.heap.size mb g2 cap2 n1 m.closed w2 L2.out.mach hn1 (by omega))
            obtain ⟨tt, htt⟩ : ∃ t, m.closed.top = t := ⟨_, rfl⟩
            rw [htt] at HT
            have HTT := Lib.hid htt
            obtain ⟨lv, ov, iso⟩ := tt
            rw [show M.Ent.val ⟨lv, ov, iso⟩ = .agg #[.int .i64 lv, .int .i64 ov, .bool iso] from rfl] at HT
            have HN1 := Lib.hid hn1
            clear hn1 htt
            go_wp2_with fail
            refine HT.out.mono ?_
            rintro r w3 ⟨rfl, hb3'⟩
            have L3 := Lib.hid (L2.out.later hb3')
            have hle3 := L3.out.le
            clear hb3'
            go_wp2_with (at_builtin; refine wpList_append_lies _ rfl _ _ 25 rfl w.heap.size 3 i0 (.int .i64 0) 1 8 Tryz.underlying25 hi hz0 hz1 hz2 rfl (by decide) _ _ _ rfl (World.ownsRow.alloc (World.ownsRow.alloc L3.out.ra _) _) ⟨w3.heap.size + 1, 0, none⟩ 1 1 [.int .i64 lv] rfl rfl (by have q := one_new (w3.alloc (.cells #[.int .i64 lv, .int .i64 ov, .bool iso] 142)) (.int .i64 lv) 3; simpa using q) one_cell (by omega) (by unfold maxLen; omega) (by omega) (by simp; omega) (w3.heap.size + 1 + 1) (by simp) ?_)
            intro q4 c4 w4 hown4 hg4 hat4 _
            have L4 := Lib.hid ((L3.out.later (w3 := w3.alloc (.cells #[.int .i64 lv, .int .i64 ov, .bool iso] 142)) ((Below.refl _ _).alloc (Nat.le_refl _) _)).pushA (x := lv) (by rw [List.map_map]; exact hown4) hg4 (by rcases hat4 with h | h; exact .inl h; exact .inr (by simp; omega)))
            have z1 : w4.cell? ⟨w3.heap.size, 1, none⟩ = some (.int .i64 ov) := by
              have q : w4.heap[w3.heap.size]? = (w3.alloc (.cells #[.int .i64 lv, .int .i64 ov, .bool iso] 142)).heap[w3.heap.size]? := (hg4.block w3.heap.size (by simp; omega) (fun e => by have := (World.ownsRow.lt L3.out.ra _ e.symm).2; omega)).trans (Below.heap_alloc _ _ _ (by simp))
              rw [World.cell?_of_block (a := ⟨w3.heap.size, 1, none⟩) q]
              simp [go_sem]
            have hle4 := L4.out.le
            clear hown4 hg4 hat4
            by_cases hov : ov = 13
            · subst hov
              go_wp2_with (at_builtin; refine wpList_append_lies _ rfl _ _ 22 rfl w.heap.size 39 i1 (.int .i64 0) 1 8 Tryz.underlying22 hj hy0 hy1 hy2 rfl (by decide) _ _ _ rfl (World.ownsRow.alloc L4.out.rb _) ⟨w4.heap.size, 0, none⟩ 1 1 [.int .i64 22] rfl rfl (one_new _ _ _) one_cell (by omega) (by unfold maxLen; omega) (by omega) (by simp; omega) (w4.heap.size + 1) (by simp) ?_)
              intro q5 c5 w5 hown5 hg5 hat5 _
              have L5 := Lib.hid (L4.out.pushB (x := 22) (by rw [List.map_map]; exact hown5) hg5 hat5)
              have hle5 := L5.out.le
              clear hown5 hg5 hat5 z1
              go_wp2_with fail
              go_roundw
              case rel => exact ⟨k + 1, ps ++ [(lv, 22)], mb, g2, cap2, m.closed, by omega, by go_num, rfl, HL.out.step HX.out HC.out hb5 (M.lev_at HRM.out (show (22 : Int) ≠ 10 by decide) (show m.at_ 22 = m.closed from rfl) HTT.out) (M.cls_off rfl HRM.out (show (22 : Int) ≠ 10 by decide) (show m.at_ 22 = m.closed from rfl) HTT.out) rfl L5.out⟩
              case measure => simp [intOf]; omega
            · have hov' : (ov != 13) = true := by simp [hov]
              go_wp2_with (at_builtin; refine wpList_append_lies _ rfl _ _ 22 rfl w.heap.size 39 i1 (.int .i64 0) 1 8 Tryz.underlying22 hj hy0 hy1 hy2 rfl (by decide) _ _ _ rfl (World.ownsRow.alloc L4.out.rb _) ⟨w4.heap.size, 0, none⟩ 1 1 [.int .i64 ov] rfl rfl (one_new _ _ _) one_cell (by omega) (by unfold maxLen; omega) (by omega) (by simp; omega) (w4.heap.size + 1) (by simp) ?_)
              intro q5 c5 w5 hown5 hg5 hat5 _
              have L5 := Lib.hid (L4.out.pushB (x := ov) (by rw [List.map_map]; exact hown5) hg5 hat5)
              have hle5 := L5.out.le
              clear hown5 hg5 hat5 z1
              go_wp2_with fail
              go_roundw
              case rel => exact ⟨k + 1, ps ++ [(lv, ov)], mb, g2, cap2, m.closed, by omega, by go_num, rfl, HL.out.step HX.out HC.out hb5 (M.lev_at HRM.out (show (22 : Int) ≠ 10 by decide) (show m.at_ 22 = m.closed from rfl) HTT.out) (M.cls_on hov HRM.out (show (22 : Int) ≠ 10 by decide) (show m.at_ 22 = m.closed from rfl) HTT.out) rfl L5.out⟩
              case measure => simp [intOf]; omega
          · have h22' : (c == 22) = false := by simp [h22]
            cases bg with
            | false =>
              go_wp2_with fail
              refine (KN _).out.mono ?_
              rintro r wx ⟨rfl, rfl⟩
              go_wp2_with fail
              refine (RM _).out.mono ?_
              rintro r wx ⟨rfl, rfl⟩
              go_wp2_with fail
              refine (BG _).out.mono ?_
              rintro r wx ⟨rfl, rfl⟩
              obtain ⟨n1, hn1, hn1k⟩ := HL.out.fit.size
              have HT := Lib.hid (top_any w.heap.size mb g cap n1 m wr HL.out.at_.mach hn1 (by omega))
              obtain ⟨tt, htt⟩ : ∃ t, m.top = t := ⟨_, rfl⟩
              rw [htt] at HT
              have HTT := Lib.hid htt
              obtain ⟨lv, ov, iso⟩ := tt
              rw [show M.Ent.val ⟨lv, ov, iso⟩ = .agg #[.int .i64 lv, .int .i64 ov, .bool iso] from rfl] at HT
              have HN1 := Lib.hid hn1
              clear hn1 htt
              go_wp2_with fail
              refine HT.out.mono ?_
              rintro r w3 ⟨rfl, hb3'⟩
              have L3 := Lib.hid (HL.out.at_.later hb3')
              have hle3 := L3.out.le
              clear hb3'
              go_wp2_with (at_builtin; refine wpList_append_lies _ rfl _ _ 25 rfl w.heap.size 3 i0 (.int .i64 0) 1 8 Tryz.underlying25 hi hz0 hz1 hz2 rfl (by decide) _ _ _ rfl (World.ownsRow.alloc (World.ownsRow.alloc L3.out.ra _) _) ⟨w3.heap.size + 1, 0, none⟩ 1 1 [.int .i64 lv] rfl rfl (by have q := one_new (w3.alloc (.cells #[.int .i64 lv, .int .i64 ov, .bool iso] 142)) (.int .i64 lv) 3; simpa using q) one_cell (by omega) (by unfold maxLen; omega) (by omega) (by simp; omega) (w3.heap.size + 1 + 1) (by simp) ?_)
              intro q4 c4 w4 hown4 hg4 hat4 _
              have L4 := Lib.hid ((L3.out.later (w3 := w3.alloc (.cells #[.int .i64 lv, .int .i64 ov, .bool iso] 142)) ((Below.refl _ _).alloc (Nat.le_refl _) _)).pushA (x := lv) (by rw [List.map_map]; exact hown4) hg4 (by rcases hat4 with h | h; exact .inl h; exact .inr (by simp; omega)))
              have z1 : w4.cell? ⟨w3.heap.size, 1, none⟩ = some (.int .i64 ov) := by
                have q : w4.heap[w3.heap.size]? = (w3.alloc (.cells #[.int .i64 lv, .int .i64 ov, .bool iso] 142)).heap[w3.heap.size]? := (hg4.block w3.heap.size (by simp; omega) (fun e => by have := (World.ownsRow.lt L3.out.ra _ e.symm).2; omega)).trans (Below.heap_alloc _ _ _ (by simp))
                rw [World.cell?_of_block (a := ⟨w3.heap.size, 1, none⟩) q]
                simp [go_sem]
              have hle4 := L4.out.le
              clear hown4 hg4 hat4
              by_cases hov : ov = 13
              · subst hov
                go_wp2_with (at_builtin; refine wpList_append_lies _ rfl _ _ 22 rfl w.heap.size 39 i1 (.int .i64 0) 1 8 Tryz.underlying22 hj hy0 hy1 hy2 rfl (by decide) _ _ _ rfl (World.ownsRow.alloc L4.out.rb _) ⟨w4.heap.size, 0, none⟩ 1 1 [.int .i64 c] rfl rfl (one_new _ _ _) one_cell (by omega) (by unfold maxLen; omega) (by omega) (by simp; omega) (w4.heap.size + 1) (by simp) ?_)
                intro q5 c5 w5 hown5 hg5 hat5 _
                have L5 := Lib.hid (L4.out.pushB (x := c) (by rw [List.map_map]; exact hown5) hg5 hat5)
                have hle5 := L5.out.le
                clear hown5 hg5 hat5 z1
                go_wp2_with fail
                go_roundw
                case rel => exact ⟨k + 1, ps ++ [(lv, c)], mb, g, cap, m, by omega, by go_num, rfl, HL.out.step HX.out HC.out hb5 (M.lev_at HRM.out h10 (M.at_no h22) HTT.out) (M.cls_off rfl HRM.out h10 (M.at_no h22) HTT.out) (M.turn_no HRM.out h10 h22 HBG.out) L5.out⟩
                case measure => simp [intOf]; omega
              · have hov' : (ov != 13) = true := by simp [hov]
                go_wp2_with (at_builtin; refine wpList_append_lies _ rfl _ _ 22 rfl w.heap.size 39 i1 (.int .i64 0) 1 8 Tryz.underlying22 hj hy0 hy1 hy2 rfl (by decide) _ _ _ rfl (World.ownsRow.alloc L4.out.rb _) ⟨w4.heap.size, 0, none⟩ 1 1 [.int .i64 ov] rfl rfl (one_new _ _ _) one_cell (by omega) (by unfold maxLen; omega) (by omega) (by simp; omega) (w4.heap.size + 1) (by simp) ?_)
                intro q5 c5 w5 hown5 hg5 hat5 _
                have L5 := Lib.hid (L4.out.pushB (x := ov) (by rw [List.map_map]; exact hown5) hg5 hat5)
                have hle5 := L5.out.le
                clear hown5 hg5 hat5 z1
                go_wp2_with fail
                go_roundw
                case rel => exact ⟨k + 1, ps ++ [(lv, ov)], mb, g, cap, m, by omega, by go_num, rfl, HL.out.step HX.out HC.out hb5 (M.lev_at HRM.out h10 (M.at_no h22) HTT.out) (M.cls_on hov HRM.out h10 (M.at_no h22) HTT.out) (M.turn_no HRM.out h10 h22 HBG.out) L5.out⟩
                case measure => simp [intOf]; omega
            | true =>
              go_wp2_with fail
              refine (KN _).out.mono ?_
              rintro r wx ⟨rfl, rfl⟩
              go_wp2_with fail
              refine (RM _).out.mono ?_
              rintro r wx ⟨rfl, rfl⟩
              go_wp2_with fail
              refine (BG _).out.mono ?_
              rintro r wx ⟨rfl, rfl⟩
              obtain ⟨n1, hn1, hn1k⟩ := HL.out.fit.size
              have HT := Lib.hid (top_any w.heap.size mb g cap n1 m wr HL.out.at_.mach hn1 (by omega))
              obtain ⟨tt, htt⟩ : ∃ t, m.top = t := ⟨_, rfl⟩
              rw [htt] at HT
              have HTT := Lib.hid htt
              obtain ⟨lv, ov, iso⟩ := tt
              rw [show M.Ent.val ⟨lv, ov, iso⟩ = .agg #[.int .i64 lv, .int .i64 ov, .bool iso] from rfl] at HT
              have HN1 := Lib.hid hn1
              clear hn1 htt
              go_wp2_with fail
              refine HT.out.mono ?_
              rintro r w3 ⟨rfl, hb3'⟩
              have L3 := Lib.hid (HL.out.at_.later hb3')
              have hle3 := L3.out.le
              clear hb3'
              go_wp2_with (at_builtin; refine wpList_append_lies _ rfl _ _ 25 rfl w.heap.size 3 i0 (.int .i64 0) 1 8 Tryz.underlying25 hi hz0 hz1 hz2 rfl (by decide) _ _ _ rfl (World.ownsRow.alloc (World.ownsRow.alloc L3.out.ra _) _) ⟨w3.heap.size + 1, 0, none⟩ 1 1 [.int .i64 lv] rfl rfl (by have q := one_new (w3.alloc (.cells #[.int .i64 lv, .int .i64 ov, .bool iso] 142)) (.int .i64 lv) 3; simpa using q) one_cell (by omega) (by unfold maxLen; omega) (by omega) (by simp; omega) (w3.heap.size + 1 + 1) (by simp) ?_)
              intro q4 c4 w4 hown4 hg4 hat4 _
              have L4 := Lib.hid ((L3.out.later (w3 := w3.alloc (.cells #[.int .i64 lv, .int .i64 ov, .bool iso] 142)) ((Below.refl _ _).alloc (Nat.le_refl _) _)).pushA (x := lv) (by rw [List.map_map]; exact hown4) hg4 (by rcases hat4 with h | h; exact .inl h; exact .inr (by simp; omega)))
              have z1 : w4.cell? ⟨w3.heap.size, 1, none⟩ = some (.int .i64 ov) := by
                have q : w4.heap[w3.heap.size]? = (w3.alloc (.cells #[.int .i64 lv, .int .i64 ov, .bool iso] 142)).heap[w3.heap.size]? := (hg4.block w3.heap.size (by simp; omega) (fun e => by have := (World.ownsRow.lt L3.out.ra _ e.symm).2; omega)).trans (Below.heap_alloc _ _ _ (by simp))
                rw [World.cell?_of_block (a := ⟨w3.heap.size, 1, none⟩) q]
                simp [go_sem]
              have hle4 := L4.out.le
              clear hown4 hg4 hat4
              by_cases hov : ov = 13
              · subst hov
                go_wp2_with (at_builtin; refine wpList_append_lies _ rfl _ _ 22 rfl w.heap.size 39 i1 (.int .i64 0) 1 8 Tryz.underlying22 hj hy0 hy1 hy2 rfl (by decide) _ _ _ rfl (World.ownsRow.alloc L4.out.rb _) ⟨w4.heap.size, 0, none⟩ 1 1 [.int .i64 c] rfl rfl (one_new _ _ _) one_cell (by omega) (by unfold maxLen; omega) (by omega) (by simp; omega) (w4.heap.size + 1) (by simp) ?_)
                intro q5 c5 w5 hown5 hg5 hat5 _
                have L5 := Lib.hid (L4.out.pushB (x := c) (by rw [List.map_map]; exact hown5) hg5 hat5)
                have hle5 := L5.out.le
                clear hown5 hg5 hat5 z1
                by_cases h20 : c = 20
                · subst h20
                  have HI := Lib.hid (isolate_any w.heap.size mb g cap n1 m 1 w5 L5.out.mach HN1.out (by omega) (HL.out.fit.top hb4).1 (HL.out.fit.top hb4).2 HL.out.fit.ok.o0 (by have := HL.out.fit.o1; omega) HL.out.fit.v0.1 (by have := HL.out.fit.v0.2; omega))
                  go_wp2_with fail
                  refine HI.out.mono ?_
                  rintro r w6 ⟨rfl, g6, cap6, hm6, hs6⟩
                  have L6 := Lib.hid (L5.out.turn hm6 hs6)
                  clear hm6 hs6
                  go_wp2_with fail
                  go_roundw
                  case rel => exact ⟨k + 1, ps ++ [(lv, 20)], mb, g6, cap6, m.isolate 1, by omega, by go_num, rfl, HL.out.step HX.out HC.out hb5 (M.lev_at HRM.out h10 (M.at_no h22) HTT.out) (M.cls_off rfl HRM.out h10 (M.at_no h22) HTT.out) (M.turn_yes HRM.out h10 h22 HBG.out rfl) L6.out⟩
                  case measure => simp [intOf]; omega
                · have h20' : (c == 20) = false := by simp [h20]
                  by_cases h21 : c = 21
                  · subst h21
                    have HBT := Lib.hid (between_any (some ad) ca n k l x w5 ((HR.out.below L5.out.below).more hle5) HN.out hl HCA.out HX.out (by rw [← M.known_begins, HC.out]; rfl))
                    have HLN := Lib.hid (M.betw_len l k)
                    have HD := Lib.hid (show M.dir 21 (l.drop (k + 1)) = M.strong (M.betw l k) from rfl)
                    go_wp2_with fail
                    refine HBT.out.mono ?_
                    rintro r wx ⟨A2, c2, rfl, hr2, rfl⟩
                    have HS2 := Lib.hid (strong_any A2 c2 _ (M.betw l k) w5 hr2 rfl (by have := HLN.out; have := HN.out; omega))
                    obtain ⟨st, hst⟩ : ∃ st, M.strong (M.betw l k) = st := ⟨_, rfl⟩
                    rw [hst] at HS2 HD
                    have H01 := Lib.hid (show st = 0 ∨ st = 1 from hst ▸ M.strong_01 _ _)
                    clear hst hr2
                    go_wp2_with fail
                    refine HS2.out.mono ?_
                    rintro r wx ⟨rfl, rfl⟩
                    by_cases hs1 : st = 1
                    · subst hs1
                      have HI := Lib.hid (isolate_any w.heap.size mb g cap n1 m 1 w5 L5.out.mach HN1.out (by omega) (HL.out.fit.top hb4).1 (HL.out.fit.top hb4).2 HL.out.fit.ok.o0 (by have := HL.out.fit.o1; omega) HL.out.fit.v0.1 (by have := HL.out.fit.v0.2; omega))
                      go_wp2_with fail
                      refine HI.out.mono ?_
                      rintro r w6 ⟨rfl, g6, cap6, hm6, hs6⟩
                      have L6 := Lib.hid (L5.out.turn hm6 hs6)
                      clear hm6 hs6
                      go_wp2_with fail
                      go_roundw
                      case rel => exact ⟨k + 1, ps ++ [(lv, 21)], mb, g6, cap6, m.isolate 1, by omega, by go_num, rfl, HL.out.step HX.out HC.out hb5 (M.lev_at HRM.out h10 (M.at_no h22) HTT.out) (M.cls_off rfl HRM.out h10 (M.at_no h22) HTT.out) (M.turn_yes HRM.out h10 h22 HBG.out HD.out) L6.out⟩
                      case measure => simp [intOf]; omega
                    · have hs1' : (st == 1) = false := by simp [hs1]
                      have hs0 : st = 0 := by rcases H01.out with h | h; exact h; exact absurd h hs1
                      subst hs0
                      have HI := Lib.hid (isolate_any w.heap.size mb g cap n1 m 0 w5 L5.out.mach HN1.out (by omega) (HL.out.fit.top hb4).1 (HL.out.fit.top hb4).2 HL.out.fit.ok.o0 (by have := HL.out.fit.o1; omega) HL.out.fit.v0.1 (by have := HL.out.fit.v0.2; omega))
                      go_wp2_with fail
                      refine HI.out.mono ?_
                      rintro r w6 ⟨rfl, g6, cap6, hm6, hs6⟩
                      have L6 := Lib.hid (L5.out.turn hm6 hs6)
                      clear hm6 hs6
                      go_wp2_with fail
                      go_roundw
                      case rel => exact ⟨k + 1, ps ++ [(lv, 21)], mb, g6, cap6, m.isolate 0, by omega, by go_num, rfl, HL.out.step HX.out HC.out hb5 (M.lev_at HRM.out h10 (M.at_no h22) HTT.out) (M.cls_off rfl HRM.out h10 (M.at_no h22) HTT.out) (M.turn_yes HRM.out h10 h22 HBG.out HD.out) L6.out⟩
                      case measure => simp [intOf]; omega
                  · have h21' : (c == 21) = false := by simp [h21]
                    have HI := Lib.hid (isolate_any w.heap.size mb g cap n1 m 0 w5 L5.out.mach HN1.out (by omega) (HL.out.fit.top hb4).1 (HL.out.fit.top hb4).2 HL.out.fit.ok.o0 (by have := HL.out.fit.o1; omega) HL.out.fit.v0.1 (by have := HL.out.fit.v0.2; omega))
                    go_wp2_with fail
                    refine HI.out.mono ?_
                    rintro r w6 ⟨rfl, g6, cap6, hm6, hs6⟩
                    have L6 := Lib.hid (L5.out.turn hm6 hs6)
                    clear hm6 hs6
                    go_wp2_with fail
                    go_roundw
                    case rel => exact ⟨k + 1, ps ++ [(lv, c)], mb, g6, cap6, m.isolate 0, by omega, by go_num, rfl, HL.out.step HX.out HC.out hb5 (M.lev_at HRM.out h10 (M.at_no h22) HTT.out) (M.cls_off rfl HRM.out h10 (M.at_no h22) HTT.out) (M.turn_yes HRM.out h10 h22 HBG.out (by unfold M.dir; rw [if_neg h20, if_neg h21])) L6.out⟩
                    case measure => simp [intOf]; omega
              · have hov' : (ov != 13) = true := by simp [hov]
                go_wp2_with (at_builtin; refine wpList_append_lies _ rfl _ _ 22 rfl w.heap.size 39 i1 (.int .i64 0) 1 8 Tryz.underlying22 hj hy0 hy1 hy2 rfl (by decide) _ _ _ rfl (World.ownsRow.alloc L4.out.rb _) ⟨w4.heap.size, 0, none⟩ 1 1 [.int .i64 ov] rfl rfl (one_new _ _ _) one_cell (by omega) (by unfold maxLen; omega) (by omega) (by simp; omega) (w4.heap.size + 1) (by simp) ?_)
                intro q5 c5 w5 hown5 hg5 hat5 _
                have L5 := Lib.hid (L4.out.pushB (x := ov) (by rw [List.map_map]; exact hown5) hg5 hat5)
                have hle5 := L5.out.le
                clear hown5 hg5 hat5 z1
                by_cases h20 : c = 20
                · subst h20
                  have HI := Lib.hid (isolate_any w.heap.size mb g cap n1 m 1 w5 L5.out.mach HN1.out (by omega) (HL.out.fit.top hb4).1 (HL.out.fit.top hb4).2 HL.out.fit.ok.o0 (by have := HL.out.fit.o1; omega) HL.out.fit.v0.1 (by have := HL.out.fit.v0.2; omega))
                  go_wp2_with fail
                  refine HI.out.mono ?_
                  rintro r w6 ⟨rfl, g6, cap6, hm6, hs6⟩
                  have L6 := Lib.hid (L5.out.turn hm6 hs6)
                  clear hm6 hs6
                  go_wp2_with fail
                  go_roundw
                  case rel => exact ⟨k + 1, ps ++ [(lv, ov)], mb, g6, cap6, m.isolate 1, by omega, by go_num, rfl, HL.out.step HX.out HC.out hb5 (M.lev_at HRM.out h10 (M.at_no h22) HTT.out) (M.cls_on hov HRM.out h10 (M.at_no h22) HTT.out) (M.turn_yes HRM.out h10 h22 HBG.out rfl) L6.out⟩
                  case measure => simp [intOf]; omega
                · have h20' : (c == 20) = false := by simp [h20]
                  by_cases h21 : c = 21
                  · subst h21
                    have HBT := Lib.hid (between_any (some ad) ca n k l x w5 ((HR.out.below L5.out.below).more hle5) HN.out hl HCA.out HX.out (by rw [← M.known_begins, HC.out]; rfl))
                    have HLN := Lib.hid (M.betw_len l k)
                    have HD := Lib.hid (show M.dir 21 (l.drop (k + 1)) = M.strong (M.betw l k) from rfl)
                    go_wp2_with fail
                    refine HBT.out.mono ?_
                    rintro r wx ⟨A2, c2, rfl, hr2, rfl⟩
                    have HS2 := Lib.hid (strong_any A2 c2 _ (M.betw l k) w5 hr2 rfl (by have := HLN.out; have := HN.out; omega))
                    obtain ⟨st, hst⟩ : ∃ st, M.strong (M.betw l k) = st := ⟨_, rfl⟩
                    rw [hst] at HS2 HD
                    have H01 := Lib.hid (show st = 0 ∨ st = 1 from hst ▸ M.strong_01 _ _)
                    clear hst hr2
                    go_wp2_with fail
                    refine HS2.out.mono ?_
                    rintro r wx ⟨rfl, rfl⟩
                    by_cases hs1 : st = 1
                    · subst hs1
                      have HI := Lib.hid (isolate_any w.heap.size mb g cap n1 m 1 w5 L5.out.mach HN1.out (by omega) (HL.out.fit.top hb4).1 (HL.out.fit.top hb4).2 HL.out.fit.ok.o0 (by have := HL.out.fit.o1; omega) HL.out.fit.v0.1 (by have := HL.out.fit.v0.2; omega))
                      go_wp2_with fail
                      refine HI.out.mono ?_
                      rintro r w6 ⟨rfl, g6, cap6, hm6, hs6⟩
                      have L6 := Lib.hid (L5.out.turn hm6 hs6)
                      clear hm6 hs6
                      go_wp2_with fail
                      go_roundw
                      case rel => exact ⟨k + 1, ps ++ [(lv, ov)], mb, g6, cap6, m.isolate 1, by omega, by go_num, rfl, HL.out.step HX.out HC.out hb5 (M.lev_at HRM.out h10 (M.at_no h22) HTT.out) (M.cls_on hov HRM.out h10 (M.at_no h22) HTT.out) (M.turn_yes HRM.out h10 h22 HBG.out HD.out) L6.out⟩
                      case measure => simp [intOf]; omega
                    · have hs1' : (st == 1) = false := by simp [hs1]
                      have hs0 : st = 0 := by rcases H01.out with h | h; exact h; exact absurd h hs1
                      subst hs0
                      have HI := Lib.hid (isolate_any w.heap.size mb g cap n1 m 0 w5 L5.out.mach HN1.out (by omega) (HL.out.fit.top hb4).1 (HL.out.fit.top hb4).2 HL.out.fit.ok.o0 (by have := HL.out.fit.o1; omega) HL.out.fit.v0.1 (by have := HL.out.fit.v0.2; omega))
                      go_wp2_with fail
                      refine HI.out.mono ?_
                      rintro r w6 ⟨rfl, g6, cap6, hm6, hs6⟩
                      have L6 := Lib.hid (L5.out.turn hm6 hs6)
                      clear hm6 hs6
                      go_wp2_with fail
                      go_roundw
                      case rel => exact ⟨k + 1, ps ++ [(lv, ov)], mb, g6, cap6, m.isolate 0, by omega, by go_num, rfl, HL.out.step HX.out HC.out hb5 (M.lev_at HRM.out h10 (M.at_no h22) HTT.out) (M.cls_on hov HRM.out h10 (M.at_no h22) HTT.out) (M.turn_yes HRM.out h10 h22 HBG.out HD.out) L6.out⟩
                      case measure => simp [intOf]; omega
                  · have h21' : (c == 21) = false := by simp [h21]
                    have HI := Lib.hid (isolate_any w.heap.size mb g cap n1 m 0 w5 L5.out.mach HN1.out (by omega) (HL.out.fit.top hb4).1 (HL.out.fit.top hb4).2 HL.out.fit.ok.o0 (by have := HL.out.fit.o1; omega) HL.out.fit.v0.1 (by have := HL.out.fit.v0.2; omega))
                    go_wp2_with fail
                    refine HI.out.mono ?_
                    rintro r w6 ⟨rfl, g6, cap6, hm6, hs6⟩
                    have L6 := Lib.hid (L5.out.turn hm6 hs6)
                    clear hm6 hs6
                    go_wp2_with fail
                    go_roundw
                    case rel => exact ⟨k + 1, ps ++ [(lv, ov)], mb, g6, cap6, m.isolate 0, by omega, by go_num, rfl, HL.out.step HX.out HC.out hb5 (M.lev_at HRM.out h10 (M.at_no h22) HTT.out) (M.cls_on hov HRM.out h10 (M.at_no h22) HTT.out) (M.turn_yes HRM.out h10 h22 HBG.out (by unfold M.dir; rw [if_neg h20, if_neg h21])) L6.out⟩
                    case measure => simp [intOf]; omega
    · obtain rfl : k = n := by omega
      go_wp2_with fail
      go_returns
      have h1 := HL.out.run
      rw [List.drop_eq_nil_of_le (by rw [HN.out]; exact Nat.le_refl _)] at h1
      rw [HE.out, h1]
      have h2 := HL.out.at_
      have h3 := HL.out.len
      have h4 : ps ++ M.run base m [] = ps := by simp [M.run]
      rw [h4]
      exact ⟨_, _, rfl, by rw [h3]; exact h2.ra, by rw [h3]; exact h2.rb, h2.below⟩
set_option maxRecDepth 8000 in
set_option maxHeartbeats 8000000 in
theorem lev_neg (A : Option Addr) (ca n : Nat) (l : List Int) (w : World) (hr : RdS .i64 w w.heap.size A l) (hn : l.length = n) (hl : n ≤ 1000) (hca : n ≤ ca) :
    Calls Tryz.prog 45 #[.slice A n ca, .int .i64 (-1)] w (LevOut (M.levels l (-1)) w) := by
  obtain ⟨i0, hi, hz0, hz1, hz2⟩ := info_parts Tryz.infoInt
  obtain ⟨i1, hj, hy0, hy1, hy2⟩ := info_parts Tryz.infoCls
  have HSB := Lib.hid (strong_any A ca n l w hr hn hl)
  have HR := Lib.hid hr
  have HN := Lib.hid hn
  have HCA := Lib.hid hca
  have hl1 : (n : Int) ≤ 1000 := by omega
  clear hr hn hca
  go_enter Tryz.func45, Tryz.ntmps45
  obtain ⟨st0, hst0⟩ : ∃ st0, M.strong l = st0 := ⟨_, rfl⟩
  have h01 : st0 = 0 ∨ st0 = 1 := hst0 ▸ M.strong_01 _ _
  have HE := Lib.hid (show M.levels l (-1) = some (M.run st0 (M.fresh st0) l) by rw [← hst0]; unfold M.levels; rw [if_neg (by omega), if_pos (by omega)])
  have hb4 : 0 ≤ st0 := by omega
  have hb5 : st0 ≤ 125 := by omega
  rw [hst0] at HSB
  clear hst0 h01
  have HF := Lib.hid (fresh_any st0 w)
  go_wp2_with fail
  refine HSB.out.mono ?_
  rintro r wx ⟨rfl, rfl⟩
  go_wp2_with fail
  refine HF.out.mono ?_
  rintro r w1 ⟨mb0, g0, cap0, rfl, hm0, hbl0⟩
  have H0 := Lib.hid (show LvRel st0 l w.heap.size w w1 (.slice none 0 0) (.slice none 0 0) 0 [] mb0 g0 cap0 (M.fresh st0) from
    ⟨rfl, rfl, M.fresh_fit hb5 0, ⟨hbl0, World.ownsRow_nil _ _ _ _, World.ownsRow_nil _ _ _ _, hm0, by simp [Value.ownBlock], by simp [Value.ownBlock], by simp [Value.ownBlock], by simp [Value.ownBlock], by simp [Value.ownBlock]⟩⟩)
  clear hm0 hbl0
  go_wp2_with fail
  go_loopw [7, 8, 9, 10] (fun va vb vm i wr => ∃ k ps mb g cap m, k ≤ n ∧ i = .int .i64 (k : Nat) ∧ vm = .pointer (some ⟨mb, 0, none⟩) ∧ LvRel st0 l w.heap.size w wr va vb k ps mb g cap m) (fun _ _ _ i _ => n - (intOf i).toNat)
  case atStart => exact ⟨0, [], mb0, g0, cap0, _, Nat.zero_le _, rfl, rfl, H0.out⟩
  case round =>
    obtain ⟨k, ps, mb, g, cap, m, hk, rfl, rfl, hrel⟩ := hrel
    have HL := Lib.hid hrel
    clear hrel
    by_cases hlt : k < n
    · obtain ⟨ad, x, hA, hcc, hx, -⟩ := rd_at HR.out HL.out.at_.below (by rw [HN.out]; exact hlt : k < l.length)
      subst hA
      have hk0 : (0 : Int) ≤ (k : Int) := by omega
      have hk1 : (k : Int) < (n : Int) := by omega
      obtain ⟨c, hc⟩ : ∃ c, M.known x = c := ⟨_, rfl⟩
      have KN : ∀ W, Hid (Calls Tryz.prog 86 #[.int .i64 x] W fun r w' => r = .returned (.int .i64 c) ∧ W = w') := fun W => Lib.hid (by have q := known_any x W; rw [hc] at q; exact q)
      obtain ⟨bg, hbg⟩ : ∃ bg, M.begins c = bg := ⟨_, rfl⟩
      have BG : ∀ W, Hid (Calls Tryz.prog 17 #[.int .i64 c] W fun r w' => r = .returned (.bool bg) ∧ W = w') := fun W => Lib.hid (by have q := begins_any c W; rw [hbg] at q; exact q)
      obtain ⟨rm, hrm⟩ : ∃ rm, M.removed c = rm := ⟨_, rfl⟩
      have RM : ∀ W, Hid (Calls Tryz.prog 20 #[.int .i64 c] W fun r w' => r = .returned (.bool rm) ∧ W = w') := fun W => Lib.hid (by have q := removed_any c W; rw [hrm] at q; exact q)
      have HX := Lib.hid hx
      have HC := Lib.hid hc
      have HRM := Lib.hid hrm
      have HBG := Lib.hid hbg
      clear hx hc hbg hrm
      have hle := HL.out.at_.le
      cases rm with
      | true =>
        have HD := Lib.hid (does_any w.heap.size mb g cap k m st0 c wr HL.out.at_.mach HL.out.fit (by omega) hb4)
        go_wp2_with fail
        refine (KN _).out.mono ?_
        rintro r wx ⟨rfl, rfl⟩
        go_wp2_with fail
        refine (RM _).out.mono ?_
        rintro r wx ⟨rfl, rfl⟩
        go_wp2_with fail
        refine (BG _).out.mono ?_
        rintro r wx ⟨rfl, rfl⟩
        go_wp2_with fail
        refine HD.out.mono ?_
        rintro r w2 ⟨rfl, g2, cap2, hm2, hs2⟩
        have L2 := Lib.hid (HL.out.at_.turn hm2 hs2)
        have hle2 := L2.out.le
        clear hm2 hs2
        go_wp2_with (at_builtin; refine wpList_append_lies _ rfl _ _ 25 rfl w.heap.size 3 i0 (.int .i64 0) 1 8 Tryz.underlying25 hi hz0 hz1 hz2 rfl (by decide) _ _ _ rfl (World.ownsRow.alloc L2.out.ra _) ⟨w2.heap.size, 0, none⟩ 1 1 [.int .i64 (-1)] rfl rfl (one_new _ _ _) one_cell (by omega) (by unfold maxLen; omega) (by omega) (by simp; omega) (w2.heap.size + 1) (by simp) ?_)
        intro q3 c3 w3 hown3 hg3 hat3 _
        have L3 := Lib.hid (L2.out.pushA (x := -1) (by rw [List.map_map]; exact hown3) hg3 hat3)
        have hle3 := L3.out.le
        clear hown3 hg3 hat3
        go_wp2_with (at_builtin; refine wpList_append_lies _ rfl _ _ 22 rfl w.heap.size 39 i1 (.int .i64 0) 1 8 Tryz.underlying22 hj hy0 hy1 hy2 rfl (by decide) _ _ _ rfl (World.ownsRow.alloc L3.out.rb _) ⟨w3.heap.size, 0, none⟩ 1 1 [.int .i64 c] rfl rfl (one_new _ _ _) one_cell (by omega) (by unfold maxLen; omega) (by omega) (by simp; omega) (w3.heap.size + 1) (by simp) ?_)
        intro q4 c4 w4 hown4 hg4 hat4 _
        have L4 := Lib.hid (L3.out.pushB (x := c) (by rw [List.map_map]; exact hown4) hg4 hat4)
        clear hown4 hg4 hat4
        go_wp2_with fail
        go_roundw
        case rel => exact ⟨k + 1, ps ++ [(-1, c)], mb, g2, cap2, m.does c, by omega, by go_num, rfl, HL.out.step HX.out HC.out hb5 (by unfold M.Mc.lev; rw [if_pos HRM.out]) (by unfold M.Mc.cls; rw [if_pos HRM.out]) (by unfold M.Mc.turn; rw [if_pos HRM.out]) L4.out⟩
        case measure => simp [intOf]; omega
      | false =>
        by_cases h10 : c = 10
        · subst h10
          obtain rfl : false = bg := HBG.out
          have FR := fun W => Lib.hid (fresh_any st0 W)
          go_wp2_with fail
          refine (KN _).out.mono ?_
          rintro r wx ⟨rfl, rfl⟩
          go_wp2_with fail
          refine (RM _).out.mono ?_
          rintro r wx ⟨rfl, rfl⟩
          go_wp2_with fail
          refine (BG _).out.mono ?_
          rintro r wx ⟨rfl, rfl⟩
          go_wp2_with (at_builtin; refine wpList_append_lies _ rfl _ _ 25 rfl w.heap.size 3 i0 (.int .i64 0) 1 8 Tryz.underlying25 hi hz0 hz1 hz2 rfl (by decide) _ _ _ rfl (World.ownsRow.alloc HL.out.at_.ra _) ⟨wr.heap.size, 0, none⟩ 1 1 [.int .i64 st0] rfl rfl (one_new _ _ _) one_cell (by omega) (by unfold maxLen; omega) (by omega) (by simp; omega) (wr.heap.size + 1) (by simp) ?_)
          intro q3 c3 w3 hown3 hg3 hat3 _
          have L3 := Lib.hid (HL.out.at_.pushA (x := st0) (by rw [List.map_map]; exact hown3) hg3 hat3)
          have hle3 := L3.out.le
          clear hown3 hg3 hat3
          go_wp2_with (at_builtin; refine wpList_append_lies _ rfl _ _ 22 rfl w.heap.size 39 i1 (.int .i64 0) 1 8 Tryz.underlying22 hj hy0 hy1 hy2 rfl (by decide) _ _ _ rfl (World.ownsRow.alloc L3.out.rb _) ⟨w3.heap.size, 0, none⟩ 1 1 [.int .i64 10] rfl rfl (one_new _ _ _) one_cell (by omega) (by unfold maxLen; omega) (by omega) (by simp; omega) (w3.heap.size + 1) (by simp) ?_)
          intro q4 c4 w4 hown4 hg4 hat4 _
          have L4 := Lib.hid (L3.out.pushB (x := 10) (by rw [List.map_map]; exact hown4) hg4 hat4)
          clear hown4 hg4 hat4
          go_wp2_with fail
          refine (FR _).out.mono ?_
          rintro r w5 ⟨mb5, g5, cap5, rfl, hm5, hb5'⟩
          have L5 := Lib.hid (L4.out.anew hm5 hb5')
          clear hm5 hb5'
          go_wp2_with fail
          go_roundw
          case rel => exact ⟨k + 1, ps ++ [(st0, 10)], mb5, g5, cap5, M.fresh st0, by omega, by go_num, rfl, HL.out.step HX.out HC.out hb5 rfl rfl rfl L5.out⟩
          case measure => simp [intOf]; omega
        · have h10' : (c == 10) = false := by simp [h10]
          by_cases h22 : c = 22
          · subst h22
            obtain rfl : false = bg := HBG.out
            obtain ⟨hv0, hv1⟩ := HL.out.fit.v0
            have CL := Lib.hid (closed_any w.heap.size mb g cap m wr HL.out.at_.mach (by have := HL.out.fit.len; omega) (by have := HL.out.fit.o1; omega) hv0 (by omega) HL.out.fit.ok.cnt)
            clear hv0 hv1
            go_wp2_with fail
            refine (KN _).out.mono ?_
            rintro r wx ⟨rfl, rfl⟩
            go_wp2_with fail
            refine (RM _).out.mono ?_
            rintro r wx ⟨rfl, rfl⟩
            go_wp2_with fail
            refine (BG _).out.mono ?_
            rintro r wx ⟨rfl, rfl⟩
            go_wp2_with fail
            refine CL.out.mono ?_
            rintro r w2 ⟨rfl, g2, cap2, hm2, hs2⟩
            have L2 := Lib.hid (HL.out.at_.turn hm2 hs2)
            have FT := Lib.hid (HL.out.fit.closed)
            clear hm2 hs2
            obtain ⟨n1, hn1, hn1k⟩ := FT.out.size
            have HT := Lib.hid (top_any w.heap.size mb g2 cap2 n1 m.closed w2 L2.out.mach hn1 (by omega))
            obtain ⟨tt, htt⟩ : ∃ t, m.closed.top = t := ⟨_, rfl⟩
            rw [htt] at HT
            have HTT := Lib.hid htt
            obtain ⟨lv, ov, iso⟩ := tt
            rw [show M.Ent.val ⟨lv, ov, iso⟩ = .agg #[.int .i64 lv, .int .i64 ov, .bool iso] from rfl] at HT
            have HN1 := Lib.hid hn1
            clear hn1 htt
            go_wp2_with fail
            refine HT.out.mono ?_
            rintro r w3 ⟨rfl, hb3'⟩
            have L3 := Lib.hid (L2.out.later hb3')
            have hle3 := L3.out.le
            clear hb3'
            go_wp2_with (at_builtin; refine wpList_append_lies _ rfl _ _ 25 rfl w.heap.size 3 i0 (.int .i64 0) 1 8 Tryz.underlying25 hi hz0 hz1 hz2 rfl (by decide) _ _ _ rfl (World.ownsRow.alloc (World.ownsRow.alloc L3.out.ra _) _) ⟨w3.heap.size + 1, 0, none⟩ 1 1 [.int .i64 lv] rfl rfl (by have q := one_new (w3.alloc (.cells #[.int .i64 lv, .int .i64 ov, .bool iso] 142)) (.int .i64 lv) 3; simpa using q) one_cell (by omega) (by unfold maxLen; omega) (by omega) (by simp; omega) (w3.heap.size + 1 + 1) (by simp) ?_)
            intro q4 c4 w4 hown4 hg4 hat4 _
            have L4 := Lib.hid ((L3.out.later (w3 := w3.alloc (.cells #[.int .i64 lv, .int .i64 ov, .bool iso] 142)) ((Below.refl _ _).alloc (Nat.le_refl _) _)).pushA (x := lv) (by rw [List.map_map]; exact hown4) hg4 (by rcases hat4 with h | h; exact .inl h; exact .inr (by simp; omega)))
            have z1 : w4.cell? ⟨w3.heap.size, 1, none⟩ = some (.int .i64 ov) := by
              have q : w4.heap[w3.heap.size]? = (w3.alloc (.cells #[.int .i64 lv, .int .i64 ov, .bool iso] 142)).heap[w3.heap.size]? := (hg4.block w3.heap.size (by simp; omega) (fun e => by have := (World.ownsRow.lt L3.out.ra _ e.symm).2; omega)).trans (Below.heap_alloc _ _ _ (by simp))
              rw [World.cell?_of_block (a := ⟨w3.heap.size, 1, none⟩) q]
              simp [go_sem]
            have hle4 := L4.out.le
            clear hown4 hg4 hat4
            by_cases hov : ov = 13
            · subst hov
              go_wp2_with (at_builtin; refine wpList_append_lies _ rfl _ _ 22 rfl w.heap.size 39 i1 (.int .i64 0) 1 8 Tryz.underlying22 hj hy0 hy1 hy2 rfl (by decide) _ _ _ rfl (World.ownsRow.alloc L4.out.rb _) ⟨w4.heap.size, 0, none⟩ 1 1 [.int .i64 22] rfl rfl (one_new _ _ _) one_cell (by omega) (by unfold maxLen; omega) (by omega) (by simp; omega) (w4.heap.size + 1) (by simp) ?_)
              intro q5 c5 w5 hown5 hg5 hat5 _
              have L5 := Lib.hid (L4.out.pushB (x := 22) (by rw [List.map_map]; exact hown5) hg5 hat5)
              have hle5 := L5.out.le
              clear hown5 hg5 hat5 z1
              go_wp2_with fail
              go_roundw
              case rel => exact ⟨k + 1, ps ++ [(lv, 22)], mb, g2, cap2, m.closed, by omega, by go_num, rfl, HL.out.step HX.out HC.out hb5 (M.lev_at HRM.out (show (22 : Int) ≠ 10 by decide) (show m.at_ 22 = m.closed from rfl) HTT.out) (M.cls_off rfl HRM.out (show (22 : Int) ≠ 10 by decide) (show m.at_ 22 = m.closed from rfl) HTT.out) rfl L5.out⟩
              case measure => simp [intOf]; omega
            · have hov' : (ov != 13) = true := by simp [hov]
              go_wp2_with (at_builtin; refine wpList_append_lies _ rfl _ _ 22 rfl w.heap.size 39 i1 (.int .i64 0) 1 8 Tryz.underlying22 hj hy0 hy1 hy2 rfl (by decide) _ _ _ rfl (World.ownsRow.alloc L4.out.rb _) ⟨w4.heap.size, 0, none⟩ 1 1 [.int .i64 ov] rfl rfl (one_new _ _ _) one_cell (by omega) (by unfold maxLen; omega) (by omega) (by simp; omega) (w4.heap.size + 1) (by simp) ?_)
              intro q5 c5 w5 hown5 hg5 hat5 _
              have L5 := Lib.hid (L4.out.pushB (x := ov) (by rw [List.map_map]; exact hown5) hg5 hat5)
              have hle5 := L5.out.le
              clear hown5 hg5 hat5 z1
              go_wp2_with fail
              go_roundw
              case rel => exact ⟨k + 1, ps ++ [(lv, ov)], mb, g2, cap2, m.closed, by omega, by go_num, rfl, HL.out.step HX.out HC.out hb5 (M.lev_at HRM.out (show (22 : Int) ≠ 10 by decide) (show m.at_ 22 = m.closed from rfl) HTT.out) (M.cls_on hov HRM.out (show (22 : Int) ≠ 10 by decide) (show m.at_ 22 = m.closed from rfl) HTT.out) rfl L5.out⟩
              case measure => simp [intOf]; omega
          · have h22' : (c == 22) = false := by simp [h22]
            cases bg with
            | false =>
              go_wp2_with fail
              refine (KN _).out.mono ?_
              rintro r wx ⟨rfl, rfl⟩
              go_wp2_with fail
              refine (RM _).out.mono ?_
              rintro r wx ⟨rfl, rfl⟩
              go_wp2_with fail
              refine (BG _).out.mono ?_
              rintro r wx ⟨rfl, rfl⟩
              obtain ⟨n1, hn1, hn1k⟩ := HL.out.fit.size
              have HT := Lib.hid (top_any w.heap.size mb g cap n1 m wr HL.out.at_.mach hn1 (by omega))
              obtain ⟨tt, htt⟩ : ∃ t, m.top = t := ⟨_, rfl⟩
              rw [htt] at HT
              have HTT := Lib.hid htt
              obtain ⟨lv, ov, iso⟩ := tt
              rw [show M.Ent.val ⟨lv, ov, iso⟩ = .agg #[.int .i64 lv, .int .i64 ov, .bool iso] from rfl] at HT
              have HN1 := Lib.hid hn1
              clear hn1 htt
              go_wp2_with fail
              refine HT.out.mono ?_
              rintro r w3 ⟨rfl, hb3'⟩
              have L3 := Lib.hid (HL.out.at_.later hb3')
              have hle3 := L3.out.le
              clear hb3'
              go_wp2_with (at_builtin; refine wpList_append_lies _ rfl _ _ 25 rfl w.heap.size 3 i0 (.int .i64 0) 1 8 Tryz.underlying25 hi hz0 hz1 hz2 rfl (by decide) _ _ _ rfl (World.ownsRow.alloc (World.ownsRow.alloc L3.out.ra _) _) ⟨w3.heap.size + 1, 0, none⟩ 1 1 [.int .i64 lv] rfl rfl (by have q := one_new (w3.alloc (.cells #[.int .i64 lv, .int .i64 ov, .bool iso] 142)) (.int .i64 lv) 3; simpa using q) one_cell (by omega) (by unfold maxLen; omega) (by omega) (by simp; omega) (w3.heap.size + 1 + 1) (by simp) ?_)
              intro q4 c4 w4 hown4 hg4 hat4 _
              have L4 := Lib.hid ((L3.out.later (w3 := w3.alloc (.cells #[.int .i64 lv, .int .i64 ov, .bool iso] 142)) ((Below.refl _ _).alloc (Nat.le_refl _) _)).pushA (x := lv) (by rw [List.map_map]; exact hown4) hg4 (by rcases hat4 with h | h; exact .inl h; exact .inr (by simp; omega)))
              have z1 : w4.cell? ⟨w3.heap.size, 1, none⟩ = some (.int .i64 ov) := by
                have q : w4.heap[w3.heap.size]? = (w3.alloc (.cells #[.int .i64 lv, .int .i64 ov, .bool iso] 142)).heap[w3.heap.size]? := (hg4.block w3.heap.size (by simp; omega) (fun e => by have := (World.ownsRow.lt L3.out.ra _ e.symm).2; omega)).trans (Below.heap_alloc _ _ _ (by simp))
                rw [World.cell?_of_block (a := ⟨w3.heap.size, 1, none⟩) q]
                simp [go_sem]
              have hle4 := L4.out.le
              clear hown4 hg4 hat4
              by_cases hov : ov = 13
              · subst hov
                go_wp2_with (at_builtin; refine wpList_append_lies _ rfl _ _ 22 rfl w.heap.size 39 i1 (.int .i64 0) 1 8 Tryz.underlying22 hj hy0 hy1 hy2 rfl (by decide) _ _ _ rfl (World.ownsRow.alloc L4.out.rb _) ⟨w4.heap.size, 0, none⟩ 1 1 [.int .i64 c] rfl rfl (one_new _ _ _) one_cell (by omega) (by unfold maxLen; omega) (by omega) (by simp; omega) (w4.heap.size + 1) (by simp) ?_)
                intro q5 c5 w5 hown5 hg5 hat5 _
                have L5 := Lib.hid (L4.out.pushB (x := c) (by rw [List.map_map]; exact hown5) hg5 hat5)
                have hle5 := L5.out.le
                clear hown5 hg5 hat5 z1
                go_wp2_with fail
                go_roundw
                case rel => exact ⟨k + 1, ps ++ [(lv, c)], mb, g, cap, m, by omega, by go_num, rfl, HL.out.step HX.out HC.out hb5 (M.lev_at HRM.out h10 (M.at_no h22) HTT.out) (M.cls_off rfl HRM.out h10 (M.at_no h22) HTT.out) (M.turn_no HRM.out h10 h22 HBG.out) L5.out⟩
                case measure => simp [intOf]; omega
              · have hov' : (ov != 13) = true := by simp [hov]
                go_wp2_with (at_builtin; refine wpList_append_lies _ rfl _ _ 22 rfl w.heap.size 39 i1 (.int .i64 0) 1 8 Tryz.underlying22 hj hy0 hy1 hy2 rfl (by decide) _ _ _ rfl (World.ownsRow.alloc L4.out.rb _) ⟨w4.heap.size, 0, none⟩ 1 1 [.int .i64 ov] rfl rfl (one_new _ _ _) one_cell (by omega) (by unfold maxLen; omega) (by omega) (by simp; omega) (w4.heap.size + 1) (by simp) ?_)
                intro q5 c5 w5 hown5 hg5 hat5 _
                have L5 := Lib.hid (L4.out.pushB (x := ov) (by rw [List.map_map]; exact hown5) hg5 hat5)
                have hle5 := L5.out.le
                clear hown5 hg5 hat5 z1
                go_wp2_with fail
                go_roundw
                case rel => exact ⟨k + 1, ps ++ [(lv, ov)], mb, g, cap, m, by omega, by go_num, rfl, HL.out.step HX.out HC.out hb5 (M.lev_at HRM.out h10 (M.at_no h22) HTT.out) (M.cls_on hov HRM.out h10 (M.at_no h22) HTT.out) (M.turn_no HRM.out h10 h22 HBG.out) L5.out⟩
                case measure => simp [intOf]; omega
            | true =>
              go_wp2_with fail
              refine (KN _).out.mono ?_
              rintro r wx ⟨rfl, rfl⟩
              go_wp2_with fail
              refine (RM _).out.mono ?_
              rintro r wx ⟨rfl, rfl⟩
              go_wp2_with fail
              refine (BG _).out.mono ?_
              rintro r wx ⟨rfl, rfl⟩
              obtain ⟨n1, hn1, hn1k⟩ := HL.out.fit.size
              have HT := Lib.hid (top_any w.heap.size mb g cap n1 m wr HL.out.at_.mach hn1 (by omega))
              obtain ⟨tt, htt⟩ : ∃ t, m.top = t := ⟨_, rfl⟩
              rw [htt] at HT
              have HTT := Lib.hid htt
              obtain ⟨lv, ov, iso⟩ := tt
              rw [show M.Ent.val ⟨lv, ov, iso⟩ = .agg #[.int .i64 lv, .int .i64 ov, .bool iso] from rfl] at HT
              have HN1 := Lib.hid hn1
              clear hn1 htt
              go_wp2_with fail
              refine HT.out.mono ?_
              rintro r w3 ⟨rfl, hb3'⟩
              have L3 := Lib.hid (HL.out.at_.later hb3')
              have hle3 := L3.out.le
              clear hb3'
              go_wp2_with (at_builtin; refine wpList_append_lies _ rfl _ _ 25 rfl w.heap.size 3 i0 (.int .i64 0) 1 8 Tryz.underlying25 hi hz0 hz1 hz2 rfl (by decide) _ _ _ rfl (World.ownsRow.alloc (World.ownsRow.alloc L3.out.ra _) _) ⟨w3.heap.size + 1, 0, none⟩ 1 1 [.int .i64 lv] rfl rfl (by have q := one_new (w3.alloc (.cells #[.int .i64 lv, .int .i64 ov, .bool iso] 142)) (.int .i64 lv) 3; simpa using q) one_cell (by omega) (by unfold maxLen; omega) (by omega) (by simp; omega) (w3.heap.size + 1 + 1) (by simp) ?_)
              intro q4 c4 w4 hown4 hg4 hat4 _
              have L4 := Lib.hid ((L3.out.later (w3 := w3.alloc (.cells #[.int .i64 lv, .int .i64 ov, .bool iso] 142)) ((Below.refl _ _).alloc (Nat.le_refl _) _)).pushA (x := lv) (by rw [List.map_map]; exact hown4) hg4 (by rcases hat4 with h | h; exact .inl h; exact .inr (by simp; omega)))
              have z1 : w4.cell? ⟨w3.heap.size, 1, none⟩ = some (.int .i64 ov) := by
                have q : w4.heap[w3.heap.size]? = (w3.alloc (.cells #[.int .i64 lv, .int .i64 ov, .bool iso] 142)).heap[w3.heap.size]? := (hg4.block w3.heap.size (by simp; omega) (fun e => by have := (World.ownsRow.lt L3.out.ra _ e.symm).2; omega)).trans (Below.heap_alloc _ _ _ (by simp))
                rw [World.cell?_of_block (a := ⟨w3.heap.size, 1, none⟩) q]
                simp [go_sem]
              have hle4 := L4.out.le
              clear hown4 hg4 hat4
              by_cases hov : ov = 13
              · subst hov
                go_wp2_with (at_builtin; refine wpList_append_lies _ rfl _ _ 22 rfl w.heap.size 39 i1 (.int .i64 0) 1 8 Tryz.underlying22 hj hy0 hy1 hy2 rfl (by decide) _ _ _ rfl (World.ownsRow.alloc L4.out.rb _) ⟨w4.heap.size, 0, none⟩ 1 1 [.int .i64 c] rfl rfl (one_new _ _ _) one_cell (by omega) (by unfold maxLen; omega) (by omega) (by simp; omega) (w4.heap.size + 1) (by simp) ?_)
                intro q5 c5 w5 hown5 hg5 hat5 _
                have L5 := Lib.hid (L4.out.pushB (x := c) (by rw [List.map_map]; exact hown5) hg5 hat5)
                have hle5 := L5.out.le
                clear hown5 hg5 hat5 z1
                by_cases h20 : c = 20
                · subst h20
                  have HI := Lib.hid (isolate_any w.heap.size mb g cap n1 m 1 w5 L5.out.mach HN1.out (by omega) (HL.out.fit.top hb4).1 (HL.out.fit.top hb4).2 HL.out.fit.ok.o0 (by have := HL.out.fit.o1; omega) HL.out.fit.v0.1 (by have := HL.out.fit.v0.2; omega))
                  go_wp2_with fail
                  refine HI.out.mono ?_
                  rintro r w6 ⟨rfl, g6, cap6, hm6, hs6⟩
                  have L6 := Lib.hid (L5.out.turn hm6 hs6)
                  clear hm6 hs6
                  go_wp2_with fail
                  go_roundw
                  case rel => exact ⟨k + 1, ps ++ [(lv, 20)], mb, g6, cap6, m.isolate 1, by omega, by go_num, rfl, HL.out.step HX.out HC.out hb5 (M.lev_at HRM.out h10 (M.at_no h22) HTT.out) (M.cls_off rfl HRM.out h10 (M.at_no h22) HTT.out) (M.turn_yes HRM.out h10 h22 HBG.out rfl) L6.out⟩
                  case measure => simp [intOf]; omega
                · have h20' : (c == 20) = false := by simp [h20]
                  by_cases h21 : c = 21
                  · subst h21
                    have HBT := Lib.hid (between_any (some ad) ca n k l x w5 ((HR.out.below L5.out.below).more hle5) HN.out hl HCA.out HX.out (by rw [← M.known_begins, HC.out]; rfl))
                    have HLN := Lib.hid (M.betw_len l k)
                    have HD := Lib.hid (show M.dir 21 (l.drop (k + 1)) = M.strong (M.betw l k) from rfl)
                    go_wp2_with fail
                    refine HBT.out.mono ?_
                    rintro r wx ⟨A2, c2, rfl, hr2, rfl⟩
                    have HS2 := Lib.hid (strong_any A2 c2 _ (M.betw l k) w5 hr2 rfl (by have := HLN.out; have := HN.out; omega))
                    obtain ⟨st, hst⟩ : ∃ st, M.strong (M.betw l k) = st := ⟨_, rfl⟩
                    rw [hst] at HS2 HD
                    have H01 := Lib.hid (show st = 0 ∨ st = 1 from hst ▸ M.strong_01 _ _)
                    clear hst hr2
                    go_wp2_with fail
                    refine HS2.out.mono ?_
                    rintro r wx ⟨rfl, rfl⟩
                    by_cases hs1 : st = 1
                    · subst hs1
                      have HI := Lib.hid (isolate_any w.heap.size mb g cap n1 m 1 w5 L5.out.mach HN1.out (by omega) (HL.out.fit.top hb4).1 (HL.out.fit.top hb4).2 HL.out.fit.ok.o0 (by have := HL.out.fit.o1; omega) HL.out.fit.v0.1 (by have := HL.out.fit.v0.2; omega))
                      go_wp2_with fail
                      refine HI.out.mono ?_
                      rintro r w6 ⟨rfl, g6, cap6, hm6, hs6⟩
                      have L6 := Lib.hid (L5.out.turn hm6 hs6)
                      clear hm6 hs6
                      go_wp2_with fail
                      go_roundw
                      case rel => exact ⟨k + 1, ps ++ [(lv, 21)], mb, g6, cap6, m.isolate 1, by omega, by go_num, rfl, HL.out.step HX.out HC.out hb5 (M.lev_at HRM.out h10 (M.at_no h22) HTT.out) (M.cls_off rfl HRM.out h10 (M.at_no h22) HTT.out) (M.turn_yes HRM.out h10 h22 HBG.out HD.out) L6.out⟩
                      case measure => simp [intOf]; omega
                    · have hs1' : (st == 1) = false := by simp [hs1]
                      have hs0 : st = 0 := by rcases H01.out with h | h; exact h; exact absurd h hs1
                      subst hs0
                      have HI := Lib.hid (isolate_any w.heap.size mb g cap n1 m 0 w5 L5.out.mach HN1.out (by omega) (HL.out.fit.top hb4).1 (HL.out.fit.top hb4).2 HL.out.fit.ok.o0 (by have := HL.out.fit.o1; omega) HL.out.fit.v0.1 (by have := HL.out.fit.v0.2; omega))
                      go_wp2_with fail
                      refine HI.out.mono ?_
                      rintro r w6 ⟨rfl, g6, cap6, hm6, hs6⟩
                      have L6 := Lib.hid (L5.out.turn hm6 hs6)
                      clear hm6 hs6
                      go_wp2_with fail
                      go_roundw
                      case rel => exact ⟨k + 1, ps ++ [(lv, 21)], mb, g6, cap6, m.isolate 0, by omega, by go_num, rfl, HL.out.step HX.out HC.out hb5 (M.lev_at HRM.out h10 (M.at_no h22) HTT.out) (M.cls_off rfl HRM.out h10 (M.at_no h22) HTT.out) (M.turn_yes HRM.out h10 h22 HBG.out HD.out) L6.out⟩
                      case measure => simp [intOf]; omega
                  · have h21' : (c == 21) = false := by simp [h21]
                    have HI := Lib.hid (isolate_any w.heap.size mb g cap n1 m 0 w5 L5.out.mach HN1.out (by omega) (HL.out.fit.top hb4).1 (HL.out.fit.top hb4).2 HL.out.fit.ok.o0 (by have := HL.out.fit.o1; omega) HL.out.fit.v0.1 (by have := HL.out.fit.v0.2; omega))
                    go_wp2_with fail
                    refine HI.out.mono ?_
                    rintro r w6 ⟨rfl, g6, cap6, hm6, hs6⟩
                    have L6 := Lib.hid (L5.out.turn hm6 hs6)
                    clear hm6 hs6
                    go_wp2_with fail
                    go_roundw
                    case rel => exact ⟨k + 1, ps ++ [(lv, c)], mb, g6, cap6, m.isolate 0, by omega, by go_num, rfl, HL.out.step HX.out HC.out hb5 (M.lev_at HRM.out h10 (M.at_no h22) HTT.out) (M.cls_off rfl HRM.out h10 (M.at_no h22) HTT.out) (M.turn_yes HRM.out h10 h22 HBG.out (by unfold M.dir; rw [if_neg h20, if_neg h21])) L6.out⟩
                    case measure => simp [intOf]; omega
              · have hov' : (ov != 13) = true := by simp [hov]
                go_wp2_with (at_builtin; refine wpList_append_lies _ rfl _ _ 22 rfl w.heap.size 39 i1 (.int .i64 0) 1 8 Tryz.underlying22 hj hy0 hy1 hy2 rfl (by decide) _ _ _ rfl (World.ownsRow.alloc L4.out.rb _) ⟨w4.heap.size, 0, none⟩ 1 1 [.int .i64 ov] rfl rfl (one_new _ _ _) one_cell (by omega) (by unfold maxLen; omega) (by omega) (by simp; omega) (w4.heap.size + 1) (by simp) ?_)
                intro q5 c5 w5 hown5 hg5 hat5 _
                have L5 := Lib.hid (L4.out.pushB (x := ov) (by rw [List.map_map]; exact hown5) hg5 hat5)
                have hle5 := L5.out.le
                clear hown5 hg5 hat5 z1
                by_cases h20 : c = 20
                · subst h20
                  have HI := Lib.hid (isolate_any w.heap.size mb g cap n1 m 1 w5 L5.out.mach HN1.out (by omega) (HL.out.fit.top hb4).1 (HL.out.fit.top hb4).2 HL.out.fit.ok.o0 (by have := HL.out.fit.o1; omega) HL.out.fit.v0.1 (by have := HL.out.fit.v0.2; omega))
                  go_wp2_with fail
                  refine HI.out.mono ?_
                  rintro r w6 ⟨rfl, g6, cap6, hm6, hs6⟩
                  have L6 := Lib.hid (L5.out.turn hm6 hs6)
                  clear hm6 hs6
                  go_wp2_with fail
                  go_roundw
                  case rel => exact ⟨k + 1, ps ++ [(lv, ov)], mb, g6, cap6, m.isolate 1, by omega, by go_num, rfl, HL.out.step HX.out HC.out hb5 (M.lev_at HRM.out h10 (M.at_no h22) HTT.out) (M.cls_on hov HRM.out h10 (M.at_no h22) HTT.out) (M.turn_yes HRM.out h10 h22 HBG.out rfl) L6.out⟩
                  case measure => simp [intOf]; omega
                · have h20' : (c == 20) = false := by simp [h20]
                  by_cases h21 : c = 21
                  · subst h21
                    have HBT := Lib.hid (between_any (some ad) ca n k l x w5 ((HR.out.below L5.out.below).more hle5) HN.out hl HCA.out HX.out (by rw [← M.known_begins, HC.out]; rfl))
                    have HLN := Lib.hid (M.betw_len l k)
                    have HD := Lib.hid (show M.dir 21 (l.drop (k + 1)) = M.strong (M.betw l k) from rfl)
                    go_wp2_with fail
                    refine HBT.out.mono ?_
                    rintro r wx ⟨A2, c2, rfl, hr2, rfl⟩
                    have HS2 := Lib.hid (strong_any A2 c2 _ (M.betw l k) w5 hr2 rfl (by have := HLN.out; have := HN.out; omega))
                    obtain ⟨st, hst⟩ : ∃ st, M.strong (M.betw l k) = st := ⟨_, rfl⟩
                    rw [hst] at HS2 HD
                    have H01 := Lib.hid (show st = 0 ∨ st = 1 from hst ▸ M.strong_01 _ _)
                    clear hst hr2
                    go_wp2_with fail
                    refine HS2.out.mono ?_
                    rintro r wx ⟨rfl, rfl⟩
                    by_cases hs1 : st = 1
                    · subst hs1
                      have HI := Lib.hid (isolate_any w.heap.size mb g cap n1 m 1 w5 L5.out.mach HN1.out (by omega) (HL.out.fit.top hb4).1 (HL.out.fit.top hb4).2 HL.out.fit.ok.o0 (by have := HL.out.fit.o1; omega) HL.out.fit.v0.1 (by have := HL.out.fit.v0.2; omega))
                      go_wp2_with fail
                      refine HI.out.mono ?_
                      rintro r w6 ⟨rfl, g6, cap6, hm6, hs6⟩
                      have L6 := Lib.hid (L5.out.turn hm6 hs6)
                      clear hm6 hs6
                      go_wp2_with fail
                      go_roundw
                      case rel => exact ⟨k + 1, ps ++ [(lv, ov)], mb, g6, cap6, m.isolate 1, by omega, by go_num, rfl, HL.out.step HX.out HC.out hb5 (M.lev_at HRM.out h10 (M.at_no h22) HTT.out) (M.cls_on hov HRM.out h10 (M.at_no h22) HTT.out) (M.turn_yes HRM.out h10 h22 HBG.out HD.out) L6.out⟩
                      case measure => simp [intOf]; omega
                    · have hs1' : (st == 1) = false := by simp [hs1]
                      have hs0 : st = 0 := by rcases H01.out with h | h; exact h; exact absurd h hs1
                      subst hs0
                      have HI := Lib.hid (isolate_any w.heap.size mb g cap n1 m 0 w5 L5.out.mach HN1.out (by omega) (HL.out.fit.top hb4).1 (HL.out.fit.top hb4).2 HL.out.fit.ok.o0 (by have := HL.out.fit.o1; omega) HL.out.fit.v0.1 (by have := HL.out.fit.v0.2; omega))
                      go_wp2_with fail
                      refine HI.out.mono ?_
                      rintro r w6 ⟨rfl, g6, cap6, hm6, hs6⟩
                      have L6 := Lib.hid (L5.out.turn hm6 hs6)
                      clear hm6 hs6
                      go_wp2_with fail
                      go_roundw
                      case rel => exact ⟨k + 1, ps ++ [(lv, ov)], mb, g6, cap6, m.isolate 0, by omega, by go_num, rfl, HL.out.step HX.out HC.out hb5 (M.lev_at HRM.out h10 (M.at_no h22) HTT.out) (M.cls_on hov HRM.out h10 (M.at_no h22) HTT.out) (M.turn_yes HRM.out h10 h22 HBG.out HD.out) L6.out⟩
                      case measure => simp [intOf]; omega
                  · have h21' : (c == 21) = false := by simp [h21]
                    have HI := Lib.hid (isolate_any w.heap.size mb g cap n1 m 0 w5 L5.out.mach HN1.out (by omega) (HL.out.fit.top hb4).1 (HL.out.fit.top hb4).2 HL.out.fit.ok.o0 (by have := HL.out.fit.o1; omega) HL.out.fit.v0.1 (by have := HL.out.fit.v0.2; omega))
                    go_wp2_with fail
                    refine HI.out.mono ?_
                    rintro r w6 ⟨rfl, g6, cap6, hm6, hs6⟩
                    have L6 := Lib.hid (L5.out.turn hm6 hs6)
                    clear hm6 hs6
                    go_wp2_with fail
                    go_roundw
                    case rel => exact ⟨k + 1, ps ++ [(lv, ov)], mb, g6, cap6, m.isolate 0, by omega, by go_num, rfl, HL.out.step HX.out HC.out hb5 (M.lev_at HRM.out h10 (M.at_no h22) HTT.out) (M.cls_on hov HRM.out h10 (M.at_no h22) HTT.out) (M.turn_yes HRM.out h10 h22 HBG.out (by unfold M.dir; rw [if_neg h20, if_neg h21])) L6.out⟩
                    case measure => simp [intOf]; omega
    · obtain rfl : k = n := by omega
      go_wp2_with fail
      go_returns
      have h1 := HL.out.run
      rw [List.drop_eq_nil_of_le (by rw [HN.out]; exact Nat.le_refl _)] at h1
      rw [HE.out, h1]
      have h2 := HL.out.at_
      have h3 := HL.out.len
      have h4 : ps ++ M.run st0 m [] = ps := by simp [M.run]
      rw [h4]
      exact ⟨_, _, rfl, by rw [h3]; exact h2.ra, by rw [h3]; exact h2.rb, h2.below⟩
theorem lev_any (A : Option Addr) (ca n : Nat) (l : List Int) (base : Int) (w : World) (hr : RdS .i64 w w.heap.size A l) (hn : l.length = n) (hl : n ≤ 1000) (hca : n ≤ ca) :
    Calls Tryz.prog 45 #[.slice A n ca, .int .i64 base] w (LevOut (M.levels l base) w) := by
  by_cases hb : base < 0
  · by_cases hb1 : base = -1
    · subst hb1
      exact lev_neg A ca n l w hr hn hl hca
    · exact lev_low A ca n l base w (by omega)
  · exact lev_pos A ca n l base w hr hn hl hca hb
end Go.Proofs.YtjlfgojblimobaaGreat
end
