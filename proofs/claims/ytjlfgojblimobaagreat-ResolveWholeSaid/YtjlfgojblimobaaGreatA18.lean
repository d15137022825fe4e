/- The contract of package runs' Prepare over the translation. Conditions: the slice reads as a list of classes, at most a thousand long. -/
/- What a paragraph's sequences are like: each place once, at one level, rising; of two that follow one another the first begins an isolate that the other ends, or all between are removed. No program is read here. -/
import Derived.Test.YtjlfgojblimobaaGreatA17
import Derived.Test.YtjlfgojblimobaaGreatA10
section
namespace Go.Proofs.YtjlfgojblimobaaGreat
open Go.RowKit
set_option maxRecDepth 100000

theorem lev_rows {ps : List (Int × Int)} {w : World} {r : Ending} {w' : World} (h : LevOut (some ps) w r w') : ∃ A c A2 c2, r = .returned (.tuple #[.slice A ps.length c, .slice A2 ps.length c2, .int .i64 0]) ∧ RdS .i64 w' w'.heap.size A (ps.map Prod.fst) ∧ RdS .i64 w' w'.heap.size A2 (ps.map Prod.snd) ∧ ps.length ≤ c ∧ ps.length ≤ c2 ∧ Below w.heap.size w w' := by
  obtain ⟨va, vb, hr, ha, hb, hbl⟩ := h
  obtain ⟨A, c, e1, r1, l1, m1, _⟩ := reads_own (l := ps.map Prod.fst) (by rw [List.length_map]; exact ha)
  obtain ⟨A2, c2, e2, r2, l2, m2, _⟩ := reads_own (l := ps.map Prod.snd) (by rw [List.length_map]; exact hb)
  rw [List.length_map] at e1 e2 l1 l2
  subst e1
  subst e2
  exact ⟨A, c, A2, c2, hr, r1, r2, l1, l2, hbl⟩
def M.levs (l : List Int) (b : Int) : List Int := (M.run b (M.fresh b) l).map Prod.fst
def M.clss (l : List Int) (b : Int) : List Int := (M.run b (M.fresh b) l).map Prod.snd
theorem M.levs_len (l : List Int) (b : Int) : (M.levs l b).length = l.length := by unfold M.levs; rw [List.length_map, M.run_len]
theorem M.levs_deep {l : List Int} {b : Int} (hb : b ≤ 125) {j : Nat} {c x : Int} (hc : l[j]? = some c) (hx : (M.levs l b)[j]? = some x) : (M.removed c = true ∧ x = -1) ∨ (M.removed c = false ∧ b ≤ x ∧ x ≤ 125) := by
  unfold M.levs at hx
  rw [List.getElem?_map, Option.map_eq_some_iff] at hx
  obtain ⟨y, hy, rfl⟩ := hx
  have := M.run_deep hb l (M.fresh b) (M.fresh_ok hb) j c y hc hy
  rwa [M.removed_known] at this
theorem M.levs_fits {l : List Int} {b : Int} (hb : b = 0 ∨ b = 1) : M.Fits l (M.levs l b) b := by
  refine ⟨hb, (M.levs_len l b).symm, fun i c x hc hx => ?_⟩
  rcases M.levs_deep (by omega) hc hx with ⟨h1, h2⟩ | ⟨h1, h2, h3⟩
  · exact ⟨by omega, by omega, by simp [h1, h2]⟩
  · exact ⟨by omega, h3, by rw [h1]; simp; omega⟩
theorem M.levels_01 {l : List Int} {b : Int} (hb : b = 0 ∨ b = 1) : M.levels l b = some (M.run b (M.fresh b) l) := by
  unfold M.levels
  rw [if_neg (by omega), if_neg (by omega)]
def PrepOut (l : List Int) (b : Int) (w : World) (r : Ending) (w' : World) : Prop :=
  Below w.heap.size w w' ∧
  (b = 0 ∨ b = 1 → ∃ A c A2 c2, r = .returned (.tuple #[.slice A (M.seqs l (M.levs l b) b).length c, .slice A2 l.length c2, .int .i64 0]) ∧ RdQ w' w'.heap.size A (M.seqs l (M.levs l b) b) ∧ RdS .i64 w' w'.heap.size A2 (M.clss l b)) ∧
  (¬ (b = 0 ∨ b = 1) → r = .returned (.tuple #[.slice none 0 0, .slice none 0 0, .int .i64 81]))
set_option maxHeartbeats 4000000 in
theorem cprep_any (A : Option Addr) (ca n : Nat) (l : List Int) (b : Int) (w : World) (hr : RdS .i64 w w.heap.size A l) (hn : l.length = n) (hl : n ≤ 1000) :
    Calls Tryz.prog 21 #[.slice A n ca, .int .i64 b] w (PrepOut l b w) := by
  have HL := Lib.hid (clevels_any A ca n l b w hr hn hl)
  have HR := Lib.hid hr
  have HN := Lib.hid hn
  clear hr hn
  by_cases hb : b = 0 ∨ b = 1
  · rw [M.levels_01 hb] at HL
    have HB := Lib.hid hb
    clear hb
    go_enter Tryz.func21, Tryz.ntmps21
    go_wp2_with fail
    refine HL.out.mono ?_
    rintro r w1 hout
    obtain ⟨A1, c1, A2, c2, rfl, hr1, hr2, hc1, -, hb1⟩ := lev_rows hout
    rw [M.run_len, HN.out] at hc1
    rw [M.run_len, HN.out]
    have hbs := hb1.size
    have HS := Lib.hid (csplit_any A A1 ca c1 n n l (M.levs l b) b w1 ((HR.out.below hb1).more hbs) HN.out hl hr1 (by rw [M.levs_len, HN.out]) hl hc1)
    have HR2 := Lib.hid hr2
    have HB1 := Lib.hid hb1
    clear hr1 hr2 hb1 hout
    go_wp2_with fail
    refine HS.out.mono ?_
    rintro r w2 ⟨hb2, hok, -⟩
    obtain ⟨A3, c3, rfl, hq, hc3, hm3, hn3⟩ := hok (M.levs_fits HB.out)
    obtain ⟨K, hK⟩ : ∃ k, (M.seqs l (M.levs l b) b).length = k := ⟨_, rfl⟩
    rw [hK]
    have HK := Lib.hid hK
    have HQ := Lib.hid hq
    have HR3 := Lib.hid ((HR2.out.below hb2).more hb2.size)
    have HB2 := Lib.hid (HB1.out.trans (hb2.mono hbs))
    clear hb2 hok hq hc3 hm3 hn3 hK
    go_wp2_with fail
    go_returns
    exact ⟨HB2.out, fun _ => ⟨A3, c3, A2, c2, by rw [HK.out, HN.out]; rfl, HQ.out, HR3.out⟩, fun h => absurd HB.out h⟩
  · by_cases h1 : b = -1
    · subst h1
      have hlv : ∃ ps, M.levels l (-1) = some ps ∧ ps.length = l.length := ⟨_, by unfold M.levels; rw [if_neg (by omega)], by rw [M.run_len]⟩
      obtain ⟨ps, hps, hpl⟩ := hlv
      rw [hps] at HL
      have HPL := Lib.hid hpl
      clear hb hps hpl
      go_enter Tryz.func21, Tryz.ntmps21
      go_wp2_with fail
      refine HL.out.mono ?_
      rintro r w1 hout
      obtain ⟨A1, c1, A2, c2, rfl, hr1, -, hc1, -, hb1⟩ := lev_rows hout
      rw [HPL.out, HN.out] at hc1
      rw [HPL.out, HN.out]
      have hbs := hb1.size
      have HS := Lib.hid (csplit_any A A1 ca c1 n n l (ps.map Prod.fst) (-1) w1 ((HR.out.below hb1).more hbs) HN.out hl hr1 (by rw [List.length_map, HPL.out, HN.out]) hl hc1)
      have HB1 := Lib.hid hb1
      clear hr1 hb1 hout
      go_wp2_with fail
      refine HS.out.mono ?_
      rintro r w2 ⟨hb2, -, hno⟩
      obtain rfl := hno (fun h => by have := h.base; omega)
      have HB2 := Lib.hid (HB1.out.trans (hb2.mono hbs))
      clear hb2 hno
      go_wp2_with fail
      go_returns
      exact ⟨HB2.out, fun h => by omega, fun _ => rfl⟩
    · have hlv : M.levels l b = none := by unfold M.levels; rw [if_pos (by omega)]
      rw [hlv] at HL
      have HB := Lib.hid hb
      clear hb h1 hlv
      go_enter Tryz.func21, Tryz.ntmps21
      go_wp2_with fail
      refine HL.out.mono ?_
      rintro r w1 ⟨rfl, hb1⟩
      have HB1 := Lib.hid hb1
      clear hb1
      go_wp2_with fail
      go_returns
      exact ⟨HB1.out, fun h => absurd h HB.out, fun _ => rfl⟩
end Go.Proofs.YtjlfgojblimobaaGreat
end

section
namespace Go.Proofs.YtjlfgojblimobaaGreat.M

theorem run_ahead {base : Int} (hb : base ≤ 125) (q : List Int) : ∀ (p : List Int) (m : Mc), m.Ok base → ∃ A m1, A.length = p.length ∧ m1.Ok base ∧ run base m (p ++ q) = A ++ run base m1 q := by
  intro p
  induction p with
  | nil => intro m hm; exact ⟨[], m, rfl, hm, rfl⟩
  | cons c p ih =>
    intro m hm
    obtain ⟨A, m1, hA, hm1, he⟩ := ih (m.turn base (dir (known c) (p ++ q)) (known c)) (hm.turn hb _)
    exact ⟨_ :: A, m1, by simp [hA], hm1, by rw [List.cons_append, run, he]; rfl⟩
theorem begins_known {c : Int} (h : begins c = true) : known c = c ∧ removed c = false := by
  have h1 : c = 19 ∨ c = 20 ∨ c = 21 := by unfold begins at h; simpa using h
  rcases h1 with rfl | rfl | rfl <;> decide
theorem levs_end {l : List Int} {b : Int} (hb : b ≤ 125) {a e : Nat} (h : endI l a = e) : ∃ x, (levs l b)[a]? = some x ∧ (levs l b)[e]? = some x := by
  obtain ⟨c, x, z, hl, hc, hbc, he, hbal, hd⟩ := endI_parts h
  have hal : (l.take a).length = a := by rw [List.length_take]; have := (List.getElem?_eq_some_iff.1 hc).1; omega
  obtain ⟨A, m1, hA, hm1, hrun⟩ := run_ahead hb (c :: (x ++ 22 :: z)) (l.take a) (fresh b) (fresh_ok hb)
  rw [← hl] at hrun
  obtain ⟨hk, hr⟩ := begins_known hbc
  have ht : m1.turn b (dir c (x ++ 22 :: z)) c = m1.isolate (dir c (x ++ 22 :: z)) := by
    unfold Mc.turn
    rw [if_neg (by rw [hr]; simp), if_neg (begins_not hbc).1, if_neg (begins_not hbc).2.1, if_pos hbc]
  obtain ⟨X, hX, hin⟩ := run_inside hm1 z (Int.le_refl 0) hbal (Inside.begin m1 (dir c (x ++ 22 :: z)))
  have hlev : m1.lev b c = m1.top.lv := by
    unfold Mc.lev Mc.at_
    rw [if_neg (by rw [hr]; simp), if_neg (begins_not hbc).1, if_neg (begins_not hbc).2.1]
  rw [run, hk, ht, hin, hlev] at hrun
  refine ⟨m1.top.lv, ?_, ?_⟩
  · unfold levs
    rw [hrun, List.map_append, List.getElem?_append_right (by simp [hA, hal]), List.length_map, hA, hal, Nat.sub_self]
    rfl
  · unfold levs
    rw [hrun, List.map_append, List.getElem?_append_right (by simp [hA, hal]; omega), List.length_map, hA, hal, show e - a = x.length + 1 by omega, List.map_cons, List.getElem?_cons_succ, List.map_append, List.getElem?_append_right (by simp [hX]), List.length_map, hX, Nat.sub_self]
    rfl

theorem idxs_gap : ∀ (r : List Int) (i k : Nat) (p q : Int), (idxs i r)[k]? = some p → (idxs i r)[k + 1]? = some q → ∀ j : Nat, p < ((i + j : Nat) : Int) → ((i + j : Nat) : Int) < q → r[j]? = some (-1) := by
  intro r
  induction r with
  | nil => intro i k p q h; simp [idxs] at h
  | cons x r ih =>
    intro i k p q h1 h2 j hj1 hj2
    unfold idxs at h1 h2
    have hq : ∀ (k : Nat), (idxs (i + 1) r)[k]? = some q → ∃ j' : Nat, q = ((i + 1 + j' : Nat) : Int) := fun k hk => by
      obtain ⟨j', e, _⟩ := (idxs_mem r (i + 1) q).1 (List.mem_of_getElem? hk)
      exact ⟨j', e⟩
    by_cases hx : x = -1
    · rw [if_pos hx] at h1 h2
      cases j with
      | zero => simp [hx]
      | succ j => rw [List.getElem?_cons_succ]; exact ih (i + 1) k p q h1 h2 j (by omega) (by omega)
    · rw [if_neg hx] at h1 h2
      cases k with
      | zero =>
        simp at h1
        rw [List.getElem?_cons_succ] at h2
        cases j with
        | zero => omega
        | succ j =>
          rw [List.getElem?_cons_succ]
          -- nothing that is kept stands ahead of the next one
          have key : ∀ (r : List Int) (i : Nat), (idxs i r)[0]? = some q → ∀ j : Nat, ((i + j : Nat) : Int) < q → r[j]? = some (-1) := by
            intro r
            induction r with
            | nil => intro i h; simp [idxs] at h
            | cons y r ih2 =>
              intro i h j hj
              unfold idxs at h
              by_cases hy : y = -1
              · rw [if_pos hy] at h
                cases j with
                | zero => simp [hy]
                | succ j => rw [List.getElem?_cons_succ]; exact ih2 (i + 1) h j (by omega)
              · rw [if_neg hy] at h
                simp at h
                omega
          exact key r (i + 1) h2 j (by omega)
      | succ k =>
        rw [List.getElem?_cons_succ] at h1 h2
        cases j with
        | zero =>
          obtain ⟨j', e, _⟩ := (idxs_mem r (i + 1) p).1 (List.mem_of_getElem? h1)
          omega
        | succ j => rw [List.getElem?_cons_succ]; exact ih (i + 1) k p q h1 h2 j (by omega) (by omega)

def Next2 (l lv : List Int) (p q : Int) : Prop := p < q ∧ ((∀ j : Nat, p < j → (j : Int) < q → lv[j]? = some (-1)) ∨ endI l p.toNat = q)
structure SqOk (l lv : List Int) (s : Sq) : Prop where
  ne : s.pl ≠ []
  at_ : ∀ p ∈ s.pl, ∃ j : Nat, p = j ∧ lv[j]? = some s.lv
  nx : ∀ (k : Nat) (p q : Int), s.pl[k]? = some p → s.pl[k + 1]? = some q → Next2 l lv p q
theorem run_next {l lv : List Int} {b : Int} {r : Rn} (hr : r ∈ runs lv b) : ∀ (k : Nat) (p q : Int), r.pl[k]? = some p → r.pl[k + 1]? = some q → Next2 l lv p q := by
  intro k p q h1 h2
  obtain ⟨A, B, hAB⟩ := List.append_of_mem hr
  have hall := runs_all lv b
  rw [hAB, List.flatMap_append, List.flatMap_cons] at hall
  have hk := (List.getElem?_eq_some_iff.1 h1).1
  have hk2 := (List.getElem?_eq_some_iff.1 h2).1
  have g1 : (idxs 0 lv)[(A.flatMap (·.pl)).length + k]? = some p := by
    rw [← hall, List.getElem?_append_right (by omega), Nat.add_sub_cancel_left, List.getElem?_append_left hk]; exact h1
  have g2 : (idxs 0 lv)[(A.flatMap (·.pl)).length + k + 1]? = some q := by
    rw [← hall, List.getElem?_append_right (by omega), show (A.flatMap (·.pl)).length + k + 1 - (A.flatMap (·.pl)).length = k + 1 by omega, List.getElem?_append_left hk2]; exact h2
  refine ⟨?_, .inl fun j hj1 hj2 => idxs_gap lv 0 _ p q g1 g2 j (by omega) (by omega)⟩
  have h3 := (runs_apart lv b).1 r hr
  have h4 := List.pairwise_iff_getElem.1 h3 k (k + 1) hk hk2 (by omega)
  rw [(List.getElem?_eq_some_iff.1 h1).2, (List.getElem?_eq_some_iff.1 h2).2] at h4
  exact h4
theorem sqs_last {l lv : List Int} {b : Int} {t p : Nat} (ht : t < (runs lv b).length) (h : pv (goes l (runs lv b)) (from_ (runs lv b)) t = some p) {s : Sq} (hs : (sqs l b (runs lv b) t)[sqOf l (runs lv b) p]? = some s) : ∃ X, s.pl = X ++ (rn (runs lv b) p).pl := by
  have hpt := (pv_some h).1
  have h1 := heads_at (T := goes l (runs lv b)) (F := from_ (runs lv b)) (i := hd (goes l (runs lv b)) (from_ (runs lv b)) p) (t := t) (by have := hd_le (T := goes l (runs lv b)) (F := from_ (runs lv b)) p; omega) (hd_head p)
  unfold sqs at hs
  rw [List.getElem?_map] at hs
  have h2 : (heads (goes l (runs lv b)) (from_ (runs lv b)) t)[sqOf l (runs lv b) p]? = some (hd (goes l (runs lv b)) (from_ (runs lv b)) p) := h1
  rw [h2] at hs
  obtain rfl := Option.some.inj hs
  refine ⟨(mem (goes l (runs lv b)) (from_ (runs lv b)) p (hd (goes l (runs lv b)) (from_ (runs lv b)) p)).flatMap fun j => (rn (runs lv b) j).pl, ?_⟩
  unfold sq
  rw [(runs_chains l lv b).mem_next ht h, List.flatMap_append]
  simp
theorem SqOk.run {l lv : List Int} {b : Int} {r : Rn} (hr : r ∈ runs lv b) : SqOk l lv ((Sq.begun r).with_ l b r) :=
  ⟨by simpa [Sq.with_, Sq.begun] using (runs_ok r hr).ne, fun p hp => (runs_ok r hr).at_ p (by simpa [Sq.with_, Sq.begun] using hp), fun k p q h1 h2 => run_next hr k p q (by simpa [Sq.with_, Sq.begun] using h1) (by simpa [Sq.with_, Sq.begun] using h2)⟩
theorem SqOk.more {l lv : List Int} {b : Int} {s : Sq} {r r' : Rn} {X : List Int} (h : SqOk l lv s) (hr : r ∈ runs lv b) (hr' : r' ∈ runs lv b) (hX : s.pl = X ++ r'.pl) (hgo : endI l r'.ls.toNat = r.fs) (hlv : ∀ a e : Nat, endI l a = e → ∃ x, lv[a]? = some x ∧ lv[e]? = some x) : SqOk l lv (s.with_ l b r) := by
  have ok := runs_ok r hr
  have ok' := runs_ok r' hr'
  obtain ⟨f, q, hf, hq, -, -, hp0, hpq, hpos, hlf, hlq⟩ := run_ends hr
  obtain ⟨f', q', hf', hq', -, -, hp0', hpq', hpos', hlf', hlq'⟩ := run_ends hr'
  have hgo' : endI l q' = (f : Int) := by rw [← hf, ← hgo, hq', Int.toNat_natCast]
  obtain ⟨x, hx1, hx2⟩ := hlv q' f hgo'
  have hsl : s.lv = r.lv := by
    obtain ⟨j, hj1, hj2⟩ := h.at_ (q' : Int) (by rw [hX]; exact List.mem_append_right _ (by rw [← hq']; exact ok'.ls_in))
    obtain rfl : q' = j := by omega
    rw [hx1] at hj2
    rw [hx2] at hlf
    rw [← Option.some.inj hj2, ← Option.some.inj hlf]
  have hlast : s.pl[s.pl.length - 1]? = some (q' : Int) := by
    rw [hX, List.getElem?_append_right (by simp; omega), ← hpq', List.length_append]
    congr 1
    omega
  have hslen : 0 < s.pl.length := List.length_pos_iff.2 h.ne
  refine ⟨by simp [Sq.with_, h.ne], fun p hp => ?_, fun k p q2 h1 h2 => ?_⟩
  · rcases List.mem_append.1 (show p ∈ s.pl ++ r.pl from hp) with hp | hp
    · exact h.at_ p hp
    · obtain ⟨j, e1, e2⟩ := ok.at_ p hp
      exact ⟨j, e1, by show lv[j]? = some s.lv; rw [hsl]; exact e2⟩
  · have h1' : (s.pl ++ r.pl)[k]? = some p := h1
    have h2' : (s.pl ++ r.pl)[k + 1]? = some q2 := h2
    rcases Nat.lt_trichotomy (k + 1) s.pl.length with hk | hk | hk
    · rw [List.getElem?_append_left (by omega)] at h1' h2'
      exact h.nx k p q2 h1' h2'
    · rw [List.getElem?_append_left (by omega), show k = s.pl.length - 1 by omega, hlast] at h1'
      rw [List.getElem?_append_right (by omega), hk, Nat.sub_self, hp0] at h2'
      obtain rfl := Option.some.inj h1'
      obtain rfl := Option.some.inj h2'
      have := endI_late l q'
      exact ⟨by omega, .inr (by rw [Int.toNat_natCast]; exact hgo')⟩
    · rw [List.getElem?_append_right (by omega)] at h1' h2'
      exact run_next hr (k - s.pl.length) p q2 h1' (by rw [show k - s.pl.length + 1 = k + 1 - s.pl.length by omega]; exact h2')
structure SqInv (l lv : List Int) (b : Int) (t : Nat) : Prop where
  ok : ∀ (k : Nat) (s : Sq), (sqs l b (runs lv b) t)[k]? = some s → SqOk l lv s
  first : ∀ (k : Nat) (s : Sq), (sqs l b (runs lv b) t)[k]? = some s → ∃ i, (heads (goes l (runs lv b)) (from_ (runs lv b)) t)[k]? = some i ∧ s.pl[0]? = some (from_ (runs lv b) i)
  cnt : ∀ j : Int, ((sqs l b (runs lv b) t).flatMap (·.pl)).count j = ((List.range t).flatMap fun i => (rn (runs lv b) i).pl).count j
theorem sqs_inv {l lv : List Int} {b : Int} (hlv : ∀ a e : Nat, endI l a = e → ∃ x, lv[a]? = some x ∧ lv[e]? = some x) : ∀ t, t ≤ (runs lv b).length → SqInv l lv b t := by
  intro t
  induction t with
  | zero => intro _; exact ⟨fun k s h => by simp [sqs, heads] at h, fun k s h => by simp [sqs, heads] at h, fun j => rfl⟩
  | succ t ih =>
    intro ht
    have h := ih (by omega)
    have hrt := rn_mem (rs := runs lv b) (i := t) (by omega)
    have hpl0 : (rn (runs lv b) t).pl[0]? = some (from_ (runs lv b) t) := by
      obtain ⟨f, _, hf, _, _, _, hp0, _⟩ := run_ends hrt
      unfold from_
      rw [hf]; exact hp0
    have hcr : ∀ j : Int, ((List.range (t + 1)).flatMap fun i => (rn (runs lv b) i).pl).count j = ((List.range t).flatMap fun i => (rn (runs lv b) i).pl).count j + (rn (runs lv b) t).pl.count j := fun j => by
      rw [List.range_succ, List.flatMap_append, List.count_append]
      simp
    cases hp : pv (goes l (runs lv b)) (from_ (runs lv b)) t with
    | none =>
      obtain ⟨h1, h2⟩ := sqs_no (b := b) hp
      have hlen : (heads (goes l (runs lv b)) (from_ (runs lv b)) t).length = (sqs l b (runs lv b) t).length := by unfold sqs; rw [List.length_map]
      refine ⟨fun k s hk => ?_, fun k s hk => ?_, fun j => ?_⟩
      · rw [h2] at hk
        rcases Nat.lt_or_ge k (sqs l b (runs lv b) t).length with hkl | hkl
        · rw [List.getElem?_append_left hkl] at hk
          exact h.ok k s hk
        · rw [List.getElem?_append_right hkl] at hk
          have : k - (sqs l b (runs lv b) t).length = 0 := by have := (List.getElem?_eq_some_iff.1 hk).1; simp at this; omega
          rw [this] at hk
          obtain rfl := Option.some.inj hk
          exact SqOk.run hrt
      · rw [h2] at hk
        rw [heads_no hp]
        rcases Nat.lt_or_ge k (sqs l b (runs lv b) t).length with hkl | hkl
        · rw [List.getElem?_append_left hkl] at hk
          rw [List.getElem?_append_left (by omega)]
          exact h.first k s hk
        · rw [List.getElem?_append_right hkl] at hk
          rw [List.getElem?_append_right (by omega), hlen]
          have : k - (sqs l b (runs lv b) t).length = 0 := by have := (List.getElem?_eq_some_iff.1 hk).1; simp at this; omega
          rw [this] at hk ⊢
          obtain rfl := Option.some.inj hk
          exact ⟨t, rfl, by simpa [Sq.with_, Sq.begun] using hpl0⟩
      · rw [h2, hcr, List.flatMap_append, List.count_append, h.cnt]
        simp [Sq.with_, Sq.begun]
    | some p =>
      obtain ⟨h1, s0, hs0, h2⟩ := sqs_go (b := b) hp
      obtain ⟨hpt, hTF⟩ := pv_some hp
      obtain ⟨X, hX⟩ := sqs_last (by omega) hp hs0
      have hk0 := (List.getElem?_eq_some_iff.1 hs0).1
      have hrp := rn_mem (rs := runs lv b) (i := p) (by omega)
      have hgo : endI l (rn (runs lv b) p).ls.toNat = (rn (runs lv b) t).fs := hTF
      refine ⟨fun k s hk => ?_, fun k s hk => ?_, fun j => ?_⟩
      · rw [h2] at hk
        by_cases hkk : sqOf l (runs lv b) p = k
        · subst hkk
          rw [List.getElem?_set_self hk0] at hk
          obtain rfl := Option.some.inj hk
          exact (h.ok _ _ hs0).more hrt hrp hX hgo hlv
        · rw [List.getElem?_set_ne hkk] at hk
          exact h.ok k s hk
      · rw [h2] at hk
        rw [heads_go hp]
        by_cases hkk : sqOf l (runs lv b) p = k
        · subst hkk
          rw [List.getElem?_set_self hk0] at hk
          obtain rfl := Option.some.inj hk
          obtain ⟨i, hi1, hi2⟩ := h.first _ _ hs0
          refine ⟨i, hi1, ?_⟩
          show (s0.pl ++ _)[0]? = _
          rw [List.getElem?_append_left (List.length_pos_iff.2 (h.ok _ _ hs0).ne)]
          exact hi2
        · rw [List.getElem?_set_ne hkk] at hk
          exact h.first k s hk
      · obtain ⟨hlt, he⟩ := List.getElem?_eq_some_iff.1 hs0
        have e1 : sqs l b (runs lv b) t = (sqs l b (runs lv b) t).take (sqOf l (runs lv b) p) ++ s0 :: (sqs l b (runs lv b) t).drop (sqOf l (runs lv b) p + 1) := by
          rw [← he, ← List.drop_eq_getElem_cons hlt, List.take_append_drop]
        have e2 : (sqs l b (runs lv b) t).set (sqOf l (runs lv b) p) (s0.with_ l b (rn (runs lv b) t)) = (sqs l b (runs lv b) t).take (sqOf l (runs lv b) p) ++ (s0.with_ l b (rn (runs lv b) t)) :: (sqs l b (runs lv b) t).drop (sqOf l (runs lv b) p + 1) := List.set_eq_take_append_cons_drop.trans (by rw [if_pos hlt])
        have hc := h.cnt j
        rw [e1] at hc
        rw [h2, hcr, e2]
        simp only [List.flatMap_append, List.flatMap_cons, List.count_append, Sq.with_] at hc ⊢
        omega
theorem seqs_inv (l : List Int) {b : Int} (hb : b ≤ 125) : SqInv l (levs l b) b (runs (levs l b) b).length := sqs_inv (fun _ _ h => levs_end hb h) _ (Nat.le_refl _)
theorem seqs_count (l : List Int) {b : Int} (hb : b = 0 ∨ b = 1) {j : Nat} {c : Int} (hc : l[j]? = some c) : ((seqs l (levs l b) b).flatMap (·.pl)).count (j : Int) = if removed c = true then 0 else 1 := by
  have h := (seqs_inv l (show b ≤ 125 by omega)).cnt j
  rw [range_flat _ _ (Nat.le_refl _), List.take_length, runs_all] at h
  unfold seqs
  rw [h]
  have hup := idxs_up (levs l b) 0
  have hnd : (idxs 0 (levs l b)).Nodup := hup.imp (fun h => by omega)
  have hjl : j < (levs l b).length := by rw [levs_len]; exact (List.getElem?_eq_some_iff.1 hc).1
  have hx := List.getElem?_eq_getElem hjl
  rcases levs_deep (show b ≤ 125 by omega) hc hx with ⟨h1, h2⟩ | ⟨h1, h2, h3⟩
  · rw [if_pos h1]
    refine List.count_eq_zero.2 fun hm => ?_
    obtain ⟨j', e, y, hy, hn⟩ := (idxs_mem _ _ _).1 hm
    obtain rfl : j = j' := by omega
    rw [hx] at hy
    exact hn ((Option.some.inj hy).symm.trans h2)
  · rw [if_neg (by rw [h1]; simp)]
    rw [List.Nodup.count hnd, if_pos ((idxs_mem _ _ _).2 ⟨j, by omega, _, hx, by omega⟩)]
end Go.Proofs.YtjlfgojblimobaaGreat.M
end
