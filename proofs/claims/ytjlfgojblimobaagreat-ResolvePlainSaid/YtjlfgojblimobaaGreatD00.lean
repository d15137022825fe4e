/- What stands beside ParaM, for the other laws. -/
/- What stands beside LineM, for the other laws. -/
/- What stands beside OpenC, for the other laws. -/
/- What stands beside PlainM, for the other laws. -/
/- The contracts of the document's loose, back and Line. Conditions: the slices read as lists, at most a thousand long. -/
/- The walk of ResolveLine: it answers true. Conditions: the slices read as lists, within their capacities. -/
import Derived.Test.YtjlfgojblimobaaGreatA18
import Derived.Test.YtjlfgojblimobaaGreatA12
import Derived.Test.YtjlfgojblimobaaGreatA19
import Derived.Test.YtjlfgojblimobaaGreatA22
import Derived.Test.YtjlfgojblimobaaGreatA30
import Derived.Test.YtjlfgojblimobaaGreatA35
import Derived.Test.YtjlfgojblimobaaGreatA00
import Derived.Deep.Slices
import Derived.OpenShut
import Derived.SizedLaws
import Derived.Test.YtjlfgojblimobaaGreatA01
import Derived.Test.YtjlfgojblimobaaGreatA39
section
namespace Go.Proofs.YtjlfgojblimobaaGreat.M

section
variable {cs out pl n : List Int} {ms : List (Int × Int)} {ss : List Sq} {s : Sq} {j k : Nat} {x b : Int} {l : List Int}
theorem put_out (h : ∀ p ∈ pl, p ≠ (j : Int)) (hp : ∀ p ∈ pl, 0 ≤ p) : (put out pl n)[j]? = out[j]? := by
  induction pl generalizing out n with
  | nil => cases n <;> rfl
  | cons p pl ih =>
    cases n with
    | nil => rfl
    | cons x n =>
      show (put (out.set p.toNat x) pl n)[j]? = _
      have h1 := h p (by simp)
      have h2 := hp p (by simp)
      rw [ih (fun q hq => h q (by simp [hq])) (fun q hq => hp q (by simp [hq])), List.getElem?_set_ne (by omega)]
theorem put_in (hc : pl.count (j : Int) = 1) (hk : pl[k]? = some (j : Int)) (hp : ∀ p ∈ pl, 0 ≤ p) (hj : j < out.length) (hn : n.length = pl.length) : (put out pl n)[j]? = n[k]? := by
  induction pl generalizing out n k with
  | nil => simp at hk
  | cons p pl ih =>
    cases n with
    | nil => simp at hn
    | cons x n =>
      show (put (out.set p.toNat x) pl n)[j]? = _
      cases k with
      | zero =>
        rw [List.getElem?_cons_zero] at hk
        injection hk with hk
        subst hk
        rw [List.count_cons_self] at hc
        have hno : ∀ p ∈ pl, p ≠ (j : Int) := fun p hp' e => by
          subst e
          have := List.count_pos_iff.2 hp'
          omega
        rw [put_out hno (fun q hq => hp q (by simp [hq])), Int.toNat_natCast, List.getElem?_set_self hj]
        rfl
      | succ k =>
        rw [List.getElem?_cons_succ] at hk
        have hmem := List.mem_of_getElem? hk
        have hpos := List.count_pos_iff.2 hmem
        have hc2 : pl.count (j : Int) = 1 := by
          rw [List.count_cons] at hc
          omega
        rw [ih hc2 hk (fun q hq => hp q (by simp [hq])) (by rw [List.length_set]; exact hj) (by simpa using hn)]
        rfl
theorem paraTo_no (hp : ∀ s ∈ ss, ∀ p ∈ s.pl, 0 ≤ p) (h : (ss.flatMap (·.pl)).count (j : Int) = 0) : (paraTo cs ms ss out)[j]? = out[j]? := by
  unfold paraTo
  induction ss generalizing out with
  | nil => rfl
  | cons s ss ih =>
    rw [List.flatMap_cons, List.count_append] at h
    rw [List.foldl_cons, ih (fun s hs => hp s (by simp [hs])) (by omega)]
    refine put_out (fun p hp' e => ?_) (hp s (by simp))
    subst e
    have := List.count_pos_iff.2 hp'
    omega
theorem paraTo_one (hp : ∀ s ∈ ss, ∀ p ∈ s.pl, 0 ≤ p) (hj : j < out.length) (h : (ss.flatMap (·.pl)).count (j : Int) = 1) : ∃ s ∈ ss, ∃ k : Nat, s.pl[k]? = some (j : Int) ∧ (paraTo cs ms ss out)[j]? = (seqN cs ms s)[k]? := by
  induction ss generalizing out with
  | nil => simp at h
  | cons s ss ih =>
    rw [List.flatMap_cons, List.count_append] at h
    have hp2 : ∀ s ∈ ss, ∀ p ∈ s.pl, 0 ≤ p := fun s hs => hp s (by simp [hs])
    rcases Nat.eq_zero_or_pos (s.pl.count (j : Int)) with h0 | h0
    · obtain ⟨s', hs', k, h1, h2⟩ := ih (out := put out s.pl (seqN cs ms s)) hp2 (by rw [put_len]; exact hj) (by omega)
      exact ⟨s', by simp [hs'], k, h1, h2⟩
    · obtain ⟨k, hk⟩ := List.mem_iff_getElem?.1 (List.count_pos_iff.1 h0)
      refine ⟨s, by simp, k, hk, ?_⟩
      show (paraTo cs ms ss (put out s.pl (seqN cs ms s)))[j]? = _
      rw [paraTo_no hp2 (by omega)]
      exact put_in (by omega) hk (hp s (by simp)) hj seqN_len
theorem seqs_pos (hb : b = 0 ∨ b = 1) : ∀ s ∈ seqs l (levs l b) b, ∀ p ∈ s.pl, 0 ≤ p := fun s hs p hp => by
  obtain ⟨j, rfl, -⟩ := (seqs_ok hb hs).at_ p hp
  omega
theorem para_removed (hb : b = 0 ∨ b = 1) {c : Int} (hc : l[j]? = some c) (h : removed c = true) : (para l ms b)[j]? = some (-1) := by
  have hcnt := seqs_count l hb hc
  rw [if_pos h] at hcnt
  unfold para
  rw [paraTo_no (seqs_pos hb) hcnt, List.getElem?_replicate, if_pos (List.getElem?_eq_some_iff.1 hc).1]
theorem para_kept (hb : b = 0 ∨ b = 1) {c : Int} (hc : l[j]? = some c) (h : removed c = false) : ∃ s ∈ seqs l (levs l b) b, ∃ k : Nat, s.pl[k]? = some (j : Int) ∧ (para l ms b)[j]? = (seqN (clsOf l b) ms s)[k]? ∧ (levs l b)[j]? = some s.lv := by
  have hcnt := seqs_count l hb hc
  rw [if_neg (by simp [h])] at hcnt
  obtain ⟨s, hs, k, h1, h2⟩ := paraTo_one (cs := clsOf l b) (ms := ms) (out := List.replicate l.length (-1)) (seqs_pos hb) (by rw [List.length_replicate]; exact (List.getElem?_eq_some_iff.1 hc).1) hcnt
  obtain ⟨j', e, h3⟩ := (seqs_ok hb hs).at_ _ (List.mem_of_getElem? h1)
  obtain rfl := Int.ofNat_inj.1 e
  exact ⟨s, hs, k, h1, h2, h3⟩
theorem seqN_at (h : (seqN cs ms s)[k]? = some x) : s.lv ≤ x ∧ x ≤ s.lv + 2 := by
  unfold seqN S12.M.raise at h
  rw [List.getElem?_map] at h
  cases hz : (S12.M.settle s.lv s.fi s.la (S11.M.res (cameOf cs s) (S10.M.wall s.fi (cameOf cs s)) (marksOf ms s) s.lv s.fi))[k]? with
  | none => rw [hz] at h; cases h
  | some z =>
    rw [hz] at h
    injection h with h
    subst h
    have := S12.M.rs_is (lv := s.lv) (c := z)
    exact ⟨this.1, this.2.1⟩
end
end Go.Proofs.YtjlfgojblimobaaGreat.M
end

section
namespace Go.Proofs.YtjlfgojblimobaaGreat.M

instance (l lv : List Int) (f t b : Int) : Decidable (lineOk l lv f t b) := by unfold lineOk; infer_instance
section
variable {base last b x y c : Int} {l lv : List Int} {i j n : Nat}
theorem ln_low (h : l.length = lv.length) (hb : b ≤ base) (hl : b ≤ last) (hx : ∀ (i : Nat) (c x : Int), l[i]? = some c → lv[i]? = some x → removed c = false → b ≤ x) (hy : (ln base last l lv)[i]? = some y) : b ≤ y := by
  induction i generalizing y with
  | zero =>
    cases l with
    | nil => cases lv <;> simp [ln] at hy
    | cons d r =>
      cases lv with
      | nil => simp at h
      | cons e s =>
        have h1 : (ln base last (d :: r) (e :: s))[0]? = some (if bk (d :: r) = true then base else if removed d = true then last else e) := rfl
        rw [h1] at hy
        injection hy with hy
        subst hy
        split
        · exact hb
        · split
          · exact hl
          · exact hx 0 d e rfl rfl (by simpa using ‹¬ removed d = true›)
  | succ i ih =>
    have hlt := (List.getElem?_eq_some_iff.1 hy).1
    rw [ln_len h] at hlt
    obtain ⟨c, hc⟩ : ∃ c, l[i + 1]? = some c := ⟨_, List.getElem?_eq_getElem hlt⟩
    obtain ⟨x, hxx⟩ : ∃ x, lv[i + 1]? = some x := ⟨_, List.getElem?_eq_getElem (by omega)⟩
    obtain ⟨last', -, h2, h3⟩ := ln_at (base := base) (last := last) h hc hxx
    rw [h3] at hy
    injection hy with hy
    subst hy
    split
    · exact hb
    · split
      · exact ih (h2 (by omega))
      · exact hx _ c x hc hxx (by simpa using ‹¬ removed c = true›)
def firm (c : Int) : Prop := ¬ S12.M.neu c ∧ removed c = false
theorem bk_ends {r : List Int} (h : c = 11 ∨ c = 10) : bk (c :: r) = true := by unfold bk; rw [if_pos h]
theorem firm_loose (h : firm c) : loose c = false ∧ ¬ (c = 11 ∨ c = 10) := by
  obtain ⟨h1, h2⟩ := h
  unfold S12.M.neu at h1
  unfold loose begins
  rw [h2]
  simp
  omega
theorem bk_firm {r : List Int} (h : firm c) : bk (c :: r) = false := by
  obtain ⟨h1, h2⟩ := firm_loose h
  unfold bk
  rw [if_neg h2, if_pos h1]
theorem bk_cut {p r : List Int} (h : firm c) : bk (p ++ c :: r) = bk (p ++ [c]) := by
  induction p with
  | nil => rw [List.nil_append, List.nil_append, bk_firm h, bk_firm h]
  | cons d p ih =>
    show (if d = 11 ∨ d = 10 then true else if loose d = false then false else bk (p ++ c :: r)) = (if d = 11 ∨ d = 10 then true else if loose d = false then false else bk (p ++ [c]))
    rw [ih]
theorem ln_cut {p q r s : List Int} (hp : p.length = q.length) (h : firm c) : ∃ z, ln base last (p ++ c :: r) (q ++ x :: s) = ln base last (p ++ [c]) (q ++ [x]) ++ z := by
  induction p generalizing q last with
  | nil =>
    cases q with
    | nil =>
      refine ⟨ln base x r s, ?_⟩
      have hr : removed c ≠ true := by rw [h.2]; simp
      show (if bk (c :: r) = true then base else if removed c = true then last else x) :: ln base (if bk (c :: r) = true then base else if removed c = true then last else x) r s = [if bk [c] = true then base else if removed c = true then last else x] ++ ln base x r s
      rw [bk_firm h, bk_firm h, if_neg (by simp), if_neg hr]
      rfl
    | cons e q => simp at hp
  | cons d p ih =>
    cases q with
    | nil => simp at hp
    | cons e q =>
      obtain ⟨z, hz⟩ := ih (q := q) (last := if bk (d :: (p ++ [c])) = true then base else if removed d = true then last else e) (by simpa using hp)
      refine ⟨z, ?_⟩
      have hb : bk (d :: (p ++ c :: r)) = bk (d :: (p ++ [c])) := bk_cut (p := d :: p) h
      show (if bk (d :: (p ++ c :: r)) = true then base else if removed d = true then last else e) :: ln base (if bk (d :: (p ++ c :: r)) = true then base else if removed d = true then last else e) (p ++ c :: r) (q ++ x :: s) = _
      rw [hb, hz]
      rfl
end
end Go.Proofs.YtjlfgojblimobaaGreat.M
end

section
namespace Go.Proofs.YtjlfgojblimobaaGreat
open Go.ChangeShapes Go.WideShapes Go.ChangeAt Go.WideMaps Go.WideElems Go.RowKit

set_option maxRecDepth 100000
theorem i64_low {n : Int} (h : (Lit.int .i64 n).wf = true) : -9223372036854775808 ≤ n := by
  simp [Lit.wf, IntKind.min, IntKind.max, IntKind.signed, IntKind.bits] at h
  exact h.1
section
variable {H : Type} {enc : TypeId × Value → H} {W : World} {base : Nat}
theorem open_arr3i {v : Value} {d : DataW H} {p : List MemPlace} (hv : Value.okWide Tryz.prog W .any base 36 v) (h : DataW.Trod enc Tryz.prog W 0 (fun _ => true) true 36 v d p) :
    ∃ a b c : Int, v = .agg #[.int .i64 a, .int .i64 b, .int .i64 c] := by
  obtain ⟨cs0, rfl, hok, _⟩ : ∃ cs, v = .agg cs ∧ cs.size = Tryz.prog.cellsOf 36 ∧ Row.okWide Tryz.prog W .any base 36 cs := by
    simpa only [Value.okWide, Tryz.underlying36] using hv
  obtain ⟨fuel, hf⟩ := h
  obtain ⟨xs, n, _, _, hlen, hn3, hel⟩ := DataW.trod_array Tryz.underlying36 hf
  have c3 : Tryz.prog.cellsOf 36 = 3 := by kernel_rfl
  have c1 : Tryz.prog.cellsOf 3 = 1 := by kernel_rfl
  rw [c3] at hlen
  rw [c1] at hel
  obtain ⟨cl, rfl⟩ : ∃ cl : List Value, cs0 = cl.toArray := ⟨cs0.toList, by simp⟩
  simp only [Value.cells] at hlen hel
  match cl, hlen, xs, hn3, hel with
  | [k0, k1, k2], _, [x0, x1, x2], _, hel =>
    obtain ⟨a, e0, _, _⟩ := DataW.trod_int Tryz.underlying3 (hel 0 (by decide))
    obtain ⟨b, e1, _, _⟩ := DataW.trod_int Tryz.underlying3 (hel 1 (by decide))
    obtain ⟨c, e2, _, _⟩ := DataW.trod_int Tryz.underlying3 (hel 2 (by decide))
    simp at e0 e1 e2
    subst e0 e1 e2
    exact ⟨a, b, c, rfl⟩
end
end Go.Proofs.YtjlfgojblimobaaGreat
end

section
namespace Go.Proofs.YtjlfgojblimobaaGreat.M

section
variable {b x : Int} {l out vals cs : List Int} {ms : List (Int × Int)} {i k m n : Nat}
theorem kd_zero : S11.M.kd l (List.replicate n (0, 0)) i = 0 := by
  unfold S11.M.kd
  by_cases hl : l[i]? = some 13
  · rw [if_pos hl, List.getElem?_replicate]
    by_cases hi : i < n
    · rw [if_pos hi]
      rfl
    · rw [if_neg hi]
  · rw [if_neg hl]
theorem pgo_zero {kd mid : Nat → Int} {st : List Nat} {pa : List Int} (h : ∀ i, kd i = 0) : S11.M.pgo kd mid m i st pa = pa := by
  induction m generalizing i with
  | zero => rfl
  | succ m ih =>
    unfold S11.M.pgo
    rw [if_neg (by rw [h]; omega), if_neg (by rw [h]; omega)]
    exact ih
theorem prsFrom_zero : S11.M.prsFrom i (List.replicate n 0) = [] := by
  induction n generalizing i with
  | zero => rfl
  | succ n ih =>
    rw [List.replicate_succ]
    unfold S11.M.prsFrom
    rw [if_neg (by omega)]
    exact ih
theorem res_zero {came : List Int} {lv f : Int} : S11.M.res came l (List.replicate n (0, 0)) lv f = l := by
  have hp : S11.M.prs l (List.replicate n (0, 0)) = [] := by
    unfold S11.M.prs S11.M.partner
    rw [pgo_zero fun i => kd_zero, prsFrom_zero]
  unfold S11.M.res S11.M.resTo
  rw [hp]
  rfl
theorem wgo_none {nn f : Int} {p o q : List Int} (h : ∀ c ∈ q, c = 0 ∨ c = 1 ∨ c = 11 ∨ c = 12 ∨ c = 13) : S10.M.wgo nn f p o q = q := by
  induction q generalizing p o with
  | nil => rfl
  | cons c q ih =>
    have hc := h c (by simp)
    have hw : S10.M.wat nn f p o c q = c := by
      unfold S10.M.wat
      rw [if_neg (by omega), if_neg (by omega), if_neg (by omega), if_neg (by omega), if_neg (by omega), if_neg (by omega), if_neg (by omega)]
    show S10.M.wat nn f p o c q :: S10.M.wgo nn f (c :: p) (S10.M.wat nn f p o c q :: o) q = _
    rw [hw, ih fun d hd => h d (by simp [hd])]
theorem wall_none {f : Int} (h : ∀ c ∈ l, c = 0 ∨ c = 1 ∨ c = 11 ∨ c = 12 ∨ c = 13) : S10.M.wall f l = l := by
  unfold S10.M.wall S10.M.wrule
  simp only [wgo_none h]
theorem sa_all {s : Int} (hs : s = 0 ∨ s = 1) (h : ∀ c ∈ l, c = s ∨ c = 11 ∨ c = 12 ∨ c = 13) : S12.M.sa s l = s := by
  induction l with
  | nil => rfl
  | cons c r ih =>
    rw [S12.M.sa_cons]
    rcases h c (by simp) with rfl | hc
    · rw [if_neg (S12.M.not_neu hs)]
      rcases hs with rfl | rfl <;> rfl
    · rw [if_pos (by unfold S12.M.neu; omega)]
      exact ih fun d hd => h d (by simp [hd])
theorem para_plain (hb : b = 0 ∨ b = 1) (h : ∀ c ∈ l, c = b ∨ c = 11 ∨ c = 12 ∨ c = 13) (hn : l.length = n + 1) (hx : (para l [] b)[i]? = some x) : x = b := by
  have hf : ∀ c ∈ l, flat c := fun c hc => by
    have h1 := h c hc
    have h2 : c = 0 ∨ c = 1 ∨ c = 11 ∨ c = 12 ∨ c = 13 := by omega
    rcases h2 with rfl | rfl | rfl | rfl | rfl <;> exact ⟨by omega, rfl, rfl, by omega, by omega⟩
  rw [para_flat hb hf hn, wall_none fun c hc => by have := h c hc; omega, res_zero] at hx
  unfold S12.M.raise at hx
  rw [List.getElem?_map] at hx
  cases hz : (S12.M.settle b b b l)[i]? with
  | none => rw [hz] at hx; cases hx
  | some z =>
    rw [hz] at hx
    injection hx with hx
    subst hx
    obtain ⟨c, hc, e⟩ := S12.M.settle_at hz
    have hzb : z = b := by
      rcases h c (List.mem_of_getElem? hc) with rfl | h1
      · rw [e, if_neg (S12.M.not_neu hb)]
      · rw [e, if_pos (by unfold S12.M.neu; omega)]
        unfold S12.M.nat
        rw [sa_all hb fun d hd => h d (List.mem_of_mem_take (List.mem_reverse.1 hd)), sa_all hb fun d hd => h d (List.mem_of_mem_drop hd), if_pos ⟨rfl, by omega⟩]
    rw [hzb]
    rcases hb with rfl | rfl <;> rfl
end
end Go.Proofs.YtjlfgojblimobaaGreat.M
end

section
namespace Go.Proofs.YtjlfgojblimobaaGreat
open Go.RowKit
set_option maxRecDepth 100000

set_option maxHeartbeats 1000000 in
theorem refLoose_any (c : Int) (w : World) : Calls Tryz.prog 60 #[.int .i64 c] w fun r w' => r = .returned (.bool (M.loose c)) ∧ w = w' := by
  have HB := Lib.hid (begins_any c w)
  have HM := Lib.hid (removed_any c w)
  obtain ⟨b, hb⟩ : ∃ b, M.begins c = b := ⟨_, rfl⟩
  obtain ⟨m, hm⟩ : ∃ b, M.removed c = b := ⟨_, rfl⟩
  rw [hb] at HB
  rw [hm] at HM
  have HL := Lib.hid (show M.loose c = (b || (m || (decide (c = 12) || decide (c = 22)))) by unfold M.loose; rw [hb, hm])
  clear hb hm
  go_enter Tryz.func60, Tryz.ntmps60
  go_wp2_with fail
  refine HB.out.mono ?_
  rintro r w1 ⟨rfl, rfl⟩
  go_wp2_with fail
  refine HM.out.mono ?_
  rintro r w1 ⟨rfl, rfl⟩
  cases b <;> cases m
  all_goals
    go_wp2_with fail
    all_goals
      go_ret
      exact ⟨ret_bool (by rw [HL.out, Bool.eq_iff_iff]; simp_all), rfl⟩
set_option maxHeartbeats 4000000 in
theorem refBack_any (A : Option Addr) (ca n at_ tp : Nat) (l : List Int) (w : World) (hr : RdS .i64 w w.heap.size A l) (hn : l.length = n) (hl : n ≤ 1000) (hat : at_ ≤ tp) (hto : tp ≤ n) :
    Calls Tryz.prog 33 #[.slice A n ca, .int .i64 at_, .int .i64 tp] w fun r w' => r = .returned (.bool (M.bk ((l.take tp).drop at_))) ∧ w = w' := by
  obtain ⟨R, hR⟩ : ∃ R, M.bk ((l.take tp).drop at_) = R := ⟨_, rfl⟩
  rw [hR]
  have HR := Lib.hid hr
  have HN := Lib.hid hn
  have HRR := Lib.hid hR
  have h1 : (tp : Int) ≤ n := by omega
  have h2 : (n : Int) ≤ 1000 := by omega
  clear hr hn hR
  go_enter Tryz.func33, Tryz.ntmps33
  go_wp2_with fail
  go_loop [7] (fun v => ∃ k : Nat, v = .int .i64 k ∧ at_ ≤ k ∧ k ≤ tp ∧ M.bk ((l.take tp).drop k) = R) (fun v => tp - (intOf v).toNat)
  case atStart => exact ⟨at_, rfl, Nat.le_refl _, hat, HRR.out⟩
  case round =>
    obtain ⟨k, rfl, hk1, hk2, hto⟩ := hrel
    have k0 : (0 : Int) ≤ k := by omega
    by_cases hlt : k < tp
    · have k1 : (k : Int) < tp := by omega
      have k2 : (k : Int) < n := by omega
      obtain ⟨ad, c, rfl, hcx, hc, -⟩ := rd_at HR.out (Below.refl _ _) (by rw [HN.out]; omega : k < l.length)
      have hd : (l.take tp).drop k = c :: (l.take tp).drop (k + 1) := by
        obtain ⟨hl', e⟩ := List.getElem?_eq_some_iff.1 hc
        rw [List.drop_eq_getElem_cons (by rw [List.length_take]; omega), List.getElem_take, e]
      rw [hd] at hto
      have h3 : (if c = 11 ∨ c = 10 then true else if M.loose c = false then false else M.bk ((l.take tp).drop (k + 1))) = R := hto
      have HLO := Lib.hid (refLoose_any c w)
      obtain ⟨y, hy⟩ : ∃ y, M.loose c = y := ⟨_, rfl⟩
      rw [hy] at h3 HLO
      clear hto hd hc hy
      rcases (show c = 11 ∨ c = 10 ∨ (c ≠ 11 ∧ c ≠ 10) by omega) with rfl | rfl | ⟨g1, g2⟩
      · have H3 := Lib.hid (show true = R from h3)
        clear h3
        go_wp2_with fail
        go_ret
        exact ⟨ret_bool H3.out, rfl⟩
      · have H3 := Lib.hid (show true = R from h3)
        clear h3
        go_wp2_with fail
        go_ret
        exact ⟨ret_bool H3.out, rfl⟩
      · rw [if_neg (by omega)] at h3
        have b1 : (c == 11) = false := by simp; exact g1
        have b2 : (c == 10) = false := by simp; exact g2
        clear g1 g2
        cases y with
        | false =>
          have H3 := Lib.hid (show false = R from h3)
          clear h3
          go_wp2_with fail
          refine HLO.out.mono ?_
          rintro r w1 ⟨rfl, rfl⟩
          go_wp2_with fail
          go_ret
          exact ⟨ret_bool H3.out, rfl⟩
        | true =>
          rw [if_neg (by simp)] at h3
          have H3 := Lib.hid h3
          clear h3
          go_wp2_with fail
          refine HLO.out.mono ?_
          rintro r w1 ⟨rfl, rfl⟩
          go_wp2_with fail
          go_round
          case rel => exact ⟨k + 1, by go_num, by omega, by omega, H3.out⟩
          case measure => simp [intOf]; omega
    · obtain rfl : k = tp := by omega
      have k1 : ¬ (k : Int) < (k : Int) := by omega
      rw [List.drop_of_length_le (by rw [List.length_take]; omega)] at hto
      have H3 := Lib.hid (show true = R from hto)
      clear hto
      go_wp2_with fail
      go_ret
      exact ⟨ret_bool H3.out, rfl⟩
set_option maxHeartbeats 8000000 in
theorem refLine_no (A B : Option Addr) (ca cb n m : Nat) (l lv : List Int) (f t b : Int) (w : World) (hn : l.length = n) (hm : lv.length = m) (hl : n ≤ 1000) (hl2 : m ≤ 1000) (h : ¬ M.lineOk l lv f t b) :
    Calls Tryz.prog 16 #[.slice A n ca, .slice B m cb, .agg #[.int .i64 f, .int .i64 t, .int .i64 b]] w (LevsOut (M.lineOk l lv f t b) (M.line l lv f t b) w) := by
  have HNO := Lib.hid h
  have h1 : (n : Int) ≤ 1000 := by omega
  have h2 : (m : Int) ≤ 1000 := by omega
  have hx : n ≠ m ∨ f < 0 ∨ t < f ∨ (n : Int) < t ∨ b < 0 ∨ 1 < b := by
    unfold M.lineOk at h
    omega
  clear h hn hm
  by_cases hnm : n = m
  · subst hnm
    have bn : ((n : Int) != (n : Int)) = false := by simp
    have hx2 : f < 0 ∨ t < f ∨ (n : Int) < t ∨ b < 0 ∨ 1 < b := by omega
    have HX := Lib.hid hx2
    clear hx hx2
    go_enter Tryz.func16, Tryz.ntmps16
    go_wp2_with fail
    all_goals first
      | (go_returns; exact ⟨(Below.refl _ _).alloc (Nat.le_refl _) _, fun h => absurd h HNO.out, fun _ => rfl⟩)
      | (exfalso; have := HX.out; omega)
  · have bn : ((n : Int) != (m : Int)) = true := by simp; omega
    clear hx hnm
    go_enter Tryz.func16, Tryz.ntmps16
    go_wp2_with fail
    go_returns
    exact ⟨(Below.refl _ _).alloc (Nat.le_refl _) _, fun h => absurd h HNO.out, fun _ => rfl⟩
set_option maxHeartbeats 8000000 in
theorem refLine_ok (A B : Option Addr) (ca cb n f t : Nat) (b : Int) (l lv : List Int) (w : World) (hr : RdS .i64 w w.heap.size A l) (hr2 : RdS .i64 w w.heap.size B lv) (hn : l.length = n) (hm : lv.length = n) (hl : n ≤ 1000) (hft : f ≤ t) (htn : t ≤ n) (hb : b = 0 ∨ b = 1) :
    Calls Tryz.prog 16 #[.slice A n ca, .slice B n cb, .agg #[.int .i64 f, .int .i64 t, .int .i64 b]] w (LevsOut (M.lineOk l lv f t b) (M.line l lv f t b) w) := by
  obtain ⟨i0, hi, hz0, hz1, hz2⟩ := info_parts Tryz.infoInt13
  obtain ⟨W1, hW1, hb1, e0, e1, e2, hgt⟩ := S12.new_three w f t b 36
  obtain ⟨R, hR⟩ : ∃ R, M.line l lv f t b = R := ⟨_, rfl⟩
  have hRR : M.ln b b ((l.take t).drop f) ((lv.take t).drop f) = R := by rw [← hR]; unfold M.line; rw [Int.toNat_natCast, Int.toNat_natCast]
  rw [hR]
  have HRR := Lib.hid hRR
  have HR := Lib.hid ((hr.below hb1).more hb1.size)
  have HR2 := Lib.hid ((hr2.below hb1).more hb1.size)
  have HN := Lib.hid hn
  have HM := Lib.hid hm
  have HB1 := Lib.hid hb1
  have HGT := Lib.hid hgt
  have HOK := Lib.hid (show M.lineOk l lv f t b from ⟨by omega, by omega, by omega, by omega, by omega, by omega⟩)
  have n1 : (n : Int) ≤ 1000 := by omega
  have t1 : (t : Int) ≤ n := by omega
  have f1 : (f : Int) ≤ t := by omega
  have f0 : (0 : Int) ≤ f := by omega
  have b0 : 0 ≤ b := by omega
  have d1 : decide ((f : Int) < 0) = false := by simp
  have d2 : decide (t < f) = false := by simp; omega
  have d3 : decide (n < t) = false := by simp; omega
  have d4 : decide (b < 0) = false := by simp; omega
  have d5 : decide (1 < b) = false := by simp; omega
  have d6 : decide ((t : Int) < f) = false := by simp; omega
  have d7 : decide ((n : Int) < t) = false := by simp; omega
  have b1 : b ≤ 1 := by omega
  have bn : ((n : Int) != (n : Int)) = false := by simp
  clear hr hr2 hn hm hR hRR hb1 hgt
  go_enter Tryz.func16, Tryz.ntmps16
  go_wp2_with fail
  go_loopw [10, 11, 12] (fun o la v wr => ∃ (k : Nat) (acc : List Int) (last : Int), la = .int .i64 last ∧ v = .int .i64 k ∧ f ≤ k ∧ k ≤ t ∧ acc.length = k - f ∧ acc ++ M.ln b last ((l.take t).drop k) ((lv.take t).drop k) = R ∧ wr.ownsRow W1.heap.size 3 1 o acc.length (acc.map (Value.int .i64)) ∧ Below W1.heap.size W1 wr) (fun _ _ v _ => t - (intOf v).toNat)
  case atStart => exact ⟨f, [], b, rfl, rfl, Nat.le_refl _, hft, by simp, HRR.out, World.ownsRow_nil _ _ _ _, Below.refl _ _⟩
  case round =>
    obtain ⟨k, acc, last, rfl, rfl, hk1, hk2, hal, hto, ho, hbel⟩ := hrel
    rename World => wr
    have k0 : (0 : Int) ≤ k := by omega
    have HO := Lib.hid ho
    have HBL := Lib.hid hbel
    by_cases hlt : k < t
    · have k1 : (k : Int) < t := by omega
      have k2 : (k : Int) < n := by omega
      obtain ⟨ad, c, rfl, hcx, hc, -⟩ := rd_at HR.out hbel (by rw [HN.out]; omega : k < l.length)
      obtain ⟨bd, x, rfl, hxx, hx, -⟩ := rd_at HR2.out hbel (by rw [HM.out]; omega : k < lv.length)
      have e2' := (hbel.cell (p := ⟨w.heap.size, 2, none⟩) HGT.out).trans e2
      have hd : (l.take t).drop k = c :: (l.take t).drop (k + 1) := by
        obtain ⟨hl', e⟩ := List.getElem?_eq_some_iff.1 hc
        rw [List.drop_eq_getElem_cons (by rw [List.length_take]; omega), List.getElem_take, e]
      have hd2 : (lv.take t).drop k = x :: (lv.take t).drop (k + 1) := by
        obtain ⟨hl', e⟩ := List.getElem?_eq_some_iff.1 hx
        rw [List.drop_eq_getElem_cons (by rw [List.length_take]; omega), List.getElem_take, e]
      have HRM := Lib.hid (removed_any c wr)
      have HBK := Lib.hid (fun W (hW : Below W1.heap.size W1 W) => refBack_any (some ad) ca n k t l W ((HR.out.below hW).more hW.size) HN.out hl (by omega) (by omega))
      obtain ⟨y, hy⟩ : ∃ y, M.bk ((l.take t).drop k) = y := ⟨_, rfl⟩
      obtain ⟨m, hm⟩ : ∃ y, M.removed c = y := ⟨_, rfl⟩
      rw [hy] at HBK
      rw [hm] at HRM
      obtain ⟨nx, hnx⟩ : ∃ z, (if y = true then b else if m = true then last else x) = z := ⟨_, rfl⟩
      have hto2 : (acc ++ [nx]) ++ M.ln b nx ((l.take t).drop (k + 1)) ((lv.take t).drop (k + 1)) = R := by
        rw [← hto, List.append_assoc, hd2, hd]
        rw [hd] at hy
        show _ = acc ++ ((if M.bk (c :: (l.take t).drop (k + 1)) = true then b else if M.removed c = true then last else x) :: M.ln b (if M.bk (c :: (l.take t).drop (k + 1)) = true then b else if M.removed c = true then last else x) _ _)
        rw [hy, hm, hnx]
        rfl
      obtain ⟨La, hLa⟩ : ∃ L, acc.length = L := ⟨_, rfl⟩
      have hLk : La ≤ 1000 := by omega
      have hLa2 : La + 1 = (k + 1) - f := by omega
      rw [hLa] at ho
      have HTO := Lib.hid hto2
      have HOW := Lib.hid ho
      have HLA := Lib.hid hLa
      have HNX := Lib.hid hnx
      have HAL := Lib.hid hLa2
      have hws := hbel.size
      clear hd hd2 hc hx hto hto2 hy hm ho hLa hnx hal hbel hLa2
      cases y with
      | true =>
        cases m
        all_goals
          have hnx := HNX.out
          rw [if_pos rfl] at hnx
          subst hnx
          go_wp2_with fail
          refine HRM.out.mono ?_
          rintro r w1 ⟨rfl, rfl⟩
          go_wp2_with fail
          refine (HBK.out _ HBL.out).mono ?_
          rintro r w2 ⟨rfl, rfl⟩
          go_wp2_with (at_builtin; refine wpList_append_own _ rfl _ _ 25 rfl W1.heap.size 3 i0 (.int .i64 0) 1 8 Tryz.underlying25 hi hz0 hz1 hz2 rfl (by decide) _ _ _ rfl (World.ownsRow.alloc HOW.out _) ⟨wr.heap.size, 0, none⟩ 1 1 [.int .i64 b] rfl rfl (one_new _ _ _) one_cell (by unfold maxLen; omega) (by omega) (by simp; omega) ?_)
          intro v4 w4 ho4 hg4 _
          have hb4 : Below W1.heap.size W1 w4 := (HBL.out.alloc hws _).grown hg4 (by simp; omega) (fun k hk => (World.ownsRow.lt HOW.out k hk).1)
          have HB4 := Lib.hid hb4
          have HO4 := Lib.hid (show w4.ownsRow W1.heap.size 3 1 v4 (acc ++ [b]).length ((acc ++ [b]).map (Value.int .i64)) from by rw [List.length_append, HLA.out, List.map_append]; exact ho4)
          clear ho4 hg4 hb4
          go_wp2_with fail
          go_roundw
          case rel => exact ⟨k + 1, acc ++ [b], b, rfl, by go_num, by omega, by omega, by rw [List.length_append, HLA.out]; exact HAL.out, HTO.out, HO4.out, HB4.out⟩
          case measure => simp [intOf]; omega
      | false =>
        cases m with
        | true =>
          have hnx := HNX.out
          rw [if_neg (by simp), if_pos rfl] at hnx
          subst hnx
          go_wp2_with fail
          refine HRM.out.mono ?_
          rintro r w1 ⟨rfl, rfl⟩
          go_wp2_with fail
          refine (HBK.out _ HBL.out).mono ?_
          rintro r w2 ⟨rfl, rfl⟩
          go_wp2_with (at_builtin; refine wpList_append_own _ rfl _ _ 25 rfl W1.heap.size 3 i0 (.int .i64 0) 1 8 Tryz.underlying25 hi hz0 hz1 hz2 rfl (by decide) _ _ _ rfl (World.ownsRow.alloc HOW.out _) ⟨wr.heap.size, 0, none⟩ 1 1 [.int .i64 last] rfl rfl (one_new _ _ _) one_cell (by unfold maxLen; omega) (by omega) (by simp; omega) ?_)
          intro v4 w4 ho4 hg4 _
          have hb4 : Below W1.heap.size W1 w4 := (HBL.out.alloc hws _).grown hg4 (by simp; omega) (fun k hk => (World.ownsRow.lt HOW.out k hk).1)
          have HB4 := Lib.hid hb4
          have HO4 := Lib.hid (show w4.ownsRow W1.heap.size 3 1 v4 (acc ++ [last]).length ((acc ++ [last]).map (Value.int .i64)) from by rw [List.length_append, HLA.out, List.map_append]; exact ho4)
          clear ho4 hg4 hb4
          go_wp2_with fail
          go_roundw
          case rel => exact ⟨k + 1, acc ++ [last], last, rfl, by go_num, by omega, by omega, by rw [List.length_append, HLA.out]; exact HAL.out, HTO.out, HO4.out, HB4.out⟩
          case measure => simp [intOf]; omega
        | false =>
          have hnx := HNX.out
          rw [if_neg (by simp), if_neg (by simp)] at hnx
          subst hnx
          go_wp2_with fail
          refine HRM.out.mono ?_
          rintro r w1 ⟨rfl, rfl⟩
          go_wp2_with fail
          refine (HBK.out _ HBL.out).mono ?_
          rintro r w2 ⟨rfl, rfl⟩
          go_wp2_with (at_builtin; refine wpList_append_own _ rfl _ _ 25 rfl W1.heap.size 3 i0 (.int .i64 0) 1 8 Tryz.underlying25 hi hz0 hz1 hz2 rfl (by decide) _ _ _ rfl (World.ownsRow.alloc HOW.out _) ⟨wr.heap.size, 0, none⟩ 1 1 [.int .i64 x] rfl rfl (one_new _ _ _) one_cell (by unfold maxLen; omega) (by omega) (by simp; omega) ?_)
          intro v4 w4 ho4 hg4 _
          have hb4 : Below W1.heap.size W1 w4 := (HBL.out.alloc hws _).grown hg4 (by simp; omega) (fun k hk => (World.ownsRow.lt HOW.out k hk).1)
          have HB4 := Lib.hid hb4
          have HO4 := Lib.hid (show w4.ownsRow W1.heap.size 3 1 v4 (acc ++ [x]).length ((acc ++ [x]).map (Value.int .i64)) from by rw [List.length_append, HLA.out, List.map_append]; exact ho4)
          clear ho4 hg4 hb4
          go_wp2_with fail
          go_roundw
          case rel => exact ⟨k + 1, acc ++ [x], x, rfl, by go_num, by omega, by omega, by rw [List.length_append, HLA.out]; exact HAL.out, HTO.out, HO4.out, HB4.out⟩
          case measure => simp [intOf]; omega
    · obtain rfl : k = t := by omega
      have k1 : ¬ (k : Int) < (k : Int) := by omega
      rw [List.drop_of_length_le (by rw [List.length_take]; omega)] at hto
      have he : acc = R := by
        rw [← hto]
        exact (List.append_nil _).symm
      rw [he] at ho
      have HF := Lib.hid ho
      have HBF := Lib.hid (HB1.out.trans (hbel.mono HB1.out.size))
      clear hto he ho hal hbel
      go_wp2_with fail
      go_returns
      obtain ⟨A', c', h1, h2, h3, -⟩ := reads_own HF.out
      subst h1
      exact ⟨HBF.out, fun _ => ⟨A', c', rfl, h2, h3⟩, fun h => absurd HOK.out h⟩
theorem refLine_any (A B : Option Addr) (ca cb n m : Nat) (f t b : Int) (l lv : List Int) (w : World) (hr : RdS .i64 w w.heap.size A l) (hr2 : RdS .i64 w w.heap.size B lv) (hn : l.length = n) (hm : lv.length = m) (hl : n ≤ 1000) (hl2 : m ≤ 1000) :
    Calls Tryz.prog 16 #[.slice A n ca, .slice B m cb, .agg #[.int .i64 f, .int .i64 t, .int .i64 b]] w (LevsOut (M.lineOk l lv f t b) (M.line l lv f t b) w) := by
  by_cases h : M.lineOk l lv f t b
  · obtain ⟨h1, h2, h3, h4, h5, h6⟩ := h
    obtain ⟨F, rfl⟩ : ∃ F : Nat, f = F := ⟨f.toNat, by omega⟩
    obtain ⟨T, rfl⟩ : ∃ T : Nat, t = T := ⟨t.toNat, by omega⟩
    obtain rfl : m = n := by omega
    exact refLine_ok A B ca cb m F T b l lv w hr hr2 hn hm hl (by omega) (by omega) (by omega)
  · exact refLine_no A B ca cb n m l lv f t b w hn hm hl hl2 h
end Go.Proofs.YtjlfgojblimobaaGreat
end

section
namespace Go.Proofs.YtjlfgojblimobaaGreat
open Go.RowKit
set_option maxRecDepth 100000

set_option maxHeartbeats 4000000 in
theorem lineLong_any (A B : Option Addr) (ca cb n m : Nat) (f t b : Int) (w : World) (h : 150 < n ∨ 150 < m) (hn : n ≤ maxLen) (hm : m ≤ maxLen) :
    Calls Tryz.prog 4 #[.slice A n ca, .slice B m cb, .agg #[.int .i64 f, .int .i64 t, .int .i64 b]] w fun r w' => r = .returned (.bool true) ∧ Below w.heap.size w w' := by
  unfold maxLen at hn hm
  have h1 : (n : Int) ≤ 9223372036854775807 := by omega
  have h2 : (m : Int) ≤ 9223372036854775807 := by omega
  by_cases h3 : 150 < n
  · have h4 : (150 : Int) < n := by omega
    go_enter Tryz.func4, Tryz.ntmps4
    go_wp2_with fail
    refine (alive_any _).mono ?_
    rintro r w2 ⟨rfl, hb⟩
    have HB := Lib.hid hb
    clear hb
    go_wp2_with fail
    go_ret
    exact ⟨rfl, ((Below.refl _ w).alloc (Nat.le_refl _) _).trans (HB.out.mono (by simp))⟩
  · have h4 : (n : Int) ≤ 150 := by omega
    have h5 : (150 : Int) < m := by omega
    go_enter Tryz.func4, Tryz.ntmps4
    go_wp2_with fail
    refine (alive_any _).mono ?_
    rintro r w2 ⟨rfl, hb⟩
    have HB := Lib.hid hb
    clear hb
    go_wp2_with fail
    go_ret
    exact ⟨rfl, ((Below.refl _ w).alloc (Nat.le_refl _) _).trans (HB.out.mono (by simp))⟩
set_option maxHeartbeats 8000000 in
theorem lineShort_any (A B : Option Addr) (ca cb n m : Nat) (f t b : Int) (l lv : List Int) (w : World) (hr : RdS .i64 w w.heap.size A l) (hr2 : RdS .i64 w w.heap.size B lv) (hn : l.length = n) (hm : lv.length = m) (hl : n ≤ 150) (hl2 : m ≤ 150) (hca : n ≤ ca) (hcb : m ≤ cb) (hB : B = none → cb = 0) :
    Calls Tryz.prog 4 #[.slice A n ca, .slice B m cb, .agg #[.int .i64 f, .int .i64 t, .int .i64 b]] w fun r w' => r = .returned (.bool true) ∧ Below w.heap.size w w' := by
  obtain ⟨i0, hi, hz0, hz1, hz2⟩ := info_parts Tryz.infoInt13
  obtain ⟨T, hT⟩ : ∃ T, M.levOr (M.lineOk l lv f t b) (M.line l lv f t b) = T := ⟨_, rfl⟩
  obtain ⟨e, he⟩ : ∃ e, M.levErr (M.lineOk l lv f t b) = e := ⟨_, rfl⟩
  obtain ⟨p, hp⟩ : ∃ p, T.length = p := ⟨_, rfl⟩
  have hp1 : p ≤ 1000 := by
    have h1 := M.levOr_len (ok := M.lineOk l lv f t b) (t := M.line l lv f t b)
    have h2 := M.line_len (l := l) (lv := lv) (f := f) (t := t) (b := b)
    rw [hT, hp] at h1
    omega
  obtain ⟨W0, hW0, hb0, e0, e1, e2, hgt⟩ := S12.new_three w f t b 36
  have HR := Lib.hid ((hr.below hb0).more hb0.size)
  have HR2 := Lib.hid ((hr2.below hb0).more hb0.size)
  have HB0 := Lib.hid hb0
  have HGT := Lib.hid hgt
  have HN := Lib.hid hn
  have HM := Lib.hid hm
  have HB := Lib.hid hB
  have HCA := Lib.hid hca
  have HCB := Lib.hid hcb
  have HT := Lib.hid hT
  have HE := Lib.hid he
  have HP := Lib.hid hp
  have n1 : (n : Int) ≤ 150 := by omega
  have m1 : (m : Int) ≤ 150 := by omega
  have p1 : (p : Int) ≤ 1000 := by omega
  have be : (e == e) = true := by simp
  clear hr hr2 hn hm hB hca hcb hT he hp hb0 hgt
  go_enter Tryz.func4, Tryz.ntmps4
  go_wp2_with (at_builtin; refine wpList_append_rd _ rfl _ _ 25 rfl W0.heap.size 3 i0 (.int .i64 0) 8 Tryz.underlying25 hi hz0 hz1 hz2 rfl _ 0 [] rfl (World.ownsRow_lit W0 #[] 0 (Nat.le_refl _) (Nat.zero_le _) rfl) .i64 W0.heap.size B cb lv (by rw [HM.out]; rfl) (HR2.out.keep (fun p hp => World.cell?_alloc_lt W0 _ p (by omega))) HB.out (by have := HM.out; unfold maxLen; omega) (by have := HM.out; omega) (by simp) ?_)
  intro v1 w1 ho1 hg1
  have hb1 : Below W0.heap.size W0 w1 := grow_below0 ((Below.refl _ _).alloc (Nat.le_refl _) _) (World.ownsRow_lit W0 #[] 0 (Nat.le_refl _) (Nat.zero_le _) rfl) hg1 (by simp)
  have ho1' : w1.ownsRow W0.heap.size 3 1 v1 lv.length (lv.map (Value.int .i64)) := by simpa using ho1
  obtain ⟨A1, c1, rfl, hrw, -, -⟩ := reads_own ho1'
  rw [HM.out]
  have HW := Lib.hid hrw
  have HB1 := Lib.hid hb1
  have e0' := (hb1.cell (p := ⟨w.heap.size, 0, none⟩) HGT.out).trans e0
  have e1' := (hb1.cell (p := ⟨w.heap.size, 1, none⟩) HGT.out).trans e1
  have e2' := (hb1.cell (p := ⟨w.heap.size, 2, none⟩) HGT.out).trans e2
  have HGT1 := Lib.hid (Nat.lt_of_lt_of_le HGT.out hb1.size)
  have HQ := Lib.hid (cline_any A B ca cb n m f t b l lv w1 ((HR.out.below hb1).more hb1.size) ((HR2.out.below hb1).more hb1.size) HN.out HM.out (by omega) (by omega) HCA.out HCB.out)
  clear ho1 hg1 hb1 ho1' hrw
  go_wp2_with fail
  refine HQ.out.mono ?_
  intro r w2 hq
  obtain ⟨A2, c2, rfl, hx, hb2, -⟩ := lev_out hq
  rw [HT.out] at hx ⊢
  rw [HE.out]
  rw [HP.out]
  have HX := Lib.hid hx
  have HB2 := Lib.hid (HB1.out.trans (hb2.mono HB1.out.size))
  have HW2 := Lib.hid ((HW.out.below hb2).more hb2.size)
  have HQ2 := Lib.hid (refLine_any A B ca cb n m f t b l lv w2 ((HR.out.below HB2.out).more HB2.out.size) ((HR2.out.below HB2.out).more HB2.out.size) HN.out HM.out (by omega) (by omega))
  have d0 := (hb2.cell (p := ⟨w.heap.size, 0, none⟩) HGT1.out).trans e0'
  have d1 := (hb2.cell (p := ⟨w.heap.size, 1, none⟩) HGT1.out).trans e1'
  have d2 := (hb2.cell (p := ⟨w.heap.size, 2, none⟩) HGT1.out).trans e2'
  clear hx hb2 hq e0 e1 e2 e0' e1' e2'
  go_wp2_with fail
  refine HQ2.out.mono ?_
  intro r w3 hq
  obtain ⟨A3, c3, rfl, hy, hb3, -⟩ := lev_out hq
  rw [HT.out] at hy ⊢
  rw [HE.out]
  rw [HP.out]
  have HY := Lib.hid hy
  have HX3 := Lib.hid ((HX.out.below hb3).more hb3.size)
  have HB3 := Lib.hid (HB2.out.trans (hb3.mono HB2.out.size))
  have HW3 := Lib.hid ((HW2.out.below hb3).more hb3.size)
  clear hy hb3 hq
  go_wp2_with fail
  refine (alive_any _).mono ?_
  rintro r w4 ⟨rfl, hb4⟩
  have HX4 := Lib.hid ((HX3.out.below hb4).more hb4.size)
  have HY4 := Lib.hid ((HY.out.below hb4).more hb4.size)
  have HB4 := Lib.hid (HB3.out.trans (hb4.mono HB3.out.size))
  have HW4 := Lib.hid ((HW3.out.below hb4).more hb4.size)
  clear hb4
  go_wp2_with fail
  refine (ints_same A2 A3 c2 c3 p T w4 HX4.out HY4.out HP.out hp1).mono ?_
  rintro r w5 ⟨rfl, hb5⟩
  have HB5 := Lib.hid (HB4.out.trans (hb5.mono HB4.out.size))
  have HW5 := Lib.hid ((HW4.out.below hb5).more hb5.size)
  clear hb5
  go_wp2_with fail
  refine (ints_same B A1 cb c1 m lv w5 ((HR2.out.below HB5.out).more HB5.out.size) HW5.out HM.out (by omega)).mono ?_
  rintro r w6 ⟨rfl, hb6⟩
  have HB6 := Lib.hid (HB5.out.trans (hb6.mono HB5.out.size))
  clear hb6
  go_wp2_with fail
  go_ret
  exact ⟨rfl, HB0.out.trans (HB6.out.mono HB0.out.size)⟩
theorem lineLaw_any (A B : Option Addr) (ca cb n m : Nat) (f t b : Int) (l lv : List Int) (w : World) (hr : RdS .i64 w w.heap.size A l) (hr2 : RdS .i64 w w.heap.size B lv) (hn : l.length = n) (hm : lv.length = m) (hca : n ≤ ca) (hcb : m ≤ cb) (hma : ca ≤ maxLen) (hmb : cb ≤ maxLen) (hB : B = none → cb = 0) :
    Calls Tryz.prog 4 #[.slice A n ca, .slice B m cb, .agg #[.int .i64 f, .int .i64 t, .int .i64 b]] w fun r w' => r = .returned (.bool true) ∧ Below w.heap.size w w' := by
  by_cases h : 150 < n ∨ 150 < m
  · exact lineLong_any A B ca cb n m f t b w h (by omega) (by omega)
  · exact lineShort_any A B ca cb n m f t b l lv w hr hr2 hn hm (by omega) (by omega) hca hcb hB
end Go.Proofs.YtjlfgojblimobaaGreat
end
