/- The contract of the document's joined: whether a run goes on an earlier one. Conditions: the rows are those of a paragraph's runs, and the other slice tells where isolates end. -/
/- How the document's Split goes along a chain of runs; and a row of sequences of one's own that gets one more. No function of the program is walked here. -/
import Derived.Test.YticiofpbijahbaaGJ3
import Derived.Test.YticiofpbijahbaaGI1
section
namespace Go.Proofs.Yticiofpbijahbaa
open Go.RowKit
set_option maxRecDepth 100000

/-- What is read of a run's row. -/
theorem run_read {base G K c3 : Nat} {w : World} {l lv : List Int} {b : Int} {vs : List Sv} {AE : Option Addr} (h : RwR base w ((M.runs lv b).map (·.pl)) vs (.slice (some ⟨G, 0, none⟩) K c3)) (hK : (M.runs lv b).length = K)
    (hE : RdS .i64 w w.heap.size AE (M.matchI l)) (hlen : l.length = lv.length) {k : Nat} (hk : k < K) :
    ∃ (a1 ae : Addr) (c1 p1 q f : Nat), AE = some ae ∧ w.cell? ⟨G, k, none⟩ = some (.slice (some a1) (p1 + 1) c1) ∧ w.cell? (a1.add p1) = some (.int .i64 q) ∧ w.cell? a1 = some (.int .i64 f) ∧ q < lv.length ∧
      w.cell? (ae.add q) = some (.int .i64 (M.goes l (M.runs lv b) k)) ∧ (f : Int) = M.from_ (M.runs lv b) k ∧ p1 + 1 ≤ maxLen := by
  have hr := M.rn_mem (rs := M.runs lv b) (i := k) (by omega)
  obtain ⟨f, q, hf, hq, -, hql, hp0, hpq, hpos, -, -⟩ := M.run_ends hr
  have hl : ((M.runs lv b).map (·.pl))[k]? = some (M.rn (M.runs lv b) k).pl := by
    rw [List.getElem?_map, List.getElem?_eq_getElem (by omega), M.rn_at (List.getElem?_eq_getElem (by omega))]
    rfl
  obtain ⟨⟨v1, v2⟩, hv⟩ : ∃ v, vs[k]? = some v := ⟨_, List.getElem?_eq_getElem (by rw [h.rws.len, List.length_map]; omega)⟩
  obtain ⟨G', c', hva, -, -, y1, -⟩ := h.cells hl hv
  injection hva with hva1 _ _
  injection hva1 with hva1
  injection hva1 with hva1
  subst hva1
  obtain ⟨A', c1, he, hrd, hc1, hc2, -⟩ := reads_own (h.rws.own k (v1, v2) _ hv hl)
  injection he with e1 _ e2
  subst e1 e2
  obtain ⟨p1, hp1⟩ : ∃ p1, (M.rn (M.runs lv b) k).pl.length = p1 + 1 := ⟨(M.rn (M.runs lv b) k).pl.length - 1, by omega⟩
  rw [hp1] at y1 hc1 hpq
  obtain ⟨a1, ha1, -, z0⟩ := hrd 0 _ hp0
  obtain ⟨a1', ha1', -, z1⟩ := hrd p1 _ hpq
  have e3 : v1 = some a1 := ha1
  subst e3
  obtain rfl := Option.some.inj ha1'
  have hm : (M.matchI l)[q]? = some (M.endI l q) := by unfold M.matchI M.matchTo; simp [hlen, hql]
  obtain ⟨ae, hae, -, z2⟩ := hE q _ hm
  refine ⟨a1, ae, v2, p1, q, f, hae, y1, z1, z0, hql, ?_, ?_, by omega⟩
  · unfold M.goes
    rw [hq, Int.toNat_natCast]
    exact z2
  · unfold M.from_
    exact hf.symm
set_option maxHeartbeats 8000000 in
theorem joined_any (base G K c3 : Nat) (w : World) (l lv : List Int) (b : Int) (vs : List Sv) (AE : Option Addr) (cE n i : Nat) (h : RwR base w ((M.runs lv b).map (·.pl)) vs (.slice (some ⟨G, 0, none⟩) K c3)) (hK : (M.runs lv b).length = K)
    (hE : RdS .i64 w w.heap.size AE (M.matchI l)) (hn : l.length = n) (hlen : l.length = lv.length) (hl : n ≤ 1000) (hi : i < K) :
    Calls Try.prog 26 #[.slice (some ⟨G, 0, none⟩) K c3, .slice AE n cE, .int .i64 i] w fun r w' => r = .returned (.bool (M.pv (M.goes l (M.runs lv b)) (M.from_ (M.runs lv b)) i).isSome) ∧ Below w.heap.size w w' := by
  have hKm : K ≤ 1000 := by
    rw [← hK]
    have := M.runs_len lv b
    omega
  have HRD := Lib.hid (fun k (hk : k < K) => run_read h hK hE hlen hk)
  have HN := Lib.hid hn
  have HLEN := Lib.hid hlen
  obtain ⟨T, hT⟩ : ∃ T, M.goes l (M.runs lv b) = T := ⟨_, rfl⟩
  obtain ⟨F, hF⟩ : ∃ F, M.from_ (M.runs lv b) = F := ⟨_, rfl⟩
  have HCH := Lib.hid (M.runs_chains l lv b)
  rw [hT, hF, hK] at HCH
  rw [hT, hF] at HRD ⊢
  obtain ⟨a2, ae, c2, p2, q2, f2, rfl, d1, -, d3, -, -, d7, d6⟩ := HRD.out i hi
  have bk : ∀ (a : Addr) (v : Value), w.cell? a = some v → ∀ W', Below w.heap.size w W' → W'.cell? a = some v := fun a v hc W' hW => (hW.cell (World.block_lt_of_cell? _ _ hc)).trans hc
  rw [d7] at d3
  obtain ⟨fi, hfi⟩ : ∃ fi, F i = fi := ⟨_, rfl⟩
  rw [hfi] at d3
  have HFI := Lib.hid hfi
  have D1 := Lib.hid (bk _ _ d1)
  have D3 := Lib.hid (bk _ _ d3)
  have D6 := Lib.hid d6
  have BK := Lib.hid bk
  have hi1 : (i : Int) < K := by omega
  have hi0 : (0 : Int) ≤ i := by omega
  have hKi : (K : Int) ≤ 1000 := by omega
  have hni : (n : Int) ≤ 1000 := by omega
  have hp2 : (0 : Int) < ((p2 + 1 : Nat) : Int) := by omega
  clear h hE hn hlen d1 d3 d6 d7 bk hT hF hK hfi
  go_enter Try.func26, Try.ntmps26
  go_wp2_with fail
  go_loopw [7] (fun v wr => ∃ k : Nat, k ≤ K ∧ v = .int .i64 k ∧ (∀ j, j < k → T j ≠ F i) ∧ Below w.heap.size w wr) (fun v _ => K - (intOf v).toNat)
  case atStart => exact ⟨0, Nat.zero_le _, rfl, fun j hj => by omega, Below.refl _ _⟩
  case round =>
    obtain ⟨k, hk, rfl, hno, hb⟩ := hrel
    have HNO := Lib.hid hno
    have HB := Lib.hid hb
    have k0 : (0 : Int) ≤ k := by omega
    clear hno hb
    by_cases hlt : k < K
    · have k1 : (k : Int) < K := by omega
      obtain ⟨a1, ae', c1, p1, q, f, hae, e1, e2, -, e4, e5, -, e7⟩ := HRD.out k hlt
      obtain rfl := Option.some.inj hae
      have e1' := fun d os => cell_regrown (BK.out _ _ e1 wr HB.out) d os
      have e2' := fun d os => cell_regrown (BK.out _ _ e2 wr HB.out) d os
      have e5' := fun d os => cell_regrown (BK.out _ _ e5 wr HB.out) d os
      obtain ⟨n1, hn1⟩ : ∃ n1, p1 + 1 = n1 := ⟨_, rfl⟩
      rw [hn1] at e1' e7
      have hm1 : (n1 : Int) - 1 = p1 := by omega
      unfold maxLen at e7
      have hw1 : IntKind.i64.wrap ((n1 : Int) - 1) = (p1 : Nat) := by rw [IntKind.wrap_i64]; omega
      have hw2 : IntKind.i64.wrap (p1 : Int) = (p1 : Nat) := by rw [IntKind.wrap_i64]; omega
      have hp0 : (0 : Int) ≤ p1 := by omega
      have hp1 : (p1 : Int) < n1 := by omega
      have hq0 : (0 : Int) ≤ q := by omega
      have hqn : (q : Int) < n := by have h1 := HN.out; have h2 := HLEN.out; omega
      obtain ⟨tk, htk⟩ : ∃ tk, T k = tk := ⟨_, rfl⟩
      rw [htk] at e5
      have HTK := Lib.hid htk
      have E5 := Lib.hid e5
      clear e1 e2 e5 e5' htk
      go_wp2_with fail
      refine wp_region_quiet_below (by kernel_rfl) (by kernel_rfl) ?_
      repeat (go_big_quiet_step (fail))
      refine wpQuiet_nil ?_
      intro _ hw'
      obtain ⟨⟨dq, osq⟩, hw4⟩ := hw'
      subst hw4
      have hbg := below_regrown wr dq osq
      obtain ⟨X, hX⟩ : ∃ Z, Sort.grow (redrawn wr dq) osq = Z := ⟨_, rfl⟩
      rw [hX] at hbg
      dsimp only
      rw [hX]
      have HX := Lib.hid (HB.out.trans (hbg.mono HB.out.size))
      clear hX hbg
      have e5x := fun d os => cell_regrown (BK.out _ _ E5.out X HX.out) d os
      have d1x := fun d os => cell_regrown (D1.out X HX.out) d os
      have d3x := fun d os => cell_regrown (D3.out X HX.out) d os
      clear e1' e2'
      by_cases heq : tk = fi
      · subst heq
        have HYES := Lib.hid (show (M.pv T F i).isSome = true from by
          rw [(HCH.out.pv_of hi hlt (by rw [HTK.out, HFI.out])).2]; rfl)
        go_wp2_with fail
        refine wp_region_quiet_below (by kernel_rfl) (by kernel_rfl) ?_
        repeat (go_big_quiet_step (fail))
        refine wpQuiet_nil ?_
        intro _ hw'
        obtain ⟨⟨dq, osq⟩, hw4⟩ := hw'
        subst hw4
        have hbg := below_regrown X dq osq
        obtain ⟨Y, hX⟩ : ∃ Z, Sort.grow (redrawn X dq) osq = Z := ⟨_, rfl⟩
        rw [hX] at hbg
        dsimp only
        rw [hX]
        have HY := Lib.hid (HX.out.trans (hbg.mono HX.out.size))
        clear hX hbg
        go_wp2_with fail
        go_ret
        exact ⟨ret_bool HYES.out.symm, HY.out⟩
      · have HNX := Lib.hid (show ∀ j, j < k + 1 → T j ≠ F i from fun j hj => by
          rcases Nat.lt_or_ge j k with h1 | h1
          · exact HNO.out j h1
          · obtain rfl : j = k := by omega
            rw [HTK.out, HFI.out]; exact heq)
        go_wp2_with fail
        refine wp_region_quiet_below (by kernel_rfl) (by kernel_rfl) ?_
        repeat (go_big_quiet_step (fail))
        refine wpQuiet_nil ?_
        intro _ hw'
        obtain ⟨⟨dq, osq⟩, hw4⟩ := hw'
        subst hw4
        have hbg := below_regrown X dq osq
        obtain ⟨Y, hX⟩ : ∃ Z, Sort.grow (redrawn X dq) osq = Z := ⟨_, rfl⟩
        rw [hX] at hbg
        dsimp only
        rw [hX]
        have HY := Lib.hid (HX.out.trans (hbg.mono HX.out.size))
        clear hX hbg
        go_wp2_with fail
        go_roundw
        case rel => exact ⟨k + 1, by omega, by go_num, HNX.out, HY.out⟩
        case measure => simp [intOf]; omega
    · obtain rfl : k = K := by omega
      have hnk : ¬ (k : Int) < (k : Int) := by omega
      have HNS := Lib.hid (show (M.pv T F i).isSome = false from by
        cases hp : M.pv T F i with
        | none => rfl
        | some j => exact absurd (M.pv_some hp).2 (HNO.out j (by have := (M.pv_some hp).1; omega)))
      go_wp2_with fail
      go_ret
      exact ⟨ret_bool HNS.out.symm, HB.out⟩
end Go.Proofs.Yticiofpbijahbaa
end

section
namespace Go.Proofs.Yticiofpbijahbaa.M

section
variable {T F : Nat → Int} {m : Nat}
theorem Chains.step (hc : Chains T F m) {c k : Nat} (hk : k < m) (hcm : c < m) (h : T c = F k) : c < k ∧ hd T F k = hd T F c ∧ mem T F (k + 1) (hd T F c) = mem T F (c + 1) (hd T F c) ++ [k] := by
  obtain ⟨h1, h2⟩ := hc.pv_of hk hcm h
  refine ⟨h1, hd_some h2, ?_⟩
  rw [mem_in (hd_some h2), hc.mem_next hk h2, mem_in rfl]
theorem Chains.stop (hc : Chains T F m) {c : Nat} (hcm : c < m) (h : ∀ k, k < m → T c ≠ F k) : mem T F m (hd T F c) = mem T F (c + 1) (hd T F c) := by
  rw [hc.mem_end hcm (fun t ht e => h t ht (pv_some e).2), mem_in rfl]
theorem mem_one {i : Nat} (h : pv T F i = none) : mem T F (i + 1) i = [i] := by rw [mem_in (hd_none h), mem_first]; rfl
end
section
variable {l lv : List Int} {b : Int}
/-- The places of a chain up to one of its runs. -/
def upTo (l lv : List Int) (b : Int) (c : Nat) : List Int := (mem (goes l (runs lv b)) (from_ (runs lv b)) (c + 1) (hd (goes l (runs lv b)) (from_ (runs lv b)) c)).flatMap fun j => (rn (runs lv b) j).pl
theorem upTo_one {i : Nat} (h : pv (goes l (runs lv b)) (from_ (runs lv b)) i = none) : upTo l lv b i = (rn (runs lv b) i).pl := by
  unfold upTo
  rw [hd_none h, mem_one h]
  simp
theorem upTo_step {c k : Nat} (hk : k < (runs lv b).length) (hc : c < (runs lv b).length) (h : goes l (runs lv b) c = from_ (runs lv b) k) :
    c < k ∧ hd (goes l (runs lv b)) (from_ (runs lv b)) k = hd (goes l (runs lv b)) (from_ (runs lv b)) c ∧ upTo l lv b k = upTo l lv b c ++ (rn (runs lv b) k).pl := by
  obtain ⟨h1, h2, h3⟩ := (runs_chains l lv b).step hk hc h
  refine ⟨h1, h2, ?_⟩
  unfold upTo
  rw [h2, h3, List.flatMap_append]
  simp
/-- It ends with the run itself, and begins with the chain's first. -/
theorem upTo_ends (c : Nat) : (∃ X, upTo l lv b c = X ++ (rn (runs lv b) c).pl) ∧ ∃ Y, upTo l lv b c = (rn (runs lv b) (hd (goes l (runs lv b)) (from_ (runs lv b)) c)).pl ++ Y := by
  constructor
  · unfold upTo
    rw [mem_in rfl, List.flatMap_append]
    exact ⟨(mem (goes l (runs lv b)) (from_ (runs lv b)) c (hd (goes l (runs lv b)) (from_ (runs lv b)) c)).flatMap fun j => (rn (runs lv b) j).pl, by simp⟩
  · obtain ⟨r, hr⟩ := mem_grow (T := goes l (runs lv b)) (F := from_ (runs lv b)) (hd (goes l (runs lv b)) (from_ (runs lv b)) c) (show hd (goes l (runs lv b)) (from_ (runs lv b)) c + 1 ≤ c + 1 by have := hd_le (T := goes l (runs lv b)) (F := from_ (runs lv b)) c; omega)
    unfold upTo
    rw [hr, mem_one (hd_head c), List.flatMap_append]
    exact ⟨r.flatMap fun j => (rn (runs lv b) j).pl, by simp⟩
/-- Where a chain ends, its sequence is whole. -/
theorem upTo_stop {c : Nat} (hc : c < (runs lv b).length) (h : ∀ k, k < (runs lv b).length → goes l (runs lv b) c ≠ from_ (runs lv b) k) :
    sq l b (runs lv b) (runs lv b).length (hd (goes l (runs lv b)) (from_ (runs lv b)) c) = ⟨upTo l lv b c, (rn (runs lv b) (hd (goes l (runs lv b)) (from_ (runs lv b)) c)).lv, sd (rn (runs lv b) (hd (goes l (runs lv b)) (from_ (runs lv b)) c)).lv (rn (runs lv b) (hd (goes l (runs lv b)) (from_ (runs lv b)) c)).ah, sd (rn (runs lv b) (hd (goes l (runs lv b)) (from_ (runs lv b)) c)).lv (bh l b (rn (runs lv b) c))⟩ := by
  have h1 := (runs_chains l lv b).stop hc h
  unfold sq upTo
  rw [h1, mem_in rfl]
  congr 4
  simp
/-- It is no longer than the list. -/
theorem upTo_len {c : Nat} (hc : c < (runs lv b).length) : (upTo l lv b c).length ≤ lv.length := by
  have h1 := heads_at (T := goes l (runs lv b)) (F := from_ (runs lv b)) (i := hd (goes l (runs lv b)) (from_ (runs lv b)) c) (t := c + 1) (by have := hd_le (T := goes l (runs lv b)) (F := from_ (runs lv b)) c; omega) (hd_head c)
  have h2 : (sqs l b (runs lv b) (c + 1))[(heads (goes l (runs lv b)) (from_ (runs lv b)) (hd (goes l (runs lv b)) (from_ (runs lv b)) c)).length]? = some (sq l b (runs lv b) (c + 1) (hd (goes l (runs lv b)) (from_ (runs lv b)) c)) := by
    unfold sqs
    rw [List.getElem?_map, h1]
    rfl
  exact sq_len (l := l) (lv := lv) (b := b) (show c + 1 ≤ (runs lv b).length by omega) h2
/-- The sequences of the chains that the first i runs begin, each whole. -/
def whole (l lv : List Int) (b : Int) (i : Nat) : List Sq := (heads (goes l (runs lv b)) (from_ (runs lv b)) i).map (sq l b (runs lv b) (runs lv b).length)
theorem whole_all : whole l lv b (runs lv b).length = seqs l lv b := rfl
theorem whole_no {i : Nat} (h : (pv (goes l (runs lv b)) (from_ (runs lv b)) i).isSome = true) : whole l lv b (i + 1) = whole l lv b i := by
  obtain ⟨p, hp⟩ := Option.isSome_iff_exists.1 h
  unfold whole
  rw [heads_go hp]
theorem whole_more {i : Nat} (h : pv (goes l (runs lv b)) (from_ (runs lv b)) i = none) : whole l lv b (i + 1) = whole l lv b i ++ [sq l b (runs lv b) (runs lv b).length i] := by
  unfold whole
  rw [heads_no h, List.map_append]
  rfl
end
end Go.Proofs.Yticiofpbijahbaa.M
namespace Go.Proofs.Yticiofpbijahbaa
open Go.RowKit
set_option maxRecDepth 100000
section
variable {W W1 : World} {base : Nat} {vs : List Sv} {ls : List (List Int)}
/-- One more row, that nobody else has. -/
theorem Rws.put (h : Rws W base vs ls) {v : Sv} {l : List Int} (ho : W.ownsRow base 3 1 (.slice v.1 l.length v.2) l.length (l.map (Value.int .i64))) {H : Nat} (hnew : ∀ g, v.1.map (·.block) = some g → H ≤ g) (hold : ∀ (k : Nat) (v' : Sv) (g : Nat), vs[k]? = some v' → v'.1.map (·.block) = some g → g < H) :
    Rws W base (vs ++ [v]) (ls ++ [l]) := by
  have hl := h.len
  have last : ∀ (k : Nat) (v' : Sv), (vs ++ [v])[k]? = some v' → (k < vs.length ∧ vs[k]? = some v') ∨ (k = vs.length ∧ v' = v) := fun k v' hk => by
    rcases Nat.lt_or_ge k vs.length with h1 | h1
    · rw [List.getElem?_append_left h1] at hk; exact .inl ⟨h1, hk⟩
    · have h2 : k = vs.length := by have := (List.getElem?_eq_some_iff.1 hk).1; simp at this; omega
      rw [List.getElem?_append_right h1, h2, Nat.sub_self] at hk
      exact .inr ⟨h2, (Option.some.inj hk).symm⟩
  refine ⟨by simp [hl], fun k v' l' h1 h2 => ?_, fun i j v' v'' g hij h1 h2 h3 => ?_⟩
  · rcases last k v' h1 with ⟨hk, h1⟩ | ⟨rfl, rfl⟩
    · rw [List.getElem?_append_left (by omega)] at h2
      exact h.own k v' l' h1 h2
    · rw [List.getElem?_append_right (by omega), hl, Nat.sub_self] at h2
      obtain rfl := Option.some.inj h2
      exact ho
  · rcases last i v' h1 with ⟨hi, hq1⟩ | ⟨rfl, rfl⟩
    · rcases last j v'' h2 with ⟨hj, hq2⟩ | ⟨rfl, rfl⟩
      · exact h.apart i j v' v'' g hij hq1 hq2 h3
      · intro e
        have := hold i v' g hq1 h3
        have := hnew g e
        omega
    · rcases last j v'' h2 with ⟨hj, hq2⟩ | ⟨rfl, rfl⟩
      · intro e
        have := hold j v'' g hq2 e
        have := hnew g h3
        omega
      · exact absurd rfl hij
end
end Go.Proofs.Yticiofpbijahbaa
end
