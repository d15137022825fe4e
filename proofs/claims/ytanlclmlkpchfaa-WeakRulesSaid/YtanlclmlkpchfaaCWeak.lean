/- The contracts of package weak's made, Rule and All. Conditions: the slice reads as a list of classes, at most a thousand long, and is as long as its room at most. -/
import Derived.Test.YtanlclmlkpchfaaCRules
import Derived.Laws.CopyOwn
namespace Go.Proofs.Ytanlclmlkpchfaa
open Go.RowKit
set_option maxRecDepth 100000

/-- What some rules make, one behind the other: they are told by their places in the array. -/
def M.wsome (f : Int) : List Nat → List Int → List Int
  | [], l => l
  | k :: r, l => M.wsome f r (M.wrule ((k : Int) + 1) f l)
theorem M.wsome_snoc (f : Int) (r : List Nat) (k : Nat) (l : List Int) : M.wsome f (r ++ [k]) l = M.wrule ((k : Int) + 1) f (M.wsome f r l) := by
  induction r generalizing l with
  | nil => rfl
  | cons x r ih => exact ih _
theorem M.wsome_len (f : Int) (r : List Nat) (l : List Int) : (M.wsome f r l).length = l.length := by
  induction r generalizing l with
  | nil => rfl
  | cons x r ih =>
    show (M.wsome f r _).length = _
    rw [ih, M.wrule_len]
theorem M.wsome_all (f : Int) (l : List Int) : M.wsome f [0, 1, 2, 3, 4, 5, 6] l = M.wall f l := rfl
/-- A copy of a slice's numbers into a new row. -/
theorem copy_any (A : Option Addr) (ca n G : Nat) (l : List Int) (w W1 : World) (Z : Array Value) (hr : RdS .i64 W1 w.heap.size A l) (hn : l.length = n) (hG : w.heap.size ≤ G) (hg : W1.heap[G]? = some (.cells Z 23 (0, 0))) (hZ : Z.size = n) (hZ0 : n = 0 → Z = #[]) (hb : Below w.heap.size w W1) :
    ∃ v W2, (Builtin.copy_ #[22, 22] 3 #[.slice (some ⟨G, 0, none⟩) n n, .slice A n ca]).run Try.prog W1 = .ok v W2 ∧ BlockAt W2 G 23 l ∧ Below w.heap.size w W2 := by
  by_cases h0 : n = 0
  · subst h0
    obtain rfl : l = [] := List.eq_nil_of_length_eq_zero hn
    refine ⟨_, W1, run_copy_none (P := Try.prog) W1 22 22 3 23 (some ⟨G, 0, none⟩) A 0 0 0 ca Try.underlying22 (by kernel_rfl) rfl, ?_, hb⟩
    unfold BlockAt
    rw [hg, hZ0 rfl]
    rfl
  · obtain ⟨ad, rfl, _⟩ := hr 0 l[0] (List.getElem?_eq_getElem (by omega))
    have hcl : (l.map (Value.int IntKind.i64)).length = n := by simpa using hn
    refine ⟨_, _, run_copy_row (P := Try.prog) W1 22 22 3 23 G 0 n n ad n ca Z 23 (l.map (Value.int .i64)) Try.underlying22 (by kernel_rfl) hg (by rw [hcl]; exact (Nat.min_self n).symm) (fun j v hj => ?_) (by omega) (fun v hv => ?_), ?_, below_setRow hb hG _⟩
    · rw [List.getElem?_map] at hj
      cases hx : l[j]? with
      | none => rw [hx] at hj; cases hj
      | some y =>
        rw [hx] at hj
        cases hj
        obtain ⟨ad', hA', _, hc'⟩ := hr j y hx
        injection hA' with e
        rw [e]
        exact hc'
    · simp only [List.mem_map] at hv
      obtain ⟨y, _, rfl⟩ := hv
      rfl
    · have := setRow_heap W1 G Z (Z.toList.take 0 ++ l.map (Value.int .i64) ++ Z.toList.drop (0 + (l.map (Value.int IntKind.i64)).length)).toArray 23 _ hg
      unfold BlockAt
      rw [this]
      have hz : Z.toList.length = n := by simpa using hZ
      rw [hcl, List.take_zero, List.nil_append, List.drop_of_length_le (by omega), List.append_nil]
/-- A block of one's own is a row of one's own. -/
theorem BlockAt.own {w : World} {G n base : Nat} {l : List Int} (h : BlockAt w G 23 l) (hn : l.length = n) (hm : n ≤ maxLen) (hG : base ≤ G) : w.ownsRow base 23 1 (.slice (some ⟨G, 0, none⟩) n n) l.length (l.map (Value.int .i64)) :=
  ⟨by simp, .inr ⟨G, n, _, by rw [hn], hG, h, by omega, hm, by simpa using hn, by rw [Nat.mul_one]; exact List.take_of_length_le (by simp)⟩⟩
set_option maxHeartbeats 8000000 in
theorem made_any (B : Addr) (sn sc b : Nat) (ks : List Nat) (A : Option Addr) (ca n : Nat) (f : Int) (l : List Int) (w : World) (hr : RdS .i64 w w.heap.size A l) (hn : l.length = n) (hl : n ≤ 1000)
    (hru : RulesAt w b) (hb11 : b + 11 ≤ w.heap.size) (hB : B.block < w.heap.size) (hs : ks.length = sn) (hsn : sn ≤ 7)
    (hc : ∀ j k, ks[j]? = some k → ∃ v, (ruleVals b)[k]? = some v ∧ w.cell? (B.add j) = some v) :
    Calls Try.prog 15 #[.slice (some B) sn sc, .slice A n ca, .int .i64 f] w (RuleOut (f = 0 ∨ f = 1) (M.wsome f ks l) w) := by
  obtain ⟨i0, hi, hz0, hz1, hz2⟩ := info_parts Try.infoCls
  by_cases hf : f = 0 ∨ f = 1
  · have HF := Lib.hid hf
    have hmk := run_make (P := Try.prog) w 22 23 i0 (.int .i64 0) Try.underlying22 hi hz0 .i64 .i64 n n (by omega) (Int.le_refl _) (by rw [hz2]; omega) (by omega)
    rw [Int.toNat_natCast, hz1, Nat.mul_one] at hmk
    obtain ⟨Z, hZ⟩ : ∃ Z, madeCells (Value.int IntKind.i64 0).cells n = Z := ⟨_, rfl⟩
    have hZs : Z.size = n := by rw [← hZ]; exact size_madeCells _ _
    rw [hZ] at hmk
    obtain ⟨W1, hW1⟩ : ∃ W1, w.alloc (.cells Z 23) = W1 := ⟨_, rfl⟩
    have hg1 : W1.heap[w.heap.size]? = some (.cells Z 23 (0, 0)) := by rw [← hW1]; exact World.alloc_heap_new _ _
    have hb1 : Below w.heap.size w W1 := by rw [← hW1]; exact (Below.refl _ _).alloc (Nat.le_refl _) _
    rw [hW1] at hmk
    obtain ⟨G, hG⟩ : ∃ G, w.heap.size = G := ⟨_, rfl⟩
    rw [hG] at hmk hg1
    obtain ⟨v, W2, hcp, hblk, hb2⟩ := copy_any A ca n G l w W1 Z (hr.below hb1) hn (by omega) hg1 hZs (fun h0 => Array.eq_empty_of_size_eq_zero (by rw [hZs]; exact h0)) hb1
    have HG := Lib.hid hG
    have HN := Lib.hid hn
    have HBLK := Lib.hid hblk
    have HB2 := Lib.hid hb2
    have HRU := Lib.hid hru
    have HC := Lib.hid hc
    have HS := Lib.hid hs
    have HBB := Lib.hid (show B.block < G ∧ b + 11 ≤ G by omega)
    have hl1 : (n : Int) ≤ 1000 := by omega
    have hsn1 : (sn : Int) ≤ 7 := by omega
    clear hr hn hl hru hb11 hB hs hc hZ hZs hW1 hg1 hb1 hG hz0 hz1 hz2 hi hblk hb2
    rcases hf with hf | hf
    · have c0 : (f != 0) = false := by rw [hf]; rfl
      clear hf
      go_enter Try.func15, Try.ntmps15
      go_wp2_with fail
      go_loopw [25] (fun x wr => ∃ j : Nat, x = .int .i64 j ∧ j ≤ sn ∧ BlockAt wr G 23 (M.wsome f (ks.take j) l) ∧ Below G W2 wr) (fun x _ => sn - (intOf x).toNat)
      case atStart => exact ⟨0, rfl, Nat.zero_le _, HBLK.out, Below.refl _ _⟩
      case round =>
        obtain ⟨j, rfl, hj, hblk, hb⟩ := hrel
        have j0 : (0 : Int) ≤ j := by omega
        by_cases hlt : j < sn
        · have j1 : (j : Int) < sn := by omega
          obtain ⟨k, hk⟩ : ∃ k, ks[j]? = some k := ⟨_, List.getElem?_eq_getElem (by rw [HS.out]; exact hlt)⟩
          obtain ⟨v', hv, hcv⟩ := HC.out j k hk
          have hbw : Below G w wr := (HB2.out.mono (Nat.le_of_eq HG.out.symm)).trans hb
          have hcell := (hbw.cell (p := B.add j) (by rw [addr_block]; exact HBB.out.1)).trans hcv
          obtain ⟨fid, caps, rfl, hent, hcall⟩ := rule_call b k G n f (M.wsome f (ks.take j) l) v' hv (by rw [M.wsome_len, HN.out]) (by omega) HBB.out.2
          have hc := hcall wr (HRU.out.below hbw HBB.out.2) hblk
          have hnext : M.wrule ((k : Int) + 1) f (M.wsome f (ks.take j) l) = M.wsome f (ks.take (j + 1)) l := by
            rw [← M.wsome_snoc, List.take_add_one, hk]
            rfl
          rw [hnext] at hc
          have HCALL := Lib.hid hc
          have HB := Lib.hid hb
          clear hblk hb hk hv hcv hbw hc hnext hcall
          go_wp2_with fail
          refine HCALL.out.mono ?_
          rintro r w2 ⟨rfl, hblk2, hb2⟩
          have HBLK2 := Lib.hid hblk2
          have HB3 := Lib.hid (HB.out.trans hb2)
          clear hblk2 hb2
          go_wp2_with fail
          go_roundw
          case rel => exact ⟨j + 1, by go_num, by omega, HBLK2.out, HB3.out⟩
          case measure => simp [intOf]; omega
        · obtain rfl : j = sn := by omega
          have j1 : ¬ (j : Int) < (j : Int) := by omega
          have HBLK2 := Lib.hid hblk
          have HB3 := Lib.hid hb
          clear hblk hb
          go_wp2_with fail
          go_returns
          have hblk := HBLK2.out
          rw [← HS.out, List.take_length] at hblk
          have hG := HG.out
          exact ⟨HB2.out.trans (HB3.out.mono (Nat.le_of_eq hG)), fun _ => ⟨_, rfl, hblk.own (by rw [M.wsome_len, HN.out]) (by unfold maxLen; omega) (Nat.le_of_eq hG)⟩, fun h => absurd HF.out h⟩
    · have c0 : (f != 0) = true := by rw [hf]; rfl
      have c1 : (f != 1) = false := by rw [hf]; rfl
      clear hf
      go_enter Try.func15, Try.ntmps15
      go_wp2_with fail
      go_loopw [25] (fun x wr => ∃ j : Nat, x = .int .i64 j ∧ j ≤ sn ∧ BlockAt wr G 23 (M.wsome f (ks.take j) l) ∧ Below G W2 wr) (fun x _ => sn - (intOf x).toNat)
      case atStart => exact ⟨0, rfl, Nat.zero_le _, HBLK.out, Below.refl _ _⟩
      case round =>
        obtain ⟨j, rfl, hj, hblk, hb⟩ := hrel
        have j0 : (0 : Int) ≤ j := by omega
        by_cases hlt : j < sn
        · have j1 : (j : Int) < sn := by omega
          obtain ⟨k, hk⟩ : ∃ k, ks[j]? = some k := ⟨_, List.getElem?_eq_getElem (by rw [HS.out]; exact hlt)⟩
          obtain ⟨v', hv, hcv⟩ := HC.out j k hk
          have hbw : Below G w wr := (HB2.out.mono (Nat.le_of_eq HG.out.symm)).trans hb
          have hcell := (hbw.cell (p := B.add j) (by rw [addr_block]; exact HBB.out.1)).trans hcv
          obtain ⟨fid, caps, rfl, hent, hcall⟩ := rule_call b k G n f (M.wsome f (ks.take j) l) v' hv (by rw [M.wsome_len, HN.out]) (by omega) HBB.out.2
          have hc := hcall wr (HRU.out.below hbw HBB.out.2) hblk
          have hnext : M.wrule ((k : Int) + 1) f (M.wsome f (ks.take j) l) = M.wsome f (ks.take (j + 1)) l := by
            rw [← M.wsome_snoc, List.take_add_one, hk]
            rfl
          rw [hnext] at hc
          have HCALL := Lib.hid hc
          have HB := Lib.hid hb
          clear hblk hb hk hv hcv hbw hc hnext hcall
          go_wp2_with fail
          refine HCALL.out.mono ?_
          rintro r w2 ⟨rfl, hblk2, hb2⟩
          have HBLK2 := Lib.hid hblk2
          have HB3 := Lib.hid (HB.out.trans hb2)
          clear hblk2 hb2
          go_wp2_with fail
          go_roundw
          case rel => exact ⟨j + 1, by go_num, by omega, HBLK2.out, HB3.out⟩
          case measure => simp [intOf]; omega
        · obtain rfl : j = sn := by omega
          have j1 : ¬ (j : Int) < (j : Int) := by omega
          have HBLK2 := Lib.hid hblk
          have HB3 := Lib.hid hb
          clear hblk hb
          go_wp2_with fail
          go_returns
          have hblk := HBLK2.out
          rw [← HS.out, List.take_length] at hblk
          have hG := HG.out
          exact ⟨HB2.out.trans (HB3.out.mono (Nat.le_of_eq hG)), fun _ => ⟨_, rfl, hblk.own (by rw [M.wsome_len, HN.out]) (by unfold maxLen; omega) (Nat.le_of_eq hG)⟩, fun h => absurd HF.out h⟩
  · have HF := Lib.hid hf
    have c0 : (f != 0) = true := by simp; omega
    have c1 : (f != 1) = true := by simp; omega
    clear hf
    go_enter Try.func15, Try.ntmps15
    go_wp2_with fail
    go_returns
    exact ⟨Below.refl _ _, fun h => absurd h HF.out, fun _ => rfl⟩

/-- The array of the rules, in a block of its own. -/
theorem rules_block (b : Nat) (w : World) (h : RulesAt w b) (hb : b + 11 ≤ w.heap.size) : ∃ W, w.alloc (.cells (ruleVals b).toArray 37) = W ∧ RulesAt W b ∧ b + 11 ≤ W.heap.size ∧ w.heap.size < W.heap.size ∧ Below w.heap.size w W ∧ ∀ k v, (ruleVals b)[k]? = some v → W.cell? ⟨w.heap.size, k, none⟩ = some v :=
  ⟨_, rfl, h.below ((Below.refl w.heap.size w).alloc (Nat.le_refl _) _) hb, by simp; omega, by simp, (Below.refl _ _).alloc (Nat.le_refl _) _, fun k v hk => by rw [cell_new]; simpa using hk⟩
set_option maxHeartbeats 4000000 in
theorem call_any (A : Option Addr) (ca n : Nat) (f : Int) (l : List Int) (w : World) (hr : RdS .i64 w w.heap.size A l) (hn : l.length = n) (hl : n ≤ 1000) (_ : n ≤ ca) :
    Calls Try.prog 10 #[.slice A n ca, .int .i64 f] w (RuleOut (f = 0 ∨ f = 1) (M.wall f l) w) := by
  have HR := Lib.hid hr
  have HN := Lib.hid hn
  have HRU := Lib.hid rules_any
  clear hr hn
  go_enter Try.func10, Try.ntmps10
  go_wp2_with fail
  refine (HRU.out _).mono ?_
  rintro r w2 ⟨rfl, hru, hb2, hs2⟩
  obtain ⟨W3, hW3, h1, h2, h3, h4, h5⟩ := rules_block w.heap.size w2 hru hs2
  unfold ruleVals two at hW3
  have HW3 := Lib.hid hW3
  have hbw := hb2.trans (h4.mono hb2.size)
  have hadd : ∀ j, (⟨w2.heap.size, 0, none⟩ : Addr).add j = ⟨w2.heap.size, j, none⟩ := fun j => by unfold Addr.add; split <;> simp_all
  have HC := Lib.hid (made_any ⟨w2.heap.size, 0, none⟩ 7 7 w.heap.size [0, 1, 2, 3, 4, 5, 6] A ca n f l W3 ((HR.out.below hbw).more hbw.size) HN.out hl h1 h2 h3 rfl (by omega) (fun j k hk => by
    have hjk : k = j ∧ j < 7 := by
      match j, hk with
      | 0, hk => simpa using hk.symm
      | 1, hk => simpa using hk.symm
      | 2, hk => simpa using hk.symm
      | 3, hk => simpa using hk.symm
      | 4, hk => simpa using hk.symm
      | 5, hk => simpa using hk.symm
      | 6, hk => simpa using hk.symm
      | _ + 7, hk => simp at hk
    obtain ⟨rfl, h7⟩ := hjk
    obtain ⟨v, hv⟩ : ∃ v, (ruleVals w.heap.size)[k]? = some v := ⟨_, List.getElem?_eq_getElem (by exact h7)⟩
    exact ⟨v, hv, by rw [hadd]; exact h5 k v hv⟩))
  have HB := Lib.hid hbw
  clear hru hb2 hs2 hW3 h1 h2 h3 h4 h5 hbw hadd
  unfold ruleVals two
  go_wp2_with fail
  rw [HW3.out]
  refine HC.out.mono ?_
  rintro r w4 ⟨hb4, hok, hno⟩
  rw [M.wsome_all] at hok
  have HB4 := Lib.hid (HB.out.trans (hb4.mono HB.out.size))
  by_cases hf : f = 0 ∨ f = 1
  · obtain ⟨v, rfl, ho⟩ := hok hf
    have HF := Lib.hid hf
    have HO := Lib.hid (own_base ho HB.out.size)
    clear hb4 hok hno hf ho
    go_wp2_with fail
    go_returns
    exact ⟨HB4.out, fun _ => ⟨_, rfl, HO.out⟩, fun h => absurd HF.out h⟩
  · obtain rfl := hno hf
    have HF := Lib.hid hf
    clear hb4 hok hno hf
    go_wp2_with fail
    go_returns
    exact ⟨HB4.out, fun h => absurd h HF.out, fun _ => rfl⟩
set_option maxHeartbeats 4000000 in
theorem crule_any (A : Option Addr) (ca n : Nat) (nn f : Int) (l : List Int) (w : World) (hr : RdS .i64 w w.heap.size A l) (hn : l.length = n) (hl : n ≤ 1000) (_ : n ≤ ca) :
    Calls Try.prog 8 #[.int .i64 nn, .slice A n ca, .int .i64 f] w (RuleOut (M.may nn f) (M.wrule nn f l) w) := by
  have HR := Lib.hid hr
  have HN := Lib.hid hn
  have HRU := Lib.hid rules_any
  clear hr hn
  by_cases hm : 1 ≤ nn ∧ nn ≤ 7
  · obtain ⟨k, rfl⟩ : ∃ k : Nat, nn = (k : Int) + 1 := ⟨(nn - 1).toNat, by omega⟩
    have k0 : (0 : Int) ≤ k := by omega
    have k6 : k < 7 := by omega
    have k7 : (k : Int) + 1 ≤ 7 := by omega
    have hw : IntKind.i64.wrap ((k : Int) + 1 - 1) = (k : Int) := by rw [IntKind.wrap_i64]; omega
    clear hm
    go_enter Try.func8, Try.ntmps8
    go_wp2_with fail
    refine (HRU.out _).mono ?_
    rintro r w2 ⟨rfl, hru, hb2, hs2⟩
    obtain ⟨W3, hW3, h1, h2, h3, h4, h5⟩ := rules_block w.heap.size w2 hru hs2
    unfold ruleVals two at hW3
    have HW3 := Lib.hid hW3
    have hbw := hb2.trans (h4.mono hb2.size)
    have hadd : ∀ j, (⟨w2.heap.size, 0, none⟩ : Addr).add j = ⟨w2.heap.size, j, none⟩ := fun j => by unfold Addr.add; split <;> simp_all
    have hsl : ∀ W : World, (Instr.sliceAt 37 (.pointer (some ⟨w2.heap.size, 0, none⟩)) (some (.int .i64 k)) (some (.int .i64 ((k : Int) + 1))) none).run Try.prog W = .ok (.slice (some ⟨w2.heap.size, k, none⟩) 1 (7 - k)) W := fun W => by
      have e1 : Try.prog.arrayLen 37 = 7 := by kernel_rfl
      have e2 : (sizeOf (Try.prog.elem 37)).run Try.prog W = .ok 1 W := by kernel_rfl
      rw [run_sliceAt_array_lh W 37 ⟨w2.heap.size, 0, none⟩ (by kernel_rfl) .i64 .i64 (k : Int) ((k : Int) + 1) (by omega) (by omega) (by rw [e1]; omega), e2, e1]
      match k, k6 with
      | 0, _ => rfl
      | 1, _ => rfl
      | 2, _ => rfl
      | 3, _ => rfl
      | 4, _ => rfl
      | 5, _ => rfl
      | 6, _ => rfl
    obtain ⟨sc, hsc⟩ : ∃ sc, 7 - k = sc := ⟨_, rfl⟩
    rw [hsc] at hsl
    have HC := Lib.hid (made_any ⟨w2.heap.size, k, none⟩ 1 sc w.heap.size [k] A ca n f l W3 ((HR.out.below hbw).more hbw.size) HN.out hl h1 h2 h3 rfl (by omega) (fun j k' hk => by
      match j, hk with
      | 0, hk =>
        obtain rfl : k = k' := by simpa using hk
        obtain ⟨v, hv⟩ : ∃ v, (ruleVals w.heap.size)[k]? = some v := ⟨_, List.getElem?_eq_getElem (by exact k6)⟩
        exact ⟨v, hv, h5 k v hv⟩
      | _ + 1, hk => simp at hk))
    have HB := Lib.hid hbw
    have hmay : M.may ((k : Int) + 1) f ↔ (f = 0 ∨ f = 1) := ⟨fun h => h.2, fun h => ⟨by omega, h⟩⟩
    have HMAY := Lib.hid hmay
    clear hru hb2 hs2 hW3 h1 h2 h3 h4 h5 hbw hadd hsc hmay
    unfold ruleVals two
    go_wp2_with fail
    rw [HW3.out]
    go_wp2_with fail
    refine HC.out.mono ?_
    rintro r w4 ⟨hb4, hok, hno⟩
    have HB4 := Lib.hid (HB.out.trans (hb4.mono HB.out.size))
    by_cases hf : f = 0 ∨ f = 1
    · obtain ⟨v, rfl, ho⟩ := hok hf
      have HF := Lib.hid hf
      have HO := Lib.hid (own_base ho HB.out.size)
      clear hb4 hok hno hf ho
      go_wp2_with fail
      go_returns
      exact ⟨HB4.out, fun _ => ⟨_, rfl, HO.out⟩, fun h => absurd (HMAY.out.2 HF.out) h⟩
    · obtain rfl := hno hf
      have HF := Lib.hid hf
      clear hb4 hok hno hf
      go_wp2_with fail
      go_returns
      exact ⟨HB4.out, fun h => absurd (HMAY.out.1 h) HF.out, fun _ => rfl⟩
  · have HM := Lib.hid (show ¬ M.may nn f from fun h => hm h.1)
    by_cases h1 : nn < 1
    · clear hm
      go_enter Try.func8, Try.ntmps8
      go_wp2_with fail
      refine (HRU.out _).mono ?_
      rintro r w2 ⟨rfl, hru, hb2, hs2⟩
      have HB := Lib.hid (hb2.alloc (hb2.size) (.cells (ruleVals w.heap.size).toArray 37))
      clear hru hb2 hs2
      unfold ruleVals two at *
      go_wp2_with fail
      go_returns
      exact ⟨HB.out, fun h => absurd h HM.out, fun _ => rfl⟩
    · have h7 : 7 < nn := by omega
      clear hm
      go_enter Try.func8, Try.ntmps8
      go_wp2_with fail
      refine (HRU.out _).mono ?_
      rintro r w2 ⟨rfl, hru, hb2, hs2⟩
      have HB := Lib.hid (hb2.alloc (hb2.size) (.cells (ruleVals w.heap.size).toArray 37))
      clear hru hb2 hs2
      unfold ruleVals two at *
      go_wp2_with fail
      go_returns
      exact ⟨HB.out, fun h => absurd h HM.out, fun _ => rfl⟩
end Go.Proofs.Ytanlclmlkpchfaa
