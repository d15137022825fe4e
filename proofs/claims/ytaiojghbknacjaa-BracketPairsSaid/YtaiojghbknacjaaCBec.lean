/- The contracts of package bracket's set and becomes. Conditions: the slices read as lists of at most 2^44; the places lie in them; set's row is the caller's own. -/
import Derived.Test.YtaiojghbknacjaaCLeaf
namespace Go.Proofs.Ytaiojghbknacjaa
open Go.RowKit
set_option maxRecDepth 100000

set_option maxHeartbeats 4000000 in
theorem cset_any (A : Option Addr) (ca G cb n at_ base : Nat) (came O : List Int) (s : Int) (w : World) (hr : RdS .i64 w base A came) (hn : came.length = n) (hl : n ≤ 17592186044416) (ho : w.ownsRow base 32 1 (.slice (some ⟨G, 0, none⟩) n cb) n (O.map (Value.int .i64))) (hol : O.length = n) (hat : at_ < n) :
    Calls Try.prog 23 #[.slice A n ca, .slice (some ⟨G, 0, none⟩) n cb, .int .i64 at_, .int .i64 s] w fun r w' => r = .returned (.tuple #[]) ∧ w'.ownsRow base 32 1 (.slice (some ⟨G, 0, none⟩) n cb) n ((M.cset came O at_ s).map (Value.int .i64)) ∧ Turned w w' G := by
  have hG := World.ownsRow.lt ho G rfl
  obtain ⟨x0, hx0⟩ : ∃ x, O[at_]? = some x := ⟨_, List.getElem?_eq_getElem (by omega)⟩
  have c0 : w.cell? ⟨G, at_, none⟩ = some (.int .i64 x0) := by
    rw [World.ownsRow.cellAt ho at_ (by omega), List.getElem?_map, hx0]
    rfl
  have hl1 : (n : Int) ≤ 17592186044416 := by omega
  have ha0 : (0 : Int) ≤ at_ := by omega
  have ha1 : (at_ : Int) < n := by omega
  by_cases hxs : x0 = s
  · have HO := Lib.hid (show w.ownsRow base 32 1 (.slice (some ⟨G, 0, none⟩) n cb) n ((M.cset came O at_ s).map (Value.int .i64)) by
      unfold M.cset
      rw [if_pos (by rw [hx0, hxs])]
      exact ho)
    have bx : (x0 == s) = true := by simp [hxs]
    clear hr hn ho hol hx0 hxs hl hat
    go_enter Try.func23, Try.ntmps23
    go_wp2_with fail
    go_returns
    exact ⟨rfl, HO.out, Turned.refl _ _⟩
  obtain ⟨R, hR⟩ : ∃ R, M.bec came O at_ s = R := ⟨_, rfl⟩
  have hRR : M.cset came O at_ s = R := by
    unfold M.cset
    rw [hx0, if_neg (by intro e; injection e with e; exact hxs e), hR]
  rw [hRR]
  have bx : (x0 == s) = false := by simp [hxs]
  have f0 := World.ownsRow.frozenAt ho at_
  have ho1 := (World.ownsRow.stored ho at_ (.int .i64 s)).1
  rw [← List.map_set] at ho1
  have HO1 := Lib.hid ho1
  have HR := Lib.hid hr
  have HN := Lib.hid hn
  have HG := Lib.hid hG
  have HOL := Lib.hid hol
  have HRR := Lib.hid (show M.mk came s (n - (at_ + 1)) (at_ + 1) (O.set at_ s) = R by rw [← hR, ← hol]; rfl)
  clear hr hn hR ho hol ho1 hG hx0 hRR hxs
  go_enter Try.func23, Try.ntmps23
  go_wp2_with fail
  go_loopw [8] (fun v wr => ∃ (k : Nat) (O' : List Int), v = .int .i64 k ∧ at_ < k ∧ k ≤ n ∧ wr.ownsRow base 32 1 (.slice (some ⟨G, 0, none⟩) n cb) n (O'.map (Value.int .i64)) ∧ O'.length = n ∧ Turned w wr G ∧ M.mk came s (n - k) k O' = R) (fun v _ => n - (intOf v).toNat)
  case atStart => exact ⟨at_ + 1, O.set at_ s, by go_num, by omega, by omega, HO1.out, by rw [List.length_set, HOL.out], (Turned.refl w G).setCell _ _, HRR.out⟩
  case round =>
    obtain ⟨k, O', rfl, hak, hkn, ho, hol, ht, hto⟩ := hrel
    have HT := Lib.hid ht
    have HTO := Lib.hid hto
    have HO := Lib.hid ho
    have HOL2 := Lib.hid hol
    have hk0 : (0 : Int) ≤ k := by omega
    by_cases hlt : k < n
    · have hk1 : (k : Int) < n := by omega
      obtain ⟨ad, x, rfl, hcx, hx, -⟩ := rd_at HR.out (HT.out.below HG.out.1) (by rw [HN.out]; exact hlt : k < came.length)
      obtain ⟨m, hm⟩ : ∃ m, n - k = m + 1 := ⟨n - k - 1, by omega⟩
      have h1 := hto
      rw [hm] at h1
      have h2 : (if came[k]? = some 8 then M.mk came s m (k + 1) (O'.set k s) else O') = R := h1
      rw [hx] at h2
      by_cases h8 : x = 8
      · subst h8
        rw [if_pos rfl, show m = n - (k + 1) by omega] at h2
        have H1 := Lib.hid h2
        obtain ⟨y, hy⟩ : ∃ y, O'[k]? = some y := ⟨_, List.getElem?_eq_getElem (by omega)⟩
        have c1 : wr.cell? ⟨G, k, none⟩ = some (.int .i64 y) := by
          rw [World.ownsRow.cellAt ho k (by omega), List.getElem?_map, hy]
          rfl
        have f1 := World.ownsRow.frozenAt ho k
        have ho2 := (World.ownsRow.stored ho k (.int .i64 s)).1
        rw [← List.map_set] at ho2
        have HO2 := Lib.hid ho2
        clear h1 h2 hx hto ht ho hol hm ho2 hy
        go_wp2_with fail
        go_roundw
        case rel => exact ⟨k + 1, O'.set k s, by go_num, by omega, by omega, HO2.out, by rw [List.length_set, HOL2.out], HT.out.setCell _ _, H1.out⟩
        case measure => simp [intOf]; omega
      · rw [if_neg (by intro e; injection e with e; exact h8 e)] at h2
        have b8 : (x == 8) = false := by simp; omega
        have H1 := Lib.hid h2
        clear h1 h2 hx hto ht ho hol hm h8
        go_wp2_with fail
        go_end0
        exact ⟨rfl, by rw [← H1.out]; exact HO.out, HT.out⟩
    · obtain rfl : k = n := by omega
      have hk1 : ¬ (k : Int) < (k : Int) := by omega
      rw [Nat.sub_self] at hto
      have H1 := Lib.hid (show O' = R from hto)
      clear hto ht ho hol
      go_wp2_with fail
      go_end0
      exact ⟨rfl, by rw [← H1.out]; exact HO.out, HT.out⟩
/-- Is there a strong one of whatever side. -/
def M.anyS (l : List Int) : Nat → Nat → Bool
  | 0, _ => false
  | m + 1, i => if M.sg (l.getD i 0) ≠ 13 then true else M.anyS l m (i + 1)
theorem M.anyS_is {side other : Int} (hso : (side = 0 ∧ other = 1) ∨ (side = 1 ∧ other = 0)) {l : List Int} {m i : Nat} (h : M.btw side l m i = false) : M.anyS l m i = M.btw other l m i := by
  induction m generalizing i with
  | zero => rfl
  | succ m ih =>
    unfold M.anyS M.btw
    unfold M.btw at h
    have hsg : M.sg (l.getD i 0) = 0 ∨ M.sg (l.getD i 0) = 1 ∨ M.sg (l.getD i 0) = 13 := by
      unfold M.sg
      split
      · simp
      · split <;> simp
    split at h
    · cases h
    · rename_i hs
      by_cases h13 : M.sg (l.getD i 0) = 13
      · rw [if_neg (fun e => e h13), if_neg (by omega)]
        exact ih h
      · rw [if_pos h13, if_pos (by omega)]
/-- What a pair becomes, and whether it does. -/
def M.becV (s f : Int) (l : List Int) (p q : Nat) : Int := if M.btw s l (q - (p + 1)) (p + 1) = true then s else if M.anyS l (q - (p + 1)) (p + 1) = true then M.ahd f (l.take p).reverse else 0
def M.becB (s : Int) (l : List Int) (p q : Nat) : Bool := M.btw s l (q - (p + 1)) (p + 1) || M.anyS l (q - (p + 1)) (p + 1)
set_option maxHeartbeats 4000000 in
theorem cbec_any (A : Option Addr) (ca n p q : Nat) (l : List Int) (s f : Int) (w : World) (hr : RdS .i64 w w.heap.size A l) (hn : l.length = n) (hl : n ≤ 17592186044416) (hpq : p < q) (hq : q < n) (hca : n ≤ ca) (hs : s = 0 ∨ s = 1) :
    Calls Try.prog 22 #[.slice A n ca, .agg #[.int .i64 p, .int .i64 q], .int .i64 s, .int .i64 f] w fun r w' => r = .returned (.tuple #[.int .i64 (M.becV s f l p q), .bool (M.becB s l p q)]) ∧ Below w.heap.size w w' := by
  obtain ⟨ad0, -, rfl, -⟩ := rd_at hr (Below.refl _ _) (by omega : q < l.length)
  obtain ⟨p1, hp1⟩ : ∃ p1, p + 1 = p1 := ⟨_, rfl⟩
  obtain ⟨d, hd⟩ : ∃ d, q - p1 = d := ⟨_, rfl⟩
  obtain ⟨X1, hX1⟩ : ∃ X, M.btw s l (q - (p + 1)) (p + 1) = X := ⟨_, rfl⟩
  obtain ⟨X2, hX2⟩ : ∃ X, M.anyS l (q - (p + 1)) (p + 1) = X := ⟨_, rfl⟩
  obtain ⟨V, hV⟩ : ∃ V, M.becV s f l p q = V := ⟨_, rfl⟩
  obtain ⟨Y, hY⟩ : ∃ Y, M.becB s l p q = Y := ⟨_, rfl⟩
  rw [hV, hY]
  unfold M.becV at hV
  unfold M.becB at hY
  rw [hX1, hX2] at hV hY
  rw [hp1, hd] at hX1 hX2
  obtain ⟨W1, hW1, hb1, e0, e1, -, -, hgt⟩ := new_two w p q 41
  have HR := Lib.hid ((hr.below hb1).more hb1.size)
  have HN := Lib.hid hn
  have HB1 := Lib.hid hb1
  have HV := Lib.hid hV
  have HY := Lib.hid hY
  have H1 := Lib.hid hX1
  have H2 := Lib.hid hX2
  have HD := Lib.hid (show p1 + d = q by omega)
  have HGT := Lib.hid hgt
  have HCA := Lib.hid hca
  have hl1 : (n : Int) ≤ 17592186044416 := by omega
  have hq1 : (q : Int) < n := by omega
  have hp2 : (p1 : Int) ≤ q := by omega
  have hd1 : (d : Int) ≤ 17592186044416 := by omega
  have hp0 : (0 : Int) ≤ p := by omega
  have hpp : (p : Int) + 1 = p1 := by omega
  have hqc : (q : Int) ≤ ca := by omega
  have hnc : (n : Int) ≤ ca := by omega
  have hpc : (p : Int) ≤ ca := by omega
  have hp1c : p1 ≠ ca := by omega
  have HPN := Lib.hid (show p ≤ n by omega)
  have HPP := Lib.hid hp1
  clear hr hn hX1 hX2 hV hY hb1 hp1 hgt hca
  go_enter Try.func22, Try.ntmps22
  go_wp2_with fail
  clear hd
  go_loop [10, 23] (fun fd v => ∃ (k : Nat) (b : Bool), fd = .bool b ∧ v = .int .i64 k ∧ k ≤ d ∧ M.btw s l (d - k) (p1 + k) = X1 ∧ (b || M.anyS l (d - k) (p1 + k)) = X2) (fun _ v => d - (intOf v).toNat)
  case atStart => exact ⟨0, false, rfl, rfl, Nat.zero_le _, by rw [Nat.sub_zero, Nat.add_zero]; exact H1.out, by rw [Nat.sub_zero, Nat.add_zero, Bool.false_or]; exact H2.out⟩
  case round =>
    obtain ⟨k, b, rfl, rfl, hk, h1, h2⟩ := hrel
    have k0 : (0 : Int) ≤ k := by omega
    by_cases hlt : k < d
    · have k1 : (k : Int) < d := by omega
      obtain ⟨ad, x, hA, hcx, hx, -⟩ := rd_at HR.out (Below.refl _ _) (by rw [HN.out]; have := HD.out; omega : p1 + k < l.length)
      injection hA with hA
      subst hA
      rw [← addr_add_add] at hcx
      obtain ⟨m, hm⟩ : ∃ m, d - k = m + 1 := ⟨d - k - 1, by omega⟩
      have hm2 : m = d - (k + 1) := by omega
      rw [hm] at h1 h2
      have h3 : (if M.sg (l.getD (p1 + k) 0) = s then true else M.btw s l m (p1 + k + 1)) = X1 := h1
      have h4 : (b || (if M.sg (l.getD (p1 + k) 0) ≠ 13 then true else M.anyS l m (p1 + k + 1))) = X2 := h2
      rw [List.getD_eq_getElem?_getD, hx, hm2, Nat.add_assoc] at h3 h4
      simp only [Option.getD_some] at h3 h4
      have HS := Lib.hid (cstrong_any x W1)
      obtain ⟨z, hz⟩ : ∃ z, M.sg0 x = z := ⟨_, rfl⟩
      obtain ⟨y, hy⟩ : ∃ y, M.isS x = y := ⟨_, rfl⟩
      rw [hz, hy] at HS
      unfold M.sg0 at hz
      unfold M.isS at hy
      have HZ := Lib.hid hz
      have hz := HZ.out
      clear h1 h2 hx hm hm2
      by_cases h13 : M.sg x = 13
      · obtain rfl : y = false := by rw [← hy]; simp [h13]
        rw [if_neg (fun e => e h13)] at h4
        rw [if_neg (by omega)] at h3
        have H3 := Lib.hid h3
        have H4 := Lib.hid h4
        clear h3 h4 hz hy h13
        cases b with
        | true =>
          go_wp2_with fail
          refine HS.out.mono ?_
          rintro r w1 ⟨rfl, rfl⟩
          go_wp2_with fail
          go_round
          case rel => exact ⟨k + 1, true, rfl, by go_num, by omega, H3.out, H4.out⟩
          case measure => simp [intOf]; omega
        | false =>
          go_wp2_with fail
          refine HS.out.mono ?_
          rintro r w1 ⟨rfl, rfl⟩
          go_wp2_with fail
          go_round
          case rel => exact ⟨k + 1, false, rfl, by go_num, by omega, H3.out, H4.out⟩
          case measure => simp [intOf]; omega
      · obtain rfl : y = true := by rw [← hy]; simp [h13]
        rw [if_neg h13] at hz
        rw [if_pos h13, Bool.or_true] at h4
        by_cases hxs : M.sg x = s
        · rw [if_pos hxs] at h3
          rw [hxs] at hz
          subst hz
          have H3 := Lib.hid h3
          clear h3 h4 hy h13 hxs
          go_wp2_with fail
          refine HS.out.mono ?_
          rintro r w1 ⟨rfl, rfl⟩
          go_wp2_with fail
          go_returns
          refine ⟨?_, HB1.out⟩
          have hv := HV.out
          have hy := HY.out
          rw [← H3.out] at hv hy
          rw [← hv, ← hy]
          rfl
        · rw [if_neg hxs] at h3
          have bz : (z == s) = false := by simp; omega
          have H3 := Lib.hid h3
          have H4 := Lib.hid h4
          clear h3 h4 hz hy h13 hxs
          go_wp2_with fail
          refine HS.out.mono ?_
          rintro r w1 ⟨rfl, rfl⟩
          cases b with
          | true =>
            go_wp2_with fail
            go_round
            case rel => exact ⟨k + 1, true, rfl, by go_num, by omega, H3.out, by rw [Bool.true_or]; exact H4.out⟩
            case measure => simp [intOf]; omega
          | false =>
            go_wp2_with fail
            go_round
            case rel => exact ⟨k + 1, true, rfl, by go_num, by omega, H3.out, by rw [Bool.true_or]; exact H4.out⟩
            case measure => simp [intOf]; omega
    · obtain rfl : k = d := by omega
      have hk1 : ¬ (k : Int) < (k : Int) := by omega
      rw [Nat.sub_self] at h1 h2
      have h3 : false = X1 := h1
      have h4 : (b || false) = X2 := h2
      rw [Bool.or_false] at h4
      have hv := HV.out
      have hy := HY.out
      rw [← h3, ← h4, if_neg (by simp)] at hv
      rw [← h3, ← h4, Bool.false_or] at hy
      have HRT := Lib.hid (HR.out.take p)
      have HTL := Lib.hid (show (l.take p).length = p by rw [List.length_take, HN.out]; have := HPN.out; omega)
      have HPL := Lib.hid (show p ≤ 17592186044416 by have := HPN.out; omega)
      cases b with
      | true =>
        rw [if_pos rfl] at hv
        have HV2 := Lib.hid hv
        have HY2 := Lib.hid hy
        clear h1 h2 h3 h4 hv hy
        go_wp2_with fail
        refine (cnearest_any (some ad0) ca p f (l.take p) W1 HRT.out HTL.out HPL.out).mono ?_
        rintro r w2 ⟨rfl, hb2⟩
        have HB2 := Lib.hid (HB1.out.trans (hb2.mono HB1.out.size))
        clear hb2
        go_wp2_with fail
        go_returns
        exact ⟨by rw [← HV2.out, ← HY2.out]; rfl, HB2.out⟩
      | false =>
        rw [if_neg (by simp)] at hv
        have HV2 := Lib.hid hv
        have HY2 := Lib.hid hy
        clear h1 h2 h3 h4 hv hy
        go_wp2_with fail
        go_returns
        exact ⟨by rw [← HV2.out, ← HY2.out]; rfl, HB1.out⟩
end Go.Proofs.Ytaiojghbknacjaa
