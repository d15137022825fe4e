/- The document's own Break for clusters, over the translation. Conditions: the slice reads as a list of joins, at most a thousand of them. -/
import Derived.Test.YtpnbkakilmigeaaRefBack
namespace Go.Proofs.Ytpnbkakilmigeaa
open Go.RowKit

/-- Is there a break ahead of the i-th? -/
def M.brk (l : List Int) (i : Int) : Bool :=
  if i < 0 ∨ (l.length : Int) < i ∨ l.length = 0 then false
  else if i = l.length then true
  else match l[i.toNat]? with
    | some b => M.cut (M.back l i.toNat) b
    | none => true
theorem M.brk_in {l : List Int} {k : Nat} {b : Int} (h : l[k]? = some b) : M.brk l k = M.cut (M.back l k) b := by
  have hk := (List.getElem?_eq_some_iff.1 h).1
  unfold M.brk
  rw [if_neg (by omega), if_neg (by omega), Int.toNat_natCast, h]

set_option maxHeartbeats 4000000 in
theorem refBreakIn_any (A : Option Addr) (ca n k : Nat) (l : List Int) (a b : Int) (w : World) (hr : RdS .i64 w w.heap.size A l) (hn : l.length = n) (hl : n ≤ 1000) (hk : 0 < k) (hkn : k < n) (ha : l[k - 1]? = some a) (hb : l[k]? = some b) :
    Calls Try.prog 12 #[.slice A n ca, .int .i64 k] w fun r w' => r = .returned (.bool (M.cut (a :: M.back l (k - 1)) b)) ∧ Below w.heap.size w w' := by
  have hbk : M.back l k = a :: M.back l (k - 1) := by have := M.back_next ha; rwa [show k - 1 + 1 = k by omega] at this
  obtain ⟨ad, x, rfl, hcx, hx, hab⟩ := rd_at hr (Below.refl _ _) (by omega : k - 1 < l.length)
  obtain ⟨ad', y, hA, hcy, hy, _⟩ := rd_at hr (Below.refl _ _) (by omega : k < l.length)
  injection hA with hA
  subst hA
  obtain rfl : a = x := by rw [ha] at hx; injection hx
  obtain rfl : b = y := by rw [hb] at hy; injection hy
  have k0 : (0 : Int) < k := by omega
  have k1 : (k : Int) < n := by omega
  have c1 : (n : Int) ≤ 1000 := by omega
  have kz : ((k : Int) == 0) = false := by rw [beq_eq_false_iff_ne]; omega
  have kn : ((k : Int) == (n : Int)) = false := by rw [beq_eq_false_iff_ne]; omega
  have nz : ((n : Int) == 0) = false := by rw [beq_eq_false_iff_ne]; omega
  have kz' : (k == 0) = false := by rw [beq_eq_false_iff_ne]; omega
  have kn' : (k == n) = false := by rw [beq_eq_false_iff_ne]; omega
  have nz' : (n == 0) = false := by rw [beq_eq_false_iff_ne]; omega
  have HEA := Lib.hid (fun w => refEnds_any a w)
  have HEB := Lib.hid (fun w => refEnds_any b w)
  have HHG := Lib.hid (fun w => refHangul_any a b w)
  have HPC := Lib.hid (fun (w1 : World) (h : Below w.heap.size w w1) => by
    have := refPicture_any (some ad) ca n (k - 1) l a w1 ((hr.below h).more h.size) hn hl (by omega) ha
    rwa [show ((k - 1 : Nat) : Int) = (k : Int) - 1 by omega] at this)
  have HOD := Lib.hid (fun (w1 : World) (h : Below w.heap.size w w1) => by
    have := refOdd_any (some ad) ca n (k - 1) l w1 ((hr.below h).more h.size) hn hl (by omega)
    rwa [show ((k - 1 : Nat) : Int) = (k : Int) - 1 by omega, show k - 1 + 1 = k by omega, hbk] at this)
  obtain ⟨t, ht⟩ : ∃ t, M.back l (k - 1) = t := ⟨_, rfl⟩
  rw [ht] at HPC HOD ⊢
  unfold M.cut
  dsimp only
  clear hr hn hbk ht hx hy ha hb hab
  by_cases h12 : a = 1 ∧ b = 2
  · rw [if_pos h12]
    obtain ⟨rfl, rfl⟩ := h12
    clear HEA HEB HHG HPC HOD
    go_enter Try.func12, Try.ntmps12
    go_wp2_with fail
    go_ret
    exact ⟨rfl, Below.refl _ _⟩
  · rw [if_neg h12]
    have hgate : (a == 1) = false ∨ ((a == 1) = true ∧ (b == 2) = false) := by
      by_cases h1 : a = 1
      · exact .inr ⟨by rw [beq_iff_eq]; exact h1, by rw [beq_eq_false_iff_ne]; exact fun h => h12 ⟨h1, h⟩⟩
      · exact .inl (by rw [beq_eq_false_iff_ne]; exact h1)
    obtain ⟨ea, hea⟩ : ∃ e, M.endsJ a = e := ⟨_, rfl⟩
    obtain ⟨eb, heb⟩ : ∃ e, M.endsJ b = e := ⟨_, rfl⟩
    obtain ⟨hg, hhg⟩ : ∃ e, M.hang a b = e := ⟨_, rfl⟩
    rw [hea] at HEA ⊢
    rw [heb] at HEB ⊢
    rw [hhg] at HHG ⊢
    have noa1 : ea = false → (a == 1) = false := fun h => by
      rw [beq_eq_false_iff_ne]
      intro h1
      rw [h1] at hea
      rw [h] at hea
      exact absurd hea (by decide)
    clear hea heb hhg
    cases ea
    case true =>
      rw [if_pos (.inl rfl)]
      clear h12 noa1
      rcases hgate with g | ⟨g, g'⟩
      · go_enter Try.func12, Try.ntmps12
        go_wp2_with fail
        refine (HEA.out w).mono ?_
        rintro r w1 ⟨rfl, hb1⟩
        have HB1 := Lib.hid (hb1)
        clear hb1
        go_wp2_with fail
        refine (HEB.out w1).mono ?_
        rintro r w2 ⟨rfl, hb2⟩
        have HB2 := Lib.hid (HB1.out.trans (hb2.mono HB1.out.size))
        clear hb2
        go_wp2_with fail
        go_ret
        exact ⟨rfl, HB2.out⟩
      · go_enter Try.func12, Try.ntmps12
        go_wp2_with fail
        refine (HEA.out w).mono ?_
        rintro r w1 ⟨rfl, hb1⟩
        have HB1 := Lib.hid (hb1)
        clear hb1
        go_wp2_with fail
        refine (HEB.out w1).mono ?_
        rintro r w2 ⟨rfl, hb2⟩
        have HB2 := Lib.hid (HB1.out.trans (hb2.mono HB1.out.size))
        clear hb2
        go_wp2_with fail
        go_ret
        exact ⟨rfl, HB2.out⟩
    case false =>
      have g := noa1 rfl
      clear hgate noa1 h12
      cases eb
      case true =>
        rw [if_pos (.inr rfl)]
        go_enter Try.func12, Try.ntmps12
        go_wp2_with fail
        refine (HEA.out w).mono ?_
        rintro r w1 ⟨rfl, hb1⟩
        have HB1 := Lib.hid (hb1)
        clear hb1
        go_wp2_with fail
        refine (HEB.out w1).mono ?_
        rintro r w2 ⟨rfl, hb2⟩
        have HB2 := Lib.hid (HB1.out.trans (hb2.mono HB1.out.size))
        clear hb2
        go_wp2_with fail
        go_ret
        exact ⟨rfl, HB2.out⟩
      case false =>
        rw [if_neg (by simp)]
        cases hg
        case true =>
          rw [if_pos (.inl rfl)]
          go_enter Try.func12, Try.ntmps12
          go_wp2_with fail
          refine (HEA.out w).mono ?_
          rintro r w1 ⟨rfl, hb1⟩
          have HB1 := Lib.hid (hb1)
          clear hb1
          go_wp2_with fail
          refine (HEB.out w1).mono ?_
          rintro r w2 ⟨rfl, hb2⟩
          have HB2 := Lib.hid (HB1.out.trans (hb2.mono HB1.out.size))
          clear hb2
          go_wp2_with fail
          refine (HHG.out w2).mono ?_
          rintro r w3 ⟨rfl, hb3⟩
          have HB3 := Lib.hid (HB2.out.trans (hb3.mono HB2.out.size))
          clear hb3
          go_wp2_with fail
          go_ret
          exact ⟨rfl, HB3.out⟩
        case false =>
          rcases (show b = 4 ∨ b = 5 ∨ b = 8 ∨ a = 7 ∨ (b ≠ 4 ∧ b ≠ 5 ∧ b ≠ 8 ∧ a ≠ 7) by omega) with h | h | h | h | ⟨h1, h2, h3, h4⟩
          · rw [if_pos (by omega)]
            subst h
            go_enter Try.func12, Try.ntmps12
            go_wp2_with fail
            refine (HEA.out w).mono ?_
            rintro r w1 ⟨rfl, hb1⟩
            have HB1 := Lib.hid (hb1)
            clear hb1
            go_wp2_with fail
            refine (HEB.out w1).mono ?_
            rintro r w2 ⟨rfl, hb2⟩
            have HB2 := Lib.hid (HB1.out.trans (hb2.mono HB1.out.size))
            clear hb2
            go_wp2_with fail
            refine (HHG.out w2).mono ?_
            rintro r w3 ⟨rfl, hb3⟩
            have HB3 := Lib.hid (HB2.out.trans (hb3.mono HB2.out.size))
            clear hb3
            go_wp2_with fail
            go_ret
            exact ⟨rfl, HB3.out⟩
          · rw [if_pos (by omega)]
            subst h
            go_enter Try.func12, Try.ntmps12
            go_wp2_with fail
            refine (HEA.out w).mono ?_
            rintro r w1 ⟨rfl, hb1⟩
            have HB1 := Lib.hid (hb1)
            clear hb1
            go_wp2_with fail
            refine (HEB.out w1).mono ?_
            rintro r w2 ⟨rfl, hb2⟩
            have HB2 := Lib.hid (HB1.out.trans (hb2.mono HB1.out.size))
            clear hb2
            go_wp2_with fail
            refine (HHG.out w2).mono ?_
            rintro r w3 ⟨rfl, hb3⟩
            have HB3 := Lib.hid (HB2.out.trans (hb3.mono HB2.out.size))
            clear hb3
            go_wp2_with fail
            go_ret
            exact ⟨rfl, HB3.out⟩
          · rw [if_pos (by omega)]
            subst h
            go_enter Try.func12, Try.ntmps12
            go_wp2_with fail
            refine (HEA.out w).mono ?_
            rintro r w1 ⟨rfl, hb1⟩
            have HB1 := Lib.hid (hb1)
            clear hb1
            go_wp2_with fail
            refine (HEB.out w1).mono ?_
            rintro r w2 ⟨rfl, hb2⟩
            have HB2 := Lib.hid (HB1.out.trans (hb2.mono HB1.out.size))
            clear hb2
            go_wp2_with fail
            refine (HHG.out w2).mono ?_
            rintro r w3 ⟨rfl, hb3⟩
            have HB3 := Lib.hid (HB2.out.trans (hb3.mono HB2.out.size))
            clear hb3
            go_wp2_with fail
            go_ret
            exact ⟨rfl, HB3.out⟩
          · rw [if_pos (by omega)]
            subst h
            by_cases q4 : b = 4
            · subst q4
              go_enter Try.func12, Try.ntmps12
              go_wp2_with fail
              refine (HEA.out w).mono ?_
              rintro r w1 ⟨rfl, hb1⟩
              have HB1 := Lib.hid (hb1)
              clear hb1
              go_wp2_with fail
              refine (HEB.out w1).mono ?_
              rintro r w2 ⟨rfl, hb2⟩
              have HB2 := Lib.hid (HB1.out.trans (hb2.mono HB1.out.size))
              clear hb2
              go_wp2_with fail
              refine (HHG.out w2).mono ?_
              rintro r w3 ⟨rfl, hb3⟩
              have HB3 := Lib.hid (HB2.out.trans (hb3.mono HB2.out.size))
              clear hb3
              go_wp2_with fail
              go_ret
              exact ⟨rfl, HB3.out⟩
            · by_cases q5 : b = 5
              · subst q5
                go_enter Try.func12, Try.ntmps12
                go_wp2_with fail
                refine (HEA.out w).mono ?_
                rintro r w1 ⟨rfl, hb1⟩
                have HB1 := Lib.hid (hb1)
                clear hb1
                go_wp2_with fail
                refine (HEB.out w1).mono ?_
                rintro r w2 ⟨rfl, hb2⟩
                have HB2 := Lib.hid (HB1.out.trans (hb2.mono HB1.out.size))
                clear hb2
                go_wp2_with fail
                refine (HHG.out w2).mono ?_
                rintro r w3 ⟨rfl, hb3⟩
                have HB3 := Lib.hid (HB2.out.trans (hb3.mono HB2.out.size))
                clear hb3
                go_wp2_with fail
                go_ret
                exact ⟨rfl, HB3.out⟩
              · by_cases q8 : b = 8
                · subst q8
                  go_enter Try.func12, Try.ntmps12
                  go_wp2_with fail
                  refine (HEA.out w).mono ?_
                  rintro r w1 ⟨rfl, hb1⟩
                  have HB1 := Lib.hid (hb1)
                  clear hb1
                  go_wp2_with fail
                  refine (HEB.out w1).mono ?_
                  rintro r w2 ⟨rfl, hb2⟩
                  have HB2 := Lib.hid (HB1.out.trans (hb2.mono HB1.out.size))
                  clear hb2
                  go_wp2_with fail
                  refine (HHG.out w2).mono ?_
                  rintro r w3 ⟨rfl, hb3⟩
                  have HB3 := Lib.hid (HB2.out.trans (hb3.mono HB2.out.size))
                  clear hb3
                  go_wp2_with fail
                  go_ret
                  exact ⟨rfl, HB3.out⟩
                · have c4 : (b == 4) = false := by rw [beq_eq_false_iff_ne]; exact q4
                  have c5 : (b == 5) = false := by rw [beq_eq_false_iff_ne]; exact q5
                  have c8 : (b == 8) = false := by rw [beq_eq_false_iff_ne]; exact q8
                  clear q4 q5 q8
                  go_enter Try.func12, Try.ntmps12
                  go_wp2_with fail
                  refine (HEA.out w).mono ?_
                  rintro r w1 ⟨rfl, hb1⟩
                  have HB1 := Lib.hid (hb1)
                  clear hb1
                  go_wp2_with fail
                  refine (HEB.out w1).mono ?_
                  rintro r w2 ⟨rfl, hb2⟩
                  have HB2 := Lib.hid (HB1.out.trans (hb2.mono HB1.out.size))
                  clear hb2
                  go_wp2_with fail
                  refine (HHG.out w2).mono ?_
                  rintro r w3 ⟨rfl, hb3⟩
                  have HB3 := Lib.hid (HB2.out.trans (hb3.mono HB2.out.size))
                  clear hb3
                  go_wp2_with fail
                  go_ret
                  exact ⟨rfl, HB3.out⟩
          · rw [if_neg (by simp; omega)]
            have c4 : (b == 4) = false := by rw [beq_eq_false_iff_ne]; exact h1
            have c5 : (b == 5) = false := by rw [beq_eq_false_iff_ne]; exact h2
            have c8 : (b == 8) = false := by rw [beq_eq_false_iff_ne]; exact h3
            have c7 : (a == 7) = false := by rw [beq_eq_false_iff_ne]; exact h4
            clear h1 h2 h3 h4
            by_cases h14 : b = 14
            · rw [if_pos h14]
              subst h14
              obtain ⟨o, ho⟩ : ∃ o, (decide (a = 5) && M.base t) = o := ⟨_, rfl⟩
              rw [ho] at HPC ⊢
              clear ho
              go_enter Try.func12, Try.ntmps12
              go_wp2_with fail
              refine (HEA.out w).mono ?_
              rintro r w1 ⟨rfl, hb1⟩
              have HB1 := Lib.hid (hb1)
              clear hb1
              go_wp2_with fail
              refine (HEB.out w1).mono ?_
              rintro r w2 ⟨rfl, hb2⟩
              have HB2 := Lib.hid (HB1.out.trans (hb2.mono HB1.out.size))
              clear hb2
              go_wp2_with fail
              refine (HHG.out w2).mono ?_
              rintro r w3 ⟨rfl, hb3⟩
              have HB3 := Lib.hid (HB2.out.trans (hb3.mono HB2.out.size))
              clear hb3
              go_wp2_with fail
              refine (HPC.out w3 HB3.out).mono ?_
              rintro r w4 ⟨rfl, hb4⟩
              have HB4 := Lib.hid (HB3.out.trans (hb4.mono HB3.out.size))
              clear hb4
              go_wp2_with fail
              go_ret
              exact ⟨rfl, HB4.out⟩
            · rw [if_neg h14]
              have c14 : (b == 14) = false := by rw [beq_eq_false_iff_ne]; exact h14
              by_cases h6 : a = 6
              · subst h6
                by_cases h6' : b = 6
                · subst h6'
                  rw [if_pos ⟨rfl, rfl⟩]
                  obtain ⟨o, ho⟩ : ∃ o, M.oddR (6 :: t) = o := ⟨_, rfl⟩
                  rw [ho] at HOD ⊢
                  clear ho
                  go_enter Try.func12, Try.ntmps12
                  go_wp2_with fail
                  refine (HEA.out w).mono ?_
                  rintro r w1 ⟨rfl, hb1⟩
                  have HB1 := Lib.hid (hb1)
                  clear hb1
                  go_wp2_with fail
                  refine (HEB.out w1).mono ?_
                  rintro r w2 ⟨rfl, hb2⟩
                  have HB2 := Lib.hid (HB1.out.trans (hb2.mono HB1.out.size))
                  clear hb2
                  go_wp2_with fail
                  refine (HHG.out w2).mono ?_
                  rintro r w3 ⟨rfl, hb3⟩
                  have HB3 := Lib.hid (HB2.out.trans (hb3.mono HB2.out.size))
                  clear hb3
                  go_wp2_with fail
                  refine (HOD.out w3 HB3.out).mono ?_
                  rintro r w4 ⟨rfl, hb4⟩
                  have HB4 := Lib.hid (HB3.out.trans (hb4.mono HB3.out.size))
                  clear hb4
                  go_wp2_with fail
                  go_ret
                  exact ⟨rfl, HB4.out⟩
                · rw [if_neg (fun h => h6' h.2)]
                  have c6 : (b == 6) = false := by rw [beq_eq_false_iff_ne]; exact h6'
                  clear h6' h14
                  go_enter Try.func12, Try.ntmps12
                  go_wp2_with fail
                  refine (HEA.out w).mono ?_
                  rintro r w1 ⟨rfl, hb1⟩
                  have HB1 := Lib.hid (hb1)
                  clear hb1
                  go_wp2_with fail
                  refine (HEB.out w1).mono ?_
                  rintro r w2 ⟨rfl, hb2⟩
                  have HB2 := Lib.hid (HB1.out.trans (hb2.mono HB1.out.size))
                  clear hb2
                  go_wp2_with fail
                  refine (HHG.out w2).mono ?_
                  rintro r w3 ⟨rfl, hb3⟩
                  have HB3 := Lib.hid (HB2.out.trans (hb3.mono HB2.out.size))
                  clear hb3
                  go_wp2_with fail
                  go_ret
                  exact ⟨rfl, HB3.out⟩
              · rw [if_neg (fun h => h6 h.1)]
                have c6 : (a == 6) = false := by rw [beq_eq_false_iff_ne]; exact h6
                clear h6 h14
                go_enter Try.func12, Try.ntmps12
                go_wp2_with fail
                refine (HEA.out w).mono ?_
                rintro r w1 ⟨rfl, hb1⟩
                have HB1 := Lib.hid (hb1)
                clear hb1
                go_wp2_with fail
                refine (HEB.out w1).mono ?_
                rintro r w2 ⟨rfl, hb2⟩
                have HB2 := Lib.hid (HB1.out.trans (hb2.mono HB1.out.size))
                clear hb2
                go_wp2_with fail
                refine (HHG.out w2).mono ?_
                rintro r w3 ⟨rfl, hb3⟩
                have HB3 := Lib.hid (HB2.out.trans (hb3.mono HB2.out.size))
                clear hb3
                go_wp2_with fail
                go_ret
                exact ⟨rfl, HB3.out⟩

set_option maxHeartbeats 2000000 in
theorem refBreak_any (A : Option Addr) (ca n : Nat) (l : List Int) (i : Int) (w : World) (hr : RdS .i64 w w.heap.size A l) (hn : l.length = n) (hl : n ≤ 1000) :
    Calls Try.prog 12 #[.slice A n ca, .int .i64 i] w fun r w' => r = .returned (.bool (M.brk l i)) ∧ Below w.heap.size w w' := by
  by_cases hin : 0 < i ∧ i < n
  · obtain ⟨k, rfl⟩ := Int.eq_ofNat_of_zero_le (show 0 ≤ i by omega)
    obtain ⟨a, ha⟩ : ∃ a, l[k - 1]? = some a := ⟨_, List.getElem?_eq_getElem (by omega)⟩
    obtain ⟨b, hb⟩ : ∃ b, l[k]? = some b := ⟨_, List.getElem?_eq_getElem (by omega)⟩
    have hbk : M.back l k = a :: M.back l (k - 1) := by have := M.back_next ha; rwa [show k - 1 + 1 = k by omega] at this
    rw [M.brk_in hb, hbk]
    exact refBreakIn_any A ca n k l a b w hr hn hl (by omega) (by omega) ha hb
  · have c1 : (n : Int) ≤ 1000 := by omega
    have hans : M.brk l i = if i < 0 ∨ (n : Int) < i ∨ n = 0 then false else true := by
      unfold M.brk
      rw [hn]
      by_cases h : i < 0 ∨ (n : Int) < i ∨ n = 0
      · rw [if_pos h, if_pos h]
      · rw [if_neg h, if_neg h]
        by_cases h2 : i = n
        · rw [if_pos h2]
        · rw [if_neg h2]
          obtain rfl : i = 0 := by omega
          obtain ⟨b, hb⟩ : ∃ b, l[0]? = some b := ⟨_, List.getElem?_eq_getElem (by omega)⟩
          rw [Int.toNat_zero, hb, M.back_zero]
          rfl
    rw [hans]
    clear hans hr hn
    by_cases h0 : i < 0
    · rw [if_pos (.inl h0)]
      clear hin
      go_enter Try.func12, Try.ntmps12
      go_wp2_with fail
      go_ret
      exact ⟨rfl, Below.refl _ _⟩
    · by_cases h1 : (n : Int) < i
      · rw [if_pos (.inr (.inl h1))]
        clear hin
        go_enter Try.func12, Try.ntmps12
        go_wp2_with fail
        go_ret
        exact ⟨rfl, Below.refl _ _⟩
      · by_cases h2 : n = 0
        · subst h2
          obtain rfl : i = 0 := by omega
          rw [if_pos (.inr (.inr rfl))]
          clear hin h0 h1
          go_enter Try.func12, Try.ntmps12
          go_wp2_with fail
          go_ret
          exact ⟨rfl, Below.refl _ _⟩
        · rw [if_neg (by omega)]
          have nz : ((n : Int) == 0) = false := by rw [beq_eq_false_iff_ne]; omega
          have nz' : (n == 0) = false := by rw [beq_eq_false_iff_ne]; exact h2
          by_cases h3 : i = 0
          · subst h3
            clear hin h2
            go_enter Try.func12, Try.ntmps12
            go_wp2_with fail
            go_ret
            exact ⟨rfl, Below.refl _ _⟩
          · obtain rfl : i = n := by omega
            clear hin h2 h0 h1
            go_enter Try.func12, Try.ntmps12
            go_wp2_with fail
            go_ret
            exact ⟨rfl, Below.refl _ _⟩
end Go.Proofs.Ytpnbkakilmigeaa
