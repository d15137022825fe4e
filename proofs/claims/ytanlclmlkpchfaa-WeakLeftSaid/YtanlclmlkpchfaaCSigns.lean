/- The contract of package weak's signsJoin: W5, in the row's places, once ahead and once back. -/
import Derived.Test.YtanlclmlkpchfaaCIn
namespace Go.Proofs.Ytanlclmlkpchfaa
open Go.RowKit
set_option maxRecDepth 100000

/-- The row holds a list, and nothing below it has turned. -/
def Now (w : World) (G : Nat) (t : List Int) (wr : World) : Prop := BlockAt wr G 23 t ∧ Below G w wr
theorem Now.regrown {w wr : World} {G : Nat} {t : List Int} (h : Now w G t wr) (d : Nat) (os : Array Obj) : Now w G t (Sort.grow (redrawn wr d) os) :=
  ⟨h.1.below (below_regrown wr d os) h.1.lt, h.2.trans ((below_regrown wr d os).mono (Nat.le_of_lt h.1.lt))⟩
theorem Now.set {w wr : World} {G : Nat} {t : List Int} (h : Now w G t wr) (k : Nat) (x : Int) : Now w G (t.set k x) (wr.setCell ⟨G, k, none⟩ (.int .i64 x)) :=
  ⟨h.1.set x, h.2.setCell (p := ⟨G, k, none⟩) (Nat.le_refl _) _⟩
theorem M.mid {Q q : List Int} {a c x : Int} {k : Nat} (hQ : Q.length = k) : (Q ++ [a] ++ c :: q)[k]? = some a ∧ (Q ++ [a] ++ c :: q)[k + 1]? = some c ∧ (Q ++ [a] ++ c :: q).set (k + 1) x = Q ++ [a] ++ [x] ++ q ∧ (Q ++ [a] ++ c :: q).set k x = Q ++ [x] ++ c :: q := by
  subst hQ
  refine ⟨by simp, by simp, by simp, by simp⟩
set_option maxHeartbeats 8000000 in
theorem signs_any (G n : Nat) (f : Int) (l : List Int) (w : World) (h : BlockAt w G 23 l) (hn : l.length = n) (hl : n ≤ 1000) :
    Calls Try.prog 21 #[.slice (some ⟨G, 0, none⟩) n n, .int .i64 f] w (Rul G (M.wrule 5 f l) w) := by
  have H := Lib.hid h
  have HN := Lib.hid hn
  have hl1 : (n : Int) ≤ 1000 := by omega
  have hw0 : IntKind.i64.wrap ((n : Int) - 2) = (n : Int) - 2 := by rw [IntKind.wrap_i64]; omega
  by_cases hs : n = 0
  · subst hs
    obtain rfl : l = [] := List.eq_nil_of_length_eq_zero hn
    clear h hn
    go_enter Try.func21, Try.ntmps21
    go_wp2_with fail
    go_loopw [4] (fun v wr => v = .int .i64 1 ∧ wr = w) (fun v _ => 0)
    case atStart => exact ⟨rfl, rfl⟩
    case round =>
      obtain ⟨rfl, rfl⟩ := hrel
      go_wp2_with fail
      go_loopw [5] (fun v w2 => v = .int .i64 (-2) ∧ w2 = wr) (fun v _ => 0)
      case atStart => exact ⟨rfl, rfl⟩
      case round =>
        obtain ⟨rfl, rfl⟩ := hrel
        go_wp2_with fail
        go_end0
        exact ⟨rfl, H.out, Below.refl _ _⟩
  · obtain ⟨c0, q0, rfl⟩ : ∃ c q, l = c :: q := by
      cases l with
      | nil => exact absurd hn.symm hs
      | cons c q => exact ⟨c, q, rfl⟩
    have h0 : M.fw 0 (c0 :: q0) = [] ++ [c0] ++ M.fw c0 q0 := by
      have e : M.fx 0 c0 = c0 := by unfold M.fx; rw [if_neg (by omega)]
      rw [M.fw, e]; rfl
    have H0 := Lib.hid h0
    obtain ⟨m, hm⟩ : ∃ m, M.fw 0 (c0 :: q0) = m := ⟨_, rfl⟩
    have hml : m.length = n := by rw [← hm, M.fw_len]; exact hn
    have hres : M.wrule 5 f (c0 :: q0) = M.bw m := by rw [← hm]; exact M.signs_are.symm
    rw [hm] at H0
    rw [hres]
    have HML := Lib.hid hml
    have hq0 : q0.length + 1 = n := hn
    clear h hn h0 hm hml hres
    go_enter Try.func21, Try.ntmps21
    go_wp2_with fail
    go_loopw [4] (fun v wr => ∃ (k : Nat) (Q : List Int) (a : Int) (q : List Int), v = .int .i64 ((k : Int) + 1) ∧ Q.length = k ∧ k + 1 + q.length = n ∧ Now w G (Q ++ [a] ++ q) wr ∧ m = Q ++ [a] ++ M.fw a q) (fun v _ => n - (intOf v).toNat)
    case atStart => exact ⟨0, [], c0, q0, rfl, rfl, by omega, ⟨H.out, Below.refl _ _⟩, H0.out⟩
    case round =>
      obtain ⟨k, Q, a, q, rfl, hQ, hkn, hT, hm⟩ := hrel
      have k0 : (0 : Int) ≤ k := by omega
      have hw1 : IntKind.i64.wrap ((k : Int) + 1 - 1) = (k : Int) := by rw [IntKind.wrap_i64]; omega
      have hQQ := Lib.hid hQ
      cases q with
      | nil =>
        have k1 : ¬ (k : Int) + 1 < (n : Int) := by simp at hkn; omega
        have HT := Lib.hid (show Now w G m wr by rw [hm]; exact hT)
        have hn2 : (n : Int) - 2 = (k : Int) - 1 := by simp at hkn; omega
        have hkk : k + 1 = n := by simpa using hkn
        clear hT hm hkn hQ
        go_wp2_with fail
        go_loopw [5] (fun v w2 => ∃ (j : Nat) (x : Int), v = .int .i64 x ∧ x + 1 = j ∧ j + 1 ≤ n ∧ Now w G (m.take j ++ M.bw (m.drop j)) w2) (fun v _ => (intOf v + 1).toNat)
        case atStart =>
          refine ⟨k, _, rfl, by omega, by omega, ?_⟩
          obtain ⟨x, hx⟩ : ∃ x, m[k]? = some x := ⟨_, List.getElem?_eq_getElem (by rw [HML.out]; omega)⟩
          have e := M.drop_next' hx
          rw [(List.drop_eq_nil_of_le (by rw [HML.out]; omega) : m.drop (k + 1) = [])] at e
          have hT := HT.out
          rw [← List.take_append_drop k m, e] at hT
          rw [e]
          exact hT
        case round =>
          rename_i wr0
          obtain ⟨j, x, rfl, hx, hj, hT⟩ := hrel
          cases j with
          | zero =>
            have hx0 : ¬ (0 : Int) ≤ x := by omega
            have HT2 := Lib.hid hT
            clear hT hx
            go_wp2_with fail
            go_end0
            exact ⟨rfl, HT2.out.1, HT2.out.2⟩
          | succ j =>
            obtain rfl : x = (j : Int) := by omega
            have j0 : (0 : Int) ≤ (j : Int) := by omega
            have j1 : (j : Int) < (n : Int) := by omega
            have j2 : (j : Int) + 1 < (n : Int) := by omega
            have hw2 : IntKind.i64.wrap ((j : Int) + 1) = (j : Int) + 1 := by rw [IntKind.wrap_i64]; omega
            have hw3 : IntKind.i64.wrap ((j : Int) - 1) = (j : Int) - 1 := by rw [IntKind.wrap_i64]; omega
            obtain ⟨c, hc⟩ : ∃ c, m[j]? = some c := ⟨_, List.getElem?_eq_getElem (by rw [HML.out]; omega)⟩
            obtain ⟨b, t, hb⟩ : ∃ b t, M.bw (m.drop (j + 1)) = b :: t := by
              cases hbw : M.bw (m.drop (j + 1)) with
              | nil =>
                have := M.bw_len (q := m.drop (j + 1))
                rw [hbw, List.length_drop, HML.out] at this
                simp at this
                omega
              | cons b t => exact ⟨b, t, rfl⟩
            have hnext := M.bw_cons (c := c) hb
            rw [← M.drop_next' hc] at hnext
            rw [List.take_add_one, hc, hb] at hT
            have hlen : (m.take j).length = j := by rw [List.length_take, HML.out]; omega
            obtain ⟨P, hP⟩ : ∃ P, m.take j = P := ⟨_, rfl⟩
            rw [hP] at hT hlen
            have hT : Now w G (P ++ [c] ++ b :: t) wr := hT
            obtain ⟨m1, m2, -, m4⟩ := M.mid (Q := P) (q := t) (a := c) (c := b) (x := 3) hlen
            have hnew : m.take j ++ M.bw (m.drop j) = P ++ [M.fx b c] ++ b :: t := by rw [hnext, hP]; simp
            have HNEW := Lib.hid hnew
            have HC := Lib.hid m1
            have HSET := Lib.hid m4
            have HT := Lib.hid hT
            have h1 := hT.1.cell m1
            have h2 := hT.1.cell m2
            have hfr := hT.1.frozen (j := j)
            by_cases hc5 : c = 5
            · subst hc5
              by_cases hb3 : b = 3
              · subst hb3
                have e3 : M.fx 3 5 = 3 := rfl
                rw [e3] at HNEW
                have HP := Lib.hid (hT.set j 3)
                rw [HSET.out] at HP
                clear hx hc hb hnext hT hP hnew m1 m2 m4 hlen e3
                go_wp2_with fail
                go_roundw
                case rel => exact ⟨j, (j : Int) - 1, rfl, by omega, by omega, by rw [HNEW.out]; exact HP.out⟩
                case measure => simp [intOf]
              · have e3 : M.fx b 5 = 5 := by unfold M.fx; rw [if_neg (fun e => hb3 e.2)]
                rw [e3] at HNEW
                have eb : (b == 3) = false := by simp [hb3]
                have HP := Lib.hid hT
                clear hx hc hb hnext hT hP hnew m1 m2 m4 hlen e3 hb3
                go_wp2_with fail
                go_roundw
                case rel => exact ⟨j, (j : Int) - 1, rfl, by omega, by omega, by rw [HNEW.out]; exact HP.out⟩
                case measure => simp [intOf]
            · have e3 : M.fx b c = c := by unfold M.fx; rw [if_neg (fun e => hc5 e.1)]
              rw [e3] at HNEW
              have eb : (c == 5) = false := by simp [hc5]
              have HP := Lib.hid hT
              clear hx hc hb hnext hT hP hnew m1 m2 m4 hlen e3 hc5
              go_wp2_with fail
              go_roundw
              case rel => exact ⟨j, (j : Int) - 1, rfl, by omega, by omega, by rw [HNEW.out]; exact HP.out⟩
              case measure => simp [intOf]
      | cons c q =>
        have hkn2 : k + 2 + q.length = n := by simp at hkn; omega
        have k1 : (k : Int) + 1 < (n : Int) := by omega
        have k2 : (k : Int) < (n : Int) := by omega
        have hw2 : IntKind.i64.wrap ((k : Int) + 1 + 1) = (k : Int) + 1 + 1 := by rw [IntKind.wrap_i64]; omega
        obtain ⟨m1, m2, m3, -⟩ := M.mid (Q := Q) (q := q) (a := a) (c := c) (x := 3) hQ
        have hm2 : m = (Q ++ [a]) ++ [M.fx a c] ++ M.fw (M.fx a c) q := by rw [hm, M.fw]; simp
        have hQ2 : (Q ++ [a]).length = k + 1 := by rw [List.length_append, hQ]; rfl
        have HT := Lib.hid hT
        have HM := Lib.hid hm2
        have HC := Lib.hid m2
        have HSET := Lib.hid m3
        have HQ2 := Lib.hid hQ2
        have h1 := hT.1.cell m2
        have h2 := hT.1.cell m1
        have hfr := hT.1.frozen (j := k + 1)
        have hsame : Q ++ [a] ++ c :: q = (Q ++ [a]) ++ [c] ++ q := by simp
        have HSAME := Lib.hid hsame
        by_cases hc5 : c = 5
        · subst hc5
          by_cases ha3 : a = 3
          · subst ha3
            have e3 : M.fx 3 5 = 3 := rfl
            rw [e3] at HM
            have HP := Lib.hid (hT.set (k + 1) 3)
            rw [HSET.out] at HP
            clear hT hm hkn hQ m1 m2 m3 hm2 hQ2 e3 hsame
            go_wp2_with fail
            go_roundw
            case rel => exact ⟨k + 1, Q ++ [3], 3, q, rfl, HQ2.out, by omega, HP.out, HM.out⟩
            case measure => simp [intOf]; omega
          · have e3 : M.fx a 5 = 5 := by unfold M.fx; rw [if_neg (fun e => ha3 e.2)]
            rw [e3] at HM
            have eb : (a == 3) = false := by simp [ha3]
            have HP := Lib.hid hT
            rw [HSAME.out] at HP
            clear hT hm hkn hQ m1 m2 m3 hm2 hQ2 e3 ha3 hsame
            go_wp2_with fail
            go_roundw
            case rel => exact ⟨k + 1, Q ++ [a], 5, q, rfl, HQ2.out, by omega, HP.out, HM.out⟩
            case measure => simp [intOf]; omega
        · have e3 : M.fx a c = c := by unfold M.fx; rw [if_neg (fun e => hc5 e.1)]
          rw [e3] at HM
          have eb : (c == 5) = false := by simp [hc5]
          have HP := Lib.hid hT
          rw [HSAME.out] at HP
          clear hT hm hkn hQ m1 m2 m3 hm2 hQ2 e3 hc5 hsame
          go_wp2_with fail
          go_roundw
          case rel => exact ⟨k + 1, Q ++ [a], c, q, rfl, HQ2.out, by omega, HP.out, HM.out⟩
          case measure => simp [intOf]; omega
end Go.Proofs.Ytanlclmlkpchfaa
