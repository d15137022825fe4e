/- The contract of package weak's signsJoin: W5, in the row's places, once ahead and once back. -/
/- The contract of package weak's rules: the array of them; and that each, called, does what its number says. -/
/- The contracts of package weak's made, Rule and All. Conditions: the slice reads as a list of classes, at most a thousand long, and is as long as its room at most. -/
import Derived.Test.YtjlfgojblimobaaGreatA20
import Derived.Laws.EntriesVeiled
import Derived.Laws.CopyOwn
section
namespace Go.Proofs.YtjlfgojblimobaaGreat.S10
open Go.RowKit
set_option maxRecDepth 100000

def Now (w : World) (G : Nat) (t : List Int) (wr : World) : Prop := BlockAt wr G 39 t ∧ Below G w wr
theorem Now.regrown {w wr : World} {G : Nat} {t : List Int} (h : Now w G t wr) (d : Nat) (os : Array Obj) : Now w G t (Sort.grow (redrawn wr d) os) :=
  ⟨h.1.below (below_regrown wr d os) h.1.lt, h.2.trans ((below_regrown wr d os).mono (Nat.le_of_lt h.1.lt))⟩
theorem Now.set {w wr : World} {G : Nat} {t : List Int} (h : Now w G t wr) (k : Nat) (x : Int) : Now w G (t.set k x) (wr.setCell ⟨G, k, none⟩ (.int .i64 x)) :=
  ⟨h.1.set x, h.2.setCell (p := ⟨G, k, none⟩) (Nat.le_refl _) _⟩
theorem M.mid {Q q : List Int} {a c x : Int} {k : Nat} (hQ : Q.length = k) : (Q ++ [a] ++ c :: q)[k]? = some a ∧ (Q ++ [a] ++ c :: q)[k + 1]? = some c ∧ (Q ++ [a] ++ c :: q).set (k + 1) x = Q ++ [a] ++ [x] ++ q ∧ (Q ++ [a] ++ c :: q).set k x = Q ++ [x] ++ c :: q := by
  subst hQ
  refine ⟨by simp, by simp, by simp, by simp⟩
set_option maxHeartbeats 8000000 in
theorem signs_any (G n : Nat) (f : Int) (l : List Int) (w : World) (h : BlockAt w G 39 l) (hn : l.length = n) (hl : n ≤ 1000) :
    Calls Tryz.prog 113 #[.slice (some ⟨G, 0, none⟩) n n, .int .i64 f] w (Rul G (M.wrule 5 f l) w) := by
  have H := Lib.hid h
  have HN := Lib.hid hn
  have hl1 : (n : Int) ≤ 1000 := by omega
  have hw0 : IntKind.i64.wrap ((n : Int) - 2) = (n : Int) - 2 := by rw [IntKind.wrap_i64]; omega
  by_cases hs : n = 0
  · subst hs
    obtain rfl : l = [] := List.eq_nil_of_length_eq_zero hn
    clear h hn
    go_enter Tryz.func113, Tryz.ntmps113
    go_wp2_with fail
    go_loopw [4] (fun v wr => v = .int .i64 1 ∧ wr = w) (fun v _ => 0)
    case atStart => exact ⟨rfl, rfl⟩
    case round =>
      obtain ⟨rfl, rfl⟩ := hrel
      go_wp2_with fail
      go_loopw [5] (fun v w2 => v = .int .i64 (-2) ∧ w2 = wr) (fun v _ => 0)
      case atStart => exact ⟨rfl, rfl⟩
      case round =>
        obtain ⟨rfl, rfl⟩ := hrel
        go_wp2_with fail
        go_end0
        exact ⟨rfl, H.out, Below.refl _ _⟩
  · obtain ⟨c0, q0, rfl⟩ : ∃ c q, l = c :: q := by
      cases l with
      | nil => exact absurd hn.symm hs
      | cons c q => exact ⟨c, q, rfl⟩
    have h0 : M.fw 0 (c0 :: q0) = [] ++ [c0] ++ M.fw c0 q0 := by
      have e : M.fx 0 c0 = c0 := by unfold M.fx; rw [if_neg (by omega)]
      rw [M.fw, e]; rfl
    have H0 := Lib.hid h0
    obtain ⟨m, hm⟩ : ∃ m, M.fw 0 (c0 :: q0) = m := ⟨_, rfl⟩
    have hml : m.length = n := by rw [← hm, M.fw_len]; exact hn
    have hres : M.wrule 5 f (c0 :: q0) = M.bw m := by rw [← hm]; exact M.signs_are.symm
    rw [hm] at H0
    rw [hres]
    have HML := Lib.hid hml
    have hq0 : q0.length + 1 = n := hn
    clear h hn h0 hm hml hres
    go_enter Tryz.func113, Tryz.ntmps113
    go_wp2_with fail
    go_loopw [4] (fun v wr => ∃ (k : Nat) (Q : List Int) (a : Int) (q : List Int), v = .int .i64 ((k : Int) + 1) ∧ Q.length = k ∧ k + 1 + q.length = n ∧ Now w G (Q ++ [a] ++ q) wr ∧ m = Q ++ [a] ++ M.fw a q) (fun v _ => n - (intOf v).toNat)
    case atStart => exact ⟨0, [], c0, q0, rfl, rfl, by omega, ⟨H.out, Below.refl _ _⟩, H0.out⟩
    case round =>
      obtain ⟨k, Q, a, q, rfl, hQ, hkn, hT, hm⟩ := hrel
      have k0 : (0 : Int) ≤ k := by omega
      have hw1 : IntKind.i64.wrap ((k : Int) + 1 - 1) = (k : Int) := by rw [IntKind.wrap_i64]; omega
      have hQQ := Lib.hid hQ
      cases q with
      | nil =>
        have k1 : ¬ (k : Int) + 1 < (n : Int) := by simp at hkn; omega
        have HT := Lib.hid (show Now w G m wr by rw [hm]; exact hT)
        have hn2 : (n : Int) - 2 = (k : Int) - 1 := by simp at hkn; omega
        have hkk : k + 1 = n := by simpa using hkn
        clear hT hm hkn hQ
        go_wp2_with fail
        go_loopw [5] (fun v w2 => ∃ (j : Nat) (x : Int), v = .int .i64 x ∧ x + 1 = j ∧ j + 1 ≤ n ∧ Now w G (m.take j ++ M.bw (m.drop j)) w2) (fun v _ => (intOf v + 1).toNat)
        case atStart =>
          refine ⟨k, _, rfl, by omega, by omega, ?_⟩
          obtain ⟨x, hx⟩ : ∃ x, m[k]? = some x := ⟨_, List.getElem?_eq_getElem (by rw [HML.out]; omega)⟩
          have e := M.drop_next' hx
          rw [(List.drop_eq_nil_of_le (by rw [HML.out]; omega) : m.drop (k + 1) = [])] at e
          have hT := HT.out
          rw [← List.take_append_drop k m, e] at hT
          rw [e]
          exact hT
        case round =>
          rename_i wr0
          obtain ⟨j, x, rfl, hx, hj, hT⟩ := hrel
          cases j with
          | zero =>
            have hx0 : ¬ (0 : Int) ≤ x := by omega
            have HT2 := Lib.hid hT
            clear hT hx
            go_wp2_with fail
            go_end0
            exact ⟨rfl, HT2.out.1, HT2.out.2⟩
          | succ j =>
            obtain rfl : x = (j : Int) := by omega
            have j0 : (0 : Int) ≤ (j : Int) := by omega
            have j1 : (j : Int) < (n : Int) := by omega
            have j2 : (j : Int) + 1 < (n : Int) := by omega
            have hw2 : IntKind.i64.wrap ((j : Int) + 1) = (j : Int) + 1 := by rw [IntKind.wrap_i64]; omega
            have hw3 : IntKind.i64.wrap ((j : Int) - 1) = (j : Int) - 1 := by rw [IntKind.wrap_i64]; omega
            obtain ⟨c, hc⟩ : ∃ c, m[j]? = some c := ⟨_, List.getElem?_eq_getElem (by rw [HML.out]; omega)⟩
            obtain ⟨b, t, hb⟩ : ∃ b t, M.bw (m.drop (j + 1)) = b :: t := by
              cases hbw : M.bw (m.drop (j + 1)) with
              | nil =>
                have := M.bw_len (q := m.drop (j + 1))
                rw [hbw, List.length_drop, HML.out] at this
                simp at this
                omega
              | cons b t => exact ⟨b, t, rfl⟩
            have hnext := M.bw_cons (c := c) hb
            rw [← M.drop_next' hc] at hnext
            rw [List.take_add_one, hc, hb] at hT
            have hlen : (m.take j).length = j := by rw [List.length_take, HML.out]; omega
            obtain ⟨P, hP⟩ : ∃ P, m.take j = P := ⟨_, rfl⟩
            rw [hP] at hT hlen
            have hT : Now w G (P ++ [c] ++ b :: t) wr := hT
            obtain ⟨m1, m2, -, m4⟩ := M.mid (Q := P) (q := t) (a := c) (c := b) (x := 3) hlen
            have hnew : m.take j ++ M.bw (m.drop j) = P ++ [M.fx b c] ++ b :: t := by rw [hnext, hP]; simp
            have HNEW := Lib.hid hnew
            have HC := Lib.hid m1
            have HSET := Lib.hid m4
            have HT := Lib.hid hT
            have h1 := hT.1.cell m1
            have h2 := hT.1.cell m2
            have hfr := hT.1.frozen (j := j)
            by_cases hc5 : c = 5
            · subst hc5
              by_cases hb3 : b = 3
              · subst hb3
                have e3 : M.fx 3 5 = 3 := rfl
                rw [e3] at HNEW
                have HP := Lib.hid (hT.set j 3)
                rw [HSET.out] at HP
                clear hx hc hb hnext hT hP hnew m1 m2 m4 hlen e3
                go_wp2_with fail
                go_roundw
                case rel => exact ⟨j, (j : Int) - 1, rfl, by omega, by omega, by rw [HNEW.out]; exact HP.out⟩
                case measure => simp [intOf]
              · have e3 : M.fx b 5 = 5 := by unfold M.fx; rw [if_neg (fun e => hb3 e.2)]
                rw [e3] at HNEW
                have eb : (b == 3) = false := by simp [hb3]
                have HP := Lib.hid hT
                clear hx hc hb hnext hT hP hnew m1 m2 m4 hlen e3 hb3
                go_wp2_with fail
                go_roundw
                case rel => exact ⟨j, (j : Int) - 1, rfl, by omega, by omega, by rw [HNEW.out]; exact HP.out⟩
                case measure => simp [intOf]
            · have e3 : M.fx b c = c := by unfold M.fx; rw [if_neg (fun e => hc5 e.1)]
              rw [e3] at HNEW
              have eb : (c == 5) = false := by simp [hc5]
              have HP := Lib.hid hT
              clear hx hc hb hnext hT hP hnew m1 m2 m4 hlen e3 hc5
              go_wp2_with fail
              go_roundw
              case rel => exact ⟨j, (j : Int) - 1, rfl, by omega, by omega, by rw [HNEW.out]; exact HP.out⟩
              case measure => simp [intOf]
      | cons c q =>
        have hkn2 : k + 2 + q.length = n := by simp at hkn; omega
        have k1 : (k : Int) + 1 < (n : Int) := by omega
        have k2 : (k : Int) < (n : Int) := by omega
        have hw2 : IntKind.i64.wrap ((k : Int) + 1 + 1) = (k : Int) + 1 + 1 := by rw [IntKind.wrap_i64]; omega
        obtain ⟨m1, m2, m3, -⟩ := M.mid (Q := Q) (q := q) (a := a) (c := c) (x := 3) hQ
        have hm2 : m = (Q ++ [a]) ++ [M.fx a c] ++ M.fw (M.fx a c) q := by rw [hm, M.fw]; simp
        have hQ2 : (Q ++ [a]).length = k + 1 := by rw [List.length_append, hQ]; rfl
        have HT := Lib.hid hT
        have HM := Lib.hid hm2
        have HC := Lib.hid m2
        have HSET := Lib.hid m3
        have HQ2 := Lib.hid hQ2
        have h1 := hT.1.cell m2
        have h2 := hT.1.cell m1
        have hfr := hT.1.frozen (j := k + 1)
        have hsame : Q ++ [a] ++ c :: q = (Q ++ [a]) ++ [c] ++ q := by simp
        have HSAME := Lib.hid hsame
        by_cases hc5 : c = 5
        · subst hc5
          by_cases ha3 : a = 3
          · subst ha3
            have e3 : M.fx 3 5 = 3 := rfl
            rw [e3] at HM
            have HP := Lib.hid (hT.set (k + 1) 3)
            rw [HSET.out] at HP
            clear hT hm hkn hQ m1 m2 m3 hm2 hQ2 e3 hsame
            go_wp2_with fail
            go_roundw
            case rel => exact ⟨k + 1, Q ++ [3], 3, q, rfl, HQ2.out, by omega, HP.out, HM.out⟩
            case measure => simp [intOf]; omega
          · have e3 : M.fx a 5 = 5 := by unfold M.fx; rw [if_neg (fun e => ha3 e.2)]
            rw [e3] at HM
            have eb : (a == 3) = false := by simp [ha3]
            have HP := Lib.hid hT
            rw [HSAME.out] at HP
            clear hT hm hkn hQ m1 m2 m3 hm2 hQ2 e3 ha3 hsame
            go_wp2_with fail
            go_roundw
            case rel => exact ⟨k + 1, Q ++ [a], 5, q, rfl, HQ2.out, by omega, HP.out, HM.out⟩
            case measure => simp [intOf]; omega
        · have e3 : M.fx a c = c := by unfold M.fx; rw [if_neg (fun e => hc5 e.1)]
          rw [e3] at HM
          have eb : (c == 5) = false := by simp [hc5]
          have HP := Lib.hid hT
          rw [HSAME.out] at HP
          clear hT hm hkn hQ m1 m2 m3 hm2 hQ2 e3 hc5 hsame
          go_wp2_with fail
          go_roundw
          case rel => exact ⟨k + 1, Q ++ [a], c, q, rfl, HQ2.out, by omega, HP.out, HM.out⟩
          case measure => simp [intOf]; omega
end Go.Proofs.YtjlfgojblimobaaGreat.S10
end

section
namespace Go.Proofs.YtjlfgojblimobaaGreat.S10
open Go.RowKit
set_option maxRecDepth 100000

def two (fid b c : Nat) : Value := .func (.func fid) #[] #[.pointer (some ⟨b, 0, none⟩), .pointer (some ⟨c, 0, none⟩)]
def ruleVals (b : Nat) : List Value := [.func (.func 109) #[] #[], two 133 (b + 1) (b + 2), two 134 (b + 5) (b + 4), .func (.func 112) #[] #[], .func (.func 113) #[] #[], two 134 (b + 8) (b + 7), two 133 (b + 9) (b + 10)]
structure RulesAt (w : World) (b : Nat) : Prop where
  c1 : w.cell? ⟨b + 1, 0, none⟩ = some (.int .i64 2)
  c2 : w.cell? ⟨b + 2, 0, none⟩ = some (.int .i64 6)
  c3 : RdS .i64 w (b + 11) (some ⟨b + 3, 0, none⟩) [2]
  c4 : w.cell? ⟨b + 4, 0, none⟩ = some (.int .i64 1)
  c5 : w.cell? ⟨b + 5, 0, none⟩ = some (.slice (some ⟨b + 3, 0, none⟩) 1 1)
  c6 : RdS .i64 w (b + 11) (some ⟨b + 6, 0, none⟩) [4, 5, 7]
  c7 : w.cell? ⟨b + 7, 0, none⟩ = some (.int .i64 13)
  c8 : w.cell? ⟨b + 8, 0, none⟩ = some (.slice (some ⟨b + 6, 0, none⟩) 3 3)
  c9 : w.cell? ⟨b + 9, 0, none⟩ = some (.int .i64 0)
  c10 : w.cell? ⟨b + 10, 0, none⟩ = some (.int .i64 0)
theorem RulesAt.below {w w' : World} {b n : Nat} (h : RulesAt w b) (hb : Below n w w') (hn : b + 11 ≤ n) : RulesAt w' b where
  c1 := (hb.cell (p := ⟨b + 1, 0, none⟩) (by show b + 1 < n; omega)).trans h.c1
  c2 := (hb.cell (p := ⟨b + 2, 0, none⟩) (by show b + 2 < n; omega)).trans h.c2
  c3 := h.c3.below (hb.mono hn)
  c4 := (hb.cell (p := ⟨b + 4, 0, none⟩) (by show b + 4 < n; omega)).trans h.c4
  c5 := (hb.cell (p := ⟨b + 5, 0, none⟩) (by show b + 5 < n; omega)).trans h.c5
  c6 := h.c6.below (hb.mono hn)
  c7 := (hb.cell (p := ⟨b + 7, 0, none⟩) (by show b + 7 < n; omega)).trans h.c7
  c8 := (hb.cell (p := ⟨b + 8, 0, none⟩) (by show b + 8 < n; omega)).trans h.c8
  c9 := (hb.cell (p := ⟨b + 9, 0, none⟩) (by show b + 9 < n; omega)).trans h.c9
  c10 := (hb.cell (p := ⟨b + 10, 0, none⟩) (by show b + 10 < n; omega)).trans h.c10
theorem cell_new (w : World) (o : Array Value) (ty : TypeId) (j : Nat) : (w.alloc (.cells o ty)).cell? ⟨w.heap.size, j, none⟩ = o[j]? := by
  unfold World.cell?
  have hnew : (w.alloc (.cells o ty)).heap[w.heap.size]? = some (.cells o ty (0, 0)) := World.alloc_heap_new w _
  rw [hnew]
  rfl
theorem cell_at {W : World} {o : Array Value} {ty : TypeId} {b : Nat} (hb : W.heap.size = b) (j : Nat) : (W.alloc (.cells o ty)).cell? ⟨b, j, none⟩ = o[j]? := by
  subst hb
  exact cell_new W o ty j
theorem cell_old (w : World) (o : Obj) (p : Addr) (h : p.block < w.heap.size) : (w.alloc o).cell? p = w.cell? p :=
  ((Below.refl w.heap.size w).alloc (Nat.le_refl _) o).cell h
theorem rules_at (w : World) (O : Array Value) (t : TypeId) : RulesAt (((((((((((w.alloc (.cells O t)).alloc (.cells #[.int .i64 2] 39)).alloc (.cells #[.int .i64 6] 39)).alloc (.cells #[.int .i64 2] 39)).alloc (.cells #[.int .i64 1] 39)).alloc (.cells #[.slice (some ⟨w.heap.size + 3, 0, none⟩) 1 1] 22)).alloc (.cells #[.int .i64 4, .int .i64 5, .int .i64 7] 39)).alloc (.cells #[.int .i64 13] 39)).alloc (.cells #[.slice (some ⟨w.heap.size + 6, 0, none⟩) 3 3] 22)).alloc (.cells #[.int .i64 0] 39)).alloc (.cells #[.int .i64 0] 39)) w.heap.size := by
  refine ⟨(((cell_old _ _ _ (by simp)).trans (((cell_old _ _ _ (by simp)).trans (((cell_old _ _ _ (by simp)).trans (((cell_old _ _ _ (by simp)).trans (((cell_old _ _ _ (by simp)).trans (((cell_old _ _ _ (by simp)).trans (((cell_old _ _ _ (by simp)).trans (((cell_old _ _ _ (by simp)).trans (((cell_old _ _ _ (by simp)).trans (cell_at (by simp) 0))))))))))))))))))).trans rfl, (((cell_old _ _ _ (by simp)).trans (((cell_old _ _ _ (by simp)).trans (((cell_old _ _ _ (by simp)).trans (((cell_old _ _ _ (by simp)).trans (((cell_old _ _ _ (by simp)).trans (((cell_old _ _ _ (by simp)).trans (((cell_old _ _ _ (by simp)).trans (((cell_old _ _ _ (by simp)).trans (cell_at (by simp) 0))))))))))))))))).trans rfl, ?_, (((cell_old _ _ _ (by simp)).trans (((cell_old _ _ _ (by simp)).trans (((cell_old _ _ _ (by simp)).trans (((cell_old _ _ _ (by simp)).trans (((cell_old _ _ _ (by simp)).trans (((cell_old _ _ _ (by simp)).trans (cell_at (by simp) 0))))))))))))).trans rfl, (((cell_old _ _ _ (by simp)).trans (((cell_old _ _ _ (by simp)).trans (((cell_old _ _ _ (by simp)).trans (((cell_old _ _ _ (by simp)).trans (((cell_old _ _ _ (by simp)).trans (cell_at (by simp) 0))))))))))).trans rfl, ?_, (((cell_old _ _ _ (by simp)).trans (((cell_old _ _ _ (by simp)).trans (((cell_old _ _ _ (by simp)).trans (cell_at (by simp) 0))))))).trans rfl, (((cell_old _ _ _ (by simp)).trans (((cell_old _ _ _ (by simp)).trans (cell_at (by simp) 0))))).trans rfl, (((cell_old _ _ _ (by simp)).trans (cell_at (by simp) 0))).trans rfl, (cell_at (by simp) 0).trans rfl⟩
  · intro j x hx
    refine ⟨_, rfl, by show w.heap.size + 3 < _; omega, ?_⟩
    rw [show (⟨w.heap.size + 3, 0, none⟩ : Addr).add j = ⟨w.heap.size + 3, j, none⟩ by unfold Addr.add; split <;> simp_all]
    refine (((cell_old _ _ _ (by simp)).trans (((cell_old _ _ _ (by simp)).trans (((cell_old _ _ _ (by simp)).trans (((cell_old _ _ _ (by simp)).trans (((cell_old _ _ _ (by simp)).trans (((cell_old _ _ _ (by simp)).trans (((cell_old _ _ _ (by simp)).trans (cell_at (by simp) j))))))))))))))).trans ?_
    match j, hx with
    | 0, hx => simp at hx; subst hx; rfl
  · intro j x hx
    refine ⟨_, rfl, by show w.heap.size + 6 < _; omega, ?_⟩
    rw [show (⟨w.heap.size + 6, 0, none⟩ : Addr).add j = ⟨w.heap.size + 6, j, none⟩ by unfold Addr.add; split <;> simp_all]
    refine (((cell_old _ _ _ (by simp)).trans (((cell_old _ _ _ (by simp)).trans (((cell_old _ _ _ (by simp)).trans (((cell_old _ _ _ (by simp)).trans (cell_at (by simp) j))))))))).trans ?_
    match j, hx with
    | 0, hx => simp at hx; subst hx; rfl
    | 1, hx => simp at hx; subst hx; rfl
    | 2, hx => simp at hx; subst hx; rfl
set_option maxHeartbeats 4000000 in
theorem rules_any (w : World) : Calls Tryz.prog 74 #[] w fun r w' => r = .returned (.agg (ruleVals w.heap.size).toArray) ∧ RulesAt w' w.heap.size ∧ Below w.heap.size w w' ∧ w.heap.size + 11 ≤ w'.heap.size := by
  go_enter Tryz.func74, Tryz.ntmps74
  go_wp2
  go_returns
  refine ⟨rfl, rules_at w _ _, ?_, by simp⟩
  exact (((((((((((Below.refl _ _).alloc (Nat.le_refl _) _).alloc (by simp) _).alloc (by simp <;> omega) _).alloc (by simp <;> omega) _).alloc (by simp <;> omega) _).alloc (by simp <;> omega) _).alloc (by simp <;> omega) _).alloc (by simp <;> omega) _).alloc (by simp <;> omega) _).alloc (by simp <;> omega) _).alloc (by simp <;> omega) _
theorem rule_call (b : Nat) (k G n : Nat) (f : Int) (l : List Int) (v : Value) (hv : (ruleVals b)[k]? = some v) (hn : l.length = n) (hl : n ≤ 1000) (hG : b + 11 ≤ G) :
    ∃ (fid : FuncId) (caps : Array Value), v = .func (.func fid) #[] caps ∧ (∀ (args : Array Value) (w : World), (callFunc fid args).run Tryz.prog w = .ok (.enter fid args) w) ∧
      (∀ w, RulesAt w b → BlockAt w G 39 l → Calls Tryz.prog fid (#[.slice (some ⟨G, 0, none⟩) n n, .int .i64 f] ++ caps) w (Rul G (M.wrule ((k : Int) + 1) f l) w)) := by
  have hk : k < 7 := (List.getElem?_eq_some_iff.1 hv).1
  match k, hk, hv with
  | 0, _, hv =>
    injection hv with hv
    exact ⟨_, _, hv.symm, fun _ _ => by kernel_rfl, fun w _ h => marks_any G n f l w h hn hl⟩
  | 1, _, hv =>
    injection hv with hv
    exact ⟨_, _, hv.symm, fun _ _ => by kernel_rfl, fun w hr h => behind_any 2 2 6 G n (b + 1) (b + 2) f l w h hn hl (fun p q r c => M.wat2 f p q c r) hr.c1 hr.c2 (by omega) (by omega)⟩
  | 2, _, hv =>
    injection hv with hv
    exact ⟨_, _, hv.symm, fun _ _ => by kernel_rfl, fun w hr h => become_any 3 1 [2] 1 1 (some ⟨b + 3, 0, none⟩) G n (b + 5) (b + 4) f l w h hn hl (fun p q r c => M.wat3 f p q c r) hr.c5 hr.c4 (by omega) (by omega) (hr.c3.more hG) rfl (by omega)⟩
  | 3, _, hv =>
    injection hv with hv
    exact ⟨_, _, hv.symm, fun _ _ => by kernel_rfl, fun w _ h => separators_any G n f l w h hn hl⟩
  | 4, _, hv =>
    injection hv with hv
    exact ⟨_, _, hv.symm, fun _ _ => by kernel_rfl, fun w _ h => signs_any G n f l w h hn hl⟩
  | 5, _, hv =>
    injection hv with hv
    exact ⟨_, _, hv.symm, fun _ _ => by kernel_rfl, fun w hr h => become_any 6 13 [4, 5, 7] 3 3 (some ⟨b + 6, 0, none⟩) G n (b + 8) (b + 7) f l w h hn hl (fun p q r c => M.wat6 f p q c r) hr.c8 hr.c7 (by omega) (by omega) (hr.c6.more hG) rfl (by omega)⟩
  | 6, _, hv =>
    injection hv with hv
    exact ⟨_, _, hv.symm, fun _ _ => by kernel_rfl, fun w hr h => behind_any 7 0 0 G n (b + 9) (b + 10) f l w h hn hl (fun p q r c => M.wat7 f p q c r) hr.c9 hr.c10 (by omega) (by omega)⟩
end Go.Proofs.YtjlfgojblimobaaGreat.S10
end

section
namespace Go.Proofs.YtjlfgojblimobaaGreat.S10
open Go.RowKit
set_option maxRecDepth 100000

def M.wsome (f : Int) : List Nat → List Int → List Int
  | [], l => l
  | k :: r, l => M.wsome f r (M.wrule ((k : Int) + 1) f l)
theorem M.wsome_snoc (f : Int) (r : List Nat) (k : Nat) (l : List Int) : M.wsome f (r ++ [k]) l = M.wrule ((k : Int) + 1) f (M.wsome f r l) := by
  induction r generalizing l with
  | nil => rfl
  | cons x r ih => exact ih _
theorem M.wsome_len (f : Int) (r : List Nat) (l : List Int) : (M.wsome f r l).length = l.length := by
  induction r generalizing l with
  | nil => rfl
  | cons x r ih =>
    show (M.wsome f r _).length = _
    rw [ih, M.wrule_len]
theorem M.wsome_all (f : Int) (l : List Int) : M.wsome f [0, 1, 2, 3, 4, 5, 6] l = M.wall f l := rfl
theorem copy_any (A : Option Addr) (ca n G : Nat) (l : List Int) (w W1 : World) (Z : Array Value) (hr : RdS .i64 W1 w.heap.size A l) (hn : l.length = n) (hG : w.heap.size ≤ G) (hg : W1.heap[G]? = some (.cells Z 39 (0, 0))) (hZ : Z.size = n) (hZ0 : n = 0 → Z = #[]) (hb : Below w.heap.size w W1) :
    ∃ v W2, (Builtin.copy_ #[22, 22] 3 #[.slice (some ⟨G, 0, none⟩) n n, .slice A n ca]).run Tryz.prog W1 = .ok v W2 ∧ BlockAt W2 G 39 l ∧ Below w.heap.size w W2 := by
  by_cases h0 : n = 0
  · subst h0
    obtain rfl : l = [] := List.eq_nil_of_length_eq_zero hn
    refine ⟨_, W1, run_copy_none (P := Tryz.prog) W1 22 22 3 39 (some ⟨G, 0, none⟩) A 0 0 0 ca Tryz.underlying22 (by kernel_rfl) rfl, ?_, hb⟩
    unfold BlockAt
    rw [hg, hZ0 rfl]
    rfl
  · obtain ⟨ad, rfl, _⟩ := hr 0 l[0] (List.getElem?_eq_getElem (by omega))
    have hcl : (l.map (Value.int IntKind.i64)).length = n := by simpa using hn
    refine ⟨_, _, run_copy_row (P := Tryz.prog) W1 22 22 3 39 G 0 n n ad n ca Z 39 (l.map (Value.int .i64)) Tryz.underlying22 (by kernel_rfl) hg (by rw [hcl]; exact (Nat.min_self n).symm) (fun j v hj => ?_) (by omega) (fun v hv => ?_), ?_, below_setRow hb hG _⟩
    · rw [List.getElem?_map] at hj
      cases hx : l[j]? with
      | none => rw [hx] at hj; cases hj
      | some y =>
        rw [hx] at hj
        cases hj
        obtain ⟨ad', hA', _, hc'⟩ := hr j y hx
        injection hA' with e
        rw [e]
        exact hc'
    · simp only [List.mem_map] at hv
      obtain ⟨y, _, rfl⟩ := hv
      rfl
    · have := setRow_heap W1 G Z (Z.toList.take 0 ++ l.map (Value.int .i64) ++ Z.toList.drop (0 + (l.map (Value.int IntKind.i64)).length)).toArray 39 _ hg
      unfold BlockAt
      rw [this]
      have hz : Z.toList.length = n := by simpa using hZ
      rw [hcl, List.take_zero, List.nil_append, List.drop_of_length_le (by omega), List.append_nil]
theorem BlockAt.own {w : World} {G n base : Nat} {l : List Int} (h : BlockAt w G 39 l) (hn : l.length = n) (hm : n ≤ maxLen) (hG : base ≤ G) : w.ownsRow base 39 1 (.slice (some ⟨G, 0, none⟩) n n) l.length (l.map (Value.int .i64)) :=
  ⟨by simp, .inr ⟨G, n, _, by rw [hn], hG, h, by omega, hm, by simpa using hn, by rw [Nat.mul_one]; exact List.take_of_length_le (by simp)⟩⟩
set_option maxHeartbeats 8000000 in
theorem made_any (B : Addr) (sn sc b : Nat) (ks : List Nat) (A : Option Addr) (ca n : Nat) (f : Int) (l : List Int) (w : World) (hr : RdS .i64 w w.heap.size A l) (hn : l.length = n) (hl : n ≤ 1000)
    (hru : RulesAt w b) (hb11 : b + 11 ≤ w.heap.size) (hB : B.block < w.heap.size) (hs : ks.length = sn) (hsn : sn ≤ 7)
    (hc : ∀ j k, ks[j]? = some k → ∃ v, (ruleVals b)[k]? = some v ∧ w.cell? (B.add j) = some v) :
    Calls Tryz.prog 75 #[.slice (some B) sn sc, .slice A n ca, .int .i64 f] w (RuleOut (f = 0 ∨ f = 1) (M.wsome f ks l) w) := by
  obtain ⟨i0, hi, hz0, hz1, hz2⟩ := info_parts Tryz.infoCls
  by_cases hf : f = 0 ∨ f = 1
  · have HF := Lib.hid hf
    have hmk := run_make (P := Tryz.prog) w 22 39 i0 (.int .i64 0) Tryz.underlying22 hi hz0 .i64 .i64 n n (by omega) (Int.le_refl _) (by rw [hz2]; omega) (by omega)
    rw [Int.toNat_natCast, hz1, Nat.mul_one] at hmk
    obtain ⟨Z, hZ⟩ : ∃ Z, madeCells (Value.int IntKind.i64 0).cells n = Z := ⟨_, rfl⟩
    have hZs : Z.size = n := by rw [← hZ]; exact size_madeCells _ _
    rw [hZ] at hmk
    obtain ⟨W1, hW1⟩ : ∃ W1, w.alloc (.cells Z 39) = W1 := ⟨_, rfl⟩
    have hg1 : W1.heap[w.heap.size]? = some (.cells Z 39 (0, 0)) := by rw [← hW1]; exact World.alloc_heap_new _ _
    have hb1 : Below w.heap.size w W1 := by rw [← hW1]; exact (Below.refl _ _).alloc (Nat.le_refl _) _
    rw [hW1] at hmk
    obtain ⟨G, hG⟩ : ∃ G, w.heap.size = G := ⟨_, rfl⟩
    rw [hG] at hmk hg1
    obtain ⟨v, W2, hcp, hblk, hb2⟩ := copy_any A ca n G l w W1 Z (hr.below hb1) hn (by omega) hg1 hZs (fun h0 => Array.eq_empty_of_size_eq_zero (by rw [hZs]; exact h0)) hb1
    have HG := Lib.hid hG
    have HN := Lib.hid hn
    have HBLK := Lib.hid hblk
    have HB2 := Lib.hid hb2
    have HRU := Lib.hid hru
    have HC := Lib.hid hc
    have HS := Lib.hid hs
    have HBB := Lib.hid (show B.block < G ∧ b + 11 ≤ G by omega)
    have hl1 : (n : Int) ≤ 1000 := by omega
    have hsn1 : (sn : Int) ≤ 7 := by omega
    clear hr hn hl hru hb11 hB hs hc hZ hZs hW1 hg1 hb1 hG hz0 hz1 hz2 hi hblk hb2
    rcases hf with hf | hf
    · have c0 : (f != 0) = false := by rw [hf]; rfl
      clear hf
      go_enter Tryz.func75, Tryz.ntmps75
      go_wp2_with fail
      go_loopw [25] (fun x wr => ∃ j : Nat, x = .int .i64 j ∧ j ≤ sn ∧ BlockAt wr G 39 (M.wsome f (ks.take j) l) ∧ Below G W2 wr) (fun x _ => sn - (intOf x).toNat)
      case atStart => exact ⟨0, rfl, Nat.zero_le _, HBLK.out, Below.refl _ _⟩
      case round =>
        obtain ⟨j, rfl, hj, hblk, hb⟩ := hrel
        have j0 : (0 : Int) ≤ j := by omega
        by_cases hlt : j < sn
        · have j1 : (j : Int) < sn := by omega
          obtain ⟨k, hk⟩ : ∃ k, ks[j]? = some k := ⟨_, List.getElem?_eq_getElem (by rw [HS.out]; exact hlt)⟩
          obtain ⟨v', hv, hcv⟩ := HC.out j k hk
          have hbw : Below G w wr := (HB2.out.mono (Nat.le_of_eq HG.out.symm)).trans hb
          have hcell := (hbw.cell (p := B.add j) (by rw [addr_block]; exact HBB.out.1)).trans hcv
          obtain ⟨fid, caps, rfl, hent, hcall⟩ := rule_call b k G n f (M.wsome f (ks.take j) l) v' hv (by rw [M.wsome_len, HN.out]) (by omega) HBB.out.2
          have hc := hcall wr (HRU.out.below hbw HBB.out.2) hblk
          have hnext : M.wrule ((k : Int) + 1) f (M.wsome f (ks.take j) l) = M.wsome f (ks.take (j + 1)) l := by
            rw [← M.wsome_snoc, List.take_add_one, hk]
            rfl
          rw [hnext] at hc
          have HCALL := Lib.hid hc
          have HB := Lib.hid hb
          clear hblk hb hk hv hcv hbw hc hnext hcall
          go_wp2_with fail
          refine HCALL.out.mono ?_
          rintro r w2 ⟨rfl, hblk2, hb2⟩
          have HBLK2 := Lib.hid hblk2
          have HB3 := Lib.hid (HB.out.trans hb2)
          clear hblk2 hb2
          go_wp2_with fail
          go_roundw
          case rel => exact ⟨j + 1, by go_num, by omega, HBLK2.out, HB3.out⟩
          case measure => simp [intOf]; omega
        · obtain rfl : j = sn := by omega
          have j1 : ¬ (j : Int) < (j : Int) := by omega
          have HBLK2 := Lib.hid hblk
          have HB3 := Lib.hid hb
          clear hblk hb
          go_wp2_with fail
          go_returns
          have hblk := HBLK2.out
          rw [← HS.out, List.take_length] at hblk
          have hG := HG.out
          exact ⟨HB2.out.trans (HB3.out.mono (Nat.le_of_eq hG)), fun _ => ⟨_, rfl, hblk.own (by rw [M.wsome_len, HN.out]) (by unfold maxLen; omega) (Nat.le_of_eq hG)⟩, fun h => absurd HF.out h⟩
    · have c0 : (f != 0) = true := by rw [hf]; rfl
      have c1 : (f != 1) = false := by rw [hf]; rfl
      clear hf
      go_enter Tryz.func75, Tryz.ntmps75
      go_wp2_with fail
      go_loopw [25] (fun x wr => ∃ j : Nat, x = .int .i64 j ∧ j ≤ sn ∧ BlockAt wr G 39 (M.wsome f (ks.take j) l) ∧ Below G W2 wr) (fun x _ => sn - (intOf x).toNat)
      case atStart => exact ⟨0, rfl, Nat.zero_le _, HBLK.out, Below.refl _ _⟩
      case round =>
        obtain ⟨j, rfl, hj, hblk, hb⟩ := hrel
        have j0 : (0 : Int) ≤ j := by omega
        by_cases hlt : j < sn
        · have j1 : (j : Int) < sn := by omega
          obtain ⟨k, hk⟩ : ∃ k, ks[j]? = some k := ⟨_, List.getElem?_eq_getElem (by rw [HS.out]; exact hlt)⟩
          obtain ⟨v', hv, hcv⟩ := HC.out j k hk
          have hbw : Below G w wr := (HB2.out.mono (Nat.le_of_eq HG.out.symm)).trans hb
          have hcell := (hbw.cell (p := B.add j) (by rw [addr_block]; exact HBB.out.1)).trans hcv
          obtain ⟨fid, caps, rfl, hent, hcall⟩ := rule_call b k G n f (M.wsome f (ks.take j) l) v' hv (by rw [M.wsome_len, HN.out]) (by omega) HBB.out.2
          have hc := hcall wr (HRU.out.below hbw HBB.out.2) hblk
          have hnext : M.wrule ((k : Int) + 1) f (M.wsome f (ks.take j) l) = M.wsome f (ks.take (j + 1)) l := by
            rw [← M.wsome_snoc, List.take_add_one, hk]
            rfl
          rw [hnext] at hc
          have HCALL := Lib.hid hc
          have HB := Lib.hid hb
          clear hblk hb hk hv hcv hbw hc hnext hcall
          go_wp2_with fail
          refine HCALL.out.mono ?_
          rintro r w2 ⟨rfl, hblk2, hb2⟩
          have HBLK2 := Lib.hid hblk2
          have HB3 := Lib.hid (HB.out.trans hb2)
          clear hblk2 hb2
          go_wp2_with fail
          go_roundw
          case rel => exact ⟨j + 1, by go_num, by omega, HBLK2.out, HB3.out⟩
          case measure => simp [intOf]; omega
        · obtain rfl : j = sn := by omega
          have j1 : ¬ (j : Int) < (j : Int) := by omega
          have HBLK2 := Lib.hid hblk
          have HB3 := Lib.hid hb
          clear hblk hb
          go_wp2_with fail
          go_returns
          have hblk := HBLK2.out
          rw [← HS.out, List.take_length] at hblk
          have hG := HG.out
          exact ⟨HB2.out.trans (HB3.out.mono (Nat.le_of_eq hG)), fun _ => ⟨_, rfl, hblk.own (by rw [M.wsome_len, HN.out]) (by unfold maxLen; omega) (Nat.le_of_eq hG)⟩, fun h => absurd HF.out h⟩
  · have HF := Lib.hid hf
    have c0 : (f != 0) = true := by simp; omega
    have c1 : (f != 1) = true := by simp; omega
    clear hf
    go_enter Tryz.func75, Tryz.ntmps75
    go_wp2_with fail
    go_returns
    exact ⟨Below.refl _ _, fun h => absurd h HF.out, fun _ => rfl⟩

theorem rules_block (b : Nat) (w : World) (h : RulesAt w b) (hb : b + 11 ≤ w.heap.size) : ∃ W, w.alloc (.cells (ruleVals b).toArray 126) = W ∧ RulesAt W b ∧ b + 11 ≤ W.heap.size ∧ w.heap.size < W.heap.size ∧ Below w.heap.size w W ∧ ∀ k v, (ruleVals b)[k]? = some v → W.cell? ⟨w.heap.size, k, none⟩ = some v :=
  ⟨_, rfl, h.below ((Below.refl w.heap.size w).alloc (Nat.le_refl _) _) hb, by simp; omega, by simp, (Below.refl _ _).alloc (Nat.le_refl _) _, fun k v hk => by rw [cell_new]; simpa using hk⟩
set_option maxHeartbeats 4000000 in
theorem call_any (A : Option Addr) (ca n : Nat) (f : Int) (l : List Int) (w : World) (hr : RdS .i64 w w.heap.size A l) (hn : l.length = n) (hl : n ≤ 1000) (_ : n ≤ ca) :
    Calls Tryz.prog 41 #[.slice A n ca, .int .i64 f] w (RuleOut (f = 0 ∨ f = 1) (M.wall f l) w) := by
  have HR := Lib.hid hr
  have HN := Lib.hid hn
  have HRU := Lib.hid rules_any
  clear hr hn
  go_enter Tryz.func41, Tryz.ntmps41
  go_wp2_with fail
  refine (HRU.out _).mono ?_
  rintro r w2 ⟨rfl, hru, hb2, hs2⟩
  obtain ⟨W3, hW3, h1, h2, h3, h4, h5⟩ := rules_block w.heap.size w2 hru hs2
  unfold ruleVals two at hW3
  have HW3 := Lib.hid hW3
  have hbw := hb2.trans (h4.mono hb2.size)
  have hadd : ∀ j, (⟨w2.heap.size, 0, none⟩ : Addr).add j = ⟨w2.heap.size, j, none⟩ := fun j => by unfold Addr.add; split <;> simp_all
  have HC := Lib.hid (made_any ⟨w2.heap.size, 0, none⟩ 7 7 w.heap.size [0, 1, 2, 3, 4, 5, 6] A ca n f l W3 ((HR.out.below hbw).more hbw.size) HN.out hl h1 h2 h3 rfl (by omega) (fun j k hk => by
    have hjk : k = j ∧ j < 7 := by
      match j, hk with
      | 0, hk => simpa using hk.symm
      | 1, hk => simpa using hk.symm
      | 2, hk => simpa using hk.symm
      | 3, hk => simpa using hk.symm
      | 4, hk => simpa using hk.symm
      | 5, hk => simpa using hk.symm
      | 6, hk => simpa using hk.symm
      | _ + 7, hk => simp at hk
    obtain ⟨rfl, h7⟩ := hjk
    obtain ⟨v, hv⟩ : ∃ v, (ruleVals w.heap.size)[k]? = some v := ⟨_, List.getElem?_eq_getElem (by exact h7)⟩
    exact ⟨v, hv, by rw [hadd]; exact h5 k v hv⟩))
  have HB := Lib.hid hbw
  clear hru hb2 hs2 hW3 h1 h2 h3 h4 h5 hbw hadd
  unfold ruleVals two
  go_wp2_with fail
  rw [HW3.out]
  refine HC.out.mono ?_
  rintro r w4 ⟨hb4, hok, hno⟩
  rw [M.wsome_all] at hok
  have HB4 := Lib.hid (HB.out.trans (hb4.mono HB.out.size))
  by_cases hf : f = 0 ∨ f = 1
  · obtain ⟨v, rfl, ho⟩ := hok hf
    have HF := Lib.hid hf
    have HO := Lib.hid (own_base ho HB.out.size)
    clear hb4 hok hno hf ho
    go_wp2_with fail
    go_returns
    exact ⟨HB4.out, fun _ => ⟨_, rfl, HO.out⟩, fun h => absurd HF.out h⟩
  · obtain rfl := hno hf
    have HF := Lib.hid hf
    clear hb4 hok hno hf
    go_wp2_with fail
    go_returns
    exact ⟨HB4.out, fun h => absurd h HF.out, fun _ => rfl⟩
end Go.Proofs.YtjlfgojblimobaaGreat.S10
end
