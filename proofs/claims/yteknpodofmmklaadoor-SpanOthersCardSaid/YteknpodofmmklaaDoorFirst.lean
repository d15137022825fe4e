/- The contract of utf's first over the translation: the scalar and its number of bytes, or the panic. Conditions: the slice reads as a list of bytes; the variable lengths holds the four rows of the program's text. -/
import Derived.Test.YteknpodofmmklaaDoorAsked
import Derived.Test.YteknpodofmmklaaDoorReads
namespace Go.Proofs.YteknpodofmmklaaDoor
open Go.RowKit

def pUtf : List PanicEntry := [{ v := .iface 48 (.int .i64 11), recovered := false }]

set_option maxHeartbeats 400000 in
theorem first_empty (A : Option Addr) (cap : Nat) (w : World) :
    Calls Tryd.prog 51 #[.slice A 0 cap] w fun e w' => e = .panicked pUtf ∧ w = w' := by
  go_enter Tryd.func51, Tryd.ntmps51
  go_wp2
  exact ⟨rfl, rfl, rfl⟩

set_option maxHeartbeats 400000 in
theorem first_short (ad : Addr) (len cap : Nat) (h : Int) (w : World) (hl : LensOk w) (h0 : 0 ≤ h) (h1 : h ≤ 255) (hlen : 1 ≤ len) (hm : len ≤ maxLen) (hc : w.cell? ad = some (.int .u8 h))
    (hbad : M.askd h = 0 ∨ len < M.askd h) :
    Calls Tryd.prog 51 #[.slice (some ad) len cap] w fun e w' => e = .panicked pUtf ∧ Below w.heap.size w w' := by
  unfold maxLen at hm
  have hle := M.askd_le h
  have hlen' : ((len : Int) == 0) = false := beq_eq_false_iff_ne.2 (by omega)
  have H := Lib.hid hl
  clear hl
  go_enter Tryd.func51, Tryd.ntmps51
  go_wp2_with fail
  refine (asked_any h _ h0 h1 H.out).mono ?_
  rintro e w1 ⟨rfl, hb⟩
  rcases hbad with hbad | hbad
  · rw [hbad]
    go_wp2
    exact ⟨rfl, rfl, hb⟩
  · have hne : ((M.askd h : Int) == 0) = false := beq_eq_false_iff_ne.2 (by omega)
    go_wp2
    exact ⟨rfl, rfl, hb⟩

theorem LensOk.head {w : World} (h : LensOk w) {n : Nat} (h1 : 1 ≤ n) (h4 : n ≤ 4) : w.cell? { block := 1, off := (n - 1) * 3 + 1 } = some (.int .i64 (M.headOf n)) := by
  obtain ⟨t, fr, hg⟩ := h
  rw [cell_of_row w _ _ _ t fr hg]
  match n, h1, h4 with
  | 1, _, _ => rfl
  | 2, _, _ => rfl
  | 3, _, _ => rfl
  | 4, _, _ => rfl

theorem go_len1 (h : Int) (r : List Int) : (((h :: r).length : Nat) : Int) = (r.length : Int) + 1 := by simp

set_option maxHeartbeats 1000000 in
theorem first_long (A : Option Addr) (cap n : Nat) (h : Int) (r : List Int) (w : World) (hl : LensOk w) (hby : ∀ x ∈ h :: r, 0 ≤ x ∧ x ≤ 255) (hrd : RdS .u8 w w.heap.size A (h :: r)) (hcap : r.length + 1 ≤ cap) (_hm : cap ≤ maxLen) (hc1 : ¬ cap = 1)
    (hn : M.askd h = n) (hn1 : 1 ≤ n) (hn2 : n ≤ r.length + 1) :
    Calls Tryd.prog 51 #[.slice A (r.length + 1) cap] w fun e w' =>
      ((M.firstM (h :: r) = none ∧ e = .panicked pUtf) ∨ ∃ c, M.firstM (h :: r) = some (c, n) ∧ e = .returned (.tuple #[.int .i64 c, .int .i64 n])) ∧ Below w.heap.size w w' := by
  unfold maxLen at _hm
  have hle := M.askd_le h
  obtain ⟨h0, h1⟩ := hby h (by simp)
  obtain ⟨ad, rfl, hbl, hc0⟩ := hrd 0 h rfl
  have hc : w.cell? ad = some (.int .u8 h) := by simpa [Addr.add] using hc0
  have hn4 : n ≤ 4 := by omega
  have HR := Lib.hid hrd
  have H := Lib.hid hl
  have HN := Lib.hid hn
  clear hl hrd hn hc0
  have hlen' : (((r.length + 1 : Nat) : Int) == 0) = false := beq_eq_false_iff_ne.2 (by omega)
  go_enter Tryd.func51, Tryd.ntmps51
  go_wp2_with fail
  refine (asked_any h _ h0 h1 H.out).mono ?_
  rintro e w1 ⟨rfl, hb⟩
  rw [HN.out]
  have hne : ((n : Int) == 0) = false := beq_eq_false_iff_ne.2 (by omega)
  have hge : decide ((r.length : Int) + 1 < (n : Int)) = false := by simp; omega
  have hhd := (H.out.below hb H.out.lt).head hn1 hn4
  obtain ⟨g1, g2, g3, g4⟩ := M.headOf_le h h0 h1 HN.out hn1
  go_wp2
  go_loopw [6, 39] (fun c i wr => ∃ (k : Nat) (cc : Int), k ≤ n - 1 ∧ i = .int .i64 k ∧ c = .int .i64 cc ∧ M.cont (h - M.headOf n) (r.take k) = some cc ∧ 0 ≤ cc ∧ (k ≤ 0 → cc ≤ 127) ∧ (k ≤ 1 → cc ≤ 8191) ∧ (k ≤ 2 → cc ≤ 524287) ∧ cc ≤ 33554431 ∧ Below w.heap.size w wr) (fun _ i _ => n - 1 - (intOf i).toNat)
  case atStart => exact ⟨0, h - M.headOf n, Nat.zero_le _, rfl, rfl, rfl, by omega, by omega, by omega, by omega, by omega, hb⟩
  case round =>
    obtain ⟨k, cc, hk, rfl, rfl, hct, b0, b1, b2, b3, b4, hbr⟩ := hrel
    have HC := Lib.hid hct
    clear hct
    by_cases hlt : k < n - 1
    · obtain ⟨x, hx⟩ : ∃ x, r[k]? = some x := ⟨_, List.getElem?_eq_getElem (by omega)⟩
      obtain ⟨ad', he, _, hcell⟩ := (HR.out.below hbr) (1 + k) x (by rw [Nat.add_comm]; simpa using hx)
      obtain rfl : ad = ad' := by injection he
      clear he
      rw [addr_add_pos _ _ (by omega), ← Nat.add_assoc] at hcell
      obtain ⟨x0, x1⟩ := hby x (List.mem_cons_of_mem _ (List.mem_of_getElem? hx))
      have HX := Lib.hid hx
      clear hx
      have hst := M.cont_step (h - M.headOf n) r k x HX.out
      have HST := Lib.hid hst
      clear hst
      rcases (show x < 128 ∨ 191 < x ∨ (128 ≤ x ∧ x ≤ 191) by omega) with hx | hx | ⟨hx, hx'⟩
      · have HT := Lib.hid (M.tail_low hx)
        have HF := Lib.hid (M.first_cont_none h r n k HN.out hn1 (by omega) hn2 (by rw [HST.out, HC.out]; simp [HT.out]))
        go_wp2_with (go_at_call 58; refine (six_low x _ hx).mono ?_; rintro e w' ⟨rfl, rfl⟩)
        exact ⟨rfl, .inl ⟨HF.out, rfl⟩, hbr⟩
      · have HT := Lib.hid (M.tail_high hx)
        have HF := Lib.hid (M.first_cont_none h r n k HN.out hn1 (by omega) hn2 (by rw [HST.out, HC.out]; simp [HT.out]))
        go_wp2_with (go_at_call 58; refine (six_high x _ hx).mono ?_; rintro e w' ⟨rfl, rfl⟩)
        exact ⟨rfl, .inl ⟨HF.out, rfl⟩, hbr⟩
      · have HT := Lib.hid (M.tail_yes hx hx')
        have HF := Lib.hid (show M.cont (h - M.headOf n) (r.take (k + 1)) = some (cc * 64 + (x - 128)) by rw [HST.out, HC.out]; simp [HT.out])
        go_wp2_with (go_at_call 58; refine (six_tail x _ hx hx').mono ?_; rintro e w' ⟨rfl, rfl⟩)
        go_roundw
        case rel => exact ⟨k + 1, cc * 64 + (x - 128), by omega, by go_num, by go_num, HF.out, by omega, by omega, by omega, by omega, by omega, hbr⟩
        case measure => simp [intOf]; omega
    · have hkn : k = n - 1 := by omega
      have HF := Lib.hid (M.first_cont_some h r n cc HN.out hn1 hn2 (by rw [← hkn]; exact HC.out))
      clear hkn
      have hlr := (H.out.below hbr H.out.lt)
      have HL := Lib.hid hlr
      clear hlr
      by_cases hsc : M.scal cc = true
      · by_cases hcn : M.cnt cc = n
        · have HE := Lib.hid hcn
          have hbq : ((M.cnt cc : Int) != (n : Int)) = false := by simp [hcn]
          clear hcn
          go_wp2_with fail
          refine (scalar_any cc _).mono ?_
          rintro e w' ⟨rfl, rfl⟩
          rw [hsc]
          go_wp2_with fail
          refine (count_any cc _ b0 HL.out).mono ?_
          rintro e w2 ⟨rfl, hb2⟩
          go_wp2
          go_ret2
          exact ⟨.inr ⟨cc, by rw [HF.out, if_pos ⟨hsc, HE.out⟩], rfl⟩, hbr.trans (hb2.mono hbr.size)⟩
        · have hbq : ((M.cnt cc : Int) != (n : Int)) = true := by simp; omega
          go_wp2_with fail
          refine (scalar_any cc _).mono ?_
          rintro e w' ⟨rfl, rfl⟩
          rw [hsc]
          go_wp2_with fail
          refine (count_any cc _ b0 HL.out).mono ?_
          rintro e w2 ⟨rfl, hb2⟩
          go_wp2
          exact ⟨rfl, .inl ⟨by rw [HF.out, if_neg (fun hh => hcn hh.2)], rfl⟩, hbr.trans (hb2.mono hbr.size)⟩
      · have hsf : M.scal cc = false := by simpa using hsc
        go_wp2_with fail
        refine (scalar_any cc _).mono ?_
        rintro e w' ⟨rfl, rfl⟩
        rw [hsf]
        go_wp2
        exact ⟨rfl, .inl ⟨by rw [HF.out, if_neg (fun hh => hsc hh.1)], rfl⟩, hbr⟩

set_option maxHeartbeats 400000 in
theorem first_one (ad : Addr) (h : Int) (w : World) (hl : LensOk w) (h0 : 0 ≤ h) (h1 : h ≤ 127) (hc : w.cell? ad = some (.int .u8 h)) :
    Calls Tryd.prog 51 #[.slice (some ad) 1 1] w fun e w' => e = .returned (.tuple #[.int .i64 h, .int .i64 1]) ∧ Below w.heap.size w w' := by
  have H := Lib.hid hl
  clear hl
  have HA := Lib.hid (show M.askd h = 1 by simp [M.askd]; omega)
  have HS := Lib.hid (show M.scal h = true by simp [M.scal]; omega)
  have HC := Lib.hid (show M.cnt h = 1 by simp [M.cnt]; omega)
  go_enter Tryd.func51, Tryd.ntmps51
  go_wp2_with fail
  refine (asked_any h _ h0 (by omega) H.out).mono ?_
  rintro e w1 ⟨rfl, hb⟩
  rw [HA.out]
  have hhd := (H.out.below hb H.out.lt).head (n := 1) (by omega) (by omega)
  simp only [M.headOf, if_true, Nat.sub_self, Nat.zero_mul, Nat.zero_add] at hhd
  have HL := Lib.hid (H.out.below hb H.out.lt)
  go_wp2
  refine wp_loop_rounds 1 ?_
  rw [rounds_succ]
  go_wp2_with fail
  refine (scalar_any h _).mono ?_
  rintro e w' ⟨rfl, rfl⟩
  rw [HS.out]
  go_wp2_with fail
  refine (count_any h _ h0 HL.out).mono ?_
  rintro e w2 ⟨rfl, hb2⟩
  rw [HC.out]
  go_wp2
  go_ret2
  exact ⟨rfl, hb.trans (hb2.mono hb.size)⟩

theorem first_some (A : Option Addr) (cap : Nat) (l : List Int) (c : Int) (n : Nat) (w : World) (hl : LensOk w) (hby : ∀ x ∈ l, 0 ≤ x ∧ x ≤ 255) (hrd : RdS .u8 w w.heap.size A l) (hcap : l.length ≤ cap) (hm : cap ≤ maxLen) (hf : M.firstM l = some (c, n)) :
    Calls Tryd.prog 51 #[.slice A l.length cap] w fun e w' => e = .returned (.tuple #[.int .i64 c, .int .i64 n]) ∧ Below w.heap.size w w' := by
  cases l with
  | nil => simp [M.firstM] at hf
  | cons h r =>
    obtain ⟨ad, rfl, hbl, hc0⟩ := hrd 0 h rfl
    have hc : w.cell? ad = some (.int .u8 h) := by simpa [Addr.add] using hc0
    obtain ⟨h0, h1⟩ := hby h (by simp)
    by_cases hbad : M.askd h = 0 ∨ r.length + 1 < M.askd h
    · simp [M.firstM, hbad] at hf
    · have hle := M.askd_le h
      have hA := M.first_asked h r c n hf
      by_cases hc1 : cap = 1
      · subst hc1
        have hr : r = [] := List.eq_nil_of_length_eq_zero (by rw [List.length_cons] at hcap; omega)
        subst hr
        have h7 : h ≤ 127 := by
          rcases Int.lt_or_le 127 h with hh | hh
          · exfalso
            simp only [M.askd] at hbad
            rw [if_neg (by omega)] at hbad
            simp only [List.length_nil] at hbad
            (repeat' split at hbad) <;> omega
          · exact hh
        refine (first_one ad h w hl h0 h7 hc).mono ?_
        rintro e w' ⟨rfl, hb⟩
        have : M.firstM [h] = some (h, 1) := M.first_ascii h h0 h7
        rw [this] at hf
        simp only [Option.some.injEq, Prod.mk.injEq] at hf
        obtain ⟨rfl, rfl⟩ := hf
        exact ⟨rfl, hb⟩
      · refine (first_long (some ad) cap n h r w hl hby hrd hcap hm hc1 hA (by omega) (by omega)).mono ?_
        rintro e w' ⟨hh | ⟨c', hh, rfl⟩, hb⟩
        · rw [hh.1] at hf; cases hf
        · rw [hh] at hf
          simp only [Option.some.injEq, Prod.mk.injEq] at hf
          obtain ⟨rfl, -⟩ := hf
          exact ⟨rfl, hb⟩

theorem first_none (A : Option Addr) (cap : Nat) (l : List Int) (w : World) (hl : LensOk w) (hby : ∀ x ∈ l, 0 ≤ x ∧ x ≤ 255) (hrd : RdS .u8 w w.heap.size A l) (hcap : l.length ≤ cap) (hm : cap ≤ maxLen) (hf : M.firstM l = none) :
    Calls Tryd.prog 51 #[.slice A l.length cap] w fun e w' => e = .panicked pUtf ∧ Below w.heap.size w w' := by
  cases l with
  | nil =>
    refine (first_empty A cap w).mono ?_
    rintro e w' ⟨rfl, rfl⟩
    exact ⟨rfl, Below.refl _ _⟩
  | cons h r =>
    obtain ⟨ad, rfl, hbl, hc0⟩ := hrd 0 h rfl
    have hc : w.cell? ad = some (.int .u8 h) := by simpa [Addr.add] using hc0
    obtain ⟨h0, h1⟩ := hby h (by simp)
    by_cases hbad : M.askd h = 0 ∨ r.length + 1 < M.askd h
    · exact first_short ad (r.length + 1) cap h w hl h0 h1 (by omega) (Nat.le_trans hcap hm) hc hbad
    · by_cases hc1 : cap = 1
      · subst hc1
        have hr : r = [] := List.eq_nil_of_length_eq_zero (by rw [List.length_cons] at hcap; omega)
        subst hr
        have h7 : h ≤ 127 := by
          rcases Int.lt_or_le 127 h with hh | hh
          · exfalso
            simp only [M.askd] at hbad
            rw [if_neg (by omega)] at hbad
            simp only [List.length_nil] at hbad
            (repeat' split at hbad) <;> omega
          · exact hh
        rw [M.first_ascii h h0 h7] at hf
        cases hf
      · refine (first_long (some ad) cap _ h r w hl hby hrd hcap hm hc1 rfl (by omega) (by omega)).mono ?_
        rintro e w' ⟨hh | ⟨c', hh, rfl⟩, hb⟩
        · exact ⟨hh.2, hb⟩
        · rw [hh] at hf; cases hf

end Go.Proofs.YteknpodofmmklaaDoor
