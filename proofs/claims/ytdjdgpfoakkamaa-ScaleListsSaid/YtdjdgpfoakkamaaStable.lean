/- The library's stable sort by the code's Order, over the translation: the row comes out in order, stably. Conditions: at most a thousand words, each of eight bytes. -/
import Derived.Test.YtdjdgpfoakkamaaSym
namespace Go.Proofs.Ytdjdgpfoakkamaa
open Go.RowKit

/-- A list that is cut into stretches of n words, each of which rises; the last one may be shorter. -/
inductive Chop (n : Nat) : List Int → Prop
  | last {l : List Int} : l.length ≤ n → M.Sor l → Chop n l
  | cons {u r : List Int} : u.length = n → M.Sor u → Chop n r → Chop n (u ++ r)
def Pre (n : Nat) (d : List Int) : Prop := ∀ r, Chop n r → Chop n (d ++ r)
theorem Pre.nil (n : Nat) : Pre n [] := fun _ h => h
theorem Pre.more {n : Nat} {d t : List Int} (h : Pre n d) (ht : t.length = n) (hs : M.Sor t) : Pre n (d ++ t) := fun r hr => by
  rw [List.append_assoc]; exact h _ (.cons ht hs hr)
theorem Chop.sor {n : Nat} {l : List Int} (h : Chop n l) (hl : l.length ≤ n) : M.Sor l := by
  cases h with
  | last _ h => exact h
  | cons hu hs hr =>
    rename_i u r
    have : r = [] := List.eq_nil_of_length_eq_zero (by simp at hl; omega)
    subst this
    simpa using hs
theorem Chop.one {n : Nat} {l : List Int} (h : Chop n l) (hl : n ≤ l.length) : ∃ u r, l = u ++ r ∧ u.length = n ∧ M.Sor u ∧ Chop n r := by
  cases h with
  | last h hs => exact ⟨l, [], by simp, by omega, hs, .last (by simp) M.Sor.nil⟩
  | cons hu hs hr => exact ⟨_, _, rfl, hu, hs, hr⟩

set_option maxRecDepth 100000 in
set_option maxHeartbeats 8000000 in
theorem stable_any (g len ca : Nat) (l : List Int) (w : World) (hr : Row w g l) (hl : l.length = len) (hc : len ≤ 1000) (hw : M.Wd l) :
    Calls Try.prog 38 #[.slice (some ⟨g, 0, none⟩) len ca, .int .i64 len, ordV] w fun r w' => r = .returned (.tuple #[]) ∧ ∃ t, Row w' g t ∧ M.Sor t ∧ M.St l t ∧ Below g w w' := by
  have HR := Lib.hid hr
  have HW := Lib.hid hw
  have HL := Lib.hid hl
  have c1 : (len : Int) ≤ 1000 := by omega
  have c0 : (0 : Int) ≤ len := by omega
  clear hr hw hl
  go_enter Try.func38, Try.ntmps38
  go_wp2_with fail
  go_loopw [7, 8] (fun x y wr => ∃ (A : Nat) (d r : List Int), x = .int .i64 A ∧ y = .int .i64 ((A : Int) + 20) ∧ d.length = A ∧ A + r.length = len ∧ Row wr g (d ++ r) ∧ Pre 20 d ∧ M.St l (d ++ r) ∧ Below g w wr) (fun x _ _ => len - (intOf x).toNat)
  case atStart => exact ⟨0, [], l, rfl, rfl, rfl, by have := HL.out; omega, HR.out, Pre.nil _, M.St.refl _, Below.refl _ _⟩
  case round =>
    obtain ⟨A, d, r, rfl, rfl, h1, h2, h3, h4, h5, h6⟩ := hrel
    have a0 : (0 : Int) ≤ A := by omega
    have a1 : (A : Int) ≤ len := by omega
    by_cases hlt : A + 20 ≤ len
    · obtain ⟨u, s, hus, hul⟩ : ∃ u s, r = u ++ s ∧ u.length = 20 := ⟨r.take 20, r.drop 20, by simp, by simp; omega⟩
      have hwu : M.Wd u := fun x hx => HW.out x (h5.mem.2 (by rw [hus]; simp [hx]))
      have HC := Lib.hid (insertion_any g A (A + 20) len ca d u s wr (by rw [← hus]; exact h3) h1 (by omega) (by rw [hus] at h2; simp at h2; omega) hc hwu (by intro k; rw [k] at hul; simp at hul))
      have HS := Lib.hid (show r = u ++ s ∧ u.length = 20 ∧ d.length = A ∧ A + 20 + s.length = len from ⟨hus, hul, h1, by rw [hus] at h2; simp at h2; omega⟩)
      have H4 := Lib.hid h4
      have H5 := Lib.hid h5
      have H6 := Lib.hid h6
      rw [Int.natCast_add] at HC
      have e20 : ((20 : Nat) : Int) = 20 := rfl
      rw [e20] at HC
      have l1 : (A : Int) + 20 ≤ len := by omega
      clear h1 h2 h3 h4 h5 h6 hus hul hwu hlt e20
      go_wp2_with fail
      refine HC.out.mono ?_
      rintro x w1 ⟨rfl, t, ht1, ht2, ht3, ht4⟩
      have HT1 := Lib.hid ht1
      have HT2 := Lib.hid ht2
      have HT3 := Lib.hid ht3
      have HT4 := Lib.hid (H6.out.trans ht4)
      clear ht1 ht2 ht3 ht4
      go_wp2_with fail
      go_roundw
      case rel =>
        obtain ⟨z1, z2, z3, z4⟩ := HS.out
        have z5 := HT3.out.len
        have h5 := H5.out
        rw [z1] at h5
        exact ⟨A + 20, d ++ t, s, by go_num, by go_num, by simp; omega, z4, by simpa using HT1.out, H4.out.more (by omega) HT2.out, h5.trans (by
          have := (M.St.refl d).app (HT3.out.app (M.St.refl s))
          simpa using this), HT4.out⟩
      case measure => simp [intOf]; omega
    · have hwr : M.Wd r := fun x hx => HW.out x (h5.mem.2 (by simp [hx]))
      have HST := Lib.hid (show ∃ t : List Int, True from ⟨[], trivial⟩)
      have l1 : (len : Int) < (A : Int) + 20 := by omega
      have HCC := Lib.hid (show Calls Try.prog 40 #[.slice (some ⟨g, 0, none⟩) len ca, .int .i64 A, .int .i64 len, ordV] wr fun x w' => x = .returned (.tuple #[]) ∧ ∃ t, Row w' g (d ++ t) ∧ M.Sor t ∧ M.St r t ∧ Below g wr w' by
        by_cases hr0 : r = []
        · subst hr0
          have hA : A = len := by simpa using h2
          exact (insertionNone_any g A len ca wr (by omega) (by omega)).mono fun x w' ⟨e1, e2⟩ => by
            subst e2
            exact ⟨e1, [], h3, M.Sor.nil, M.St.refl _, Below.refl _ _⟩
        · exact (insertion_any g A len len ca d r [] wr (by simpa using h3) h1 (by omega) (by simp) hc hwr hr0).mono fun x w' ⟨e1, t, e2, e3, e4, e5⟩ => ⟨e1, t, by simpa using e2, e3, e4, e5⟩)
      have HS := Lib.hid (show d.length = A ∧ A + r.length = len ∧ len < A + 20 from ⟨h1, h2, by omega⟩)
      have H4 := Lib.hid h4
      have H5 := Lib.hid h5
      have H6 := Lib.hid h6
      clear h1 h2 h3 h4 h5 h6 hwr hlt HST
      go_wp2_with fail
      refine HCC.out.mono ?_
      rintro x w1 ⟨rfl, t, ht1, ht2, ht3, ht4⟩
      have HT1 := Lib.hid ht1
      have HCH := Lib.hid (show Chop 20 (d ++ t) from H4.out t (.last (by have := HS.out; have := ht3.len; omega) ht2))
      have HT3 := Lib.hid (H5.out.trans ((M.St.refl d).app ht3))
      have HT4 := Lib.hid (H6.out.trans ht4)
      obtain ⟨L, hL⟩ : ∃ L, d ++ t = L := ⟨_, rfl⟩
      rw [hL] at HT1 HCH HT3
      clear ht1 ht2 ht3 ht4 hL
      go_wp2_with fail
      go_loopw [6, 7, 8] (fun x _ _ w2 => ∃ (bs : Nat) (L : List Int), x = .int .i64 bs ∧ 20 ≤ bs ∧ bs ≤ 2000 ∧ Row w2 g L ∧ Chop bs L ∧ M.St l L ∧ Below g w w2) (fun x _ _ _ => len - (intOf x).toNat)
      case atStart => exact ⟨20, L, rfl, by omega, by omega, HT1.out, HCH.out, HT3.out, HT4.out⟩
      case round =>
        obtain ⟨bs, L, rfl, b1, b2, h3, h4, h5, h6⟩ := hrel
        have k0 : (20 : Int) ≤ bs := by omega
        have k1 : (bs : Int) ≤ 2000 := by omega
        have HB1 := Lib.hid (show 20 ≤ bs ∧ bs ≤ 2000 from ⟨b1, b2⟩)
        by_cases hlt : bs < len
        · have k2 : (bs : Int) < len := by omega
          have H3 := Lib.hid h3
          have H4 := Lib.hid h4
          have H5 := Lib.hid h5
          have H6 := Lib.hid h6
          clear h3 h4 h5 h6 b1 b2
          go_wp2_with fail
          go_loopw [7, 8] (fun x y w3 => ∃ (A : Nat) (d r : List Int), x = .int .i64 A ∧ y = .int .i64 ((A : Int) + 2 * bs) ∧ d.length = A ∧ A + r.length = len ∧ Row w3 g (d ++ r) ∧ Pre (2 * bs) d ∧ Chop bs r ∧ M.St l (d ++ r) ∧ Below g w w3) (fun x _ _ => len - (intOf x).toNat)
          case atStart => exact ⟨0, [], L, rfl, by simp, rfl, by have := HL.out; have h := H5.out.len; simp; omega, H3.out, Pre.nil _, H4.out, H5.out, H6.out⟩
          case round =>
            obtain ⟨A, d, r, rfl, rfl, h1, h2, h3, h4, h5, h6, h7⟩ := hrel
            have a0 : (0 : Int) ≤ A := by omega
            have a1 : (A : Int) ≤ len := by omega
            have bz := HB1.out
            by_cases hlt2 : A + 2 * bs ≤ len
            · obtain ⟨u, r1, e1, hul, hus, hr1⟩ := h5.one (by omega)
              subst e1
              have hl1 : A + bs + r1.length = len := by simp at h2; omega
              obtain ⟨v, r2, e2, hvl, hvs, hr2⟩ := hr1.one (by omega)
              subst e2
              have hl2 : A + bs + bs + r2.length = len := by simp at hl1; omega
              have hwu : M.Wd u := fun x hx => HW.out x (h6.mem.2 (by simp [hx]))
              have hwv : M.Wd v := fun x hx => HW.out x (h6.mem.2 (by simp [hx]))
              have HC0 := merge_all (u.length + v.length + 1) g A (A + bs) (A + 2 * bs) len ca d u v r2 wr (by omega) (by simpa using h3) h1 (by omega) (by omega) (by omega) hc (by omega) (by omega) hwu hwv hus hvs
              rw [show ((A + bs : Nat) : Int) = (A : Int) + bs by omega, show ((A + 2 * bs : Nat) : Int) = (A : Int) + 2 * bs by omega] at HC0
              have HC := Lib.hid HC0
              have HS := Lib.hid (show u.length = bs ∧ v.length = bs ∧ d.length = A ∧ A + 2 * bs + r2.length = len ∧ A + 2 * bs ≤ len from ⟨hul, hvl, h1, by omega, hlt2⟩)
              have H4' := Lib.hid h4
              have H5' := Lib.hid hr2
              have H6' := Lib.hid (show M.St l (d ++ ((u ++ v) ++ r2)) by simpa using h6)
              have H7' := Lib.hid h7
              have l1 : (A : Int) + 2 * bs ≤ len := by omega
              clear h1 h2 h3 h4 h5 h6 h7 hr1 hl1 hl2 hwu hwv HC0 hr2 hul hvl hus hvs hlt2 bz
              go_wp2_with fail
              refine HC.out.mono ?_
              rintro x w1 ⟨rfl, t, ht1, ht2, ht3, ht4⟩
              have HT1' := Lib.hid ht1
              have HT2' := Lib.hid ht2
              have HT3' := Lib.hid ht3
              have HT4' := Lib.hid (H7'.out.trans ht4)
              clear ht1 ht2 ht3 ht4
              go_wp2_with fail
              go_roundw
              case rel =>
                obtain ⟨z1, z2, z3, z4, z6⟩ := HS.out
                have z5 := HT3'.out.len
                simp at z5
                exact ⟨A + 2 * bs, d ++ t, r2, by go_num, by go_num, by simp; omega, z4, by simpa using HT1'.out, H4'.out.more (by omega) HT2'.out, H5'.out, H6'.out.trans (by
                  have := (M.St.refl d).app (HT3'.out.app (M.St.refl r2))
                  simpa using this), HT4'.out⟩
              case measure =>
                have := HS.out
                have := HB1.out
                simp [intOf]; omega
            · have l1 : (len : Int) < (A : Int) + 2 * bs := by omega
              by_cases hm : A + bs < len
              · obtain ⟨u, v, e1, hul, hus, hr1⟩ := h5.one (by omega)
                subst e1
                have hl1 : A + bs + v.length = len := by simp at h2; omega
                have hvs := hr1.sor (by omega)
                have hwu : M.Wd u := fun x hx => HW.out x (h6.mem.2 (by simp [hx]))
                have hwv : M.Wd v := fun x hx => HW.out x (h6.mem.2 (by simp [hx]))
                have HC0 := merge_all (u.length + v.length + 1) g A (A + bs) len len ca d u v [] wr (by omega) (by simpa using h3) h1 (by omega) (by omega) (by simp) hc (by omega) (by omega) hwu hwv hus hvs
                rw [show ((A + bs : Nat) : Int) = (A : Int) + bs by omega] at HC0
                have HC := Lib.hid HC0
                have HS := Lib.hid (show u.length = bs ∧ v.length < bs ∧ d.length = A ∧ bs < len from ⟨hul, by omega, h1, hlt⟩)
                have H4' := Lib.hid h4
                have H6' := Lib.hid (show M.St l (d ++ (u ++ v)) by simpa using h6)
                have H7' := Lib.hid h7
                have l2 : (A : Int) + bs < len := by omega
                clear h1 h2 h3 h4 h5 h6 h7 hr1 hl1 hwu hwv HC0 hul hus hvs hlt2 bz hlt hm
                go_wp2_with fail
                refine HC.out.mono ?_
                rintro x w1 ⟨rfl, t, ht1, ht2, ht3, ht4⟩
                have HT1' := Lib.hid ht1
                have HT2' := Lib.hid ht2
                have HT3' := Lib.hid ht3
                have HT4' := Lib.hid (H7'.out.trans ht4)
                clear ht1 ht2 ht3 ht4
                go_wp2_with fail
                go_roundw
                case rel =>
                  obtain ⟨z1, z2, z3, z4⟩ := HS.out
                  have z5 := HT3'.out.len
                  simp at z5
                  have z6 := HB1.out
                  exact ⟨2 * bs, d ++ t, by go_num, by omega, by omega, by simpa using HT1'.out, H4'.out t (.last (by omega) HT2'.out), H6'.out.trans ((M.St.refl d).app HT3'.out), HT4'.out⟩
                case measure =>
                  have := HS.out
                  have := HB1.out
                  simp [intOf]; omega
              · have l2 : ¬ (A : Int) + bs < len := by omega
                have HCH' := Lib.hid (show Chop (2 * bs) (d ++ r) from h4 r (.last (by omega) (h5.sor (by omega))))
                have HS := Lib.hid (show bs < len from hlt)
                have H3' := Lib.hid h3
                have H6' := Lib.hid h6
                have H7' := Lib.hid h7
                clear h1 h2 h3 h4 h5 h6 h7 hlt2 bz hlt hm
                go_wp2_with fail
                go_roundw
                case rel =>
                  have z4 := HS.out
                  have z6 := HB1.out
                  exact ⟨2 * bs, d ++ r, by go_num, by omega, by omega, H3'.out, HCH'.out, H6'.out, H7'.out⟩
                case measure =>
                  have := HS.out
                  have := HB1.out
                  simp [intOf]; omega
        · have k2 : ¬ (bs : Int) < len := by omega
          have HF := Lib.hid (show Row wr g L ∧ M.Sor L ∧ M.St l L ∧ Below g w wr from ⟨h3, h4.sor (by have := h5.len; have := HL.out; omega), h5, h6⟩)
          clear h3 h4 h5 h6 b1 b2 hlt
          go_wp2_with fail
          go_end0
          exact ⟨rfl, L, HF.out⟩

set_option maxHeartbeats 1000000 in
theorem sortStable_any (g len ca : Nat) (l : List Int) (w : World) (hr : Row w g l) (hl : l.length = len) (hc : len ≤ 1000) (hw : M.Wd l) :
    Calls Try.prog 32 #[.slice (some ⟨g, 0, none⟩) len ca, ordV] w fun r w' => r = .returned (.tuple #[]) ∧ ∃ t, Row w' g t ∧ M.Sor t ∧ M.St l t ∧ Below g w w' := by
  have HC := Lib.hid (stable_any g len ca l w hr hl hc hw)
  have c1 : (len : Int) ≤ 1000 := by omega
  clear hr hl hw
  go_enter Try.func32, Try.ntmps32
  go_wp2_with fail
  refine HC.out.mono ?_
  rintro x w1 ⟨rfl, t, ht⟩
  have HT := Lib.hid ht
  clear ht
  go_wp2
  go_end0
  exact ⟨rfl, t, HT.out⟩
end Go.Proofs.Ytdjdgpfoakkamaa
