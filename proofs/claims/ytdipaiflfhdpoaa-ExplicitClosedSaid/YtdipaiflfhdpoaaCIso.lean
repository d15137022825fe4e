/- The contract of package explicit's isolates: all isolates' ends and first strongs. Condition: the slice reads as a list of classes, at most a thousand long. -/
import Derived.Test.YtdipaiflfhdpoaaIsoAt
namespace Go.Proofs.Ytdipaiflfhdpoaa
open Go.RowKit

/-- A row of the callee's own, of what is told of each scalar. -/
def IsosOut (l : List Int) (n : Nat) (w : World) (r : Ending) (w' : World) : Prop :=
  ∃ G all, r = .returned (.slice (some ⟨G, 0, none⟩) n n) ∧ w'.ownsRow w.heap.size 46 2 (.slice (some ⟨G, 0, none⟩) n n) n (isoCells all) ∧ (∀ i, i < n → ∃ x, all[i]? = some x ∧ M.Fin l i x) ∧ Below w.heap.size w w'
theorem set_self_at {α : Type} {l : List α} {i : Nat} {x : α} (h : l[i]? = some x) : l.set i x = l := by
  apply List.ext_getElem?
  intro j
  by_cases e : j = i
  · subst e
    rw [List.getElem?_set_self (List.getElem?_eq_some_iff.1 h).1, h]
  · rw [List.getElem?_set_ne (fun q => e q.symm)]
theorem IsoAt.form {B : Nat} {w wr : World} {G n : Nat} {all : List (Int × Int)} {vo : Value} {O : List Nat} (h : IsoAt B w wr G n all vo O) : ∃ A2 c2, vo = .slice A2 O.length c2 := by
  rcases h.ro.2 with ⟨h1, h0⟩ | ⟨g, cap, cur, hv, _⟩
  · rw [h0]; exact ⟨_, _, h1⟩
  · exact ⟨_, _, hv⟩
set_option maxHeartbeats 8000000 in
theorem isolates_any (A : Option Addr) (ca n : Nat) (l : List Int) (w : World) (hr : RdS .i64 w w.heap.size A l) (hn : l.length = n) (hl : n ≤ 1000) :
    Calls Try.prog 20 #[.slice A n ca] w (IsosOut l n w) := by
  obtain ⟨i0, hi, hz0, hz1, hz2⟩ := info_parts Try.infoIso
  obtain ⟨j0, hj, hy0, hy1, hy2⟩ := info_parts Try.infoInt
  have hmk := run_make (P := Try.prog) w 43 46 i0 (.agg #[.int .i64 0, .int .i64 0]) Try.underlying43 hi hz0 .i64 .i64 n n (by omega) (Int.le_refl _) (by rw [hz2]; omega) (by omega)
  rw [Int.toNat_natCast, hz1] at hmk
  obtain ⟨W1, hW1⟩ : ∃ W1, w.alloc (.cells (madeCells (Value.agg #[.int .i64 0, .int .i64 0]).cells (n * 2)) 46) = W1 := ⟨_, rfl⟩
  have h1 : IsoAt w.heap.size w W1 w.heap.size n (List.replicate n (0, 0)) (.slice none 0 0) [] := by
    rw [← hW1]
    refine ⟨(Below.refl _ _).alloc (Nat.le_refl _) _, ?_, World.ownsRow_nil _ _ _ _, by simp [Value.ownBlock]⟩
    rw [← isoCells_zero]
    exact World.ownsRow_lit w _ n (Nat.le_refl _) (by unfold maxLen; omega) (by simp [madeCells])
  rw [hW1] at hmk
  have HI := Lib.hid h1
  have HR := Lib.hid hr
  have HN := Lib.hid hn
  have hl1 : (n : Int) ≤ 1000 := by omega
  clear hr hn h1 hW1 hz0 hz1 hz2 hi
  go_enter Try.func20, Try.ntmps20
  go_wp2_with fail
  go_loopw [4, 15] (fun uo v wr => ∃ (k : Nat) (all : List (Int × Int)) (O : List Nat) (vo : Value), vo = uo ∧ v = .int .i64 k ∧ k ≤ n ∧ IsoAt w.heap.size w wr w.heap.size n all vo O ∧ M.Iso l k all O) (fun _ v _ => n - (intOf v).toNat)
  case atStart => exact ⟨0, _, [], _, rfl, rfl, Nat.zero_le _, HI.out, by have q := M.Iso.zero (l := l); rw [HN.out] at q; exact q⟩
  case round =>
    obtain ⟨k, all, O, vo, rfl, rfl, hk, hi, hm⟩ := hrel
    have HI2 := Lib.hid hi
    have HM := Lib.hid hm
    have hn := HN.out
    have k0 : (0 : Int) ≤ k := by omega
    by_cases hlt : k < n
    · obtain ⟨ad, c, rfl, hcx, hx, hab⟩ := rd_at HR.out hi.below (by omega : k < l.length)
      have k1 : (k : Int) < n := by omega
      obtain ⟨⟨e0, f0⟩, hat⟩ : ∃ x, all[k]? = some x := ⟨_, List.getElem?_eq_getElem (by rw [hm.len]; omega)⟩
      obtain ⟨c0, c1⟩ := hi.cells hat
      have y0 := hi.frozen (k * 2)
      have y1 := hi.frozen (k * 2 + 1)
      obtain ⟨m, hOm⟩ : ∃ m, O.length = m := ⟨_, rfl⟩
      have hmk2 : m ≤ k := by
        rw [← hOm]
        have := List.Nodup.length_le_of_subset (l₂ := List.range k) hm.one (fun o ho => List.mem_range.2 (hm.lt o ho))
        simpa using this
      have HBC := fun w => Lib.hid (cbegins_any c w)
      have HMK := fun w => Lib.hid (makes_any c w)
      obtain ⟨b, hb⟩ : ∃ b, M.begins c = b := ⟨_, rfl⟩
      obtain ⟨s, hs⟩ : ∃ s, M.isStr c = s := ⟨_, rfl⟩
      obtain ⟨t, ht⟩ : ∃ t, M.side c = t := ⟨_, rfl⟩
      rw [hb] at HBC
      rw [hs, ht] at HMK
      have HX := Lib.hid hx
      have HT := Lib.hid (hi.told hat (-1) (-1))
      have HOm := Lib.hid hOm
      have Hb := Lib.hid hb
      have Hs := Lib.hid hs
      have Ht := Lib.hid ht
      obtain ⟨W2, hW2⟩ : ∃ W2, (wr.setCell ⟨w.heap.size, k * 2, none⟩ (.int .i64 (-1))).setCell ⟨w.heap.size, k * 2 + 1, none⟩ (.int .i64 (-1)) = W2 := ⟨_, rfl⟩
      rw [hW2] at HT
      clear hi hm hx hat hn hOm hb hs ht hab
      obtain ⟨A2, c2, hv⟩ : ∃ A2 c2, vo = .slice A2 m c2 := by rw [← HOm.out]; exact HI2.out.form
      subst hv
      cases b with
      | true =>
        have HB := Lib.hid (HM.out.begin_ HX.out Hb.out)
        go_wp2_with fail
        refine (HMK _).out.mono ?_
        rintro r w2 ⟨rfl, rfl⟩
        go_wp2_with fail
        refine (HBC _).out.mono ?_
        rintro r w3 ⟨rfl, rfl⟩
        go_wp2_with (at_builtin; refine wpList_append_lies _ rfl _ _ 25 rfl w.heap.size 3 j0 (.int .i64 0) 1 8 Try.underlying25 hj hy0 hy1 hy2 rfl (by decide) _ _ _ rfl (World.ownsRow.alloc (HOm.out ▸ HT.out.ro) _) ⟨W2.heap.size, 0, none⟩ 1 1 [.int .i64 k] rfl rfl (one_new _ _ _) one_cell (by omega) (by unfold maxLen; omega) (by omega) (by have := HT.out.glo; simp; omega) (W2.heap.size + 1) (by simp) ?_)
        intro q cap w4 hown hgrow hat _
        have HP := Lib.hid (HT.out.push (o := k) (by rw [HOm.out, List.map_reverse]; exact hown) hgrow hat)
        clear hown hgrow hat
        go_wp2_with fail
        go_roundw
        case rel => exact ⟨k + 1, _, k :: O, _, rfl, by go_num, by omega, by have q := HP.out; rw [HOm.out] at q; exact q, HB.out⟩
        case measure => simp [intOf]; omega
      | false =>
        by_cases h10 : c = 10
        · subst h10
          have HB := Lib.hid (HM.out.b_ HX.out)
          go_wp2_with fail
          refine (HMK _).out.mono ?_
          rintro r w2 ⟨rfl, rfl⟩
          go_wp2_with fail
          refine (HBC _).out.mono ?_
          rintro r w3 ⟨rfl, rfl⟩
          go_wp2_with fail
          go_roundw
          case rel => exact ⟨k + 1, _, [], _, rfl, by go_num, by omega, HT.out.none_, HB.out⟩
          case measure => simp [intOf]; omega
        · cases O with
          | nil =>
            have hm0 : m = 0 := HOm.out.symm
            subst hm0
            have HB := Lib.hid (HM.out.none_ HX.out Hb.out)
            go_wp2_with fail
            refine (HMK _).out.mono ?_
            rintro r w2 ⟨rfl, rfl⟩
            go_wp2_with fail
            refine (HBC _).out.mono ?_
            rintro r w3 ⟨rfl, rfl⟩
            go_wp2_with fail
            go_roundw
            case rel => exact ⟨k + 1, _, [], _, rfl, by go_num, by omega, HT.out, HB.out⟩
            case measure => simp [intOf]; omega
          | cons o O =>
            obtain ⟨m2, hm2⟩ : ∃ m2, O.length = m2 := ⟨_, rfl⟩
            have hmm : m = m2 + 1 := by rw [← HOm.out, List.length_cons, hm2]
            subst hmm
            have hok := HM.out.lt o (List.mem_cons_self ..)
            obtain ⟨f, ho, -, hf01⟩ := HM.out.opn 0 o rfl
            have ho2 : (all.set k (-1, -1))[o]? = some (-1, f) := by rw [HM.out.keep hok]; exact ho
            obtain ⟨g, cap, hv, hco, hcap1, hcap2, hpop⟩ := HT.out.last hm2
            have hv2 : A2 = some ⟨g, 0, none⟩ := by injection hv
            have hv3 : c2 = cap := by injection hv
            subst hv2 hv3
            obtain ⟨x0, x1⟩ := HT.out.cells ho2
            have z0 := HT.out.frozen (o * 2)
            have z1 := HT.out.frozen (o * 2 + 1)
            have hw1 : IntKind.i64.wrap ((m2 : Int) + 1 - 1) = (m2 : Int) := by rw [IntKind.wrap_i64]; omega
            have hm20 : (0 : Int) ≤ (m2 : Int) := by omega
            have ho0 : (0 : Int) ≤ (o : Int) := by omega
            have hon : (o : Int) < (n : Int) := by omega
            have hm21 : (m2 : Int) < (m2 : Int) + 1 := by omega
            have hm22 : m2 < m2 + 1 := by omega
            have hcc3 : (m2 : Int) ≤ (c2 : Int) := by omega
            have hcc4 : m2 ≤ c2 := by omega
            have HPo := Lib.hid hpop
            have Hho := Lib.hid ho
            have Hho2 := Lib.hid ho2
            have Hm2 := Lib.hid hm2
            clear hpop ho ho2 hm2 hf01 hv
            by_cases h22 : c = 22
            · subst h22
              have HB := Lib.hid (HM.out.pdi_ HX.out Hho.out)
              have HE := Lib.hid (HPo.out.end_ Hho2.out k)
              go_wp2_with fail
              refine (HMK _).out.mono ?_
              rintro r w2 ⟨rfl, rfl⟩
              go_wp2_with fail
              refine (HBC _).out.mono ?_
              rintro r w3 ⟨rfl, rfl⟩
              go_wp2_with fail
              go_roundw
              case rel => exact ⟨k + 1, _, O, _, rfl, by go_num, by omega, HE.out, HB.out⟩
              case measure => simp [intOf]; omega
            · cases s with
              | false =>
                have HB := Lib.hid (HM.out.same_ HX.out Hb.out h10 h22 Hho.out (.inr ⟨by rw [Hs.out]; simp, rfl⟩))
                have HQ := Lib.hid (show (all.set k (-1, -1)).set o (-1, f) = all.set k (-1, -1) from set_self_at Hho2.out)
                rw [HQ.out] at HB
                go_wp2_with fail
                refine (HMK _).out.mono ?_
                rintro r w2 ⟨rfl, rfl⟩
                go_wp2_with fail
                refine (HBC _).out.mono ?_
                rintro r w3 ⟨rfl, rfl⟩
                go_wp2_with fail
                go_roundw
                case rel => exact ⟨k + 1, _, o :: O, _, rfl, by go_num, by omega, HT.out, HB.out⟩
                case measure => simp [intOf]; omega
              | true =>
                by_cases hf : f = -1
                · subst hf
                  have HB := Lib.hid (HM.out.same_ HX.out Hb.out h10 h22 Hho.out (.inl ⟨Hs.out, rfl, rfl⟩))
                  rw [Ht.out] at HB
                  have HF := Lib.hid (HT.out.first Hho2.out t)
                  go_wp2_with fail
                  refine (HMK _).out.mono ?_
                  rintro r w2 ⟨rfl, rfl⟩
                  go_wp2_with fail
                  refine (HBC _).out.mono ?_
                  rintro r w3 ⟨rfl, rfl⟩
                  go_wp2_with fail
                  go_roundw
                  case rel => exact ⟨k + 1, _, o :: O, _, rfl, by go_num, by omega, HF.out, HB.out⟩
                  case measure => simp [intOf]; omega
                · have HB := Lib.hid (HM.out.same_ HX.out Hb.out h10 h22 Hho.out (.inr ⟨fun q => hf q.2, rfl⟩))
                  have HQ := Lib.hid (show (all.set k (-1, -1)).set o (-1, f) = all.set k (-1, -1) from set_self_at Hho2.out)
                  rw [HQ.out] at HB
                  go_wp2_with fail
                  refine (HMK _).out.mono ?_
                  rintro r w2 ⟨rfl, rfl⟩
                  go_wp2_with fail
                  refine (HBC _).out.mono ?_
                  rintro r w3 ⟨rfl, rfl⟩
                  go_wp2_with fail
                  go_roundw
                  case rel => exact ⟨k + 1, _, o :: O, _, rfl, by go_num, by omega, HT.out, HB.out⟩
                  case measure => simp [intOf]; omega
    · obtain rfl : k = n := by omega
      clear hi hm hn
      go_wp2_with fail
      go_ret
      refine ⟨_, all, rfl, HI2.out.ra, fun i hi => ?_, HI2.out.below⟩
      have q := HM.out
      rw [← HN.out] at q hi
      exact q.end_ i hi
end Go.Proofs.Ytdipaiflfhdpoaa
