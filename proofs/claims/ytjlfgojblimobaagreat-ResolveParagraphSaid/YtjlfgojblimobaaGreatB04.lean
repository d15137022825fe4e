/- The contracts of the document's Base and Paragraph. Conditions: the slices read as lists, within their capacities, at most a thousand long. -/
/- The contract of the document's Paragraph. Conditions: the slices read as lists, within their capacities, at most a thousand long. -/
import Derived.Test.YtjlfgojblimobaaGreatA35
import Derived.Test.YtjlfgojblimobaaGreatB02
import Derived.Test.YtjlfgojblimobaaGreatB03
import Derived.Test.YtjlfgojblimobaaGreatA24
import Derived.Test.YtjlfgojblimobaaGreatA31
import Derived.Test.YtjlfgojblimobaaGreatA30
import Derived.Test.YtjlfgojblimobaaGreatA01
import Derived.Test.YtjlfgojblimobaaGreatA39
import Derived.Test.YtjlfgojblimobaaGreatA37
import Derived.Maps.AppendAt
import Derived.StillTailTactics
import Derived.Deep.RegionHeld3
section
namespace Go.Proofs.YtjlfgojblimobaaGreat
open Go.RowKit
set_option maxRecDepth 100000

set_option maxHeartbeats 1000000 in
theorem refBase_any (A : Option Addr) (ca n : Nat) (l : List Int) (b : Int) (w : World) (hr : RdS .i64 w w.heap.size A l) (hn : l.length = n) (hl : n ≤ 1000) :
    Calls Tryz.prog 13 #[.slice A n ca, .int .i64 b] w fun r w' => r = .returned (.tuple #[.int .i64 (if -1 ≤ b ∧ b ≤ 1 then M.baseI l b else 0), .int .i64 (if -1 ≤ b ∧ b ≤ 1 then 0 else 81)]) ∧ w = w' := by
  have HS := Lib.hid (strong_any A ca n l w hr hn hl)
  clear hr hn
  by_cases h1 : b < -1
  · rw [if_neg (by omega), if_neg (by omega)]
    go_enter Tryz.func13, Tryz.ntmps13
    go_wp2_with fail
    go_returns
    exact ⟨rfl, rfl⟩
  · by_cases h2 : 1 < b
    · rw [if_neg (by omega), if_neg (by omega)]
      go_enter Tryz.func13, Tryz.ntmps13
      go_wp2_with fail
      go_returns
      exact ⟨rfl, rfl⟩
    · rw [if_pos ⟨by omega, by omega⟩, if_pos ⟨by omega, by omega⟩]
      by_cases h3 : b < 0
      · have HB := Lib.hid (show M.baseI l b = M.strong l by unfold M.baseI; rw [if_pos h3])
        go_enter Tryz.func13, Tryz.ntmps13
        go_wp2_with fail
        refine HS.out.mono ?_
        rintro r w1 ⟨rfl, rfl⟩
        go_wp2_with fail
        go_returns
        exact ⟨by rw [HB.out]; rfl, rfl⟩
      · have HB := Lib.hid (show M.baseI l b = b by unfold M.baseI; rw [if_neg h3])
        go_enter Tryz.func13, Tryz.ntmps13
        go_wp2_with fail
        go_returns
        exact ⟨by rw [HB.out]; rfl, rfl⟩
end Go.Proofs.YtjlfgojblimobaaGreat
end

section
namespace Go.Proofs.YtjlfgojblimobaaGreat
open Go.RowKit
set_option maxRecDepth 100000

theorem RdS.kpn {w w' : World} {B G n base : Nat} {t : TypeId} {A : Option Addr} {l : List Int} (h : RdS .i64 w B A l) (ho : w.ownsRow base t 1 (.slice (some ⟨G, 0, none⟩) n n) n ((List.replicate n (-1)).map (Value.int .i64))) (hp : ∀ x ∈ l, 0 ≤ x) (hk : S11.Kp w w' G) (hB : B ≤ w.heap.size) : RdS .i64 w' B A l := fun j x hx => by
  obtain ⟨ad, hA, hb, hc⟩ := h j x hx
  have hne := apart_neg ho hc (by intro e; injection e with _ e; have := hp x (List.mem_of_getElem? hx); omega)
  exact ⟨ad, hA, hb, (World.cell?_of_block (hk.block _ (by rw [addr_block]; omega) hne)).trans hc⟩
theorem RdQ.kpn {w w' : World} {B G n base : Nat} {t : TypeId} {A : Option Addr} {ss : List M.Sq} (h : RdQ w B A ss) (ho : w.ownsRow base t 1 (.slice (some ⟨G, 0, none⟩) n n) n ((List.replicate n (-1)).map (Value.int .i64))) (hp : ∀ s ∈ ss, 0 ≤ s.lv ∧ ∀ p ∈ s.pl, 0 ≤ p) (hk : S11.Kp w w' G) (hB : B ≤ w.heap.size) : RdQ w' B A ss := fun k s hs => by
  obtain ⟨g, Ap, cp, hA, hg, c0, c1, c2, c3, hr, h1, h2, h3⟩ := h k s hs
  have hs' := hp s (List.mem_of_getElem? hs)
  have hne : g ≠ G := apart_neg ho c1 (by intro e; injection e with _ e; omega)
  have hb := hk.block g (by omega) hne
  exact ⟨g, Ap, cp, hA, hg, (World.cell?_of_block (a := ⟨g, k * 4, none⟩) hb).trans c0, (World.cell?_of_block (a := ⟨g, k * 4 + 1, none⟩) hb).trans c1, (World.cell?_of_block (a := ⟨g, k * 4 + 2, none⟩) hb).trans c2, (World.cell?_of_block (a := ⟨g, k * 4 + 3, none⟩) hb).trans c3, hr.kpn ho hs'.2 hk hB, h1, h2, h3⟩
theorem Tryz.infoMark13 : (Tryz.prog.info? 52).map (fun i => (i.zero, i.size, i.bytes)) = some (some (.agg #[.int .i64 0, .int .i64 0]), 2, 16) := by kernel_rfl
theorem apart_grow {W w4 : World} {base k s : Nat} {e : TypeId} {v v4 vm : Value} {xs : List Value} (hm : W.ownsRow base e s vm k xs) (hg : W.grownBy w4 v.ownBlock) (hat : v4.ownBlock = v.ownBlock ∨ v4.ownBlock = some W.heap.size) (hap : ∀ g, v.ownBlock = some g → vm.ownBlock ≠ some g) : w4.ownsRow base e s vm k xs ∧ ∀ g, v4.ownBlock = some g → vm.ownBlock ≠ some g := by
  refine ⟨World.ownsRow.kept hm hg ?_, fun g h4 h5 => ?_⟩
  · cases hv : vm.ownBlock with
    | none => exact .inl rfl
    | some g => exact .inr (fun e => hap g e.symm hv)
  · rcases hat with h | h
    · exact hap g (by rw [← h]; exact h4) h5
    · rw [h] at h4
      have h6 := (World.ownsRow.lt hm g h5).2
      injection h4 with h4
      omega
theorem apart_symm {v u : Value} (h : ∀ g, v.ownBlock = some g → u.ownBlock ≠ some g) : ∀ g, u.ownBlock = some g → v.ownBlock ≠ some g := fun g h1 h2 => h g h2 h1
set_option maxHeartbeats 8000000 in
theorem refPara_ok (A B : Option Addr) (ca cb n m : Nat) (l : List Int) (ms : List (Int × Int)) (b : Int) (w : World) (hr : RdS .i64 w w.heap.size A l) (hr2 : S11.RdT w w.heap.size B ms) (hn : l.length = n) (hm : ms.length = m) (hl : n ≤ 1000) (hl2 : m ≤ 1000) (hca : n ≤ ca) (hb : -1 ≤ b ∧ b ≤ 1) :
    Calls Tryz.prog 11 #[.slice A n ca, .slice B m cb, .int .i64 b] w (LevsOut (-1 ≤ b ∧ b ≤ 1) (M.para l ms (M.baseI l b)) w) := by
  obtain ⟨b0, hb0⟩ : ∃ b0, M.baseI l b = b0 := ⟨_, rfl⟩
  have h01 : b0 = 0 ∨ b0 = 1 := by
    rw [← hb0]
    unfold M.baseI
    split
    · exact M.strong_01 _ _
    · omega
  have HBC := Lib.hid (refBase_any A ca n l b w hr hn hl)
  rw [hb0]
  rw [if_pos hb, if_pos hb, hb0] at HBC
  have HR := Lib.hid hr
  have HR2 := Lib.hid hr2
  have HN := Lib.hid hn
  have HM := Lib.hid hm
  have HBB := Lib.hid hb
  have H01 := Lib.hid h01
  have l1 : (n : Int) ≤ 1000 := by omega
  have l2 : (m : Int) ≤ 1000 := by omega
  obtain ⟨i0, hi, hz0, hz1, hz2⟩ := info_parts S11.Tryz.infoInt2
  obtain ⟨i1, hj, hy0, hy1, hy2⟩ := info_parts Tryz.infoCls13
  obtain ⟨i2, hm2, hm0, hm1, hm3⟩ := info_parts Tryz.infoMark13
  have hmk := run_make (P := Tryz.prog) w 25 3 i0 (.int .i64 0) Tryz.underlying25 hi hz0 .i64 .i64 n n (by omega) (Int.le_refl _) (by rw [hz2]; omega) (by omega)
  rw [Int.toNat_natCast, hz1] at hmk
  obtain ⟨W1, hW1⟩ : ∃ W1, w.alloc (.cells (madeCells (Value.int .i64 0).cells (n * 1)) 3) = W1 := ⟨_, rfl⟩
  have h1 : W1.ownsRow w.heap.size 3 1 (.slice (some ⟨w.heap.size, 0, none⟩) n n) n ((List.replicate 0 (-1) ++ List.replicate (n - 0) (0 : Int)).map (Value.int .i64)) := by
    rw [← hW1, List.replicate_zero, List.nil_append, Nat.sub_zero, ← rep_cells]
    exact World.ownsRow_lit w _ n (Nat.le_refl _) (by unfold maxLen; omega) (by simp [madeCells])
  have hbW : Below w.heap.size w W1 := by rw [← hW1]; exact (Below.refl _ _).alloc (Nat.le_refl _) _
  have hsW : W1.heap.size = w.heap.size + 1 := by rw [← hW1]; exact Array.size_push _
  rw [hW1] at hmk
  have H1 := Lib.hid h1
  have HBW := Lib.hid hbW
  have HSW := Lib.hid hsW
  clear h1 hW1 hbW hz0 hz1 hz2 hr hr2 hn hm hb h01 hb0 hsW
  go_enter Tryz.func11, Tryz.ntmps11
  go_wp2_with fail
  refine HBC.out.mono ?_
  rintro r w1 ⟨rfl, rfl⟩
  go_wp2_with fail
  go_loopw [11] (fun v wr => ∃ i : Nat, v = .int .i64 i ∧ i ≤ n ∧ wr.ownsRow w.heap.size 3 1 (.slice (some ⟨w.heap.size, 0, none⟩) n n) n ((List.replicate i (-1) ++ List.replicate (n - i) (0 : Int)).map (Value.int .i64)) ∧ Below w.heap.size w wr ∧ wr.heap.size = w.heap.size + 1) (fun v _ => n - (intOf v).toNat)
  case atStart => exact ⟨0, rfl, Nat.zero_le _, H1.out, HBW.out, HSW.out⟩
  case round =>
    obtain ⟨i, rfl, hi, ho, hbw, hsz⟩ := hrel
    rename World => wr
    have HB := Lib.hid hbw
    have HO := Lib.hid ho
    have HSZ := Lib.hid hsz
    have i00 : (0 : Int) ≤ i := by omega
    by_cases hlt : i < n
    · have i01 : (i : Int) < n := by omega
      have hOl : (List.replicate i (-1) ++ List.replicate (n - i) (0 : Int)).length = n := by rw [List.length_append, List.length_replicate, List.length_replicate]; omega
      obtain ⟨y, hy⟩ : ∃ y, (List.replicate i (-1) ++ List.replicate (n - i) (0 : Int))[i]? = some y := ⟨_, List.getElem?_eq_getElem (by omega)⟩
      have c1 : wr.cell? ⟨w.heap.size, i, none⟩ = some (.int .i64 y) := by
        rw [World.ownsRow.cellAt ho i (by omega), List.getElem?_map, hy]
        rfl
      have f1 := World.ownsRow.frozenAt ho i
      have ho2 := (World.ownsRow.stored ho i (.int .i64 (-1))).1
      rw [← List.map_set, rep_next _ _ hlt] at ho2
      have HO2 := Lib.hid ho2
      clear ho2 hy hOl ho hbw hsz
      go_wp2_with fail
      go_roundw
      case rel => exact ⟨i + 1, by go_num, by omega, HO2.out, HB.out.setCell (Nat.le_refl _) _, by simp [World.setCell]; exact HSZ.out⟩
      case measure => simp [intOf]; omega
    · obtain rfl : n = i := by omega
      rw [Nat.sub_self, List.replicate_zero, List.append_nil] at ho
      have hnn : ¬ (n : Int) < n := by omega
      have HON := Lib.hid ho
      have HP := Lib.hid (refPrep_any A ca n l b0 wr ((HR.out.below hbw).more hbw.size) HN.out hl hca)
      have hGs : w.heap.size < wr.heap.size := by omega
      clear ho hbw hsz hlt HO hmk hi
      go_wp2_with fail
      refine HP.out.mono ?_
      rintro r w2 ⟨hb2, hok, -⟩
      obtain ⟨A1, c1, A2, c2, rfl, hq, hrc⟩ := hok H01.out
      obtain ⟨ss, hss⟩ : ∃ ss, M.seqs l (M.levs l b0) b0 = ss := ⟨_, rfl⟩
      obtain ⟨K, hK⟩ : ∃ K, ss.length = K := ⟨_, rfl⟩
      obtain ⟨cs, hcs⟩ : ∃ cs, M.clsOf l b0 = cs := ⟨_, rfl⟩
      have hrc' : RdS .i64 w2 w2.heap.size A2 cs := by rw [← hcs]; exact hrc
      rw [hss] at hq
      rw [hss, hK, HN.out]
      have hposq : ∀ s ∈ ss, 0 ≤ s.lv ∧ ∀ p ∈ s.pl, 0 ≤ p := fun s hs => by
        rw [← hss] at hs
        obtain ⟨-, -, h3, -, h5⟩ := M.seqs_fit H01.out hs
        exact ⟨h3.1, fun p hp => by obtain ⟨j, rfl, -⟩ := h5 p hp; omega⟩
      have hposc : ∀ x ∈ cs, 0 ≤ x := by rw [← hcs]; exact M.clsOf_pos
      have hfit : ∀ s ∈ ss, (s.fi = 0 ∨ s.fi = 1) ∧ (s.la = 0 ∨ s.la = 1) ∧ (0 ≤ s.lv ∧ s.lv ≤ 125) ∧ s.pl.length ≤ n ∧ ∀ p ∈ s.pl, ∃ j : Nat, p = j ∧ j < n := fun s hs => by
        rw [← hss] at hs
        have h := M.seqs_fit H01.out hs
        rwa [HN.out] at h
      have hcl : cs.length = n := by rw [← hcs]; unfold M.clsOf; rw [List.length_map, M.run_len, HN.out]
      have HO2 := Lib.hid (own_below HON.out hb2)
      have HB2 := Lib.hid (HB.out.trans (hb2.mono HB.out.size))
      have hGs2 : w.heap.size < w2.heap.size := by have := hb2.size; omega
      have HKEEP := Lib.hid (show ∀ w' : World, S11.Kp w2 w' w.heap.size → RdQ w' w2.heap.size A1 ss ∧ RdS .i64 w' w2.heap.size A2 cs from fun w' hk => ⟨hq.kpn HO2.out hposq hk (Nat.le_refl _), hrc'.kpn HO2.out hposc hk (Nat.le_refl _)⟩)
      have HFIT := Lib.hid hfit
      have HCL := Lib.hid hcl
      have HK := Lib.hid hK
      have HEQ := Lib.hid (And.intro hss hcs)
      have hKn : K ≤ 1000 := by
        have h1 := M.sqs_len l b0 (M.runs (M.levs l b0) b0) (M.runs (M.levs l b0) b0).length
        have h2 := M.runs_len (M.levs l b0) b0
        have h3 : (M.levs l b0).length = n := by rw [M.levs_len, HN.out]
        have h4 : (M.sqs l b0 (M.runs (M.levs l b0) b0) (M.runs (M.levs l b0) b0).length).length = K := by rw [← hK, ← hss]; rfl
        omega
      clear hb2 hok hq hrc hrc' hss hK hcs hposq hposc hfit hcl HP
      go_wp2_with fail
      go_loopw [15] (fun v wr => ∃ i : Nat, v = .int .i64 i ∧ i ≤ K ∧ wr.ownsRow w.heap.size 3 1 (.slice (some ⟨w.heap.size, 0, none⟩) n n) n ((M.paraTo cs ms (ss.take i) (List.replicate n (-1))).map (Value.int .i64)) ∧ S11.Kp w2 wr w.heap.size) (fun v _ => K - (intOf v).toNat)
      case atStart => exact ⟨0, rfl, Nat.zero_le _, HO2.out, S11.Kp.refl _ _⟩
      case round =>
        obtain ⟨i, rfl, hi, ho, hkp⟩ := hrel
        rename World => wr
        have HKP := Lib.hid hkp
        have HO := Lib.hid ho
        have i00 : (0 : Int) ≤ i := by omega
        by_cases hlt : i < K
        · have i01 : (i : Int) < K := by omega
          obtain ⟨s, hs⟩ : ∃ s, ss[i]? = some s := ⟨_, List.getElem?_eq_getElem (by rw [HK.out]; exact hlt)⟩
          obtain ⟨hq, hrc⟩ := HKEEP.out wr hkp
          obtain ⟨g, Ap, cp, hA1, hg, z0, z1, z2, z3, hrp, hpc, -, -⟩ := hq i s hs
          subst hA1
          obtain ⟨P, hP⟩ : ∃ P, s.pl.length = P := ⟨_, rfl⟩
          rw [hP] at z0 hpc
          have HBR := Lib.hid (HB2.out.trans (hkp.below (Nat.le_refl _) (Nat.le_of_lt hGs2)))
          have hkps := hkp.size
          have HQC := Lib.hid (And.intro hrc hrp)
          have HPP := Lib.hid hP
          have HS := Lib.hid hs
          obtain ⟨f1, f2, f3, f4, f5⟩ := HFIT.out s (List.mem_of_getElem? hs)
          rw [hP] at f4
          have HF := Lib.hid (And.intro f1 (And.intro f2 f5))
          clear hkp ho hs hq hrc hrp hP f1 f2 f5
          go_wp2_with fail
          go_loopw [16, 17, 18] (fun vc vm v wr3 => ∃ k : Nat, v = .int .i64 k ∧ k ≤ P ∧ wr3.ownsRow wr.heap.size 39 1 vc k (((M.cameOf cs s).take k).map (Value.int .i64)) ∧ wr3.ownsRow wr.heap.size 52 2 vm k (S11.cells2 ((M.marksOf ms s).take k)) ∧ (∀ g, vc.ownBlock = some g → vm.ownBlock ≠ some g) ∧ Below wr.heap.size wr wr3) (fun _ _ v _ => P - (intOf v).toNat)
          case atStart => exact ⟨0, rfl, Nat.zero_le _, ⟨rfl, .inl ⟨rfl, rfl⟩⟩, ⟨rfl, .inl ⟨rfl, rfl⟩⟩, fun g h => by simp [Value.ownBlock] at h, Below.refl _ _⟩
          case round =>
            obtain ⟨k, rfl, hk, hoc, hom, hap, hb⟩ := hrel
            rename World => wr3
            have HB3 := Lib.hid hb
            obtain ⟨O, hO⟩ : ∃ O, (M.cameOf cs s).take k = O := ⟨_, rfl⟩
            obtain ⟨Om, hOm⟩ : ∃ Om, S11.cells2 ((M.marksOf ms s).take k) = Om := ⟨_, rfl⟩
            rw [hO] at hoc
            rw [hOm] at hom
            have HOE := Lib.hid (And.intro hO hOm)
            have HOC := Lib.hid hoc
            have HOM := Lib.hid hom
            have HAP := Lib.hid hap
            have k00 : (0 : Int) ≤ k := by omega
            have y0 := (hb.cell (p := ⟨g, i * 4, none⟩) (Nat.lt_of_lt_of_le hg hkps)).trans z0
            have hbs := hb.size
            by_cases hkP : k < P
            · have k01 : (k : Int) < P := by omega
              obtain ⟨x, hx⟩ : ∃ x, s.pl[k]? = some x := ⟨_, List.getElem?_eq_getElem (by rw [HPP.out]; exact hkP)⟩
              obtain ⟨q, rfl, hq⟩ := HF.out.2.2 x (List.mem_of_getElem? hx)
              obtain ⟨c, hc⟩ : ∃ c, cs[q]? = some c := ⟨_, List.getElem?_eq_getElem (by rw [HCL.out]; exact hq)⟩
              obtain ⟨adp, hAp, -, y1⟩ := ((HQC.out.2.more hkps).below hb) k _ hx
              obtain ⟨adc, hA2, -, y2⟩ := ((HQC.out.1.more hkps).below hb) q _ hc
              subst hAp hA2
              have q00 : (0 : Int) ≤ q := by omega
              have q01 : (q : Int) < n := by omega
              have HNC := Lib.hid (show O.map (Value.int .i64) ++ [Value.int .i64 c] = ((M.cameOf cs s).take (k + 1)).map (Value.int .i64) from by
                rw [← hO]
                have h1 : (M.cameOf cs s)[k]? = some c := by
                  unfold M.cameOf
                  rw [List.getElem?_map, hx]
                  show some (cs.getD q 0) = some c
                  rw [List.getD_eq_getElem?_getD, hc]
                  rfl
                obtain ⟨hl, e⟩ := List.getElem?_eq_some_iff.1 h1
                rw [List.take_succ_eq_append_getElem hl, List.map_append, e]
                rfl)
              obtain ⟨mk, hmk⟩ : ∃ mk, ms.getD q (0, 0) = mk := ⟨_, rfl⟩
              have HNM := Lib.hid (show Om ++ [Value.int .i64 mk.1, .int .i64 mk.2] = S11.cells2 ((M.marksOf ms s).take (k + 1)) from by
                rw [← hOm]
                have h1 : (M.marksOf ms s)[k]? = some mk := by
                  unfold M.marksOf
                  rw [List.getElem?_map, hx]
                  show some (ms.getD q (0, 0)) = some mk
                  rw [hmk]
                obtain ⟨hl, e⟩ := List.getElem?_eq_some_iff.1 h1
                rw [List.take_succ_eq_append_getElem hl, S11.cells2_snoc, e])
              have HMK := Lib.hid hmk
              clear hoc hom hap hb hx hc hmk hO hOm
              go_wp2_with (at_builtin; refine wpList_append_own_at _ rfl _ _ 22 rfl wr.heap.size 39 i1 (.int .i64 0) 1 8 Tryz.underlying22 hj hy0 hy1 hy2 rfl (by decide) _ _ _ rfl (World.ownsRow.alloc HOC.out _) ⟨wr3.heap.size, 0, none⟩ 1 1 [.int .i64 c] rfl rfl (one_new _ _ _) one_cell (by unfold maxLen; omega) (by omega) (by simp; omega) ?_)
              intro v4 w4 ho4 hg4 _ hat4
              obtain ⟨hom4, hap4⟩ := apart_grow (World.ownsRow.alloc HOM.out _) hg4 (by simpa using hat4) HAP.out
              have hb4 : Below wr.heap.size wr w4 := (HB3.out.alloc hbs _).grown hg4 (by simp; omega) (fun k hk => (World.ownsRow.lt HOC.out k hk).1)
              rw [HNC.out] at ho4
              have HOC4 := Lib.hid ho4
              have HOM4 := Lib.hid hom4
              have HAP4 := Lib.hid hap4
              have HB4 := Lib.hid hb4
              have hbs4 := hb4.size
              have hbw4 : Below w.heap.size w w4 := HBR.out.trans (hb4.mono HBR.out.size)
              clear hom4 hap4 ho4 hg4 hat4 hb4 y0 y1 y2
              by_cases hqm : q < m
              · have q02 : (q : Int) < m := by omega
                obtain ⟨adm, ma, mb, hB, d0, d1, hab, hmb⟩ := S11.two_at HR2.out hbw4 (by rw [HM.out]; exact hqm : q < ms.length)
                have hmke : mk = (ma, mb) := by
                  rw [← HMK.out, List.getD_eq_getElem?_getD, hab]
                  rfl
                subst hB hmke
                have hbws := hbw4.size
                have hmb4 : adm.block < w4.heap.size := by omega
                have hbw5 : Below w4.heap.size w4 (w4.alloc (.cells #[.int .i64 0, .int .i64 0] 52)) := (Below.refl _ _).alloc (Nat.le_refl _) _
                have x0 := (hbw5.cell (p := adm.add (q * 2)) (by rw [addr_block]; exact hmb4)).trans d0
                have x1 := (hbw5.cell (p := ⟨(adm.add (q * 2)).block, (adm.add (q * 2)).off + 1, none⟩) (by show (adm.add (q * 2)).block < _; rw [addr_block]; exact hmb4)).trans d1
                clear hbw4 hab d0 d1 hbw5
                have HNW := Lib.hid (show ∀ j u, [Value.int .i64 ma, .int .i64 mb][j]? = some u → ((w4.alloc (.cells #[.int .i64 ma, .int .i64 mb] 52)).alloc (.cells #[.int .i64 ma, .int .i64 mb] 52)).cell? ((⟨w4.heap.size + 1, 0, none⟩ : Addr).add j) = some u from by
                  have h := S11.two_new (w4.alloc (.cells #[.int .i64 ma, .int .i64 mb] 52)) ma mb 52
                  rwa [show (w4.alloc (.cells #[.int .i64 ma, .int .i64 mb] 52)).heap.size = w4.heap.size + 1 from Array.size_push _] at h)
                go_wp2_with (at_builtin; refine wpList_append_own_at _ rfl _ _ 23 rfl wr.heap.size 52 i2 (.agg #[.int .i64 0, .int .i64 0]) 2 16 Tryz.underlying23 hm2 hm0 hm1 hm3 rfl (by decide) _ _ _ rfl (World.ownsRow.alloc (World.ownsRow.alloc HOM4.out _) _) ⟨w4.heap.size + 1, 0, none⟩ 1 1 [.int .i64 ma, .int .i64 mb] rfl rfl HNW.out S11.two_one (by unfold maxLen; omega) (by omega) (by simp; omega) ?_)
                intro v6 w6 ho6 hg6 _ hat6
                obtain ⟨hoc6, hap6⟩ := apart_grow (World.ownsRow.alloc (World.ownsRow.alloc HOC4.out _) _) hg6 (by simpa using hat6) (apart_symm HAP4.out)
                have HB6 := Lib.hid (show Below wr.heap.size wr w6 from ((HB4.out.alloc hbs4 _).alloc (by simp; omega) _).grown hg6 (by simp; omega) (fun k hk => (World.ownsRow.lt HOM4.out k hk).1))
                have HOM6 := Lib.hid (show w6.ownsRow wr.heap.size 52 2 v6 (k + 1) (S11.cells2 ((M.marksOf ms s).take (k + 1))) from by rw [← HNM.out]; exact ho6)
                have HOC6 := Lib.hid hoc6
                have HAP6 := Lib.hid (apart_symm hap6)
                clear hoc6 hap6 ho6 hg6 hat6
                go_wp2_with fail
                go_roundw
                case rel => exact ⟨k + 1, by go_num, by omega, HOC6.out, HOM6.out, HAP6.out, HB6.out⟩
                case measure => simp [intOf]; omega
              · have q02 : ¬ (q : Int) < m := by omega
                have hmke : mk = (0, 0) := by
                  rw [← HMK.out, List.getD_eq_getElem?_getD, List.getElem?_eq_none (by rw [HM.out]; omega)]
                  rfl
                subst hmke
                clear hbw4
                have HNW := Lib.hid (show ∀ j u, [Value.int .i64 0, .int .i64 0][j]? = some u → ((w4.alloc (.cells #[.int .i64 0, .int .i64 0] 52)).alloc (.cells #[.int .i64 0, .int .i64 0] 52)).cell? ((⟨w4.heap.size + 1, 0, none⟩ : Addr).add j) = some u from by
                  have h := S11.two_new (w4.alloc (.cells #[.int .i64 0, .int .i64 0] 52)) 0 0 52
                  rwa [show (w4.alloc (.cells #[.int .i64 0, .int .i64 0] 52)).heap.size = w4.heap.size + 1 from Array.size_push _] at h)
                go_wp2_with (at_builtin; refine wpList_append_own_at _ rfl _ _ 23 rfl wr.heap.size 52 i2 (.agg #[.int .i64 0, .int .i64 0]) 2 16 Tryz.underlying23 hm2 hm0 hm1 hm3 rfl (by decide) _ _ _ rfl (World.ownsRow.alloc (World.ownsRow.alloc HOM4.out _) _) ⟨w4.heap.size + 1, 0, none⟩ 1 1 [.int .i64 0, .int .i64 0] rfl rfl HNW.out S11.two_one (by unfold maxLen; omega) (by omega) (by simp; omega) ?_)
                intro v6 w6 ho6 hg6 _ hat6
                obtain ⟨hoc6, hap6⟩ := apart_grow (World.ownsRow.alloc (World.ownsRow.alloc HOC4.out _) _) hg6 (by simpa using hat6) (apart_symm HAP4.out)
                have HB6 := Lib.hid (show Below wr.heap.size wr w6 from ((HB4.out.alloc hbs4 _).alloc (by simp; omega) _).grown hg6 (by simp; omega) (fun k hk => (World.ownsRow.lt HOM4.out k hk).1))
                have HOM6 := Lib.hid (show w6.ownsRow wr.heap.size 52 2 v6 (k + 1) (S11.cells2 ((M.marksOf ms s).take (k + 1))) from by rw [← HNM.out]; exact ho6)
                have HOC6 := Lib.hid hoc6
                have HAP6 := Lib.hid (apart_symm hap6)
                clear hoc6 hap6 ho6 hg6 hat6
                go_wp2_with fail
                go_roundw
                case rel => exact ⟨k + 1, by go_num, by omega, HOC6.out, HOM6.out, HAP6.out, HB6.out⟩
                case measure => simp [intOf]; omega
            · obtain rfl : P = k := by omega
              have kPP : ¬ (P : Int) < P := by omega
              have hcl2 : (M.cameOf cs s).length = P := by rw [M.cameOf_len, HPP.out]
              have hml2 : (M.marksOf ms s).length = P := by rw [M.marksOf_len, HPP.out]
              rw [List.take_of_length_le (by omega)] at hO hOm
              subst hO hOm
              rw [← hcl2] at hoc
              rw [← hml2] at hom
              obtain ⟨AC, cC, rfl, hrC, -, -, -⟩ := reads_own hoc
              obtain ⟨AM, cM, rfl, hrM, -, -, -⟩ := S11.OwnT.shape (l := M.marksOf ms s) hom
              rw [hcl2, hml2]
              have hP1 : P ≤ 1000 := by omega
              have HRC := Lib.hid hrC
              have HRM := Lib.hid hrM
              have HL := Lib.hid (And.intro hcl2 hml2)
              have HC1 := Lib.hid (S10.refAll_any AC cC P s.fi (M.cameOf cs s) wr3 hrC hcl2 hP1)
              have y1 := (hb.cell (p := ⟨g, i * 4 + 1, none⟩) (Nat.lt_of_lt_of_le hg hkps)).trans z1
              have y2 := (hb.cell (p := ⟨g, i * 4 + 2, none⟩) (Nat.lt_of_lt_of_le hg hkps)).trans z2
              have y3 := (hb.cell (p := ⟨g, i * 4 + 3, none⟩) (Nat.lt_of_lt_of_le hg hkps)).trans z3
              have hgr : g < wr.heap.size := Nat.lt_of_lt_of_le hg hkps
              clear hoc hom hap hb hrC hrM hcl2 hml2 HOC HOM HAP HOE
              go_wp2_with fail
              refine HC1.out.mono ?_
              rintro r w4 ⟨hb4, hok, -⟩
              obtain ⟨vx, rfl, hox⟩ := hok HF.out.1
              obtain ⟨AX, cX, rfl, hrX, -, -, hnX⟩ := reads_own hox
              have hxl : (S10.M.wall s.fi (M.cameOf cs s)).length = P := by rw [S10.M.wall_len, HL.out.1]
              rw [hxl]
              have hbx : Below wr.heap.size wr w4 := HB3.out.trans (hb4.mono hbs)
              have u0 := (hbx.cell (p := ⟨g, i * 4, none⟩) hgr).trans z0
              have u1 := (hbx.cell (p := ⟨g, i * 4 + 1, none⟩) hgr).trans z1
              have u2 := (hbx.cell (p := ⟨g, i * 4 + 2, none⟩) hgr).trans z2
              have u3 := (hbx.cell (p := ⟨g, i * 4 + 3, none⟩) hgr).trans z3
              have HC2 := Lib.hid (fun (W : World) (hb : Below w4.heap.size w4 W) => S11.refRes_any AC AX AM cC cX cM P P P (M.cameOf cs s) (S10.M.wall s.fi (M.cameOf cs s)) (M.marksOf ms s) s.lv s.fi W ((HRC.out.below (hb4.trans (hb.mono hb4.size))).more (Nat.le_trans hb4.size hb.size)) ((hrX.below hb).more hb.size) ((HRM.out.below (hb4.trans (hb.mono hb4.size))).more (Nat.le_trans hb4.size hb.size)) HL.out.1 hxl HL.out.2 hP1 hP1 hP1 hnX)
              have HX := Lib.hid hxl
              have HBX := Lib.hid hbx
              have hbxs := hbx.size
              clear hb4 hok hox hrX hxl hbx y0 y1 y2 y3 hnX
              go_wp2_with fail
              have hbx4 : Below wr.heap.size wr w4.drew := HBX.out.drew
              have HBX4 := Lib.hid hbx4
              have HOK := Lib.hid (show S11.M.resOk (M.cameOf cs s) (S10.M.wall s.fi (M.cameOf cs s)) s.lv s.fi from ⟨by rw [HL.out.1, HX.out], f3.1, HF.out.1⟩)
              clear hbx4
              go_region_held3 (fun w' => w'.cell? ⟨g, i * 4 + 1, none⟩ = some (.int .i64 s.lv) ∧ w'.cell? ⟨g, i * 4 + 2, none⟩ = some (.int .i64 s.fi))
                (first | go_keep | exact ⟨y1, y2⟩)
                (first
                  | (go_at_call 25; (refine (HC2.out _ (by exact (Below.refl _ _).drew)).mono ?_); rintro r w5 ⟨hb5, hok, -⟩; obtain ⟨vy, rfl, hoy⟩ := hok HOK.out; obtain ⟨AY, cY, rfl, hrY, -, -, -⟩ := reads_own hoy; have hyl : (S11.M.res (M.cameOf cs s) (S10.M.wall s.fi (M.cameOf cs s)) (M.marksOf ms s) s.lv s.fi).length = P := (by rw [S11.M.res_len, S10.M.wall_len, HL.out.1]); rw [hyl]; have hby : Below wr.heap.size wr w5 := HBX4.out.trans (hb5.mono hbxs); have y0 := (hby.cell (p := ⟨g, i * 4, none⟩) hgr).trans z0; have y1 := (hby.cell (p := ⟨g, i * 4 + 1, none⟩) hgr).trans z1; have y2 := (hby.cell (p := ⟨g, i * 4 + 2, none⟩) hgr).trans z2; have y3 := (hby.cell (p := ⟨g, i * 4 + 3, none⟩) hgr).trans z3; have HC3 := Lib.hid (fun (W : World) (hb : Below w5.heap.size w5 W) => S12.refSettle_any AY cY P (S11.M.res (M.cameOf cs s) (S10.M.wall s.fi (M.cameOf cs s)) (M.marksOf ms s) s.lv s.fi) s.lv s.fi s.la W ((hrY.below hb).more hb.size) hyl hP1); have HY := Lib.hid hyl; have HBY := Lib.hid hby; have hbys := hby.size; clear hb5 hok hoy hrY hyl hby))
              clear u0 u1 u2 u3
              go_wp2_with fail
              have hby4 : Below wr.heap.size wr w5.drew := HBY.out.drew
              have HBY4 := Lib.hid hby4
              have HOK3 := Lib.hid (show S12.M.setOk s.lv s.fi s.la from ⟨f3, HF.out.1, HF.out.2.1⟩)
              obtain ⟨Z, hZ⟩ : ∃ Z, S12.M.settle s.lv s.fi s.la (S11.M.res (M.cameOf cs s) (S10.M.wall s.fi (M.cameOf cs s)) (M.marksOf ms s) s.lv s.fi) = Z := ⟨_, rfl⟩
              have hzl : Z.length = P := by rw [← hZ, S12.M.settle_len, HY.out]
              rw [hZ] at HC3
              have HZ := Lib.hid hZ
              have HZL := Lib.hid hzl
              clear hby4 hZ hzl
              go_region_held3 (fun w' => w'.cell? ⟨g, i * 4 + 1, none⟩ = some (.int .i64 s.lv) ∧ w'.cell? ⟨g, i * 4 + 2, none⟩ = some (.int .i64 s.fi) ∧ w'.cell? ⟨g, i * 4 + 3, none⟩ = some (.int .i64 s.la))
                (first | go_keep | exact ⟨x1, x2, x3⟩)
                (first
                  | (go_at_call 26; (refine (HC3.out _ (by exact (Below.refl _ _).drew)).mono ?_); rintro r w6 ⟨hb6, hok, -⟩; obtain ⟨vz, rfl, hoz⟩ := hok HOK3.out; obtain ⟨AZ, cZ, rfl, hrZ, -, -, -⟩ := reads_own hoz; rw [HZL.out]; have hbz : Below wr.heap.size wr w6 := HBY4.out.trans (hb6.mono hbys); have x0 := (hbz.cell (p := ⟨g, i * 4, none⟩) hgr).trans z0; have x1 := (hbz.cell (p := ⟨g, i * 4 + 1, none⟩) hgr).trans z1; have x2 := (hbz.cell (p := ⟨g, i * 4 + 2, none⟩) hgr).trans z2; have x3 := (hbz.cell (p := ⟨g, i * 4 + 3, none⟩) hgr).trans z3; have HC4 := Lib.hid (fun (W : World) (hb : Below w6.heap.size w6 W) => S12.refRaise_any AZ cZ P Z s.lv W ((hrZ.below hb).more hb.size) HZL.out hP1); have HBZ := Lib.hid hbz; have hbzs := hbz.size; clear hb6 hok hoz hrZ hbz))
              clear y0 y1 y2 y3
              go_wp2_with fail
              refine (HC4.out _ (Below.refl _ _)).mono ?_
              rintro r w7 ⟨hb7, hok, -⟩
              obtain ⟨vn, rfl, hon⟩ := hok f3
              obtain ⟨N, hN⟩ : ∃ N, M.seqN cs ms s = N := ⟨_, rfl⟩
              have hN2 : S12.M.raise s.lv Z = N := by rw [← hN, ← HZ.out]; rfl
              rw [hN2] at hon
              have hNl : N.length = P := by rw [← hN, M.seqN_len, HPP.out]
              obtain ⟨AN, cN, rfl, hrN, -, -, -⟩ := reads_own hon
              have hneN : ∀ ad, AN = some ad → ad.block ≠ w.heap.size := fun ad e => by
                have h1 := (World.ownsRow.lt hon ad.block (by rw [e]; rfl)).1
                omega
              have hbw7 : Below wr.heap.size wr w7 := HBZ.out.trans (hb7.mono hbzs)
              have hkp7 : S11.Kp w2 w7 w.heap.size := HKP.out.on hbw7
              have HNE := Lib.hid hneN
              have HRN := Lib.hid hrN
              have HNL := Lib.hid hNl
              have HNN := Lib.hid hN
              have HO7 := Lib.hid (own_below HO.out hbw7)
              have HKP7 := Lib.hid hkp7
              rw [hNl]
              clear hb7 hok hon hN hN2 hNl hrN hneN hbw7 hkp7 x0 x1 x2 x3
              go_wp2_with fail
              go_loopw [29] (fun v wr8 => ∃ k : Nat, v = .int .i64 k ∧ k ≤ P ∧ wr8.ownsRow w.heap.size 3 1 (.slice (some ⟨w.heap.size, 0, none⟩) n n) n ((M.put (M.paraTo cs ms (ss.take i) (List.replicate n (-1))) (s.pl.take k) (N.take k)).map (Value.int .i64)) ∧ S11.Kp w2 wr8 w.heap.size ∧ S11.Kp w7 wr8 w.heap.size) (fun v _ => P - (intOf v).toNat)
              case atStart => exact ⟨0, rfl, Nat.zero_le _, by rw [List.take_zero]; exact HO7.out, HKP7.out, S11.Kp.refl _ _⟩
              case round =>
                obtain ⟨k, rfl, hk, ho8, hk2, hk7⟩ := hrel
                rename World => wr8
                have HK2 := Lib.hid hk2
                have HK7 := Lib.hid hk7
                have HO8 := Lib.hid ho8
                have k00 : (0 : Int) ≤ k := by omega
                by_cases hkP : k < P
                · have k01 : (k : Int) < P := by omega
                  obtain ⟨g', Ap', cp', hA', hg', z0', -, -, -, hrp', hpc', -, -⟩ := (HKEEP.out wr8 hk2).1 i s HS.out
                  injection hA' with hA'
                  injection hA' with hA'
                  subst hA'
                  rw [HPP.out] at z0' hpc'
                  obtain ⟨x, hx⟩ : ∃ x, s.pl[k]? = some x := ⟨_, List.getElem?_eq_getElem (by rw [HPP.out]; exact hkP)⟩
                  obtain ⟨q, rfl, hq⟩ := HF.out.2.2 x (List.mem_of_getElem? hx)
                  obtain ⟨adp, hAp, -, t1⟩ := hrp' k _ hx
                  subst hAp
                  obtain ⟨nx, hnx⟩ : ∃ nx, N[k]? = some nx := ⟨_, List.getElem?_eq_getElem (by rw [HNL.out]; exact hkP)⟩
                  obtain ⟨adn, hAN, hbn, t2⟩ := HRN.out k _ hnx
                  have t3 : wr8.cell? (adn.add k) = some (.int .i64 nx) := (World.cell?_of_block (hk7.block _ (by rw [addr_block]; exact hbn) (by rw [addr_block]; exact HNE.out adn hAN))).trans t2
                  subst hAN
                  have q00 : (0 : Int) ≤ q := by omega
                  have q01 : (q : Int) < n := by omega
                  obtain ⟨Y, hY⟩ : ∃ Y, M.put (M.paraTo cs ms (ss.take i) (List.replicate n (-1))) (s.pl.take k) (N.take k) = Y := ⟨_, rfl⟩
                  have hYl : Y.length = n := by rw [← hY, M.put_len, M.paraTo_len, List.length_replicate]
                  have hnext := M.put_next (out := M.paraTo cs ms (ss.take i) (List.replicate n (-1))) hx hnx
                  rw [hY, Int.toNat_natCast] at hnext
                  rw [hY] at ho8
                  obtain ⟨y, hy⟩ : ∃ y, Y[q]? = some y := ⟨_, List.getElem?_eq_getElem (by omega)⟩
                  have e1 : wr8.cell? ⟨w.heap.size, q, none⟩ = some (.int .i64 y) := by
                    rw [World.ownsRow.cellAt ho8 q (by omega), List.getElem?_map, hy]
                    rfl
                  have e2 := World.ownsRow.frozenAt ho8 q
                  have ho9 := (World.ownsRow.stored ho8 q (.int .i64 nx)).1
                  rw [← List.map_set, ← hnext] at ho9
                  have HO9 := Lib.hid ho9
                  have HKA := Lib.hid (hk2.turn ((S11.Turned.refl wr8 w.heap.size).setCell q (.int .i64 nx)))
                  have HKB := Lib.hid (hk7.turn ((S11.Turned.refl wr8 w.heap.size).setCell q (.int .i64 nx)))
                  clear ho8 hk2 hk7 hx hnx t2 hY hYl hnext hy ho9 hrp' HO8
                  have pd0 : decide ((q : Int) < 0) = false := by rw [decide_eq_false_iff_not]; omega
                  have pd1 : decide ((n : Int) ≤ q) = false := by rw [decide_eq_false_iff_not]; omega
                  have pd2 : decide (n ≤ q) = false := by rw [decide_eq_false_iff_not]; omega
                  go_wp2_with fail
                  go_still_tail 14, (by kernel_rfl)
                  change wpList _ _ _ _ _ wr8.drew
                  go_wp2_with fail
                  go_roundw
                  case rel => exact ⟨k + 1, by go_num, by omega, HO9.out, ⟨HKA.out.os, HKA.out.tape, HKA.out.output, HKA.out.size, HKA.out.block⟩, ⟨HKB.out.os, HKB.out.tape, HKB.out.output, HKB.out.size, HKB.out.block⟩⟩
                  case measure => simp [intOf]; omega
                · obtain rfl : P = k := by omega
                  have kPP : ¬ (P : Int) < P := by omega
                  have HNX := Lib.hid (show wr8.ownsRow w.heap.size 3 1 (.slice (some ⟨w.heap.size, 0, none⟩) n n) n ((M.paraTo cs ms (ss.take (i + 1)) (List.replicate n (-1))).map (Value.int .i64)) from by
                    rw [M.paraTo_next HS.out, HNN.out]
                    have h := ho8
                    rwa [List.take_of_length_le (l := s.pl) (by rw [HPP.out]; exact Nat.le_refl _), List.take_of_length_le (l := N) (by rw [HNL.out]; exact Nat.le_refl _)] at h)
                  clear ho8 hk2 hk7
                  go_wp2_with fail
                  go_roundw
                  case rel => exact ⟨i + 1, by go_num, by omega, HNX.out, HK2.out⟩
                  case measure => simp [intOf]; omega
        · obtain rfl : K = i := by omega
          have kKK : ¬ (K : Int) < K := by omega
          have HNX := Lib.hid (show wr.ownsRow w.heap.size 3 1 (.slice (some ⟨w.heap.size, 0, none⟩) n n) n ((M.para l ms b0).map (Value.int .i64)) from by
            have h := ho
            rw [List.take_of_length_le (l := ss) (by rw [HK.out]; exact Nat.le_refl _), ← HEQ.out.1, ← HEQ.out.2] at h
            unfold M.para
            rw [HN.out]
            exact h)
          have HBR := Lib.hid (HB2.out.trans (hkp.below (Nat.le_refl _) (Nat.le_of_lt hGs2)))
          clear ho hkp
          go_wp2_with fail
          go_returns
          have h := HNX.out
          have hpl : (M.para l ms b0).length = n := by rw [M.para_len, HN.out]
          rw [← hpl] at h
          obtain ⟨AO, cO, e, hrO, hcO, -, -⟩ := reads_own h
          rw [hpl] at e hcO
          exact ⟨HBR.out, fun _ => ⟨AO, cO, by rw [hpl]; exact congrArg (fun v => Ending.returned (.tuple #[v, .int .i64 0])) e, hrO, by rw [hpl]; exact hcO⟩, fun hh => absurd HBB.out hh⟩
theorem refPara_any (A B : Option Addr) (ca cb n m : Nat) (l : List Int) (ms : List (Int × Int)) (b : Int) (w : World) (hr : RdS .i64 w w.heap.size A l) (hr2 : S11.RdT w w.heap.size B ms) (hn : l.length = n) (hm : ms.length = m) (hl : n ≤ 1000) (hl2 : m ≤ 1000) (hca : n ≤ ca) :
    Calls Tryz.prog 11 #[.slice A n ca, .slice B m cb, .int .i64 b] w (LevsOut (-1 ≤ b ∧ b ≤ 1) (M.para l ms (M.baseI l b)) w) := by
  by_cases h : -1 ≤ b ∧ b ≤ 1
  · exact refPara_ok A B ca cb n m l ms b w hr hr2 hn hm hl hl2 hca h
  · have HBC := Lib.hid (refBase_any A ca n l b w hr hn hl)
    rw [if_neg h, if_neg h] at HBC
    have HB := Lib.hid h
    clear h hr hr2
    go_enter Tryz.func11, Tryz.ntmps11
    go_wp2_with fail
    refine HBC.out.mono ?_
    rintro r w1 ⟨rfl, rfl⟩
    go_wp2_with fail
    go_returns
    exact ⟨Below.refl _ _, fun h => absurd h HB.out, fun _ => rfl⟩
end Go.Proofs.YtjlfgojblimobaaGreat
end
