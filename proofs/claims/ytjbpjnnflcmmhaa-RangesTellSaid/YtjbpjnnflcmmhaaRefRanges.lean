/- The document's own shortest list, as its function Ranges gives it, over the translation. Conditions: the slices read as lists of entries, and of strings; all values are names, and ends are no scalars beyond the greatest. -/
import Derived.Test.YtjbpjnnflcmmhaaRefTab
import Derived.Deep.RegionHeld3
import Derived.Deep.AppendLies
namespace Go.Proofs.Ytjbpjnnflcmmhaa
open Go.RowKit

theorem M.idxI_eq {ns : List ByteArray} {s : ByteArray} (h : (M.idx ns s).isSome = true) : M.idxI ns s = M.idx0 ns s := by
  unfold M.idxI M.idx0
  cases hx : M.idx ns s with
  | none => rw [hx] at h; cases h
  | some i => rfl

set_option maxRecDepth 100000 in
set_option maxHeartbeats 8000000 in
theorem refRanges_any (A B : Option Addr) (ca cb : Nat) (l : List M.E) (ns : List ByteArray) (w : World) (hr : RdE w w.heap.size A l) (hn : RdN w w.heap.size B ns) (hm : l.length ≤ 600) (hmn : ns.length ≤ maxLen) (hl : M.Low l) (hv : ∀ e ∈ l, (M.idx ns e.v).isSome = true) :
    Calls Try.prog 16 #[.slice A l.length ca, .slice B ns.length cb] w fun r w' => (∃ v, r = .returned v ∧ OwnE w' w.heap.size v (M.short ns l)) ∧ Below w.heap.size w w' := by
  obtain ⟨i0, hi, hz0, hz1, hz2⟩ := info_parts Try.infoEntry
  have HR := Lib.hid hr
  have HN := Lib.hid hn
  have HL := Lib.hid hl
  have HV := Lib.hid hv
  have HMN := Lib.hid hmn
  clear hr hn hl hv hmn
  go_enter Try.func16, Try.ntmps16
  go_wp2
  go_loopw [5, 6] (fun v i wr => ∃ (k : Nat) (told : List M.E), k ≤ l.length ∧ i = .int .i64 k ∧ told = M.short ns (l.take k) ∧ told.length ≤ k ∧ M.Low told ∧ OwnE wr w.heap.size v told ∧ Below w.heap.size w wr) (fun _ i _ => l.length - (intOf i).toNat)
  case atStart => exact ⟨0, [], Nat.zero_le _, rfl, rfl, Nat.le_refl _, (fun e he => by cases he), ⟨rfl, .inl ⟨rfl, rfl⟩⟩, Below.refl _ _⟩
  case round =>
    obtain ⟨k, told, hk, rfl, htold, htl, hlow, hown, hb⟩ := hrel
    have HT := Lib.hid htold
    have HLOW := Lib.hid hlow
    have HO := Lib.hid hown
    have HB := Lib.hid hb
    have hbs := hb.size
    clear htold hlow hown hb
    by_cases hlt : k < l.length
    · obtain ⟨e, he⟩ : ∃ e, l[k]? = some e := ⟨_, List.getElem?_eq_getElem hlt⟩
      have hel := HL.out e (List.mem_of_getElem? he)
      obtain ⟨ad, rfl, hab, c0, c1, c2, c3⟩ := HR.out.below HB.out k e he
      have hk1 : (0 : Int) ≤ (k : Int) := by omega
      have hk2 : (k : Int) < (l.length : Int) := by omega
      have HS := Lib.hid ((M.short_take (ns := ns) he).trans (by rw [← HT.out]))
      obtain ⟨x, hx⟩ : ∃ x, M.idxI ns e.v = x := ⟨_, rfl⟩
      have HXI := Lib.hid hx
      have HX := Lib.hid ((M.idxI_eq (HV.out e (List.mem_of_getElem? he))).symm.trans hx)
      have HPL := Lib.hid (refPlace_any B cb ns e.v wr ((HN.out.below HB.out).more hbs) HMN.out)
      have HE := Lib.hid he
      clear he hx c3
      by_cases hx0 : x = 0
      · subst hx0
        have HN2 := Lib.hid (show told = M.short ns (l.take (k + 1)) by rw [HS.out, M.step_skip HX.out])
        obtain ⟨A2, c2', rfl, _⟩ := reads_own HO.out
        go_wp2_with fail
        refine HPL.out.mono ?_
        rintro r w2 ⟨rfl, rfl⟩
        rw [HXI.out]
        go_wp2
        go_roundw
        case rel => exact ⟨k + 1, told, by omega, by go_num, HN2.out, by omega, HLOW.out, HO.out, HB.out⟩
        case measure => simp [intOf]; omega
      · have hxb : (x == 0) = false := by rw [beq_eq_false_iff_ne]; exact hx0
        have HX0 := Lib.hid (show M.idx0 ns e.v ≠ 0 by rw [HX.out]; exact hx0)
        clear hx0
        rcases List.eq_nil_or_concat told with h0 | ⟨init, f, h0⟩
        · subst h0
          obtain ⟨A2, c2', rfl, _⟩ := reads_own HO.out
          have HN2 := Lib.hid (show [] ++ [M.bare e] = M.short ns (l.take (k + 1)) by rw [HS.out, M.step_first HX0.out]; rfl)
          have HLN := Lib.hid (show M.Low ([] ++ [M.bare e]) by rw [HN2.out, HS.out]; exact M.step_low HLOW.out hel)
          go_wp2_with fail
          refine HPL.out.mono ?_
          rintro r w2 ⟨rfl, rfl⟩
          rw [HXI.out]
          go_wp2
          go_big_quiet (fail)
          obtain ⟨V, hV⟩ : ∃ V, wr.drewN nq = V := ⟨_, rfl⟩
          have hbV : Below wr.heap.size wr V := by rw [← hV]; exact below_drewN (Below.refl _ _) nq
          have HBV := Lib.hid (HB.out.trans (hbV.mono hbs))
          have HOV := Lib.hid (HO.out.below hbV)
          have hsV : w.heap.size ≤ V.heap.size := HBV.out.size
          have habV : ad.block < V.heap.size := Nat.lt_of_lt_of_le hab hsV
          have hne := fun (hh : some ad.block = Value.ownBlock _) => (show False by have := (World.ownsRow.lt HOV.out _ hh.symm).1; omega)
          have v0 := (hbV.cell (by have := World.block_lt_of_cell? wr _ c0; exact this)).trans c0
          have v1 := (hbV.cell (by have := World.block_lt_of_cell? wr _ c1; exact this)).trans c1
          have v2 := (hbV.cell (by have := World.block_lt_of_cell? wr _ c2; exact this)).trans c2
          rw [hV]
          clear hbV hV c0 c1 c2
          go_wp2
          go_region_held3 (fun w' => w'.cell? (ad.add (k * 4)) = some (.int .i64 e.a) ∧ w'.cell? ⟨(ad.add (k * 4)).block, (ad.add (k * 4)).off + 1, none⟩ = some (.int .i64 e.b) ∧ w'.cell? ⟨(ad.add (k * 4)).block, (ad.add (k * 4)).off + 2, none⟩ = some (.string e.v))
            (first | go_keep | (refine ⟨?_, ?_, ?_⟩ <;> (rw [hgrow3.cell_far _ (by simp [addr_block] <;> omega) (by simpa only [addr_block] using hne)]; first | assumption | simp [*])))
            ((refine step_append_lies _ (by rfl) _ _ _ (by rfl) w.heap.size 36 i0 _ 4 48 Try.underlying22 hi hz0 hz1 hz2 rfl (by omega) _ _ _ (by rfl) ((World.ownsRow.alloc HOV.out _).drew) ⟨V.heap.size, 0, none⟩ 1 1 (M.bare e).cells (by rfl) (by rfl) (news_cells V (M.bare e) _) (news_one (M.bare e)) (by omega) (by unfold maxLen; simp) (by simp) (by simp; omega) (V.heap.size + 1) (by simp) ?_; intro gg cap w3 hown3 hgrow3 hat hlt))
          have HO3 := Lib.hid (show OwnE w3 w.heap.size (.slice (some ⟨gg, 0, none⟩) _ cap) ([] ++ [M.bare e]) from OwnE.snoc (l := []) hown3)
          have HB3 := Lib.hid (((HBV.out.alloc hsV _).drew).grown hgrow3 (by simp; omega) (fun j hj => (World.ownsRow.lt HOV.out j hj).1))
          clear hown3 hgrow3 hat hlt
          go_wp2
          go_roundw
          case rel => exact ⟨k + 1, _, by omega, by go_num, HN2.out, by simp, HLN.out, HO3.out, HB3.out⟩
          case measure => simp [intOf]; omega
        · rw [List.concat_eq_append] at h0
          subst h0
          obtain ⟨m, hm0⟩ : ∃ m, init.length = m := ⟨_, rfl⟩
          have hmk : m + 1 ≤ k := by rw [List.length_append, hm0] at htl; simpa using htl
          obtain ⟨g, cap, rfl⟩ : ∃ g cap, _ = Value.slice (some ⟨g, 0, none⟩) (m + 1) cap := ownsRow_succ (by have := HO.out; unfold OwnE at this; rw [List.length_append, hm0] at this; exact this)
          obtain ⟨q1, q2, q3, q4, q5⟩ := OwnE.last (l := init) (f := f) (by rw [hm0]; exact HO.out)
          have hfl := HLOW.out f (by simp)
          rw [hm0] at q1 q2 q3
          have HM0 := Lib.hid hm0
          have hi1 : (0 : Int) ≤ (m : Int) := by omega
          have hi2 : (m : Int) < (m : Int) + 1 := by omega
          have hi3 : m < m + 1 := by omega
          clear hm0 htl
          by_cases hx1 : f.b + 1 = e.a
          · have hxe : (f.b + 1 == e.a) = true := by rw [beq_iff_eq]; exact hx1
            by_cases hx2 : f.v = e.v
            · have hve : (f.v.toList == e.v.toList) = true := by rw [beq_iff_eq, str_eq]; exact hx2
              have hve2 : f.v.toList = e.v.toList := by rw [str_eq]; exact hx2
              have HN2 := Lib.hid (show init ++ [M.ext f e] = M.short ns (l.take (k + 1)) by rw [HS.out, M.step_ext HX0.out hx1 hx2])
              have HLN := Lib.hid (show M.Low (init ++ [M.ext f e]) by rw [HN2.out, HS.out]; exact M.step_low HLOW.out hel)
              clear hx1 hx2
              go_wp2_with fail
              refine HPL.out.mono ?_
              rintro r w2 ⟨rfl, rfl⟩
              rw [HXI.out]
              go_wp2
              go_big_quiet (fail)
              have HSET := Lib.hid (show OwnE ((wr.drewN nq).setCell ⟨g, m * 4 + 1, none⟩ (.int .i64 e.b)) w.heap.size (.slice (some ⟨g, 0, none⟩) (m + 1) cap) (init ++ [M.ext f e]) by
                have := OwnE.setTo (w := wr.drewN nq) (base := w.heap.size) (g := g) (cap := cap) (l := init) (f := f) e (by rw [HM0.out]; exact HO.out.below (below_drewN (Below.refl _ _) nq))
                rw [HM0.out] at this
                exact this)
              have HBS := Lib.hid ((below_drewN HB.out nq).setCell (p := ⟨g, m * 4 + 1, none⟩) q4 (.int .i64 e.b))
              go_wp2
              go_roundw
              case rel => exact ⟨k + 1, _, by omega, by go_num, HN2.out, by rw [List.length_append, HM0.out]; simp; omega, HLN.out, HSET.out, HBS.out⟩
              case measure => simp [intOf]; omega
            · have hve : (f.v.toList == e.v.toList) = false := by rw [beq_eq_false_iff_ne, ne_eq, str_eq]; exact hx2
              have hve2 : ¬ f.v.toList = e.v.toList := by rw [str_eq]; exact hx2
              have HNX := Lib.hid (show ¬ (f.b + 1 = e.a ∧ f.v = e.v) from fun h => hx2 h.2)
              clear hx1 hx2
              have HN2 := Lib.hid (show init ++ [f] ++ [M.bare e] = M.short ns (l.take (k + 1)) by rw [HS.out, M.step_more HX0.out (fun h => HNX.out h)])
              have HLN := Lib.hid (show M.Low (init ++ [f] ++ [M.bare e]) by rw [HN2.out, HS.out]; exact M.step_low HLOW.out hel)
              go_wp2_with fail
              refine HPL.out.mono ?_
              rintro r w2 ⟨rfl, rfl⟩
              rw [HXI.out]
              go_wp2
              go_big_quiet (fail)
              obtain ⟨V, hV⟩ : ∃ V, wr.drewN nq = V := ⟨_, rfl⟩
              have hbV : Below wr.heap.size wr V := by rw [← hV]; exact below_drewN (Below.refl _ _) nq
              have HBV := Lib.hid (HB.out.trans (hbV.mono hbs))
              have HOV := Lib.hid ((show V.ownsRow w.heap.size 36 4 (.slice (some ⟨g, 0, none⟩) (m + 1) cap) (m + 1) (cellsE (init ++ [f])) by have := HO.out.below hbV; unfold OwnE at this; rw [List.length_append, HM0.out] at this; exact this))
              have hsV : w.heap.size ≤ V.heap.size := HBV.out.size
              have habV : ad.block < V.heap.size := Nat.lt_of_lt_of_le hab hsV
              have hne := fun (hh : some ad.block = Value.ownBlock _) => (show False by have := (World.ownsRow.lt HOV.out _ hh.symm).1; omega)
              have v0 := (hbV.cell (by have := World.block_lt_of_cell? wr _ c0; exact this)).trans c0
              have v1 := (hbV.cell (by have := World.block_lt_of_cell? wr _ c1; exact this)).trans c1
              have v2 := (hbV.cell (by have := World.block_lt_of_cell? wr _ c2; exact this)).trans c2
              rw [hV]
              clear hbV hV c0 c1 c2
              go_wp2
              go_region_held3 (fun w' => w'.cell? (ad.add (k * 4)) = some (.int .i64 e.a) ∧ w'.cell? ⟨(ad.add (k * 4)).block, (ad.add (k * 4)).off + 1, none⟩ = some (.int .i64 e.b) ∧ w'.cell? ⟨(ad.add (k * 4)).block, (ad.add (k * 4)).off + 2, none⟩ = some (.string e.v))
                (first | go_keep | (refine ⟨?_, ?_, ?_⟩ <;> (rw [hgrow3.cell_far _ (by simp [addr_block] <;> omega) (by simpa only [addr_block] using hne)]; first | assumption | simp [*])))
                ((refine step_append_lies _ (by rfl) _ _ _ (by rfl) w.heap.size 36 i0 _ 4 48 Try.underlying22 hi hz0 hz1 hz2 rfl (by omega) _ _ _ (by rfl) ((World.ownsRow.alloc HOV.out _).drew) ⟨V.heap.size, 0, none⟩ 1 1 (M.bare e).cells (by rfl) (by rfl) (news_cells V (M.bare e) _) (news_one (M.bare e)) (by omega) (by unfold maxLen; omega) (by omega) (by simp; omega) (V.heap.size + 1) (by simp) ?_; intro gg cap w3 hown3 hgrow3 hat hlt))
              have HO3 := Lib.hid (show OwnE w3 w.heap.size (.slice (some ⟨gg, 0, none⟩) _ cap) (init ++ [f] ++ [M.bare e]) from OwnE.snoc (l := (init ++ [f])) (by rw [List.length_append, HM0.out]; exact hown3))
              have HB3 := Lib.hid (((HBV.out.alloc hsV _).drew).grown hgrow3 (by simp; omega) (fun j hj => (World.ownsRow.lt HOV.out j hj).1))
              clear hown3 hgrow3 hat hlt
              go_wp2
              go_roundw
              case rel => exact ⟨k + 1, _, by omega, by go_num, HN2.out, by simp [HM0.out]; omega, HLN.out, HO3.out, HB3.out⟩
              case measure => simp [intOf]; omega
          · have hxe : (f.b + 1 == e.a) = false := by rw [beq_eq_false_iff_ne]; exact hx1
            have HNX := Lib.hid (show ¬ (f.b + 1 = e.a ∧ f.v = e.v) from fun h => hx1 h.1)
            clear hx1
            have HN2 := Lib.hid (show init ++ [f] ++ [M.bare e] = M.short ns (l.take (k + 1)) by rw [HS.out, M.step_more HX0.out (fun h => HNX.out h)])
            have HLN := Lib.hid (show M.Low (init ++ [f] ++ [M.bare e]) by rw [HN2.out, HS.out]; exact M.step_low HLOW.out hel)
            go_wp2_with fail
            refine HPL.out.mono ?_
            rintro r w2 ⟨rfl, rfl⟩
            rw [HXI.out]
            go_wp2
            go_big_quiet (fail)
            obtain ⟨V, hV⟩ : ∃ V, wr.drewN nq = V := ⟨_, rfl⟩
            have hbV : Below wr.heap.size wr V := by rw [← hV]; exact below_drewN (Below.refl _ _) nq
            have HBV := Lib.hid (HB.out.trans (hbV.mono hbs))
            have HOV := Lib.hid ((show V.ownsRow w.heap.size 36 4 (.slice (some ⟨g, 0, none⟩) (m + 1) cap) (m + 1) (cellsE (init ++ [f])) by have := HO.out.below hbV; unfold OwnE at this; rw [List.length_append, HM0.out] at this; exact this))
            have hsV : w.heap.size ≤ V.heap.size := HBV.out.size
            have habV : ad.block < V.heap.size := Nat.lt_of_lt_of_le hab hsV
            have hne := fun (hh : some ad.block = Value.ownBlock _) => (show False by have := (World.ownsRow.lt HOV.out _ hh.symm).1; omega)
            have v0 := (hbV.cell (by have := World.block_lt_of_cell? wr _ c0; exact this)).trans c0
            have v1 := (hbV.cell (by have := World.block_lt_of_cell? wr _ c1; exact this)).trans c1
            have v2 := (hbV.cell (by have := World.block_lt_of_cell? wr _ c2; exact this)).trans c2
            rw [hV]
            clear hbV hV c0 c1 c2
            go_wp2
            go_region_held3 (fun w' => w'.cell? (ad.add (k * 4)) = some (.int .i64 e.a) ∧ w'.cell? ⟨(ad.add (k * 4)).block, (ad.add (k * 4)).off + 1, none⟩ = some (.int .i64 e.b) ∧ w'.cell? ⟨(ad.add (k * 4)).block, (ad.add (k * 4)).off + 2, none⟩ = some (.string e.v))
              (first | go_keep | (refine ⟨?_, ?_, ?_⟩ <;> (rw [hgrow3.cell_far _ (by simp [addr_block] <;> omega) (by simpa only [addr_block] using hne)]; first | assumption | simp [*])))
              ((refine step_append_lies _ (by rfl) _ _ _ (by rfl) w.heap.size 36 i0 _ 4 48 Try.underlying22 hi hz0 hz1 hz2 rfl (by omega) _ _ _ (by rfl) ((World.ownsRow.alloc HOV.out _).drew) ⟨V.heap.size, 0, none⟩ 1 1 (M.bare e).cells (by rfl) (by rfl) (news_cells V (M.bare e) _) (news_one (M.bare e)) (by omega) (by unfold maxLen; omega) (by omega) (by simp; omega) (V.heap.size + 1) (by simp) ?_; intro gg cap w3 hown3 hgrow3 hat hlt))
            have HO3 := Lib.hid (show OwnE w3 w.heap.size (.slice (some ⟨gg, 0, none⟩) _ cap) (init ++ [f] ++ [M.bare e]) from OwnE.snoc (l := (init ++ [f])) (by rw [List.length_append, HM0.out]; exact hown3))
            have HB3 := Lib.hid (((HBV.out.alloc hsV _).drew).grown hgrow3 (by simp; omega) (fun j hj => (World.ownsRow.lt HOV.out j hj).1))
            clear hown3 hgrow3 hat hlt
            go_wp2
            go_roundw
            case rel => exact ⟨k + 1, _, by omega, by go_num, HN2.out, by simp [HM0.out]; omega, HLN.out, HO3.out, HB3.out⟩
            case measure => simp [intOf]; omega
    · have HN2 := Lib.hid (show told = M.short ns l by have := HT.out; rwa [List.take_of_length_le (by omega)] at this)
      go_wp2
      go_ret
      exact ⟨⟨_, rfl, by rw [← HN2.out]; exact HO.out⟩, HB.out⟩
end Go.Proofs.Ytjbpjnnflcmmhaa
