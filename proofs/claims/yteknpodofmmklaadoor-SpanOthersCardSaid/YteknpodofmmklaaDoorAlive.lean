/- The live question of stage 7, over the translation: it is answered true. Condition: the variable lengths holds the four rows of the program's text. -/
import Derived.Test.YteknpodofmmklaaDoorMoves
import Derived.Test.YteknpodofmmklaaDoorSameS
import Derived.Test.YteknpodofmmklaaDoorRefRight
import Derived.Test.YteknpodofmmklaaDoorRefNormal
import Derived.Test.YteknpodofmmklaaDoorRefGone
import Derived.Test.YteknpodofmmklaaDoorAtS
namespace Go.Proofs.YteknpodofmmklaaDoor
open Go.RowKit

/-- A new block of spans reads as their list. -/
theorem rd_newP (w : World) (l : List M.S) (ty : TypeId) : RdP (w.alloc (.cells (cellsP l).toArray ty)) (w.alloc (.cells (cellsP l).toArray ty)).heap.size (some ⟨w.heap.size, 0, none⟩) l := fun j e hj => by
  have c := fun k (hk : k < 6) u (hu : e.cells[k]? = some u) => (show (w.alloc (.cells (cellsP l).toArray ty)).cell? ⟨w.heap.size, j * 6 + k, none⟩ = some u by
    have hnew : (w.alloc (.cells (cellsP l).toArray ty)).heap[w.heap.size]? = some (.cells (cellsP l).toArray ty (0, 0)) := World.alloc_heap_new w _
    unfold World.cell?
    rw [hnew]
    simp [cellsP_at hj k hk, hu])
  refine ⟨_, rfl, by simp, ?_⟩
  rw [addr0_add]
  exact ⟨c 0 (by omega) _ rfl, c 1 (by omega) _ rfl, c 2 (by omega) _ rfl, c 3 (by omega) _ rfl, c 4 (by omega) _ rfl, c 5 (by omega) _ rfl⟩
/-- A span of no Ruby and no Scale. -/
def M.sp (f t p : Int) : M.S := ⟨f, t, p, false, ⟨#[]⟩, 0⟩
theorem M.sp_fine {f t p : Int} (h0 : 0 ≤ p) (h1 : p ≤ 2) : (M.sp f t p).ok = true := by
  rw [M.ok_iff]
  refine ⟨?_, fun h => by cases h⟩
  unfold M.S.fine M.sp
  have hr : M.rubyOk ⟨#[]⟩ = true := by unfold M.rubyOk M.nums; rw [show (⟨#[]⟩ : ByteArray).data.toList = [] from rfl]; rfl
  rw [hr, decide_eq_true h0, decide_eq_true h1, show M.scaleOk 0 = true from rfl]
  rfl
def M.L0 : List M.S := [M.sp 2 5 1, M.sp 5 9 1, M.sp 9 12 0]
theorem live_norm : M.norm M.L0 = [M.sp 2 9 1] := by
  have n1 : ∀ f t, (M.S.bare (M.sp f t 1)).same M.zeroS = false := fun f t => M.same_no.2 (fun h => by have := congrArg M.S.p h; simp [M.S.bare, M.sp, M.zeroS] at this)
  have n0 : (M.S.bare (M.sp 9 12 0)).same M.zeroS = true := M.same_iff.2 rfl
  have j1 : M.joins (M.sp 2 5 1) (M.sp 5 9 1) = true := by
    unfold M.joins
    rw [M.same_iff.2 (show (M.sp 2 5 1).bare = (M.sp 5 9 1).bare from rfl)]
    have he : (M.sp 5 9 1).r.toList = [] := by rw [ByteArray.toList_eq]; rfl
    rw [decide_eq_true he]
    rfl
  unfold M.norm M.L0
  simp only [List.foldl_cons, List.foldl_nil]
  rw [M.step_first (n1 2 5)]
  rw [M.step_join (out := []) (n1 5 9) j1]
  rw [M.step_plain n0]
  rfl
theorem live_right (n : Int) : M.right M.L0 n = decide (12 ≤ n) := by
  unfold M.right M.L0 M.chain M.chain M.chain M.chain
  rw [M.sp_fine (by omega) (by omega), M.sp_fine (by omega) (by omega), M.sp_fine (by omega) (by omega)]
  unfold M.sp
  by_cases h : 12 ≤ n
  · simp [h]
    omega
  · simp [h]
theorem live_ins : M.ins [M.sp 2 9 1] 3 4 = [M.sp 2 13 1] := rfl
theorem live_del : M.del [M.sp 2 9 1] 0 4 = [M.sp 0 5 1] := rfl
theorem live_look : M.look M.L0 6 = M.sp 0 0 1 := rfl
theorem live_lim : Lim [M.sp 2 9 1] := by
  intro s hs
  simp at hs
  subst hs
  unfold M.sp
  refine ⟨by decide, by decide, by decide, fun h => by cases h⟩
theorem live_szd : Szd M.L0 := by
  intro s hs
  have hz : (⟨#[]⟩ : ByteArray).size ≤ 200 := by decide
  simp [M.L0] at hs
  rcases hs with rfl | rfl | rfl <;> exact ⟨⟨by decide, by decide⟩, ⟨by decide, by decide⟩, hz⟩
theorem L0_block (w : World) : ∃ W : World, w.alloc (.cells #[.int .i64 2, .int .i64 5, .int .i64 1, .bool false, .string ⟨#[]⟩, .int .u64 0, .int .i64 5, .int .i64 9, .int .i64 1, .bool false, .string ⟨#[]⟩, .int .u64 0, .int .i64 9, .int .i64 12, .int .i64 0, .bool false, .string ⟨#[]⟩, .int .u64 0] 27) = W ∧ Below w.heap.size w W ∧ RdP W W.heap.size (some ⟨w.heap.size, 0, none⟩) M.L0 :=
  ⟨_, rfl, (Below.refl _ _).alloc (Nat.le_refl _) _, rd_newP w M.L0 27⟩

set_option maxRecDepth 100000 in
set_option maxHeartbeats 4000000 in
theorem alive_any (w : World) (hl : LensOk w) : Calls Tryd.prog 8 #[] w fun r w' => r = .returned (.bool true) ∧ Below w.heap.size w w' := by
  obtain ⟨W1, hW1, hb1, hr1⟩ := L0_block w
  have HL := Lib.hid hl
  have HB1 := Lib.hid hb1
  have HR1 := Lib.hid hr1
  have h3 : M.L0.length = 3 := rfl
  have HN := Lib.hid (normal_any (some ⟨w.heap.size, 0, none⟩) 3 M.L0 W1 hr1 (by rw [h3]; omega))
  rw [h3, live_norm] at HN
  clear hl hb1 hr1 h3
  go_enter Tryd.func8, Tryd.ntmps8
  go_wp2_with fail
  refine HN.out.mono ?_
  rintro r w2 ⟨v2, rfl, ho2, hb2⟩
  obtain ⟨A2, c2, rfl, hr2, hc2, hm2, hn2⟩ := ho2.shape
  have h1 : [M.sp 2 9 1].length = 1 := rfl
  have HI := Lib.hid (insert_any A2 c2 [M.sp 2 9 1] 3 4 w2 hr2 (by decide) live_lim (by decide) (by decide))
  rw [live_ins, h1] at HI
  have HR2 := Lib.hid hr2
  have HR12 := Lib.hid (HR1.out.after hb2)
  have HB2 := Lib.hid (HB1.out.trans (hb2.mono HB1.out.size))
  rw [h1]
  clear ho2 hr2 hb2 hn2 h1 hc2 hm2
  go_wp2_with fail
  refine HI.out.mono ?_
  rintro r w3 ⟨v3, rfl, ho3, hb3⟩
  have h1 : [M.sp 2 9 1].length = 1 := rfl
  obtain ⟨A3, c3, rfl, hr3, hc3, hm3, hn3⟩ := ho3.shape
  have HD := Lib.hid (delete_any A2 c2 [M.sp 2 9 1] 0 4 w3 (HR2.out.after hb3) (by decide) live_lim (by decide) (by decide))
  rw [live_del, h1] at HD
  have HR3 := Lib.hid hr3
  have HR23 := Lib.hid (HR2.out.after hb3)
  have HR13 := Lib.hid (HR12.out.after hb3)
  have HB3 := Lib.hid (HB2.out.trans (hb3.mono HB2.out.size))
  rw [show [M.sp 2 13 1].length = 1 from rfl]
  clear ho3 hr3 hb3 hn3 h1 hc3 hm3
  go_wp2_with fail
  refine HD.out.mono ?_
  rintro r w4 ⟨v4, rfl, ho4, hb4⟩
  obtain ⟨A4, c4, rfl, hr4, hc4, hm4, hn4⟩ := ho4.shape
  have h3 : M.L0.length = 3 := rfl
  have HW := Lib.hid (right_any (some ⟨w.heap.size, 0, none⟩) 3 M.L0 12 w4 (HL.out.below (HB3.out.trans (hb4.mono HB3.out.size)) HL.out.lt) (HR13.out.after hb4) (by rw [h3]; omega) live_szd)
  rw [live_right, h3] at HW
  have HR4 := Lib.hid hr4
  have HR34 := Lib.hid (HR3.out.after hb4)
  have HR24 := Lib.hid (HR23.out.after hb4)
  have HR14 := Lib.hid (HR13.out.after hb4)
  have HB4 := Lib.hid (HB3.out.trans (hb4.mono HB3.out.size))
  rw [show [M.sp 0 5 1].length = 1 from rfl]
  clear ho4 hr4 hb4 hn4 h3 hc4 hm4
  go_wp2_with fail
  refine HW.out.mono ?_
  rintro r w5 ⟨rfl, hb5⟩
  have h3 : M.L0.length = 3 := rfl
  have HV := Lib.hid (right_any (some ⟨w.heap.size, 0, none⟩) 3 M.L0 11 w5 (HL.out.below (HB4.out.trans (hb5.mono HB4.out.size)) HL.out.lt) (HR14.out.after hb5) (by rw [h3]; omega) live_szd)
  rw [live_right, h3] at HV
  have HR5 := Lib.hid (HR4.out.after hb5)
  have HR35 := Lib.hid (HR34.out.after hb5)
  have HR25 := Lib.hid (HR24.out.after hb5)
  have HR15 := Lib.hid (HR14.out.after hb5)
  have HB5 := Lib.hid (HB4.out.trans (hb5.mono HB4.out.size))
  clear hb5 h3
  rw [show decide ((12 : Int) ≤ 12) = true from rfl]
  go_wp2_with fail
  refine HV.out.mono ?_
  rintro r w6 ⟨rfl, hb6⟩
  have h3 : M.L0.length = 3 := rfl
  have HK := Lib.hid (look_any (some ⟨w.heap.size, 0, none⟩) 3 M.L0 6 w6 (HR15.out.after hb6) (by rw [h3]; omega))
  rw [live_look, h3] at HK
  have HB6 := Lib.hid (HB5.out.trans (hb6.mono HB5.out.size))
  obtain ⟨a2, rfl, hab2, x0, x1, x2, x3, x4, x5⟩ := (HR25.out.after hb6) 0 _ rfl
  obtain ⟨a3, rfl, hab3, y0, y1, y2, y3, y4, y5⟩ := (HR35.out.after hb6) 0 _ rfl
  obtain ⟨a4, rfl, hab4, z0, z1, z2, z3, z4, z5⟩ := (HR5.out.after hb6) 0 _ rfl
  have e2 : a2.add (0 * 6) = a2 := by simp [Addr.add]
  have e3 : a3.add (0 * 6) = a3 := by simp [Addr.add]
  have e4 : a4.add (0 * 6) = a4 := by simp [Addr.add]
  rw [e2] at x1
  rw [e3] at y1
  rw [e4] at z0 z1
  unfold M.sp at x1 y1 z0 z1
  dsimp only at x1 y1 z0 z1
  clear hb6 h3 e2 e3 e4 x0 x2 x3 x4 x5 y0 y2 y3 y4 y5 z2 z3 z4 z5
  rw [show decide ((12 : Int) ≤ 11) = false from rfl]
  go_wp2_with fail
  refine HK.out.mono ?_
  rintro r w7 ⟨rfl, hb7⟩
  have HB7 := Lib.hid (HB6.out.trans (hb7.mono HB6.out.size))
  clear hb7
  unfold M.S.val M.sp
  dsimp only
  have hfld : ∀ w : World, (Instr.field 27 (.agg #[.int .i64 0, .int .i64 0, .int .i64 1, .bool false, .string ⟨#[]⟩, .int .u64 0]) 2).run Tryd.prog w = .ok (.int .i64 1) w := fun w => by kernel_rfl
  go_wp2_with fail
  go_ret
  exact ⟨rfl, HB7.out⟩
end Go.Proofs.YteknpodofmmklaaDoor
