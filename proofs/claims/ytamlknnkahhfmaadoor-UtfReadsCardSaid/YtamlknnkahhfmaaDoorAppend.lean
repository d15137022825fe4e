/- The contract of utf's appendScalar over the translation. Conditions: the slice is the caller's own row of bytes, of at most 100000; the number is a scalar; the variable lengths holds the four rows of the program's text. -/
import Derived.Test.YtamlknnkahhfmaaDoorFirst
import Derived.Test.YtamlknnkahhfmaaDoorMathB
import Derived.Deep.RegionHeld3
import Derived.Deep.AppendLies
import Derived.Laws.BitsAllLaws
namespace Go.Proofs.YtamlknnkahhfmaaDoor
open Go.RowKit

theorem Tryd.infoByte : (Tryd.prog.info? 5).map (fun i => (i.zero, i.size, i.bytes)) = some (some (.int .u8 0), 1, 1) := by kernel_rfl
theorem Tryd.infoInt : (Tryd.prog.info? 3).map (fun i => (i.zero, i.size, i.bytes)) = some (some (.int .i64 0), 1, 8) := by kernel_rfl

theorem and63 (x : Int) (h0 : 0 ≤ x) (h1 : x ≤ 4000000) : bits .and .i64 x 63 = x % 64 :=
  bits_mask .i64 31 (by decide) (fun n a b => IntWalk.i64_in n (by omega)) 6 (by decide) x h0 (by omega)

/-- The caller's own row of bytes. -/
def OwnB (w : World) (base : Nat) (v : Value) (l : List Int) : Prop := w.ownsRow base 5 1 v l.length (l.map (Value.int .u8))

theorem one_new (w : World) (x : Value) (ty : TypeId) : ∀ j u, [x][j]? = some u → (w.alloc (.cells #[x] ty)).cell? ((⟨w.heap.size, 0, none⟩ : Addr).add j) = some u := by
  intro j u hj
  match j, hj with
  | 0, hj => simp at hj; subst hj; simp [Addr.add]
theorem one_cell {k : IntKind} {x : Int} : ∀ u ∈ [Value.int k x], u.oneCell' = true := by
  intro u hu; simp at hu; subst hu; rfl
theorem OwnB.snoc {w1 : World} {base : Nat} {v' : Value} {bs : List Int} {x : Int} (h : w1.ownsRow base 5 1 v' (bs.length + 1) (bs.map (Value.int .u8) ++ [.int .u8 x])) : OwnB w1 base v' (bs ++ [x]) := by
  unfold OwnB
  simpa using h
theorem OwnB.below {w w1 : World} {base : Nat} {v : Value} {bs : List Int} (h : OwnB w base v bs) (hb : Below w.heap.size w w1) : OwnB w1 base v bs :=
  World.ownsRow.kept h (row := none) ⟨hb.os, hb.tape, hb.output, hb.size, fun k hk _ => hb.block k hk⟩ (by cases v.ownBlock <;> simp)
theorem grow_below {w w1 w2 : World} {base : Nat} {v : Value} {bs : List Int} (hb : Below base w w1) (h : OwnB w1 base v bs) (hg : w1.grownBy w2 v.ownBlock) (hbase : base ≤ w1.heap.size) : Below base w w2 :=
  hb.grown hg hbase (fun k hk => (World.ownsRow.lt h k hk).1)

set_option maxHeartbeats 1000000 in
theorem appendScalar_1 (base : Nat) (v : Value) (bs : List Int) (c : Int) (w : World) (hl : LensOk w) (hown : OwnB w base v bs) (h0 : 0 ≤ c) (h1 : c ≤ 127) (hlen : bs.length ≤ 100000) (hbase : base ≤ w.heap.size) (hg : 0 < base) :
    Calls Tryd.prog 20 #[v, .int .i64 c] w fun e w' => ∃ v', e = .returned v' ∧ OwnB w' base v' (bs ++ M.bytes1 c) ∧ Below base w w' := by
  obtain ⟨i0, hi, hz0, hz1, hz2⟩ := info_parts Tryd.infoByte
  have H := Lib.hid hl
  have HO := Lib.hid hown
  have HN := Lib.hid (M.cnt_eq1 h0 h1)
  have HB := Lib.hid (M.bytes_eq1 h0 h1)
  have ag : v.ownBlock ≠ some 0 := fun e => by have := (World.ownsRow.lt hown _ e).1; omega
  clear hl hown
  go_enter Tryd.func20, Tryd.ntmps20
  go_wp2_with fail
  refine (count_any c _ (by omega) H.out).mono ?_
  rintro e w1 ⟨rfl, hb1⟩
  rw [HN.out]
  have hhd := (H.out.below hb1 H.out.lt).head (n := 1) (by omega) (by omega)
  simp [M.headOf] at hhd
  have HO1 := Lib.hid (HO.out.below hb1)
  have hbw := hb1.mono hbase
  have hs1 := hb1.size
  go_wp2_with fail
  have wr1 : IntKind.i64.wrap 0 = 0 := by rfl
  have wr2 : IntKind.i64.wrap (c) = c := IntWalk.i64_in _ (by omega)
  have wr3 : IntKind.u8.wrap (c) = c := IntWalk.u8_in _ (by omega)
  go_region_held3 (fun w' => w'.cell? { block := 0, off := 1 } = some (.int .i64 0))
    (first | go_keep | (rw [hgrow3.cell_far _ (by simp <;> omega) (Ne.symm ag)]; assumption))
    ((refine step_append_lies _ (by rfl) _ _ _ (by rfl) base 5 i0 _ 1 1 Tryd.underlying24 hi hz0 hz1 hz2 rfl (by omega) v _ _ (by rfl) ((World.ownsRow.alloc HO1.out _).drew) ⟨w1.heap.size, 0, none⟩ 1 1 [.int .u8 (c)] (by rfl) (by rfl) (one_new _ _ _) one_cell (by omega) (by unfold maxLen; omega) (by omega) (by simp; omega) (w1.heap.size + 1) (by simp) ?_; intro gg cap w3 hown3 hgrow3 hat hlt))
  clear wr1 wr2 wr3
  have HO3 := Lib.hid (OwnB.snoc hown3)
  have hb3 := grow_below ((hbw.alloc (by omega) _).drew) ((World.ownsRow.alloc HO1.out _).drew) hgrow3 (by simp; omega)
  have hs3 : base ≤ w3.heap.size := Nat.le_trans hbase hb3.size
  clear hown3 hgrow3 hat hlt
  go_wp2_with fail
  go_loopw [0, 6] (fun v s wr => ∃ j : Nat, j ≤ 0 ∧ s = .int .i64 (6 * j : Nat) ∧ OwnB wr base v (bs ++ (M.bytes1 c).take (1 - j)) ∧ Below base w wr) (fun _ s _ => (intOf s).toNat)
  case atStart => exact ⟨0, by omega, by rfl, by rw [HB.out]; exact HO3.out, hb3⟩
  case round =>
    obtain ⟨j, hj, rfl, hoj, hbj⟩ := hrel
    have HOj := Lib.hid hoj
    clear hoj HO3 hb3 hs3
    have hsj : base ≤ wr.heap.size := Nat.le_trans hbase hbj.size
    match j, hj with
    | 0, _ =>
      go_wp2
      go_ret
      exact ⟨_, rfl, by have := HOj.out; rw [HB.out] at this ⊢; exact this, hbj⟩

set_option maxHeartbeats 1000000 in
theorem appendScalar_2 (base : Nat) (v : Value) (bs : List Int) (c : Int) (w : World) (hl : LensOk w) (hown : OwnB w base v bs) (h0 : 128 ≤ c) (h1 : c ≤ 2047) (hlen : bs.length ≤ 100000) (hbase : base ≤ w.heap.size) (hg : 0 < base) :
    Calls Tryd.prog 20 #[v, .int .i64 c] w fun e w' => ∃ v', e = .returned v' ∧ OwnB w' base v' (bs ++ M.bytes1 c) ∧ Below base w w' := by
  obtain ⟨i0, hi, hz0, hz1, hz2⟩ := info_parts Tryd.infoByte
  have H := Lib.hid hl
  have HO := Lib.hid hown
  have HN := Lib.hid (M.cnt_eq2 h0 h1)
  have HB := Lib.hid (M.bytes_eq2 h0 h1)
  have ag : v.ownBlock ≠ some 0 := fun e => by have := (World.ownsRow.lt hown _ e).1; omega
  clear hl hown
  go_enter Tryd.func20, Tryd.ntmps20
  go_wp2_with fail
  refine (count_any c _ (by omega) H.out).mono ?_
  rintro e w1 ⟨rfl, hb1⟩
  rw [HN.out]
  have hhd := (H.out.below hb1 H.out.lt).head (n := 2) (by omega) (by omega)
  simp [M.headOf] at hhd
  have HO1 := Lib.hid (HO.out.below hb1)
  have hbw := hb1.mono hbase
  have hs1 := hb1.size
  go_wp2_with fail
  have wr1 : IntKind.i64.wrap 1 = 1 := by rfl
  have wr2 : IntKind.i64.wrap (192 + c / 64) = 192 + c / 64 := IntWalk.i64_in _ (by omega)
  have wr3 : IntKind.u8.wrap (192 + c / 64) = 192 + c / 64 := IntWalk.u8_in _ (by omega)
  go_region_held3 (fun w' => w'.cell? { block := 0, off := 4 } = some (.int .i64 192))
    (first | go_keep | (rw [hgrow3.cell_far _ (by simp <;> omega) (Ne.symm ag)]; assumption))
    ((refine step_append_lies _ (by rfl) _ _ _ (by rfl) base 5 i0 _ 1 1 Tryd.underlying24 hi hz0 hz1 hz2 rfl (by omega) v _ _ (by rfl) ((World.ownsRow.alloc HO1.out _).drew) ⟨w1.heap.size, 0, none⟩ 1 1 [.int .u8 (192 + c / 64)] (by rfl) (by rfl) (one_new _ _ _) one_cell (by omega) (by unfold maxLen; omega) (by omega) (by simp; omega) (w1.heap.size + 1) (by simp) ?_; intro gg cap w3 hown3 hgrow3 hat hlt))
  clear wr1 wr2 wr3
  have HO3 := Lib.hid (OwnB.snoc hown3)
  have hb3 := grow_below ((hbw.alloc (by omega) _).drew) ((World.ownsRow.alloc HO1.out _).drew) hgrow3 (by simp; omega)
  have hs3 : base ≤ w3.heap.size := Nat.le_trans hbase hb3.size
  clear hown3 hgrow3 hat hlt
  go_wp2_with fail
  go_loopw [0, 6] (fun v s wr => ∃ j : Nat, j ≤ 1 ∧ s = .int .i64 (6 * j : Nat) ∧ OwnB wr base v (bs ++ (M.bytes1 c).take (2 - j)) ∧ Below base w wr) (fun _ s _ => (intOf s).toNat)
  case atStart => exact ⟨1, by omega, by rfl, by rw [HB.out]; exact HO3.out, hb3⟩
  case round =>
    obtain ⟨j, hj, rfl, hoj, hbj⟩ := hrel
    have HOj := Lib.hid hoj
    clear hoj HO3 hb3 hs3
    have hsj : base ≤ wr.heap.size := Nat.le_trans hbase hbj.size
    match j, hj with
    | 0, _ =>
      go_wp2
      go_ret
      exact ⟨_, rfl, by have := HOj.out; rw [HB.out] at this ⊢; exact this, hbj⟩
    | 1, _ =>
      rw [HB.out] at HOj
      simp only [List.take] at HOj
      have hand := and63 (c) (by omega) (by omega)
      go_wp2_with (at_builtin; refine wpList_append_own _ rfl _ _ 24 rfl base 5 i0 (.int .u8 0) 1 1 Tryd.underlying24 hi hz0 hz1 hz2 rfl (by decide) _ _ _ rfl (World.ownsRow.alloc HOj.out _) ⟨wr.heap.size, 0, none⟩ 1 1 [.int .u8 (128 + c % 64)] rfl rfl (one_new _ _ _) one_cell (by unfold maxLen; simp; omega) (by simp; omega) (by simp; omega) ?_)
      intro v4 w4 hown4 hgrow4 _
      have hb4 := grow_below (hbj.alloc hsj _) (World.ownsRow.alloc HOj.out _) hgrow4 (by simp; omega)
      have HO4 := Lib.hid (show OwnB w4 base v4 (bs ++ (M.bytes1 c).take (2 - 0)) by unfold OwnB; rw [HB.out]; simpa using hown4)
      clear hown4 hgrow4 hand
      go_wp2
      go_roundw
      case rel => exact ⟨0, by omega, by rfl, HO4.out, hb4⟩
      case measure => simp [intOf]

set_option maxHeartbeats 1000000 in
theorem appendScalar_3 (base : Nat) (v : Value) (bs : List Int) (c : Int) (w : World) (hl : LensOk w) (hown : OwnB w base v bs) (h0 : 2048 ≤ c) (h1 : c ≤ 65535) (hlen : bs.length ≤ 100000) (hbase : base ≤ w.heap.size) (hg : 0 < base) :
    Calls Tryd.prog 20 #[v, .int .i64 c] w fun e w' => ∃ v', e = .returned v' ∧ OwnB w' base v' (bs ++ M.bytes1 c) ∧ Below base w w' := by
  obtain ⟨i0, hi, hz0, hz1, hz2⟩ := info_parts Tryd.infoByte
  have H := Lib.hid hl
  have HO := Lib.hid hown
  have HN := Lib.hid (M.cnt_eq3 h0 h1)
  have HB := Lib.hid (M.bytes_eq3 h0 h1)
  have ag : v.ownBlock ≠ some 0 := fun e => by have := (World.ownsRow.lt hown _ e).1; omega
  clear hl hown
  go_enter Tryd.func20, Tryd.ntmps20
  go_wp2_with fail
  refine (count_any c _ (by omega) H.out).mono ?_
  rintro e w1 ⟨rfl, hb1⟩
  rw [HN.out]
  have hhd := (H.out.below hb1 H.out.lt).head (n := 3) (by omega) (by omega)
  simp [M.headOf] at hhd
  have HO1 := Lib.hid (HO.out.below hb1)
  have hbw := hb1.mono hbase
  have hs1 := hb1.size
  go_wp2_with fail
  have wr1 : IntKind.i64.wrap 2 = 2 := by rfl
  have wr2 : IntKind.i64.wrap (224 + c / 4096) = 224 + c / 4096 := IntWalk.i64_in _ (by omega)
  have wr3 : IntKind.u8.wrap (224 + c / 4096) = 224 + c / 4096 := IntWalk.u8_in _ (by omega)
  go_region_held3 (fun w' => w'.cell? { block := 0, off := 7 } = some (.int .i64 224))
    (first | go_keep | (rw [hgrow3.cell_far _ (by simp <;> omega) (Ne.symm ag)]; assumption))
    ((refine step_append_lies _ (by rfl) _ _ _ (by rfl) base 5 i0 _ 1 1 Tryd.underlying24 hi hz0 hz1 hz2 rfl (by omega) v _ _ (by rfl) ((World.ownsRow.alloc HO1.out _).drew) ⟨w1.heap.size, 0, none⟩ 1 1 [.int .u8 (224 + c / 4096)] (by rfl) (by rfl) (one_new _ _ _) one_cell (by omega) (by unfold maxLen; omega) (by omega) (by simp; omega) (w1.heap.size + 1) (by simp) ?_; intro gg cap w3 hown3 hgrow3 hat hlt))
  clear wr1 wr2 wr3
  have HO3 := Lib.hid (OwnB.snoc hown3)
  have hb3 := grow_below ((hbw.alloc (by omega) _).drew) ((World.ownsRow.alloc HO1.out _).drew) hgrow3 (by simp; omega)
  have hs3 : base ≤ w3.heap.size := Nat.le_trans hbase hb3.size
  clear hown3 hgrow3 hat hlt
  go_wp2_with fail
  go_loopw [0, 6] (fun v s wr => ∃ j : Nat, j ≤ 2 ∧ s = .int .i64 (6 * j : Nat) ∧ OwnB wr base v (bs ++ (M.bytes1 c).take (3 - j)) ∧ Below base w wr) (fun _ s _ => (intOf s).toNat)
  case atStart => exact ⟨2, by omega, by rfl, by rw [HB.out]; exact HO3.out, hb3⟩
  case round =>
    obtain ⟨j, hj, rfl, hoj, hbj⟩ := hrel
    have HOj := Lib.hid hoj
    clear hoj HO3 hb3 hs3
    have hsj : base ≤ wr.heap.size := Nat.le_trans hbase hbj.size
    match j, hj with
    | 0, _ =>
      go_wp2
      go_ret
      exact ⟨_, rfl, by have := HOj.out; rw [HB.out] at this ⊢; exact this, hbj⟩
    | 1, _ =>
      rw [HB.out] at HOj
      simp only [List.take] at HOj
      have hand := and63 (c) (by omega) (by omega)
      go_wp2_with (at_builtin; refine wpList_append_own _ rfl _ _ 24 rfl base 5 i0 (.int .u8 0) 1 1 Tryd.underlying24 hi hz0 hz1 hz2 rfl (by decide) _ _ _ rfl (World.ownsRow.alloc HOj.out _) ⟨wr.heap.size, 0, none⟩ 1 1 [.int .u8 (128 + c % 64)] rfl rfl (one_new _ _ _) one_cell (by unfold maxLen; simp; omega) (by simp; omega) (by simp; omega) ?_)
      intro v4 w4 hown4 hgrow4 _
      have hb4 := grow_below (hbj.alloc hsj _) (World.ownsRow.alloc HOj.out _) hgrow4 (by simp; omega)
      have HO4 := Lib.hid (show OwnB w4 base v4 (bs ++ (M.bytes1 c).take (3 - 0)) by unfold OwnB; rw [HB.out]; simpa using hown4)
      clear hown4 hgrow4 hand
      go_wp2
      go_roundw
      case rel => exact ⟨0, by omega, by rfl, HO4.out, hb4⟩
      case measure => simp [intOf]
    | 2, _ =>
      rw [HB.out] at HOj
      simp only [List.take] at HOj
      have hand := and63 (c / 64) (by omega) (by omega)
      go_wp2_with (at_builtin; refine wpList_append_own _ rfl _ _ 24 rfl base 5 i0 (.int .u8 0) 1 1 Tryd.underlying24 hi hz0 hz1 hz2 rfl (by decide) _ _ _ rfl (World.ownsRow.alloc HOj.out _) ⟨wr.heap.size, 0, none⟩ 1 1 [.int .u8 (128 + c / 64 % 64)] rfl rfl (one_new _ _ _) one_cell (by unfold maxLen; simp; omega) (by simp; omega) (by simp; omega) ?_)
      intro v4 w4 hown4 hgrow4 _
      have hb4 := grow_below (hbj.alloc hsj _) (World.ownsRow.alloc HOj.out _) hgrow4 (by simp; omega)
      have HO4 := Lib.hid (show OwnB w4 base v4 (bs ++ (M.bytes1 c).take (3 - 1)) by unfold OwnB; rw [HB.out]; simpa using hown4)
      clear hown4 hgrow4 hand
      go_wp2
      go_roundw
      case rel => exact ⟨1, by omega, by rfl, HO4.out, hb4⟩
      case measure => simp [intOf]

set_option maxHeartbeats 1000000 in
theorem appendScalar_4 (base : Nat) (v : Value) (bs : List Int) (c : Int) (w : World) (hl : LensOk w) (hown : OwnB w base v bs) (h0 : 65536 ≤ c) (h1 : c ≤ 1114111) (hlen : bs.length ≤ 100000) (hbase : base ≤ w.heap.size) (hg : 0 < base) :
    Calls Tryd.prog 20 #[v, .int .i64 c] w fun e w' => ∃ v', e = .returned v' ∧ OwnB w' base v' (bs ++ M.bytes1 c) ∧ Below base w w' := by
  obtain ⟨i0, hi, hz0, hz1, hz2⟩ := info_parts Tryd.infoByte
  have H := Lib.hid hl
  have HO := Lib.hid hown
  have HN := Lib.hid (M.cnt_eq4 h0 h1)
  have HB := Lib.hid (M.bytes_eq4 h0 h1)
  have ag : v.ownBlock ≠ some 0 := fun e => by have := (World.ownsRow.lt hown _ e).1; omega
  clear hl hown
  go_enter Tryd.func20, Tryd.ntmps20
  go_wp2_with fail
  refine (count_any c _ (by omega) H.out).mono ?_
  rintro e w1 ⟨rfl, hb1⟩
  rw [HN.out]
  have hhd := (H.out.below hb1 H.out.lt).head (n := 4) (by omega) (by omega)
  simp [M.headOf] at hhd
  have HO1 := Lib.hid (HO.out.below hb1)
  have hbw := hb1.mono hbase
  have hs1 := hb1.size
  go_wp2_with fail
  have wr1 : IntKind.i64.wrap 3 = 3 := by rfl
  have wr2 : IntKind.i64.wrap (240 + c / 262144) = 240 + c / 262144 := IntWalk.i64_in _ (by omega)
  have wr3 : IntKind.u8.wrap (240 + c / 262144) = 240 + c / 262144 := IntWalk.u8_in _ (by omega)
  go_region_held3 (fun w' => w'.cell? { block := 0, off := 10 } = some (.int .i64 240))
    (first | go_keep | (rw [hgrow3.cell_far _ (by simp <;> omega) (Ne.symm ag)]; assumption))
    ((refine step_append_lies _ (by rfl) _ _ _ (by rfl) base 5 i0 _ 1 1 Tryd.underlying24 hi hz0 hz1 hz2 rfl (by omega) v _ _ (by rfl) ((World.ownsRow.alloc HO1.out _).drew) ⟨w1.heap.size, 0, none⟩ 1 1 [.int .u8 (240 + c / 262144)] (by rfl) (by rfl) (one_new _ _ _) one_cell (by omega) (by unfold maxLen; omega) (by omega) (by simp; omega) (w1.heap.size + 1) (by simp) ?_; intro gg cap w3 hown3 hgrow3 hat hlt))
  clear wr1 wr2 wr3
  have HO3 := Lib.hid (OwnB.snoc hown3)
  have hb3 := grow_below ((hbw.alloc (by omega) _).drew) ((World.ownsRow.alloc HO1.out _).drew) hgrow3 (by simp; omega)
  have hs3 : base ≤ w3.heap.size := Nat.le_trans hbase hb3.size
  clear hown3 hgrow3 hat hlt
  go_wp2_with fail
  go_loopw [0, 6] (fun v s wr => ∃ j : Nat, j ≤ 3 ∧ s = .int .i64 (6 * j : Nat) ∧ OwnB wr base v (bs ++ (M.bytes1 c).take (4 - j)) ∧ Below base w wr) (fun _ s _ => (intOf s).toNat)
  case atStart => exact ⟨3, by omega, by rfl, by rw [HB.out]; exact HO3.out, hb3⟩
  case round =>
    obtain ⟨j, hj, rfl, hoj, hbj⟩ := hrel
    have HOj := Lib.hid hoj
    clear hoj HO3 hb3 hs3
    have hsj : base ≤ wr.heap.size := Nat.le_trans hbase hbj.size
    match j, hj with
    | 0, _ =>
      go_wp2
      go_ret
      exact ⟨_, rfl, by have := HOj.out; rw [HB.out] at this ⊢; exact this, hbj⟩
    | 1, _ =>
      rw [HB.out] at HOj
      simp only [List.take] at HOj
      have hand := and63 (c) (by omega) (by omega)
      go_wp2_with (at_builtin; refine wpList_append_own _ rfl _ _ 24 rfl base 5 i0 (.int .u8 0) 1 1 Tryd.underlying24 hi hz0 hz1 hz2 rfl (by decide) _ _ _ rfl (World.ownsRow.alloc HOj.out _) ⟨wr.heap.size, 0, none⟩ 1 1 [.int .u8 (128 + c % 64)] rfl rfl (one_new _ _ _) one_cell (by unfold maxLen; simp; omega) (by simp; omega) (by simp; omega) ?_)
      intro v4 w4 hown4 hgrow4 _
      have hb4 := grow_below (hbj.alloc hsj _) (World.ownsRow.alloc HOj.out _) hgrow4 (by simp; omega)
      have HO4 := Lib.hid (show OwnB w4 base v4 (bs ++ (M.bytes1 c).take (4 - 0)) by unfold OwnB; rw [HB.out]; simpa using hown4)
      clear hown4 hgrow4 hand
      go_wp2
      go_roundw
      case rel => exact ⟨0, by omega, by rfl, HO4.out, hb4⟩
      case measure => simp [intOf]
    | 2, _ =>
      rw [HB.out] at HOj
      simp only [List.take] at HOj
      have hand := and63 (c / 64) (by omega) (by omega)
      go_wp2_with (at_builtin; refine wpList_append_own _ rfl _ _ 24 rfl base 5 i0 (.int .u8 0) 1 1 Tryd.underlying24 hi hz0 hz1 hz2 rfl (by decide) _ _ _ rfl (World.ownsRow.alloc HOj.out _) ⟨wr.heap.size, 0, none⟩ 1 1 [.int .u8 (128 + c / 64 % 64)] rfl rfl (one_new _ _ _) one_cell (by unfold maxLen; simp; omega) (by simp; omega) (by simp; omega) ?_)
      intro v4 w4 hown4 hgrow4 _
      have hb4 := grow_below (hbj.alloc hsj _) (World.ownsRow.alloc HOj.out _) hgrow4 (by simp; omega)
      have HO4 := Lib.hid (show OwnB w4 base v4 (bs ++ (M.bytes1 c).take (4 - 1)) by unfold OwnB; rw [HB.out]; simpa using hown4)
      clear hown4 hgrow4 hand
      go_wp2
      go_roundw
      case rel => exact ⟨1, by omega, by rfl, HO4.out, hb4⟩
      case measure => simp [intOf]
    | 3, _ =>
      rw [HB.out] at HOj
      simp only [List.take] at HOj
      have hand := and63 (c / 4096) (by omega) (by omega)
      go_wp2_with (at_builtin; refine wpList_append_own _ rfl _ _ 24 rfl base 5 i0 (.int .u8 0) 1 1 Tryd.underlying24 hi hz0 hz1 hz2 rfl (by decide) _ _ _ rfl (World.ownsRow.alloc HOj.out _) ⟨wr.heap.size, 0, none⟩ 1 1 [.int .u8 (128 + c / 4096 % 64)] rfl rfl (one_new _ _ _) one_cell (by unfold maxLen; simp; omega) (by simp; omega) (by simp; omega) ?_)
      intro v4 w4 hown4 hgrow4 _
      have hb4 := grow_below (hbj.alloc hsj _) (World.ownsRow.alloc HOj.out _) hgrow4 (by simp; omega)
      have HO4 := Lib.hid (show OwnB w4 base v4 (bs ++ (M.bytes1 c).take (4 - 2)) by unfold OwnB; rw [HB.out]; simpa using hown4)
      clear hown4 hgrow4 hand
      go_wp2
      go_roundw
      case rel => exact ⟨2, by omega, by rfl, HO4.out, hb4⟩
      case measure => simp [intOf]

theorem appendScalar_any (base : Nat) (v : Value) (bs : List Int) (c : Int) (w : World) (hl : LensOk w) (hown : OwnB w base v bs) (hsc : M.scal c = true) (hlen : bs.length ≤ 100000) (hbase : base ≤ w.heap.size) (hg : 0 < base) :
    Calls Tryd.prog 20 #[v, .int .i64 c] w fun e w' => ∃ v', e = .returned v' ∧ OwnB w' base v' (bs ++ M.bytes1 c) ∧ Below base w w' := by
  obtain ⟨h0, h1⟩ := M.scal_range hsc
  rcases (show c ≤ 127 ∨ (128 ≤ c ∧ c ≤ 2047) ∨ (2048 ≤ c ∧ c ≤ 65535) ∨ 65536 ≤ c by omega) with h | ⟨h, h'⟩ | ⟨h, h'⟩ | h
  · exact appendScalar_1 base v bs c w hl hown h0 h hlen hbase hg
  · exact appendScalar_2 base v bs c w hl hown h h' hlen hbase hg
  · exact appendScalar_3 base v bs c w hl hown h h' hlen hbase hg
  · exact appendScalar_4 base v bs c w hl hown h h1 hlen hbase hg
end Go.Proofs.YtamlknnkahhfmaaDoor
