/- The live question of stage 12, and seq, over the translation; and what an answer looks like, whichever it is. No condition. -/
import Derived.Test.YtjoiinpkkaigdaaCNeu
import Derived.Test.YtjoiinpkkaigdaaInts
import Derived.Test.YtjoiinpkkaigdaaAppendRd
namespace Go.Proofs.Ytjoiinpkkaigdaa
open Go.RowKit
set_option maxRecDepth 100000

/-- What is handed back, and the error's number. -/
def M.orNil (ok : Prop) [Decidable ok] (t : List Int) : List Int := if ok then t else []
def M.orArg (ok : Prop) [Decidable ok] : Int := if ok then 0 else 1
theorem row_out {ty : TypeId} {ok : Prop} [Decidable ok] {t : List Int} {w : World} {r : Ending} {w' : World} (h : RowOr ty ok t w r w') :
    ∃ A c, r = .returned (.tuple #[.slice A (M.orNil ok t).length c, .int .i64 (M.orArg ok)]) ∧ RdS .i64 w' w'.heap.size A (M.orNil ok t) ∧ Below w.heap.size w w' ∧ (M.orNil ok t).length ≤ c := by
  obtain ⟨hb, hy, hn⟩ := h
  unfold M.orNil M.orArg
  by_cases hk : ok
  · obtain ⟨v, hr, ho⟩ := hy hk
    obtain ⟨A, c, rfl, h1, h2, -, -⟩ := reads_own ho
    rw [if_pos hk, if_pos hk]
    exact ⟨A, c, hr, h1, hb, h2⟩
  · rw [if_neg hk, if_neg hk]
    exact ⟨none, 0, hn hk, RdS.nil, hb, Nat.zero_le _⟩
theorem M.orNil_len {ok : Prop} [Decidable ok] {t : List Int} : (M.orNil ok t).length ≤ t.length := by
  unfold M.orNil
  split
  · exact Nat.le_refl _
  · exact Nat.zero_le _
/-- Where it may be made. -/
theorem row_ok {ty : TypeId} {ok : Prop} {t : List Int} {w : World} {r : Ending} {w' : World} (h : RowOr ty ok t w r w') (hk : ok) :
    ∃ A c, r = .returned (.tuple #[.slice A t.length c, .int .i64 0]) ∧ RdS .i64 w' w'.heap.size A t ∧ Below w.heap.size w w' ∧ t.length ≤ c ∧ w'.ownsRow w.heap.size ty 1 (.slice A t.length c) t.length (t.map (Value.int .i64)) ∧ (A = none → c = 0) := by
  obtain ⟨hb, hy, -⟩ := h
  obtain ⟨v, hr, ho⟩ := hy hk
  obtain ⟨A, c, rfl, h1, h2, -, h3⟩ := reads_own ho
  exact ⟨A, c, hr, h1, hb, h2, ho, h3⟩
/-- Three cells. -/
def Three (w : World) (g : Nat) (a b c : Int) : Prop := w.cell? ⟨g, 0, none⟩ = some (.int .i64 a) ∧ w.cell? ⟨g, 1, none⟩ = some (.int .i64 b) ∧ w.cell? ⟨g, 2, none⟩ = some (.int .i64 c)
theorem Three.later {w w' : World} {g n : Nat} {a b c : Int} (h : Three w g a b c) (hb : Below n w w') (hg : g < n) : Three w' g a b c :=
  ⟨(hb.cell (p := ⟨g, 0, none⟩) hg).trans h.1, (hb.cell (p := ⟨g, 1, none⟩) hg).trans h.2.1, (hb.cell (p := ⟨g, 2, none⟩) hg).trans h.2.2⟩
set_option maxHeartbeats 4000000 in
theorem seq_any (a b c : Int) (w : World) : Calls Try.prog 9 #[.agg #[.int .i64 a, .int .i64 b, .int .i64 c]] w fun r w' => r = .returned (.agg #[.int .i64 a, .int .i64 b, .int .i64 c]) ∧ Below w.heap.size w w' := by
  obtain ⟨W1, hW1, hb1, e0, e1, e2, hgt⟩ := new_three w a b c 25
  obtain ⟨W2, hW2, hb2, d0, d1, d2, -⟩ := new_three W1 a b c 30
  have HB := Lib.hid (hb1.trans (hb2.mono hb1.size))
  clear hb1 hb2
  go_enter Try.func9, Try.ntmps9
  go_wp2_with fail
  refine bodyPost_ret (v := .agg #[.int .i64 a, .int .i64 b, .int .i64 c]) ?_ rfl ⟨rfl, HB.out⟩
  simp [results, Try.f9, go_sem, d0, d1, d2]
theorem live_x : M.settle 0 0 0 [12, 1, 13, 3, 13, 0] = [0, 1, 1, 3, 0, 0] := by decide +kernel
theorem live_n : M.raise 0 [0, 1, 1, 3, 0, 0] = [0, 1, 1, 2, 0, 0] := by decide +kernel
set_option maxHeartbeats 4000000 in
theorem alive_any (w : World) : Calls Try.prog 7 #[] w fun r w' => r = .returned (.bool true) ∧ Below w.heap.size w w' := by
  obtain ⟨W1, hW1⟩ : ∃ W1, w.alloc (.cells #[.int .i64 12, .int .i64 1, .int .i64 13, .int .i64 3, .int .i64 13, .int .i64 0] 23) = W1 := ⟨_, rfl⟩
  have hb1 : Below w.heap.size w W1 := by rw [← hW1]; exact (Below.refl _ _).alloc (Nat.le_refl _) _
  have hrd1 : RdS .i64 W1 W1.heap.size (some ⟨w.heap.size, 0, none⟩) [12, 1, 13, 3, 13, 0] := by rw [← hW1]; exact rd_new w [12, 1, 13, 3, 13, 0] 23
  have hP := csettle_any (some ⟨w.heap.size, 0, none⟩) 6 6 _ 0 0 0 W1 hrd1 rfl (by omega) (by omega)
  rw [live_x] at hP
  have HP := Lib.hid hP
  have HW1 := Lib.hid hW1
  have HB1 := Lib.hid hb1
  have HOK := Lib.hid (show M.setOk 0 0 0 by decide)
  have HLV := Lib.hid (show M.lvOk 0 by decide)
  clear hW1 hb1 hrd1 hP
  go_enter Try.func7, Try.ntmps7
  go_wp2_with fail
  rw [HW1.out]
  refine HP.out.mono ?_
  rintro r w2 hout
  obtain ⟨A2, c2, rfl, hr2, hb2, hc2, -, -⟩ := row_ok hout HOK.out
  have HB2 := Lib.hid (HB1.out.trans (hb2.mono HB1.out.size))
  have HR2 := Lib.hid hr2
  have hQ := craise_any A2 c2 6 _ 0 w2 hr2 rfl (by omega) hc2
  rw [live_n] at hQ
  have HQ := Lib.hid hQ
  clear hout hr2 hb2 hQ hc2
  simp only [List.length_cons, List.length_nil]
  go_wp2_with fail
  refine HQ.out.mono ?_
  rintro r w4 hout
  obtain ⟨A4, c4, rfl, hr4, hb4, -, -, -⟩ := row_ok hout HLV.out
  have HB4 := Lib.hid (HB2.out.trans (hb4.mono HB2.out.size))
  have HR24 := Lib.hid ((HR2.out.below hb4).more hb4.size)
  obtain ⟨W5, hW5⟩ : ∃ W, w4.alloc (.cells #[.int .i64 0, .int .i64 1, .int .i64 1, .int .i64 3, .int .i64 0, .int .i64 0] 23) = W := ⟨_, rfl⟩
  have hb5 : Below w4.heap.size w4 W5 := by rw [← hW5]; exact (Below.refl _ _).alloc (Nat.le_refl _) _
  have hrd5 : RdS .i64 W5 W5.heap.size (some ⟨w4.heap.size, 0, none⟩) [0, 1, 1, 3, 0, 0] := by rw [← hW5]; exact rd_new w4 [0, 1, 1, 3, 0, 0] 23
  have HS := Lib.hid (same_same A2 (some ⟨w4.heap.size, 0, none⟩) c2 6 6 _ W5 ((HR24.out.below hb5).more hb5.size) hrd5 rfl (by omega))
  have HB5 := Lib.hid (HB4.out.trans (hb5.mono HB4.out.size))
  have HR45 := Lib.hid ((hr4.below hb5).more hb5.size)
  have HW5 := Lib.hid hW5
  clear hout hr4 hb4 hW5 hb5 hrd5
  simp only [List.length_cons, List.length_nil]
  go_wp2_with fail
  rw [HW5.out]
  refine HS.out.mono ?_
  rintro r w6 ⟨rfl, hb6⟩
  have HB6 := Lib.hid (HB5.out.trans (hb6.mono HB5.out.size))
  obtain ⟨W7, hW7⟩ : ∃ W, w6.alloc (.cells #[.int .i64 0, .int .i64 1, .int .i64 1, .int .i64 2, .int .i64 0, .int .i64 0] 3) = W := ⟨_, rfl⟩
  have hb7 : Below w6.heap.size w6 W7 := by rw [← hW7]; exact (Below.refl _ _).alloc (Nat.le_refl _) _
  have hrd7 : RdS .i64 W7 W7.heap.size (some ⟨w6.heap.size, 0, none⟩) [0, 1, 1, 2, 0, 0] := by rw [← hW7]; exact rd_new w6 [0, 1, 1, 2, 0, 0] 3
  have HT := Lib.hid (ints_same A4 (some ⟨w6.heap.size, 0, none⟩) c4 6 6 _ W7 ((((HR45.out.below hb6).more hb6.size).below hb7).more hb7.size) hrd7 rfl (by omega))
  have HB7 := Lib.hid (HB6.out.trans (hb7.mono HB6.out.size))
  have HW7 := Lib.hid hW7
  clear hb6 hW7 hb7 hrd7
  go_wp2_with fail
  rw [HW7.out]
  refine HT.out.mono ?_
  rintro r w8 ⟨rfl, hb8⟩
  have HB8 := Lib.hid (HB7.out.trans (hb8.mono HB7.out.size))
  clear hb8
  go_wp2_with fail
  go_ret
  exact ⟨rfl, HB8.out⟩
end Go.Proofs.Ytjoiinpkkaigdaa
