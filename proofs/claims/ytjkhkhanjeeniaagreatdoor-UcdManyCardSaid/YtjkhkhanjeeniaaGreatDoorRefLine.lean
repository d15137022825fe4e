/- The document's own line of an entry. Condition: the entry is right. -/
import Derived.Test.YtjkhkhanjeeniaaGreatDoorRefFig
namespace Go.Proofs.YtjkhkhanjeeniaaGreatDoor
open Go.RowKit

set_option maxHeartbeats 4000000 in
theorem refLine_any (e : M.E) (w : World) (he : M.right e = true) :
    Calls Tryz.prog 19 #[e.val] w fun r w' => r = .returned (.string (M.bytes (M.line e ++ [10]))) ∧ Below w.heap.size w w' := by
  obtain ⟨a, b, v, x⟩ := e
  simp only [M.right, M.rising, Bool.and_eq_true, decide_eq_true_eq, Bool.or_eq_true] at he
  obtain ⟨⟨⟨ha, hab, hb⟩, hv⟩, hx⟩ := he
  obtain ⟨n, rfl⟩ : ∃ n : Nat, a = n := ⟨a.toNat, by omega⟩
  obtain ⟨m, rfl⟩ : ∃ m : Nat, b = m := ⟨b.toNat, by omega⟩
  have hvl : v.size ≤ 16 := by have := M.word_le hv; simpa using this
  have hxl : x.size ≤ 16 := by
    rcases hx with hx | hx
    · have h1 : x.size = x.data.toList.length := by simp
      rw [h1, hx]
      decide
    · have := M.word_le hx; simpa using this
  unfold M.E.val
  obtain ⟨F, hF⟩ : ∃ F, M.bytes (M.figs n) = F := ⟨_, rfl⟩
  obtain ⟨G, hG⟩ : ∃ G, M.bytes (M.figs m) = G := ⟨_, rfl⟩
  have hFl : F.size ≤ 6 := by rw [← hF, bytes_size, M.figs_length]; have := M.ndig_le n; omega
  have hGl : G.size ≤ 6 := by rw [← hG, bytes_size, M.figs_length]; have := M.ndig_le m; omega
  have HF := Lib.hid hF
  have HG := Lib.hid hG
  have hb0 : Below w.heap.size w (w.alloc (.cells #[.int .i64 n, .int .i64 m, .string v, .string x] 35)) := (Below.refl _ _).alloc (Nat.le_refl _) _
  have HB0 := Lib.hid hb0
  have hF4 := Four.new w (.int .i64 n) (.int .i64 m) (.string v) (.string x) 35
  have HF4 := Lib.hid hF4
  clear hF hG hb0 hF4 hv hx
  by_cases hne : m = n
  · subst hne
    by_cases hx0 : x.data.toList = []
    · obtain rfl : x = ByteArray.empty := by rw [← M.bytes_self x, hx0]; rfl
      have HL := Lib.hid (show M.line ⟨m, m, v, ByteArray.empty⟩ = M.figs m ++ [] ++ [32, 59, 32] ++ v.data.toList ++ [] by
        unfold M.line
        dsimp only
        rw [if_pos rfl, if_pos (show ByteArray.empty.data.toList = [] from rfl)]
        rfl)
      clear hx0
      go_enter Tryz.func19, Tryz.ntmps19
      go_wp2_with fail
      refine (refFigures_any m _ (by omega)).mono ?_
      rintro e w1 ⟨rfl, hb1⟩
      rw [HF.out]
      have hbw1 := HB0.out.trans (hb1.mono (by simp))
      have f1 := HF4.out.below hb1 (by simp)
      have HF1 := Lib.hid f1
      have HBW1 := Lib.hid hbw1
      have hsz1 : w.heap.size < w1.heap.size := by have := hb1.size; simp at this; omega
      clear hb1 hbw1
      obtain ⟨c0, c1, c2, c3, g0, g1, g2, g3⟩ := f1
      clear g0 g1 g2 g3
      go_wp2
      go_ret
      refine ⟨ret_str ?_, HBW1.out⟩
      rw [HL.out, ← HF.out]
      apply byte_ext
      simp [ByteArray.data_append, M.bytes_list]
    · have hl0 : ¬ x.toList = [] := by rw [toList_nil]; exact hx0
      have hl1 : x.toList.isEmpty = false := by rw [List.isEmpty_eq_false_iff]; exact hl0
      have HL := Lib.hid (show M.line ⟨m, m, v, x⟩ = M.figs m ++ [] ++ [32, 59, 32] ++ v.data.toList ++ ([32, 59, 32] ++ x.data.toList) by
        unfold M.line
        dsimp only
        rw [if_pos rfl, if_neg hx0]
        rfl)
      clear hx0
      go_enter Tryz.func19, Tryz.ntmps19
      go_wp2_with fail
      refine (refFigures_any m _ (by omega)).mono ?_
      rintro e w1 ⟨rfl, hb1⟩
      rw [HF.out]
      have hbw1 := HB0.out.trans (hb1.mono (by simp))
      have f1 := HF4.out.below hb1 (by simp)
      have HF1 := Lib.hid f1
      have HBW1 := Lib.hid hbw1
      have hsz1 : w.heap.size < w1.heap.size := by have := hb1.size; simp at this; omega
      clear hb1 hbw1
      obtain ⟨c0, c1, c2, c3, g0, g1, g2, g3⟩ := f1
      clear g0 g1 g2 g3
      go_wp2
      go_ret
      refine ⟨ret_str ?_, HBW1.out⟩
      rw [HL.out, ← HF.out]
      apply byte_ext
      simp [ByteArray.data_append, M.bytes_list]
  · have hne1 : ((m : Int) == (n : Int)) = false := by rw [beq_eq_false_iff_ne]; omega
    have hne2 : ((m : Int) != (n : Int)) = true := by rw [bne_iff_ne]; omega
    by_cases hx0 : x.data.toList = []
    · obtain rfl : x = ByteArray.empty := by rw [← M.bytes_self x, hx0]; rfl
      have HL := Lib.hid (show M.line ⟨n, m, v, ByteArray.empty⟩ = M.figs n ++ ([46, 46] ++ M.figs m) ++ [32, 59, 32] ++ v.data.toList ++ [] by
        unfold M.line
        dsimp only
        rw [if_neg (show ¬ ((m : Int) = n) by omega), if_pos (show ByteArray.empty.data.toList = [] from rfl)]
        rfl)
      clear hx0
      go_enter Tryz.func19, Tryz.ntmps19
      go_wp2_with fail
      refine (refFigures_any n _ (by omega)).mono ?_
      rintro e w1 ⟨rfl, hb1⟩
      rw [HF.out]
      have hbw1 := HB0.out.trans (hb1.mono (by simp))
      have f1 := HF4.out.below hb1 (by simp)
      have HF1 := Lib.hid f1
      have HBW1 := Lib.hid hbw1
      have hsz1 : w.heap.size < w1.heap.size := by have := hb1.size; simp at this; omega
      clear hb1 hbw1
      obtain ⟨c0, c1, c2, c3, g0, g1, g2, g3⟩ := f1
      clear g0 g1 g2 g3
      go_wp2_with fail
      refine (refFigures_any m _ (by omega)).mono ?_
      rintro e w2 ⟨rfl, hb2⟩
      rw [HG.out]
      have f2 := HF1.out.below hb2 hsz1
      have hbw2 := HBW1.out.trans (hb2.mono (by omega))
      clear c0 c1 c2 c3 hb2
      obtain ⟨c0, c1, c2, c3, g0, g1, g2, g3⟩ := f2
      clear g0 g1 g2 g3
      go_wp2
      go_ret
      refine ⟨ret_str ?_, hbw2⟩
      rw [HL.out, ← HF.out, ← HG.out]
      apply byte_ext
      simp [ByteArray.data_append, M.bytes_list]
    · have hl0 : ¬ x.toList = [] := by rw [toList_nil]; exact hx0
      have hl1 : x.toList.isEmpty = false := by rw [List.isEmpty_eq_false_iff]; exact hl0
      have HL := Lib.hid (show M.line ⟨n, m, v, x⟩ = M.figs n ++ ([46, 46] ++ M.figs m) ++ [32, 59, 32] ++ v.data.toList ++ ([32, 59, 32] ++ x.data.toList) by
        unfold M.line
        dsimp only
        rw [if_neg (show ¬ ((m : Int) = n) by omega), if_neg hx0]
        rfl)
      clear hx0
      go_enter Tryz.func19, Tryz.ntmps19
      go_wp2_with fail
      refine (refFigures_any n _ (by omega)).mono ?_
      rintro e w1 ⟨rfl, hb1⟩
      rw [HF.out]
      have hbw1 := HB0.out.trans (hb1.mono (by simp))
      have f1 := HF4.out.below hb1 (by simp)
      have HF1 := Lib.hid f1
      have HBW1 := Lib.hid hbw1
      have hsz1 : w.heap.size < w1.heap.size := by have := hb1.size; simp at this; omega
      clear hb1 hbw1
      obtain ⟨c0, c1, c2, c3, g0, g1, g2, g3⟩ := f1
      clear g0 g1 g2 g3
      go_wp2_with fail
      refine (refFigures_any m _ (by omega)).mono ?_
      rintro e w2 ⟨rfl, hb2⟩
      rw [HG.out]
      have f2 := HF1.out.below hb2 hsz1
      have hbw2 := HBW1.out.trans (hb2.mono (by omega))
      clear c0 c1 c2 c3 hb2
      obtain ⟨c0, c1, c2, c3, g0, g1, g2, g3⟩ := f2
      clear g0 g1 g2 g3
      go_wp2
      go_ret
      refine ⟨ret_str ?_, hbw2⟩
      rw [HL.out, ← HF.out, ← HG.out]
      apply byte_ext
      simp [ByteArray.data_append, M.bytes_list]
end Go.Proofs.YtjkhkhanjeeniaaGreatDoor
