/- The contracts of the document's does and fresh. Condition: the machine is right, its counts small. -/
import Derived.Test.YtdipaiflfhdpoaaFit
namespace Go.Proofs.Ytdipaiflfhdpoaa
open Go.RowKit

set_option maxHeartbeats 4000000 in
theorem does_any (base mb g cap k : Nat) (m : M.Mc) (b c : Int) (w : World) (h : MachAt w base mb g cap m) (hf : m.Fit b k) (hk : k ≤ 5000) (hb : 0 ≤ b) :
    Calls Try.prog 31 #[.pointer (some ⟨mb, 0, none⟩), .int .i64 c] w fun r w' => r = .returned (.tuple #[]) ∧ MachOut base mb g (m.does c) w w' := by
  obtain ⟨n, hn, hnk⟩ := hf.size
  obtain ⟨t0, t1⟩ := hf.top hb
  have he0 := hf.ok.e0
  have he1 := hf.e1
  have HE := fun (odd ov : Int) => Lib.hid (embed_any base mb g cap n m odd ov w h hn (by omega) t0 t1 he0 (by omega))
  have HP := Lib.hid (pop_any base mb g cap n m w h hn (by omega) (by omega))
  have HH := Lib.hid h
  have HM := Lib.hid (show m.does c = if c = 16 then m.embed 1 13 else if c = 14 then m.embed 0 13 else if c = 17 then m.embed 1 1 else if c = 15 then m.embed 0 0 else if c = 18 then m.pop else m from rfl)
  clear h hn hf hb he0 he1 t0 t1
  go_enter Try.func31, Try.ntmps31
  by_cases h1 : c = 16
  · rw [if_pos h1] at HM
    subst h1
    go_wp2_with fail
    refine (HE 1 13).out.mono ?_
    rintro r w1 ⟨rfl, hout⟩
    rw [← HM.out] at hout
    have HO := Lib.hid hout
    clear hout
    go_wp2_with fail
    go_returns
    exact ⟨rfl, HO.out⟩
  · rw [if_neg h1] at HM
    by_cases h2 : c = 14
    · rw [if_pos h2] at HM
      subst h2
      go_wp2_with fail
      refine (HE 0 13).out.mono ?_
      rintro r w1 ⟨rfl, hout⟩
      rw [← HM.out] at hout
      have HO := Lib.hid hout
      clear hout
      go_wp2_with fail
      go_returns
      exact ⟨rfl, HO.out⟩
    · rw [if_neg h2] at HM
      by_cases h3 : c = 17
      · rw [if_pos h3] at HM
        subst h3
        go_wp2_with fail
        refine (HE 1 1).out.mono ?_
        rintro r w1 ⟨rfl, hout⟩
        rw [← HM.out] at hout
        have HO := Lib.hid hout
        clear hout
        go_wp2_with fail
        go_returns
        exact ⟨rfl, HO.out⟩
      · rw [if_neg h3] at HM
        by_cases h4 : c = 15
        · rw [if_pos h4] at HM
          subst h4
          go_wp2_with fail
          refine (HE 0 0).out.mono ?_
          rintro r w1 ⟨rfl, hout⟩
          rw [← HM.out] at hout
          have HO := Lib.hid hout
          clear hout
          go_wp2_with fail
          go_returns
          exact ⟨rfl, HO.out⟩
        · rw [if_neg h4] at HM
          by_cases h5 : c = 18
          · rw [if_pos h5] at HM
            subst h5
            go_wp2_with fail
            refine HP.out.mono ?_
            rintro r w1 ⟨rfl, hout⟩
            rw [← HM.out] at hout
            have HO := Lib.hid hout
            clear hout
            go_wp2_with fail
            go_returns
            exact ⟨rfl, HO.out⟩
          · rw [if_neg h5] at HM
            go_wp2_with fail
            go_returns
            exact ⟨rfl, by rw [HM.out]; exact ⟨g, cap, HH.out, Spun.refl _ _ _⟩⟩
/-- A new machine, in blocks of its own. -/
def MachNew (b : Int) (w : World) (r : Ending) (w' : World) : Prop :=
  ∃ mb g cap, r = .returned (.pointer (some ⟨mb, 0, none⟩)) ∧ MachAt w' w.heap.size mb g cap (M.fresh b) ∧ Below w.heap.size w w'
theorem fresh_at (b : Int) (w : World) (t : TypeId) : MachAt ((w.alloc (.cells #[.int .i64 b, .int .i64 13, .bool false] 65)).alloc (.cells #[.slice (some ⟨w.heap.size, 0, none⟩) 1 1, .int .i64 0, .int .i64 0, .int .i64 0] t)) w.heap.size (w.heap.size + 1) w.heap.size 1 (M.fresh b) := by
  obtain ⟨W, hW⟩ : ∃ W, w.alloc (.cells #[.int .i64 b, .int .i64 13, .bool false] 65) = W := ⟨_, rfl⟩
  have hs : W.heap.size = w.heap.size + 1 := by rw [← hW]; simp
  have hg : W.heap[w.heap.size]? = some (.cells #[.int .i64 b, .int .i64 13, .bool false] 65 (0, 0)) := by rw [← hW]; exact World.alloc_heap_new w _
  rw [hW, ← hs]
  have hn : (W.alloc (.cells #[.slice (some ⟨w.heap.size, 0, none⟩) 1 1, .int .i64 0, .int .i64 0, .int .i64 0] t)).heap[W.heap.size]? = some (.cells #[.slice (some ⟨w.heap.size, 0, none⟩) 1 1, .int .i64 0, .int .i64 0, .int .i64 0] t (0, 0)) := World.alloc_heap_new W _
  have hg2 := (Below.heap_alloc W (.cells #[.slice (some ⟨w.heap.size, 0, none⟩) 1 1, .int .i64 0, .int .i64 0, .int .i64 0] t) w.heap.size (by omega)).trans hg
  refine ⟨?_, ?_, ?_, ?_, ?_, ?_, ?_, ?_, ⟨rfl, .inr ⟨w.heap.size, 1, #[.int .i64 b, .int .i64 13, .bool false], rfl, Nat.le_refl _, hg2, Nat.le_refl _, by unfold maxLen; omega, rfl, rfl⟩⟩, by omega, by simp, by omega⟩
  all_goals (first | (unfold World.cell?; rw [hn]; rfl) | (unfold World.frozen?; rw [hn]; rfl))
set_option maxHeartbeats 4000000 in
theorem fresh_any (b : Int) (w : World) : Calls Try.prog 29 #[.int .i64 b] w (MachNew b w) := by
  go_enter Try.func29, Try.ntmps29
  go_wp2_with fail
  go_ret
  exact ⟨_, _, _, rfl, fresh_at b w _, ((Below.refl _ _).alloc (Nat.le_refl _) _).alloc (by simp) _⟩
end Go.Proofs.Ytdipaiflfhdpoaa
