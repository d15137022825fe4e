/- The document's own way to part a string at a byte. Condition: the string has at most 100000 bytes. -/
import Derived.Test.YtjbpjnnflcmmhaaGreatDoorRefTrim
import Derived.Laws.OwnMore
import Derived.StillTailTactics
namespace Go.Proofs.YtjbpjnnflcmmhaaGreatDoor
open Go.RowKit

/-- What stands between the bytes c, a byte at a time. -/
def M.pgo (c : UInt8) : List UInt8 → List UInt8 → List (List UInt8)
  | [], cur => [cur]
  | x :: r, cur => if x = c then cur :: M.pgo c r [] else M.pgo c r (cur ++ [x])
theorem M.pgo_eq (c : UInt8) (l : List UInt8) : ∀ cur, ∃ h t, M.parts c l = h :: t ∧ M.pgo c l cur = (cur ++ h) :: t := by
  induction l with
  | nil => intro cur; exact ⟨[], [], rfl, by simp [M.pgo]⟩
  | cons x r ih =>
    intro cur
    unfold M.pgo M.parts
    by_cases hx : x = c
    · rw [if_pos hx, if_pos hx]
      obtain ⟨h, t, h1, h2⟩ := ih []
      exact ⟨[], M.parts c r, rfl, by rw [h2, h1]; simp⟩
    · rw [if_neg hx, if_neg hx]
      obtain ⟨h, t, h1, h2⟩ := ih (cur ++ [x])
      exact ⟨x :: h, t, by rw [h1], by rw [h2]; simp⟩
theorem M.parts_pgo (c : UInt8) (l : List UInt8) : M.parts c l = M.pgo c l [] := by
  obtain ⟨h, t, h1, h2⟩ := M.pgo_eq c l []
  rw [h1, h2]
  rfl

theorem ext_one (s : ByteArray) (k : Nat) (h : k < s.size) : (s.extract k (k + 1)).data.toList = [s[k]] := by
  rw [ext_list, take_snoc s k h]
  exact List.drop_left' (by simp; omega)

def strs (ps : List (List UInt8)) : List Value := ps.map fun p => Value.string (M.bytes p)
/-- The call's own row of strings. -/
def OwnS (w : World) (base : Nat) (v : Value) (ps : List (List UInt8)) : Prop := w.ownsRow base 9 1 v ps.length (strs ps)
theorem Tryz.infoString : (Tryz.prog.info? 9).map (fun i => (i.zero, i.size, i.bytes)) = some (some (.string ⟨#[]⟩), 1, 16) := by kernel_rfl

theorem OwnS.snoc {w : World} {base : Nat} {v : Value} {ps : List (List UInt8)} {p : List UInt8} (h : w.ownsRow base 9 1 v (ps.length + 1) (strs ps ++ [.string (M.bytes p)])) : OwnS w base v (ps ++ [p]) := by
  unfold OwnS strs
  rw [List.length_append, List.map_append]
  exact h
/-- The last string is written anew. -/
theorem OwnS.last {w : World} {base g cap : Nat} {ps : List (List UInt8)} {p : List UInt8} (h : OwnS w base (.slice (some ⟨g, 0, none⟩) (ps.length + 1) cap) (ps ++ [p])) (q : List UInt8) :
    w.cell? ⟨g, ps.length, none⟩ = some (.string (M.bytes p)) ∧ w.frozen? ⟨g, ps.length, none⟩ = false ∧ OwnS (w.setCell ⟨g, ps.length, none⟩ (.string (M.bytes q))) base (.slice (some ⟨g, 0, none⟩) (ps.length + 1) cap) (ps ++ [q]) ∧ base ≤ g := by
  unfold OwnS at h
  rw [List.length_append] at h
  have hl : (strs ps).length = ps.length := by simp [strs]
  refine ⟨?_, World.ownsRow.frozenAt h _, ?_, (World.ownsRow.lt h g rfl).1⟩
  · rw [World.ownsRow.cellAt h ps.length (by simp)]
    unfold strs
    rw [List.map_append, List.getElem?_append_right (by simp)]
    simp
  · have := (World.ownsRow.stored h ps.length (.string (M.bytes q))).1
    have e1 : (strs (ps ++ [p])).set ps.length (.string (M.bytes q)) = strs (ps ++ [q]) := by
      unfold strs
      rw [List.map_append, List.map_append, List.set_append_right _ _ (by simp)]
      simp
    rw [e1] at this
    unfold OwnS
    rw [List.length_append]
    exact this

/-- What parts leaves. -/
def PartsOut (w : World) (ps : List (List UInt8)) (e : Ending) (w' : World) : Prop :=
  ∃ g cap, e = .returned (.slice (some ⟨g, 0, none⟩) ps.length cap) ∧ g < w'.heap.size ∧ (∀ j p, ps[j]? = some p → w'.cell? ⟨g, j, none⟩ = some (.string (M.bytes p))) ∧ ps.length ≤ cap ∧ cap ≤ maxLen ∧ Below w.heap.size w w'
theorem parts_out {w w' : World} {v : Value} {ps : List (List UInt8)} (h : OwnS w' w.heap.size v ps) (hp : 0 < ps.length) (hb : Below w.heap.size w w') : PartsOut w ps (.returned v) w' := by
  rcases h.2 with ⟨_, h0⟩ | ⟨g, cap, cur, rfl, _, hg, hn, hm, _, _⟩
  · omega
  · refine ⟨g, cap, rfl, lt_of_block hg, fun j p hj => ?_, hn, hm, hb⟩
    have := World.ownsRow.cellAt h j (by have := (List.getElem?_eq_some_iff.1 hj).1; omega)
    rw [this]
    unfold strs
    rw [List.getElem?_map, hj]
    rfl

set_option maxRecDepth 100000 in
set_option maxHeartbeats 4000000 in
theorem refParts_any (s : ByteArray) (c : UInt8) (w : World) (hm : s.size ≤ 100000) :
    Calls Tryz.prog 14 #[.string s, .int .u8 c.toNat] w (PartsOut w (M.parts c s.data.toList)) := by
  obtain ⟨i0, hi, hz0, hz1, hz2⟩ := info_parts Tryz.infoString
  have HL := Lib.hid (show s.data.toList.length = s.size by simp)
  go_enter Tryz.func14, Tryz.ntmps14
  go_wp2
  go_loopw [5, 6] (fun v i wr => ∃ (k : Nat) (done : List (List UInt8)) (cur : List UInt8), k ≤ s.size ∧ i = .int .i64 k ∧ OwnS wr w.heap.size v (done ++ [cur]) ∧ cur.length ≤ k ∧ done.length ≤ k ∧ M.parts c s.data.toList = done ++ M.pgo c (s.data.toList.drop k) cur ∧ Below w.heap.size w wr) (fun _ i _ => s.size - (intOf i).toNat)
  case atStart => exact ⟨0, [], [], Nat.zero_le _, rfl, ⟨rfl, .inr ⟨_, 1, _, rfl, Nat.le_refl _, heap_alloc_new w _, Nat.le_refl _, by decide, rfl, rfl⟩⟩, Nat.zero_le _, Nat.zero_le _, M.parts_pgo _ _, (Below.refl _ _).alloc (Nat.le_refl _) _⟩
  case round =>
    obtain ⟨k, done, cur, hk, rfl, hown, hcl, hdl, hp, hb⟩ := hrel
    have HO := Lib.hid hown
    have HP := Lib.hid hp
    have HB := Lib.hid hb
    have hsz := hb.size
    obtain ⟨g, cap, rfl⟩ : ∃ g cap, _ = Value.slice (some ⟨g, 0, none⟩) (done.length + 1) cap := ownsRow_succ (by unfold OwnS at hown; rw [List.length_append] at hown; exact hown)
    clear hown hp hb
    by_cases hlt : k < s.size
    · have hdrop : s.data.toList.drop k = s[k] :: s.data.toList.drop (k + 1) := List.drop_eq_getElem_cons (by rw [HL.out]; exact hlt)
      by_cases hc : s[k] = c
      · have hcc : (s[k].toNat : Int) = (c.toNat : Int) := by rw [hc]
        have HN := Lib.hid (show M.parts c s.data.toList = (done ++ [cur]) ++ M.pgo c (s.data.toList.drop (k + 1)) [] by rw [HP.out, hdrop, M.pgo, if_pos hc]; simp)
        clear hc hdrop
        go_wp2_with (at_builtin; refine wpList_append_own _ rfl _ _ 40 rfl w.heap.size 9 i0 _ 1 16 Tryz.underlying40 hi hz0 hz1 hz2 rfl (by decide) _ _ _ rfl (World.ownsRow.alloc HO.out _) ⟨wr.heap.size, 0, none⟩ 1 1 [.string ⟨#[]⟩] rfl rfl (one_new _ _ _) (by intro u hu; simp at hu; subst hu; rfl) (by unfold maxLen; rw [List.length_append]; simp; omega) (by rw [List.length_append]; simp; omega) (by simp; omega) ?_)
        intro v3 w3 hown3 hgrow3 _
        have hb3 : Below w.heap.size w w3 := (HB.out.alloc hsz _).grown hgrow3 (by simp; omega) (fun j hj => (World.ownsRow.lt HO.out j hj).1)
        have HO3 := Lib.hid (OwnS.snoc (ps := done ++ [cur]) (p := []) (by rw [List.length_append]; exact hown3))
        have HB3 := Lib.hid hb3
        clear hown3 hgrow3 hb3
        go_wp2
        go_roundw
        case rel => exact ⟨k + 1, done ++ [cur], [], by omega, by go_num, HO3.out, by simp, by simp; omega, HN.out, HB3.out⟩
        case measure => simp [intOf]; omega
      · have hcc : ((s[k].toNat : Int) == (c.toNat : Int)) = false := by rw [beq_eq_false_iff_ne]; exact fun h => hc (UInt8.toNat_inj.1 (by omega))
        have HN := Lib.hid (show M.parts c s.data.toList = done ++ M.pgo c (s.data.toList.drop (k + 1)) (cur ++ [s[k]]) by rw [HP.out, hdrop, M.pgo, if_neg hc])
        clear hc hdrop
        obtain ⟨q1, q2, q3, q4⟩ := OwnS.last HO.out (cur ++ [s[k]])
        have HQ := Lib.hid q3
        have HQ4 := Lib.hid q4
        obtain ⟨C, hC⟩ : ∃ C, M.bytes cur = C := ⟨_, rfl⟩
        have hCs : C.size ≤ k := by rw [← hC, bytes_size]; exact hcl
        rw [hC] at q1
        have HC := Lib.hid hC
        have hes : (s.extract k (k + 1)).size = 1 := by simp; omega
        have HE := Lib.hid (show C ++ s.extract k (k + 1) = M.bytes (cur ++ [s[k]]) by
          rw [← hC, str_append, M.bytes_list, ext_one s k hlt])
        clear q3 q4 hC
        have hwr : IntKind.i64.wrap (done.length : Int) = (done.length : Int) := by rw [IntKind.wrap_i64]; omega
        have hwk : IntKind.i64.wrap ((k : Int) + 1) = (k : Int) + 1 := by rw [IntKind.wrap_i64]; omega
        have hi1 : (0 : Int) ≤ (done.length : Int) := by omega
        have hi2 : (done.length : Int) < (done.length : Int) + 1 := by omega
        have hi3 : done.length < done.length + 1 := by omega
        have hj1 : (0 : Int) ≤ (k : Int) := by omega
        have hj2 : (k : Int) ≤ (k : Int) + 1 := by omega
        have hj3 : (k : Int) + 1 ≤ (s.size : Int) := by omega
        have hj4 : ¬ (s.size : Int) < (k : Int) + 1 := by omega
        have hj5 : ¬ (k : Int) + 1 < (k : Int) := by omega
        have hj6 : ¬ (k : Int) < 0 := by omega
        have hj7 : ¬ (k : Int) + 1 < 0 := by omega
        have hj8 : ((k : Int) + 1).toNat = k + 1 := by omega
        have hsum : C.size + 1 ≤ 9223372036854775807 := by omega
        have hsum2 : ¬ 9223372036854775807 < C.size + 1 := by omega
        go_wp2
        go_still_tail 17, (by kernel_rfl)
        change wpList _ _ _ _ _ wr.drew
        rw [HE.out]
        have HQ5 := Lib.hid (show OwnS (wr.drew.setCell ⟨g, done.length, none⟩ (.string (M.bytes (cur ++ [s[k]])))) w.heap.size (.slice (some ⟨g, 0, none⟩) (done.length + 1) cap) (done ++ [cur ++ [s[k]]]) from HQ.out)
        have HB5 := Lib.hid (HB.out.drew.setCell (p := ⟨g, done.length, none⟩) HQ4.out (.string (M.bytes (cur ++ [s[k]]))))
        have q5 : wr.drew.cell? ⟨g, done.length, none⟩ = some (.string C) := q1
        have q6 : wr.drew.frozen? ⟨g, done.length, none⟩ = false := q2
        obtain ⟨W, hW⟩ : ∃ W, wr.drew = W := ⟨_, rfl⟩
        obtain ⟨D, hD⟩ : ∃ D, M.bytes (cur ++ [s[k]]) = D := ⟨_, rfl⟩
        rw [hW] at q5 q6 HQ5 HB5 ⊢
        rw [hD] at HQ5 HB5 ⊢
        clear hW hD q1 q2
        go_wp2
        go_roundw
        case rel => exact ⟨k + 1, done, cur ++ [s[k]], by omega, by go_num, HQ5.out, by simp; omega, by omega, HN.out, HB5.out⟩
        case measure => simp [intOf]; omega
    · have HF := Lib.hid (show M.parts c s.data.toList = done ++ [cur] by rw [HP.out, List.drop_eq_nil_of_le (by rw [HL.out]; omega)]; rfl)
      go_wp2
      go_ret
      rw [HF.out]
      exact parts_out HO.out (by simp) HB.out
end Go.Proofs.YtjbpjnnflcmmhaaGreatDoor
