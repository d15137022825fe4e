/- The contract of ucd's entry over the translation. Conditions: a string that is not empty and shorter than 4294967281 bytes; the variable MaxLen of the library holds some number. -/
import Derived.Test.YtjbpjnnflcmmhaaGreatDoorEnds
namespace Go.Proofs.YtjbpjnnflcmmhaaGreatDoor
open Go.RowKit

theorem bcell {W w1 : World} (hb : Below W.heap.size W w1) : (∀ b o, b < W.heap.size → w1.cell? ⟨b, o, none⟩ = W.cell? ⟨b, o, none⟩) ∧ (∀ b o, b < W.heap.size → w1.frozen? ⟨b, o, none⟩ = W.frozen? ⟨b, o, none⟩) :=
  ⟨fun b o h => hb.cell (p := ⟨b, o, none⟩) h, fun b o h => hb.frozen (p := ⟨b, o, none⟩) h⟩

theorem cells_at (w : World) (ps : List ByteArray) (N : Nat) (t : TypeId) (j : Nat) (p : ByteArray) (h : ps[j]? = some p) : (w.alloc (.cells (Lib.cellsOf ps N) t)).cell? ⟨w.heap.size, j, none⟩ = some (.string p) := by
  have hj := (List.getElem?_eq_some_iff.1 h).1
  have : (Lib.cellsOf ps N)[j]? = some (.string p) := by
    unfold Lib.cellsOf
    rw [List.getElem?_toArray, List.getElem?_append_left (by simpa using hj), List.getElem?_map, h]
    rfl
  simp [go_sem, this]

/-- The pieces of a text, as SplitN tells them: at most four. -/
theorem splitN_any (s : ByteArray) (hs : s.size < 4294967281) (h0 : 1 ≤ s.size) :
    ∃ ps : List ByteArray, ((M.parts 59 s.data.toList).length ≤ 3 → ps.map (·.data.toList) = M.parts 59 s.data.toList) ∧ (3 < (M.parts 59 s.data.toList).length → ps.length = 4) ∧ (∀ p ∈ ps, p.size ≤ s.size) ∧
    ∀ w, MaxOk w → Calls Tryz.prog 23 #[.string s, .string ⟨#[59]⟩, .int .i64 4] w fun e w' => ∃ cap, e = .returned (.slice (some ⟨w.heap.size, 0, none⟩) ps.length cap) ∧ (∀ j p, ps[j]? = some p → w'.cell? ⟨w.heap.size, j, none⟩ = some (.string p)) ∧ w'.heap.size = w.heap.size + 1 ∧ Below w.heap.size w w' := by
  refine ⟨Lib.splitB ⟨#[59]⟩ 0 (min 4 (s.size + 1) - 1) s, fun h => ?_, fun h => ?_, ?_, ?_⟩
  · rw [Lib.splitB_data]
    exact M.splitK_all 59 _ _ (by have := M.parts_length_le 59 s.data.toList; simp at this; omega)
  · have hl := M.parts_length_le 59 s.data.toList
    have : ((Lib.splitB ⟨#[59]⟩ 0 (min 4 (s.size + 1) - 1) s).map (·.data.toList)).length = 4 := by
      rw [Lib.splitB_data]
      have h3 : min 4 (s.size + 1) - 1 = 3 := by simp at hl; omega
      rw [h3]
      by_cases h4 : (M.parts 59 s.data.toList).length = 4
      · show (Lib.splitK [59] 0 3 s.data.toList).length = 4
        rw [M.splitK_all 59 3 _ (by omega), h4]
      · exact M.splitK_many 59 3 _ (by omega)
    simpa using this
  · have key : ∀ (k : Nat) (s : ByteArray), ∀ p ∈ Lib.splitB ⟨#[59]⟩ 0 k s, p.size ≤ s.size := by
      intro k
      induction k with
      | zero => intro s p hp; simp [Lib.splitB] at hp; subst hp; exact Nat.le_refl _
      | succ k ih =>
        intro s p hp
        unfold Lib.splitB at hp
        split at hp
        · simp at hp; subst hp; exact Nat.le_refl _
        · simp only [List.mem_cons] at hp
          rcases hp with rfl | hp
          · rw [ByteArray.size_extract]; omega
          · refine Nat.le_trans (ih _ _ hp) ?_
            rw [ByteArray.size_extract]; omega
    exact key _ _
  · rintro w ⟨m, hm⟩
    refine (Any.strings_SplitN Tryz.lays147 (by kernel_rfl) s ⟨#[59]⟩ 4 m w hs hm (by decide) (by omega) (by omega)).mono fun e w' ⟨he, hw⟩ => ?_
    subst hw
    exact ⟨_, he, fun j p hp => cells_at w _ _ _ j p hp, by simp, (Below.refl _ _).alloc (Nat.le_refl _) _⟩

/-- An entry as a value. -/
def M.E.val (e : M.E) : Value := .agg #[.int .i64 e.a, .int .i64 e.b, .string e.v, .string e.x]

/-- What entry makes of two pieces, or three, or of too few or too many. -/
def M.make (ps : List (List UInt8)) : Option M.E := match ps with
  | [f, g] => match M.ends (M.trim f) with
    | some (a, b) => if M.word (M.trim g) then some ⟨a, b, M.bytes (M.trim g), ByteArray.empty⟩ else none
    | none => none
  | [f, g, h] => match M.ends (M.trim f) with
    | some (a, b) => if M.word (M.trim g) && M.word (M.trim h) then some ⟨a, b, M.bytes (M.trim g), M.bytes (M.trim h)⟩ else none
    | none => none
  | _ => none
theorem M.make_eq (s : List UInt8) : M.make (M.parts 59 s) = M.entry s := rfl

/-- Four cells of a block, none of them frozen. -/
structure Four (w : World) (B : Nat) (a b c d : Value) : Prop where
  c0 : w.cell? ⟨B, 0, none⟩ = some a
  c1 : w.cell? ⟨B, 1, none⟩ = some b
  c2 : w.cell? ⟨B, 2, none⟩ = some c
  c3 : w.cell? ⟨B, 3, none⟩ = some d
  f0 : w.frozen? ⟨B, 0, none⟩ = false
  f1 : w.frozen? ⟨B, 1, none⟩ = false
  f2 : w.frozen? ⟨B, 2, none⟩ = false
  f3 : w.frozen? ⟨B, 3, none⟩ = false
theorem Four.new (w : World) (a b c d : Value) (t : TypeId) : Four (w.alloc (.cells #[a, b, c, d] t)) w.heap.size a b c d := by
  constructor <;> simp [go_sem]
theorem Four.below {w w' : World} {B n : Nat} {a b c d : Value} (h : Four w B a b c d) (hb : Below n w w') (hB : B < n) : Four w' B a b c d :=
  ⟨(hb.cell (p := ⟨B, 0, none⟩) hB).trans h.c0, (hb.cell (p := ⟨B, 1, none⟩) hB).trans h.c1, (hb.cell (p := ⟨B, 2, none⟩) hB).trans h.c2, (hb.cell (p := ⟨B, 3, none⟩) hB).trans h.c3,
   (hb.frozen (p := ⟨B, 0, none⟩) hB).trans h.f0, (hb.frozen (p := ⟨B, 1, none⟩) hB).trans h.f1, (hb.frozen (p := ⟨B, 2, none⟩) hB).trans h.f2, (hb.frozen (p := ⟨B, 3, none⟩) hB).trans h.f3⟩

theorem Four.set2 {w : World} {B : Nat} {a b c d : Value} (h : Four w B a b c d) (x y : Value) : Four ((w.setCell ⟨B, 0, none⟩ x).setCell ⟨B, 1, none⟩ y) B x y c d := by
  obtain ⟨c0, c1, c2, c3, f0, f1, f2, f3⟩ := h
  constructor <;> simp [go_sem, c0, c1, c2, c3, f0, f1, f2, f3]
theorem Four.set2_other {w : World} {B G : Nat} {a b c d : Value} (h : Four w B a b c d) (hne : B ≠ G) (x y : Value) : Four ((w.setCell ⟨G, 0, none⟩ x).setCell ⟨G, 1, none⟩ y) B a b c d := by
  obtain ⟨c0, c1, c2, c3, f0, f1, f2, f3⟩ := h
  constructor <;> simp [go_sem, c0, c1, c2, c3, f0, f1, f2, f3]
theorem Four.set1 {w : World} {B : Nat} {a b c d : Value} (h : Four w B a b c d) (x : Value) : Four (w.setCell ⟨B, 2, none⟩ x) B a b x d := by
  obtain ⟨c0, c1, c2, c3, f0, f1, f2, f3⟩ := h
  constructor <;> simp [go_sem, c0, c1, c2, c3, f0, f1, f2, f3]
theorem Four.set1_other {w : World} {B G : Nat} {a b c d : Value} (h : Four w B a b c d) (hne : B ≠ G) (x : Value) : Four (w.setCell ⟨G, 2, none⟩ x) B a b c d := by
  obtain ⟨c0, c1, c2, c3, f0, f1, f2, f3⟩ := h
  constructor <;> simp [go_sem, c0, c1, c2, c3, f0, f1, f2, f3]

theorem Four.set3 {w : World} {B : Nat} {a b c d : Value} (h : Four w B a b c d) (x : Value) : Four (w.setCell ⟨B, 3, none⟩ x) B a b c x := by
  obtain ⟨c0, c1, c2, c3, f0, f1, f2, f3⟩ := h
  constructor <;> simp [go_sem, c0, c1, c2, c3, f0, f1, f2, f3]
theorem Four.set3_other {w : World} {B G : Nat} {a b c d : Value} (h : Four w B a b c d) (hne : B ≠ G) (x : Value) : Four (w.setCell ⟨G, 3, none⟩ x) B a b c d := by
  obtain ⟨c0, c1, c2, c3, f0, f1, f2, f3⟩ := h
  constructor <;> simp [go_sem, c0, c1, c2, c3, f0, f1, f2, f3]
theorem entry_results {W : World} {B : Nat} {a b c d : Value} (h : Four W B a b c d) (tmps : Array Value) (ht : tmps[2]?.getD undef = .pointer (some ⟨B, 0, none⟩)) : (results Tryz.f13 tmps).run Tryz.prog W = .ok (.agg #[a, b, c, d]) W := by
  obtain ⟨c0, c1, c2, c3, f0, f1, f2, f3⟩ := h
  simp [results, Tryz.results13, go_sem, ht, c0, c1, c2, c3]

/-- The zero entry. -/
abbrev zeroE : Obj := .cells #[.int .i64 0, .int .i64 0, .string ⟨#[]⟩, .string ⟨#[]⟩] 35

/-- Where entry stands when its first field has been trimmed. -/
structure Mid (w w2 : World) (B : Nat) : Prop where
  lt : w.heap.size + 1 < B
  lt2 : B < w2.heap.size
  r : Four w2 w.heap.size (.int .i64 0) (.int .i64 0) (.string ⟨#[]⟩) (.string ⟨#[]⟩)
  d : Four w2 B (.int .i64 0) (.int .i64 0) (.string ⟨#[]⟩) (.string ⟨#[]⟩)
  below : Below w.heap.size w w2
theorem Mid.mk' {w w1 w2 : World} (hlt : w.heap.size + 1 < w1.heap.size) (hb1 : Below (w.heap.size + 1) (w.alloc zeroE) w1) (hb2 : Below (w1.alloc zeroE).heap.size (w1.alloc zeroE) w2) : Mid w w2 w1.heap.size := by
  simp only [World.size_alloc] at hb2
  have k : Below w1.heap.size w1 (w1.alloc zeroE) := (Below.refl _ _).alloc (Nat.le_refl _) _
  refine ⟨hlt, by have := hb2.size; simp at this; omega, ?_, (Four.new w1 _ _ _ _ _).below hb2 (by omega), ?_⟩
  · exact (((Four.new w _ _ _ _ _).below hb1 (by omega)).below k (by omega)).below hb2 (by omega)
  · exact ((((Below.refl _ _).alloc (Nat.le_refl _) _).trans (hb1.mono (by omega))).trans (k.mono (by omega))).trans (hb2.mono (by omega))
theorem Mid.next {w w2 w3 : World} {B : Nat} (h : Mid w w2 B) (hb : Below w2.heap.size w2 w3) : Mid w w3 B :=
  ⟨h.lt, Nat.lt_of_lt_of_le h.lt2 hb.size, h.r.below hb (by have := h.lt; have := h.lt2; omega), h.d.below hb h.lt2, h.below.trans (hb.mono (by have := h.below.size; omega))⟩

set_option maxHeartbeats 2000000 in
theorem entry_two_ends (s p q : ByteArray) (w : World) (hm : MaxOk w) (hp : p.size < 4294967281)
    (hsp : ∀ w, MaxOk w → Calls Tryz.prog 23 #[.string s, .string ⟨#[59]⟩, .int .i64 4] w fun e w' => ∃ cap, e = .returned (.slice (some ⟨w.heap.size, 0, none⟩) 2 cap) ∧ (w'.cell? ⟨w.heap.size, 0, none⟩ = some (.string p) ∧ w'.cell? ⟨w.heap.size, 1, none⟩ = some (.string q)) ∧ w'.heap.size = w.heap.size + 1 ∧ Below w.heap.size w w')
    (he : M.ends (M.trim p.data.toList) = none) :
    Calls Tryz.prog 13 #[.string s] w fun e w' => e = .panicked ucdPanic ∧ Below w.heap.size w w' := by
  have HM := Lib.hid hm
  have HS := Lib.hid hsp
  obtain ⟨tp, htp⟩ : ∃ t, M.bytes (M.trim p.data.toList) = t := ⟨_, rfl⟩
  have HP := Lib.hid htp
  have htps : tp.size < 4294967281 := by rw [← htp, bytes_size]; exact Nat.lt_of_le_of_lt (trim_le _) (by simpa using hp)
  have HE := Lib.hid (show M.ends tp.data.toList = none by rw [← htp, M.bytes_list]; exact he)
  clear hm hsp he htp
  go_enter Tryz.func13, Tryz.ntmps13
  go_wp2_with fail
  refine (HS.out _ (HM.out.next ((Below.refl _ _).alloc (Nat.le_refl _) _))).mono ?_
  rintro e w1 ⟨cap, rfl, ⟨hc0, hc1⟩, hz1, hb1⟩
  simp only [World.size_alloc] at hc0 hc1 hz1 hb1
  have hlt1 : w.heap.size + 1 < w1.heap.size := by rw [hz1]; omega
  have HB1 := Lib.hid hb1
  clear hb1 hz1
  go_wp2_with fail
  refine (trim_any p _ (by unfold maxLen; omega)).mono ?_
  rintro e w2 ⟨rfl, hb2⟩
  rw [HP.out]
  have hmid := Mid.mk' hlt1 HB1.out hb2
  have HMID := Lib.hid hmid
  clear hb2 HB1 hmid  hc0 hc1
  go_wp2_with fail
  refine (ends_none tp _ (HM.out.next HMID.out.below) htps HE.out).mono ?_
  rintro e w3 ⟨rfl, hb3⟩
  have hmid3 := (HMID.out.next hb3).below
  go_wp2
  exact ⟨rfl, rfl, hmid3⟩

set_option maxHeartbeats 2000000 in
theorem entry_two_word (s p q : ByteArray) (a b : Nat) (w : World) (hm : MaxOk w) (hp : p.size < 4294967281) (hq : q.size < 4294967281)
    (hsp : ∀ w, MaxOk w → Calls Tryz.prog 23 #[.string s, .string ⟨#[59]⟩, .int .i64 4] w fun e w' => ∃ cap, e = .returned (.slice (some ⟨w.heap.size, 0, none⟩) 2 cap) ∧ (w'.cell? ⟨w.heap.size, 0, none⟩ = some (.string p) ∧ w'.cell? ⟨w.heap.size, 1, none⟩ = some (.string q)) ∧ w'.heap.size = w.heap.size + 1 ∧ Below w.heap.size w w')
    (he : M.ends (M.trim p.data.toList) = some (a, b)) (hw : M.word (M.trim q.data.toList) = false) :
    Calls Tryz.prog 13 #[.string s] w fun e w' => e = .panicked ucdPanic ∧ Below w.heap.size w w' := by
  have HM := Lib.hid hm
  have HS := Lib.hid hsp
  obtain ⟨tp, htp⟩ : ∃ t, M.bytes (M.trim p.data.toList) = t := ⟨_, rfl⟩
  have HP := Lib.hid htp
  have htps : tp.size < 4294967281 := by rw [← htp, bytes_size]; exact Nat.lt_of_le_of_lt (trim_le _) (by simpa using hp)
  have HE := Lib.hid (show M.ends tp.data.toList = some (a, b) by rw [← htp, M.bytes_list]; exact he)
  have HW := Lib.hid hw
  clear hm hsp he htp hw
  go_enter Tryz.func13, Tryz.ntmps13
  go_wp2_with fail
  refine (HS.out _ (HM.out.next ((Below.refl _ _).alloc (Nat.le_refl _) _))).mono ?_
  rintro e w1 ⟨cap, rfl, ⟨hc0, hc1⟩, hz1, hb1⟩
  simp only [World.size_alloc] at hc0 hc1 hz1 hb1
  have hlt1 : w.heap.size + 1 < w1.heap.size := by rw [hz1]; omega
  have HB1 := Lib.hid hb1
  clear hb1 hz1
  go_wp2_with fail
  refine (trim_any p _ (by unfold maxLen; omega)).mono ?_
  rintro e w2 ⟨rfl, hb2⟩
  rw [HP.out]
  have hmid := Mid.mk' hlt1 HB1.out hb2
  have k1 := (hb2.cell (p := ⟨w.heap.size + 1, 1, none⟩) (by simp; omega)).trans ((((Below.refl _ w1).alloc (Nat.le_refl _) zeroE).cell (p := ⟨w.heap.size + 1, 1, none⟩) hlt1).trans hc1)
  have K1 := Lib.hid k1
  have HMID := Lib.hid hmid
  clear hb2 HB1 hmid k1 hc0 hc1
  go_wp2_with fail
  refine (ends_some tp a b _ (HM.out.next HMID.out.below) htps HE.out).mono ?_
  rintro e w3 ⟨rfl, hb3⟩
  have hmid3 := HMID.out.next hb3
  have k1 := (hb3.cell (p := ⟨w.heap.size + 1, 1, none⟩) (by have := HMID.out.lt; have := HMID.out.lt2; show w.heap.size + 1 < _; omega)).trans K1.out
  obtain ⟨hlt3, hlt3', hr3, hd3, hbw3⟩ := hmid3
  have HD3 := Lib.hid hd3
  obtain ⟨d0, d1, d2, d3, g0, g1, g2, g3⟩ := hd3
  have HR3 := Lib.hid hr3
  have HBW3 := Lib.hid hbw3
  clear hb3 hr3 hbw3
  go_wp2_with fail
  refine (word_no q _ (by unfold maxLen; omega) HW.out).mono ?_
  rintro e w4 ⟨rfl, hb4⟩
  have hbb := ((HBW3.out.setCell (p := ⟨w1.heap.size, 0, none⟩) (by show w.heap.size ≤ w1.heap.size; omega) (.int .i64 a)).setCell (p := ⟨w1.heap.size, 1, none⟩) (by show w.heap.size ≤ w1.heap.size; omega) (.int .i64 b)).trans (hb4.mono (by simp; omega))
  clear hb4 d0 d1 d2 d3 g0 g1 g2 g3
  go_wp2
  exact ⟨rfl, rfl, hbb⟩

set_option maxHeartbeats 2000000 in
theorem entry_two (s p q : ByteArray) (a b : Nat) (w : World) (hm : MaxOk w) (hp : p.size < 4294967281) (hq : q.size < 4294967281)
    (hsp : ∀ w, MaxOk w → Calls Tryz.prog 23 #[.string s, .string ⟨#[59]⟩, .int .i64 4] w fun e w' => ∃ cap, e = .returned (.slice (some ⟨w.heap.size, 0, none⟩) 2 cap) ∧ (w'.cell? ⟨w.heap.size, 0, none⟩ = some (.string p) ∧ w'.cell? ⟨w.heap.size, 1, none⟩ = some (.string q)) ∧ w'.heap.size = w.heap.size + 1 ∧ Below w.heap.size w w')
    (he : M.ends (M.trim p.data.toList) = some (a, b)) (hw : M.word (M.trim q.data.toList) = true) :
    Calls Tryz.prog 13 #[.string s] w fun e w' => e = .returned (.agg #[.int .i64 a, .int .i64 b, .string (M.bytes (M.trim q.data.toList)), .string (ByteArray.empty)]) ∧ Below w.heap.size w w' := by
  have HM := Lib.hid hm
  have HS := Lib.hid hsp
  obtain ⟨tp, htp⟩ : ∃ t, M.bytes (M.trim p.data.toList) = t := ⟨_, rfl⟩
  have HP := Lib.hid htp
  have htps : tp.size < 4294967281 := by rw [← htp, bytes_size]; exact Nat.lt_of_le_of_lt (trim_le _) (by simpa using hp)
  have HE := Lib.hid (show M.ends tp.data.toList = some (a, b) by rw [← htp, M.bytes_list]; exact he)
  have HW := Lib.hid hw
  obtain ⟨tq, htq⟩ : ∃ t, M.bytes (M.trim q.data.toList) = t := ⟨_, rfl⟩
  have HQ := Lib.hid htq
  rw [htq]
  clear hm hsp he htp hw htq
  go_enter Tryz.func13, Tryz.ntmps13
  go_wp2_with fail
  refine (HS.out _ (HM.out.next ((Below.refl _ _).alloc (Nat.le_refl _) _))).mono ?_
  rintro e w1 ⟨cap, rfl, ⟨hc0, hc1⟩, hz1, hb1⟩
  simp only [World.size_alloc] at hc0 hc1 hz1 hb1
  have hlt1 : w.heap.size + 1 < w1.heap.size := by rw [hz1]; omega
  have HB1 := Lib.hid hb1
  clear hb1 hz1
  go_wp2_with fail
  refine (trim_any p _ (by unfold maxLen; omega)).mono ?_
  rintro e w2 ⟨rfl, hb2⟩
  rw [HP.out]
  have hmid := Mid.mk' hlt1 HB1.out hb2
  have k1 := (hb2.cell (p := ⟨w.heap.size + 1, 1, none⟩) (by simp; omega)).trans ((((Below.refl _ w1).alloc (Nat.le_refl _) zeroE).cell (p := ⟨w.heap.size + 1, 1, none⟩) hlt1).trans hc1)
  have K1 := Lib.hid k1
  have HMID := Lib.hid hmid
  clear hb2 HB1 hmid k1 hc0 hc1
  go_wp2_with fail
  refine (ends_some tp a b _ (HM.out.next HMID.out.below) htps HE.out).mono ?_
  rintro e w3 ⟨rfl, hb3⟩
  have hmid3 := HMID.out.next hb3
  have k1 := (hb3.cell (p := ⟨w.heap.size + 1, 1, none⟩) (by have := HMID.out.lt; have := HMID.out.lt2; show w.heap.size + 1 < _; omega)).trans K1.out
  obtain ⟨hlt3, hlt3', hr3, hd3, hbw3⟩ := hmid3
  have HD3 := Lib.hid hd3
  obtain ⟨d0, d1, d2, d3, g0, g1, g2, g3⟩ := hd3
  have HR3 := Lib.hid hr3
  have HBW3 := Lib.hid hbw3
  clear hb3 hr3 hbw3
  go_wp2_with fail
  refine (word_yes q _ (by unfold maxLen; omega) HW.out).mono ?_
  rintro e w4 ⟨rfl, hb4⟩
  rw [HQ.out]
  have hbb := ((HBW3.out.setCell (p := ⟨w1.heap.size, 0, none⟩) (by show w.heap.size ≤ w1.heap.size; omega) (.int .i64 a)).setCell (p := ⟨w1.heap.size, 1, none⟩) (by show w.heap.size ≤ w1.heap.size; omega) (.int .i64 b)).trans (hb4.mono (by simp; omega))
  have hd4 := (HD3.out.set2 (.int .i64 a) (.int .i64 b)).below hb4 (by simp; omega)
  have hr4 := (HR3.out.set2_other (G := w1.heap.size) (by omega) (.int .i64 a) (.int .i64 b)).below hb4 (by simp; omega)
  have hz4 := hb4.size
  simp only [World.size_setCell] at hz4
  have HD4 := Lib.hid hd4
  have HR4 := Lib.hid hr4
  have HBB := Lib.hid hbb
  clear hb4 hbb d0 d1 d2 d3 g0 g1 g2 g3 k1
  obtain ⟨d0, d1, d2, d3, g0, g1, g2, g3⟩ := hd4
  obtain ⟨r0, r1, r2, r3, s0, s1, s2, s3⟩ := hr4
  go_wp2
  exact bodyPost_ret (v := .agg #[.int .i64 a, .int .i64 b, .string tq, .string ByteArray.empty]) (entry_results ((((HR4.out.set1_other (G := w1.heap.size) (by omega) (.string tq)).set2 (.int .i64 a) (.int .i64 b)).set1 (.string tq)).set3 (.string ⟨#[]⟩)) _ rfl) rfl
    ⟨rfl, ((((HBB.out.setCell (p := ⟨w1.heap.size, 2, none⟩) (by show w.heap.size ≤ w1.heap.size; omega) _).setCell (p := ⟨w.heap.size, 0, none⟩) (Nat.le_refl _) _).setCell (p := ⟨w.heap.size, 1, none⟩) (Nat.le_refl _) _).setCell (p := ⟨w.heap.size, 2, none⟩) (Nat.le_refl _) _).setCell (p := ⟨w.heap.size, 3, none⟩) (Nat.le_refl _) _⟩

set_option maxHeartbeats 2000000 in
theorem entry_three_ends (s p q r : ByteArray) (w : World) (hm : MaxOk w) (hp : p.size < 4294967281)
    (hsp : ∀ w, MaxOk w → Calls Tryz.prog 23 #[.string s, .string ⟨#[59]⟩, .int .i64 4] w fun e w' => ∃ cap, e = .returned (.slice (some ⟨w.heap.size, 0, none⟩) 3 cap) ∧ (w'.cell? ⟨w.heap.size, 0, none⟩ = some (.string p) ∧ w'.cell? ⟨w.heap.size, 1, none⟩ = some (.string q) ∧ w'.cell? ⟨w.heap.size, 2, none⟩ = some (.string r)) ∧ w'.heap.size = w.heap.size + 1 ∧ Below w.heap.size w w')
    (he : M.ends (M.trim p.data.toList) = none) :
    Calls Tryz.prog 13 #[.string s] w fun e w' => e = .panicked ucdPanic ∧ Below w.heap.size w w' := by
  have HM := Lib.hid hm
  have HS := Lib.hid hsp
  obtain ⟨tp, htp⟩ : ∃ t, M.bytes (M.trim p.data.toList) = t := ⟨_, rfl⟩
  have HP := Lib.hid htp
  have htps : tp.size < 4294967281 := by rw [← htp, bytes_size]; exact Nat.lt_of_le_of_lt (trim_le _) (by simpa using hp)
  have HE := Lib.hid (show M.ends tp.data.toList = none by rw [← htp, M.bytes_list]; exact he)
  clear hm hsp he htp
  go_enter Tryz.func13, Tryz.ntmps13
  go_wp2_with fail
  refine (HS.out _ (HM.out.next ((Below.refl _ _).alloc (Nat.le_refl _) _))).mono ?_
  rintro e w1 ⟨cap, rfl, ⟨hc0, hc1, hc2⟩, hz1, hb1⟩
  simp only [World.size_alloc] at hc0 hc1 hc2 hz1 hb1
  have hlt1 : w.heap.size + 1 < w1.heap.size := by rw [hz1]; omega
  have HB1 := Lib.hid hb1
  clear hb1 hz1
  go_wp2_with fail
  refine (trim_any p _ (by unfold maxLen; omega)).mono ?_
  rintro e w2 ⟨rfl, hb2⟩
  rw [HP.out]
  have hmid := Mid.mk' hlt1 HB1.out hb2
  have HMID := Lib.hid hmid
  clear hb2 HB1 hmid  hc0 hc1 hc2
  go_wp2_with fail
  refine (ends_none tp _ (HM.out.next HMID.out.below) htps HE.out).mono ?_
  rintro e w3 ⟨rfl, hb3⟩
  have hmid3 := (HMID.out.next hb3).below
  go_wp2
  exact ⟨rfl, rfl, hmid3⟩

set_option maxHeartbeats 2000000 in
theorem entry_three_word (s p q r : ByteArray) (a b : Nat) (w : World) (hm : MaxOk w) (hp : p.size < 4294967281) (hq : q.size < 4294967281)
    (hsp : ∀ w, MaxOk w → Calls Tryz.prog 23 #[.string s, .string ⟨#[59]⟩, .int .i64 4] w fun e w' => ∃ cap, e = .returned (.slice (some ⟨w.heap.size, 0, none⟩) 3 cap) ∧ (w'.cell? ⟨w.heap.size, 0, none⟩ = some (.string p) ∧ w'.cell? ⟨w.heap.size, 1, none⟩ = some (.string q) ∧ w'.cell? ⟨w.heap.size, 2, none⟩ = some (.string r)) ∧ w'.heap.size = w.heap.size + 1 ∧ Below w.heap.size w w')
    (he : M.ends (M.trim p.data.toList) = some (a, b)) (hw : M.word (M.trim q.data.toList) = false) :
    Calls Tryz.prog 13 #[.string s] w fun e w' => e = .panicked ucdPanic ∧ Below w.heap.size w w' := by
  have HM := Lib.hid hm
  have HS := Lib.hid hsp
  obtain ⟨tp, htp⟩ : ∃ t, M.bytes (M.trim p.data.toList) = t := ⟨_, rfl⟩
  have HP := Lib.hid htp
  have htps : tp.size < 4294967281 := by rw [← htp, bytes_size]; exact Nat.lt_of_le_of_lt (trim_le _) (by simpa using hp)
  have HE := Lib.hid (show M.ends tp.data.toList = some (a, b) by rw [← htp, M.bytes_list]; exact he)
  have HW := Lib.hid hw
  clear hm hsp he htp hw
  go_enter Tryz.func13, Tryz.ntmps13
  go_wp2_with fail
  refine (HS.out _ (HM.out.next ((Below.refl _ _).alloc (Nat.le_refl _) _))).mono ?_
  rintro e w1 ⟨cap, rfl, ⟨hc0, hc1, hc2⟩, hz1, hb1⟩
  simp only [World.size_alloc] at hc0 hc1 hc2 hz1 hb1
  have hlt1 : w.heap.size + 1 < w1.heap.size := by rw [hz1]; omega
  have HB1 := Lib.hid hb1
  clear hb1 hz1
  go_wp2_with fail
  refine (trim_any p _ (by unfold maxLen; omega)).mono ?_
  rintro e w2 ⟨rfl, hb2⟩
  rw [HP.out]
  have hmid := Mid.mk' hlt1 HB1.out hb2
  have k1 := (hb2.cell (p := ⟨w.heap.size + 1, 1, none⟩) (by simp; omega)).trans ((((Below.refl _ w1).alloc (Nat.le_refl _) zeroE).cell (p := ⟨w.heap.size + 1, 1, none⟩) hlt1).trans hc1)
  have K1 := Lib.hid k1
  have HMID := Lib.hid hmid
  clear hb2 HB1 hmid k1 hc0 hc1 hc2
  go_wp2_with fail
  refine (ends_some tp a b _ (HM.out.next HMID.out.below) htps HE.out).mono ?_
  rintro e w3 ⟨rfl, hb3⟩
  have hmid3 := HMID.out.next hb3
  have k1 := (hb3.cell (p := ⟨w.heap.size + 1, 1, none⟩) (by have := HMID.out.lt; have := HMID.out.lt2; show w.heap.size + 1 < _; omega)).trans K1.out
  obtain ⟨hlt3, hlt3', hr3, hd3, hbw3⟩ := hmid3
  have HD3 := Lib.hid hd3
  obtain ⟨d0, d1, d2, d3, g0, g1, g2, g3⟩ := hd3
  have HR3 := Lib.hid hr3
  have HBW3 := Lib.hid hbw3
  clear hb3 hr3 hbw3
  go_wp2_with fail
  refine (word_no q _ (by unfold maxLen; omega) HW.out).mono ?_
  rintro e w4 ⟨rfl, hb4⟩
  have hbb := ((HBW3.out.setCell (p := ⟨w1.heap.size, 0, none⟩) (by show w.heap.size ≤ w1.heap.size; omega) (.int .i64 a)).setCell (p := ⟨w1.heap.size, 1, none⟩) (by show w.heap.size ≤ w1.heap.size; omega) (.int .i64 b)).trans (hb4.mono (by simp; omega))
  clear hb4 d0 d1 d2 d3 g0 g1 g2 g3
  go_wp2
  exact ⟨rfl, rfl, hbb⟩

set_option maxHeartbeats 2000000 in
theorem entry_three_extra (s p q r : ByteArray) (a b : Nat) (w : World) (hm : MaxOk w) (hp : p.size < 4294967281) (hq : q.size < 4294967281) (hr : r.size < 4294967281)
    (hsp : ∀ w, MaxOk w → Calls Tryz.prog 23 #[.string s, .string ⟨#[59]⟩, .int .i64 4] w fun e w' => ∃ cap, e = .returned (.slice (some ⟨w.heap.size, 0, none⟩) 3 cap) ∧ (w'.cell? ⟨w.heap.size, 0, none⟩ = some (.string p) ∧ w'.cell? ⟨w.heap.size, 1, none⟩ = some (.string q) ∧ w'.cell? ⟨w.heap.size, 2, none⟩ = some (.string r)) ∧ w'.heap.size = w.heap.size + 1 ∧ Below w.heap.size w w')
    (he : M.ends (M.trim p.data.toList) = some (a, b)) (hw : M.word (M.trim q.data.toList) = true) (hw2 : M.word (M.trim r.data.toList) = false) :
    Calls Tryz.prog 13 #[.string s] w fun e w' => e = .panicked ucdPanic ∧ Below w.heap.size w w' := by
  have HM := Lib.hid hm
  have HS := Lib.hid hsp
  obtain ⟨tp, htp⟩ : ∃ t, M.bytes (M.trim p.data.toList) = t := ⟨_, rfl⟩
  have HP := Lib.hid htp
  have htps : tp.size < 4294967281 := by rw [← htp, bytes_size]; exact Nat.lt_of_le_of_lt (trim_le _) (by simpa using hp)
  have HE := Lib.hid (show M.ends tp.data.toList = some (a, b) by rw [← htp, M.bytes_list]; exact he)
  have HW := Lib.hid hw
  have HW2 := Lib.hid hw2
  obtain ⟨tq, htq⟩ : ∃ t, M.bytes (M.trim q.data.toList) = t := ⟨_, rfl⟩
  have HQ := Lib.hid htq
  clear hm hsp he htp hw hw2 htq
  go_enter Tryz.func13, Tryz.ntmps13
  go_wp2_with fail
  refine (HS.out _ (HM.out.next ((Below.refl _ _).alloc (Nat.le_refl _) _))).mono ?_
  rintro e w1 ⟨cap, rfl, ⟨hc0, hc1, hc2⟩, hz1, hb1⟩
  simp only [World.size_alloc] at hc0 hc1 hc2 hz1 hb1
  have hlt1 : w.heap.size + 1 < w1.heap.size := by rw [hz1]; omega
  have HB1 := Lib.hid hb1
  clear hb1 hz1
  go_wp2_with fail
  refine (trim_any p _ (by unfold maxLen; omega)).mono ?_
  rintro e w2 ⟨rfl, hb2⟩
  rw [HP.out]
  have hmid := Mid.mk' hlt1 HB1.out hb2
  have k1 := (hb2.cell (p := ⟨w.heap.size + 1, 1, none⟩) (by simp; omega)).trans ((((Below.refl _ w1).alloc (Nat.le_refl _) zeroE).cell (p := ⟨w.heap.size + 1, 1, none⟩) hlt1).trans hc1)
  have K1 := Lib.hid k1
  have k2 := (hb2.cell (p := ⟨w.heap.size + 1, 2, none⟩) (by simp; omega)).trans ((((Below.refl _ w1).alloc (Nat.le_refl _) zeroE).cell (p := ⟨w.heap.size + 1, 2, none⟩) hlt1).trans hc2)
  have K2 := Lib.hid k2
  have HMID := Lib.hid hmid
  clear hb2 HB1 hmid k1 k2 hc0 hc1 hc2
  go_wp2_with fail
  refine (ends_some tp a b _ (HM.out.next HMID.out.below) htps HE.out).mono ?_
  rintro e w3 ⟨rfl, hb3⟩
  have hmid3 := HMID.out.next hb3
  have k1 := (hb3.cell (p := ⟨w.heap.size + 1, 1, none⟩) (by have := HMID.out.lt; have := HMID.out.lt2; show w.heap.size + 1 < _; omega)).trans K1.out
  have k2 := (hb3.cell (p := ⟨w.heap.size + 1, 2, none⟩) (by have := HMID.out.lt; have := HMID.out.lt2; show w.heap.size + 1 < _; omega)).trans K2.out
  have K2' := Lib.hid k2
  clear k2
  obtain ⟨hlt3, hlt3', hr3, hd3, hbw3⟩ := hmid3
  have HD3 := Lib.hid hd3
  obtain ⟨d0, d1, d2, d3, g0, g1, g2, g3⟩ := hd3
  have HR3 := Lib.hid hr3
  have HBW3 := Lib.hid hbw3
  clear hb3 hr3 hbw3
  go_wp2_with fail
  refine (word_yes q _ (by unfold maxLen; omega) HW.out).mono ?_
  rintro e w4 ⟨rfl, hb4⟩
  rw [HQ.out]
  have hbb := ((HBW3.out.setCell (p := ⟨w1.heap.size, 0, none⟩) (by show w.heap.size ≤ w1.heap.size; omega) (.int .i64 a)).setCell (p := ⟨w1.heap.size, 1, none⟩) (by show w.heap.size ≤ w1.heap.size; omega) (.int .i64 b)).trans (hb4.mono (by simp; omega))
  have hd4 := (HD3.out.set2 (.int .i64 a) (.int .i64 b)).below hb4 (by simp; omega)
  have hr4 := (HR3.out.set2_other (G := w1.heap.size) (by omega) (.int .i64 a) (.int .i64 b)).below hb4 (by simp; omega)
  have hz4 := hb4.size
  simp only [World.size_setCell] at hz4
  have k2 := (hb4.cell (p := ⟨w.heap.size + 1, 2, none⟩) (by simp; omega)).trans (((World.cell?_setCell_other _ ⟨w1.heap.size, 1, none⟩ ⟨w.heap.size + 1, 2, none⟩ _ (by simp)).trans (World.cell?_setCell_other _ ⟨w1.heap.size, 0, none⟩ ⟨w.heap.size + 1, 2, none⟩ _ (by simp))).trans K2'.out)
  have HD4 := Lib.hid hd4
  have HR4 := Lib.hid hr4
  have HBB := Lib.hid hbb
  clear hb4 hbb d0 d1 d2 d3 g0 g1 g2 g3 k1
  obtain ⟨d0, d1, d2, d3, g0, g1, g2, g3⟩ := hd4
  obtain ⟨r0, r1, r2, r3, s0, s1, s2, s3⟩ := hr4
  clear HD4 HR4
  go_wp2_with fail
  refine (word_no r _ (by unfold maxLen; omega) HW2.out).mono ?_
  rintro e w5 ⟨rfl, hb5⟩
  have hbb := (HBB.out.setCell (p := ⟨w1.heap.size, 2, none⟩) (by show w.heap.size ≤ w1.heap.size; omega) (.string tq)).trans (hb5.mono (by simp; omega))
  clear hb5 d0 d1 d2 d3 g0 g1 g2 g3 r0 r1 r2 r3 s0 s1 s2 s3
  go_wp2
  exact ⟨rfl, rfl, hbb⟩

set_option maxHeartbeats 2000000 in
theorem entry_three (s p q r : ByteArray) (a b : Nat) (w : World) (hm : MaxOk w) (hp : p.size < 4294967281) (hq : q.size < 4294967281) (hr : r.size < 4294967281)
    (hsp : ∀ w, MaxOk w → Calls Tryz.prog 23 #[.string s, .string ⟨#[59]⟩, .int .i64 4] w fun e w' => ∃ cap, e = .returned (.slice (some ⟨w.heap.size, 0, none⟩) 3 cap) ∧ (w'.cell? ⟨w.heap.size, 0, none⟩ = some (.string p) ∧ w'.cell? ⟨w.heap.size, 1, none⟩ = some (.string q) ∧ w'.cell? ⟨w.heap.size, 2, none⟩ = some (.string r)) ∧ w'.heap.size = w.heap.size + 1 ∧ Below w.heap.size w w')
    (he : M.ends (M.trim p.data.toList) = some (a, b)) (hw : M.word (M.trim q.data.toList) = true) (hw2 : M.word (M.trim r.data.toList) = true) :
    Calls Tryz.prog 13 #[.string s] w fun e w' => e = .returned (.agg #[.int .i64 a, .int .i64 b, .string (M.bytes (M.trim q.data.toList)), .string (M.bytes (M.trim r.data.toList))]) ∧ Below w.heap.size w w' := by
  have HM := Lib.hid hm
  have HS := Lib.hid hsp
  obtain ⟨tp, htp⟩ : ∃ t, M.bytes (M.trim p.data.toList) = t := ⟨_, rfl⟩
  have HP := Lib.hid htp
  have htps : tp.size < 4294967281 := by rw [← htp, bytes_size]; exact Nat.lt_of_le_of_lt (trim_le _) (by simpa using hp)
  have HE := Lib.hid (show M.ends tp.data.toList = some (a, b) by rw [← htp, M.bytes_list]; exact he)
  have HW := Lib.hid hw
  have HW2 := Lib.hid hw2
  obtain ⟨tq, htq⟩ : ∃ t, M.bytes (M.trim q.data.toList) = t := ⟨_, rfl⟩
  have HQ := Lib.hid htq
  rw [htq]
  obtain ⟨tr, htr⟩ : ∃ t, M.bytes (M.trim r.data.toList) = t := ⟨_, rfl⟩
  have HR := Lib.hid htr
  rw [htr]
  clear hm hsp he htp hw hw2 htq htr
  go_enter Tryz.func13, Tryz.ntmps13
  go_wp2_with fail
  refine (HS.out _ (HM.out.next ((Below.refl _ _).alloc (Nat.le_refl _) _))).mono ?_
  rintro e w1 ⟨cap, rfl, ⟨hc0, hc1, hc2⟩, hz1, hb1⟩
  simp only [World.size_alloc] at hc0 hc1 hc2 hz1 hb1
  have hlt1 : w.heap.size + 1 < w1.heap.size := by rw [hz1]; omega
  have HB1 := Lib.hid hb1
  clear hb1 hz1
  go_wp2_with fail
  refine (trim_any p _ (by unfold maxLen; omega)).mono ?_
  rintro e w2 ⟨rfl, hb2⟩
  rw [HP.out]
  have hmid := Mid.mk' hlt1 HB1.out hb2
  have k1 := (hb2.cell (p := ⟨w.heap.size + 1, 1, none⟩) (by simp; omega)).trans ((((Below.refl _ w1).alloc (Nat.le_refl _) zeroE).cell (p := ⟨w.heap.size + 1, 1, none⟩) hlt1).trans hc1)
  have K1 := Lib.hid k1
  have k2 := (hb2.cell (p := ⟨w.heap.size + 1, 2, none⟩) (by simp; omega)).trans ((((Below.refl _ w1).alloc (Nat.le_refl _) zeroE).cell (p := ⟨w.heap.size + 1, 2, none⟩) hlt1).trans hc2)
  have K2 := Lib.hid k2
  have HMID := Lib.hid hmid
  clear hb2 HB1 hmid k1 k2 hc0 hc1 hc2
  go_wp2_with fail
  refine (ends_some tp a b _ (HM.out.next HMID.out.below) htps HE.out).mono ?_
  rintro e w3 ⟨rfl, hb3⟩
  have hmid3 := HMID.out.next hb3
  have k1 := (hb3.cell (p := ⟨w.heap.size + 1, 1, none⟩) (by have := HMID.out.lt; have := HMID.out.lt2; show w.heap.size + 1 < _; omega)).trans K1.out
  have k2 := (hb3.cell (p := ⟨w.heap.size + 1, 2, none⟩) (by have := HMID.out.lt; have := HMID.out.lt2; show w.heap.size + 1 < _; omega)).trans K2.out
  have K2' := Lib.hid k2
  clear k2
  obtain ⟨hlt3, hlt3', hr3, hd3, hbw3⟩ := hmid3
  have HD3 := Lib.hid hd3
  obtain ⟨d0, d1, d2, d3, g0, g1, g2, g3⟩ := hd3
  have HR3 := Lib.hid hr3
  have HBW3 := Lib.hid hbw3
  clear hb3 hr3 hbw3
  go_wp2_with fail
  refine (word_yes q _ (by unfold maxLen; omega) HW.out).mono ?_
  rintro e w4 ⟨rfl, hb4⟩
  rw [HQ.out]
  have hbb := ((HBW3.out.setCell (p := ⟨w1.heap.size, 0, none⟩) (by show w.heap.size ≤ w1.heap.size; omega) (.int .i64 a)).setCell (p := ⟨w1.heap.size, 1, none⟩) (by show w.heap.size ≤ w1.heap.size; omega) (.int .i64 b)).trans (hb4.mono (by simp; omega))
  have hd4 := (HD3.out.set2 (.int .i64 a) (.int .i64 b)).below hb4 (by simp; omega)
  have hr4 := (HR3.out.set2_other (G := w1.heap.size) (by omega) (.int .i64 a) (.int .i64 b)).below hb4 (by simp; omega)
  have hz4 := hb4.size
  simp only [World.size_setCell] at hz4
  have k2 := (hb4.cell (p := ⟨w.heap.size + 1, 2, none⟩) (by simp; omega)).trans (((World.cell?_setCell_other _ ⟨w1.heap.size, 1, none⟩ ⟨w.heap.size + 1, 2, none⟩ _ (by simp)).trans (World.cell?_setCell_other _ ⟨w1.heap.size, 0, none⟩ ⟨w.heap.size + 1, 2, none⟩ _ (by simp))).trans K2'.out)
  have HD4 := Lib.hid hd4
  have HR4 := Lib.hid hr4
  have HBB := Lib.hid hbb
  clear hb4 hbb d0 d1 d2 d3 g0 g1 g2 g3 k1
  obtain ⟨d0, d1, d2, d3, g0, g1, g2, g3⟩ := hd4
  obtain ⟨r0, r1, r2, r3, s0, s1, s2, s3⟩ := hr4
  go_wp2_with fail
  refine (word_yes r _ (by unfold maxLen; omega) HW2.out).mono ?_
  rintro e w5 ⟨rfl, hb5⟩
  rw [HR.out]
  have hbb := (HBB.out.setCell (p := ⟨w1.heap.size, 2, none⟩) (by show w.heap.size ≤ w1.heap.size; omega) (.string tq)).trans (hb5.mono (by simp; omega))
  have hd5 := (HD4.out.set1 (.string tq)).below hb5 (by simp; omega)
  have hr5 := (HR4.out.set1_other (G := w1.heap.size) (by omega) (.string tq)).below hb5 (by simp; omega)
  have hz5 := hb5.size
  simp only [World.size_setCell] at hz5
  have HR5 := Lib.hid hr5
  have HBB5 := Lib.hid hbb
  clear hb5 hbb HD4 HR4 d0 d1 d2 d3 g0 g1 g2 g3 r0 r1 r2 r3 s0 s1 s2 s3 k2
  obtain ⟨d0, d1, d2, d3, g0, g1, g2, g3⟩ := hd5
  obtain ⟨r0, r1, r2, r3, s0, s1, s2, s3⟩ := hr5
  go_wp2
  exact bodyPost_ret (v := .agg #[.int .i64 a, .int .i64 b, .string tq, .string tr]) (entry_results ((((HR5.out.set3_other (G := w1.heap.size) (by omega) (.string tr)).set2 (.int .i64 a) (.int .i64 b)).set1 (.string tq)).set3 (.string tr)) _ rfl) rfl
    ⟨rfl, ((((HBB5.out.setCell (p := ⟨w1.heap.size, 3, none⟩) (by show w.heap.size ≤ w1.heap.size; omega) _).setCell (p := ⟨w.heap.size, 0, none⟩) (Nat.le_refl _) _).setCell (p := ⟨w.heap.size, 1, none⟩) (Nat.le_refl _) _).setCell (p := ⟨w.heap.size, 2, none⟩) (Nat.le_refl _) _).setCell (p := ⟨w.heap.size, 3, none⟩) (Nat.le_refl _) _⟩

set_option maxHeartbeats 2000000 in
theorem entry_count (s : ByteArray) (n : Nat) (w : World) (hm : MaxOk w) (hn : n = 1 ∨ n = 4)
    (hsp : ∀ w, MaxOk w → Calls Tryz.prog 23 #[.string s, .string ⟨#[59]⟩, .int .i64 4] w fun e w' => ∃ cap, e = .returned (.slice (some ⟨w.heap.size, 0, none⟩) n cap) ∧ Below w.heap.size w w') :
    Calls Tryz.prog 13 #[.string s] w fun e w' => e = .panicked ucdPanic ∧ Below w.heap.size w w' := by
  have HM := Lib.hid hm
  have HS := Lib.hid hsp
  clear hm hsp
  rcases hn with rfl | rfl
  all_goals
    go_enter Tryz.func13, Tryz.ntmps13
    go_wp2_with fail
    refine (HS.out _ (HM.out.next ((Below.refl _ _).alloc (Nat.le_refl _) _))).mono ?_
    rintro e w1 ⟨cap, rfl, hb1⟩
    have hbb : Below w.heap.size w w1 := ((Below.refl _ _).alloc (Nat.le_refl _) _).trans (hb1.mono (by simp))
    clear hb1
    go_wp2
    exact ⟨rfl, rfl, hbb⟩

theorem entry_any (s : ByteArray) (w : World) (hm : MaxOk w) (hs : s.size < 4294967281) (h0 : 1 ≤ s.size) :
    Calls Tryz.prog 13 #[.string s] w fun e w' => (match M.entry s.data.toList with | some x => e = .returned x.val | none => e = .panicked ucdPanic) ∧ Below w.heap.size w w' := by
  obtain ⟨ps, hfew, hmany, hsz, hsp⟩ := splitN_any s hs h0
  by_cases hl : (M.parts 59 s.data.toList).length ≤ 3
  · have hps := hfew hl
    have hlt : ∀ p ∈ ps, p.size < 4294967281 := fun p hp => Nat.lt_of_le_of_lt (hsz p hp) hs
    rw [← M.make_eq, ← hps]
    match ps, hps, hlt, hsp with
    | [], hps, _, _ => exact absurd hps.symm (M.parts_ne _ _)
    | [p], _, _, hsp =>
      refine (entry_count s 1 w hm (.inl rfl) fun w hw => (hsp w hw).mono fun e w' ⟨cap, he, _, _, hb⟩ => ⟨cap, he, hb⟩).mono fun e w' h => ?_
      simpa [M.make] using h
    | [p, q], _, hlt, hsp =>
      have hp := hlt p (by simp)
      have hq := hlt q (by simp)
      have hsp' := fun w hw => (hsp w hw).mono fun e w' (h : _) => (show ∃ cap, e = .returned (.slice (some ⟨w.heap.size, 0, none⟩) 2 cap) ∧ (w'.cell? ⟨w.heap.size, 0, none⟩ = some (.string p) ∧ w'.cell? ⟨w.heap.size, 1, none⟩ = some (.string q)) ∧ w'.heap.size = w.heap.size + 1 ∧ Below w.heap.size w w' from by
        obtain ⟨cap, he, hc, hz, hb⟩ := h
        exact ⟨cap, he, ⟨hc 0 p rfl, hc 1 q rfl⟩, hz, hb⟩)
      simp only [List.map_cons, List.map_nil, M.make]
      cases he : M.ends (M.trim p.data.toList) with
      | none => simpa using entry_two_ends s p q w hm hp hsp' he
      | some ab =>
        obtain ⟨a, b⟩ := ab
        cases hw : M.word (M.trim q.data.toList) with
        | false => simpa using entry_two_word s p q a b w hm hp hq hsp' he hw
        | true => simpa [M.E.val] using entry_two s p q a b w hm hp hq hsp' he hw
    | [p, q, r], _, hlt, hsp =>
      have hp := hlt p (by simp)
      have hq := hlt q (by simp)
      have hr := hlt r (by simp)
      have hsp' := fun w hw => (hsp w hw).mono fun e w' (h : _) => (show ∃ cap, e = .returned (.slice (some ⟨w.heap.size, 0, none⟩) 3 cap) ∧ (w'.cell? ⟨w.heap.size, 0, none⟩ = some (.string p) ∧ w'.cell? ⟨w.heap.size, 1, none⟩ = some (.string q) ∧ w'.cell? ⟨w.heap.size, 2, none⟩ = some (.string r)) ∧ w'.heap.size = w.heap.size + 1 ∧ Below w.heap.size w w' from by
        obtain ⟨cap, he, hc, hz, hb⟩ := h
        exact ⟨cap, he, ⟨hc 0 p rfl, hc 1 q rfl, hc 2 r rfl⟩, hz, hb⟩)
      simp only [List.map_cons, List.map_nil, M.make]
      cases he : M.ends (M.trim p.data.toList) with
      | none => simpa using entry_three_ends s p q r w hm hp hsp' he
      | some ab =>
        obtain ⟨a, b⟩ := ab
        cases hw : M.word (M.trim q.data.toList) with
        | false => simpa using entry_three_word s p q r a b w hm hp hq hsp' he hw
        | true =>
          cases hw2 : M.word (M.trim r.data.toList) with
          | false => simpa using entry_three_extra s p q r a b w hm hp hq hr hsp' he hw hw2
          | true => simpa [M.E.val] using entry_three s p q r a b w hm hp hq hr hsp' he hw hw2
    | _ :: _ :: _ :: _ :: _, hps, _, _ => rw [← hps] at hl; simp at hl
  · have hps := hmany (by omega)
    have hno : M.entry s.data.toList = none := by
      unfold M.entry
      match h : M.parts 59 s.data.toList with
      | [] => rfl
      | [_] => rfl
      | [_, _] => rw [h] at hl; simp at hl
      | [_, _, _] => rw [h] at hl; simp at hl
      | _ :: _ :: _ :: _ :: _ => rfl
    rw [hno]
    exact entry_count s 4 w hm (.inr rfl) fun w hw => (hsp w hw).mono fun e w' ⟨cap, he, _, _, hb⟩ => ⟨cap, by rw [hps] at he; exact he, hb⟩

end Go.Proofs.YtjbpjnnflcmmhaaGreatDoor
