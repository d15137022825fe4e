/- The contracts of ucd's figures, Right and line over the translation. Conditions: the numbers are from 0 up to 1114111 (for figures and line); the strings are no longer than the model lets them be; the library's table deBruijn64tab is as the program's text lays it. -/
import Derived.Test.YtjbpjnnflcmmhaaGreatDoorBits
import Derived.Test.YtjbpjnnflcmmhaaGreatDoorEntry
namespace Go.Proofs.YtjbpjnnflcmmhaaGreatDoor
open Go.RowKit

/-- A hexadecimal figure. -/
def M.digU (d : Nat) : UInt8 := (#[48, 49, 50, 51, 52, 53, 54, 55, 56, 57, 65, 66, 67, 68, 69, 70] : Array UInt8).getD d 0
/-- The lowest j figures of a number. -/
def M.up (n : Nat) : Nat → List UInt8
  | 0 => []
  | j + 1 => M.digU (n / 16 ^ j % 16) :: M.up n j
/-- A number's figures, as few as may be, at least four. -/
def M.figs (n : Nat) : List UInt8 := M.up n (max 4 (M.ndig n))
theorem M.up_length (n j : Nat) : (M.up n j).length = j := by
  induction j with
  | zero => rfl
  | succ j ih => simp [M.up, ih]
theorem M.upper_dig (d : Nat) (h : d < 16) : Lib.upperB (M.dig d) = M.digU d := by
  have : ∀ d : Fin 16, Lib.upperB (M.dig d.val) = M.digU d.val := by decide
  exact this ⟨d, h⟩
theorem M.upper_low (n j : Nat) : Lib.toUpperA (M.low n j) = M.up n j := by
  induction j with
  | zero => rfl
  | succ j ih =>
    unfold Lib.toUpperA at ih ⊢
    rw [M.low, M.up, List.map_cons, ih, M.upper_dig _ (Nat.mod_lt _ (by omega))]
theorem M.dig_ascii (d : Nat) (h : d < 16) : (M.dig d).toNat < 128 := by
  have : ∀ d : Fin 16, (M.dig d.val).toNat < 128 := by decide
  exact this ⟨d, h⟩
theorem M.low_ascii (n j : Nat) : ∀ c ∈ M.low n j, c.toNat < 128 := by
  induction j with
  | zero => intro c hc; cases hc
  | succ j ih =>
    intro c hc
    simp only [M.low, List.mem_cons] at hc
    rcases hc with rfl | hc
    · exact M.dig_ascii _ (Nat.mod_lt _ (by omega))
    · exact ih c hc
theorem M.ndig_le (n : Nat) : 1 ≤ M.ndig n ∧ M.ndig n ≤ 6 := by
  unfold M.ndig
  (repeat' split) <;> omega
theorem M.zero_above {n j : Nat} (hn : n ≤ 1114111) (h : M.ndig n ≤ j) : n / 16 ^ j = 0 := by
  have hp : n < 16 ^ M.ndig n := by
    unfold M.ndig
    (repeat' split) <;> omega
  exact Nat.div_eq_of_lt (Nat.lt_of_lt_of_le hp (Nat.pow_le_pow_right (by omega) h))
theorem M.up_pad {n : Nat} (hn : n ≤ 1114111) (k : Nat) : Lib.repeatL [48] k ++ M.up n (M.ndig n) = M.up n (M.ndig n + k) := by
  induction k with
  | zero => rfl
  | succ k ih =>
    show ([48] ++ Lib.repeatL [48] k) ++ _ = M.digU (n / 16 ^ (M.ndig n + k) % 16) :: M.up n (M.ndig n + k)
    rw [List.append_assoc, ih, M.zero_above hn (by omega)]
    rfl
theorem M.figs_eq {n : Nat} (hn : n ≤ 1114111) : Lib.repeatL [48] (4 - M.ndig n) ++ Lib.toUpperA (M.low n (M.ndig n)) = M.figs n := by
  rw [M.upper_low, M.up_pad hn]
  unfold M.figs
  congr 1
  omega
theorem M.figs_length {n : Nat} : (M.figs n).length = max 4 (M.ndig n) := M.up_length _ _
theorem bytes_append (a b : List UInt8) : M.bytes a ++ M.bytes b = M.bytes (a ++ b) := ByteArray.mk_append_mk a b

theorem upper_any (l : List UInt8) (w : World) (hl : l.length ≤ 100) (ha : ∀ c ∈ l, c.toNat < 128) :
    Calls Tryz.prog 47 #[.string (M.bytes l)] w fun e w' => e = .returned (.string (M.bytes (Lib.toUpperA l))) ∧ Below w.heap.size w w' := by
  have := Any.strings_ToUpper_ascii Tryz.lays158 Tryz.extra158 (M.bytes l) w (by rw [bytes_size]; omega) (by rw [M.bytes_list]; exact fun j b hb => ha b (List.mem_of_getElem? hb))
  rw [M.bytes_list] at this
  exact this
theorem repeat_any (c : Nat) (w : World) (hc : c ≤ 100) :
    Calls Tryz.prog 49 #[.string ⟨#[48]⟩, .int .i64 c] w fun e w' => e = .returned (.string (M.bytes (Lib.repeatL [48] c))) ∧ Below w.heap.size w w' :=
  Any.strings_Repeat Tryz.lays105 Tryz.extra105 ⟨#[48]⟩ c w (by omega) (by show 1 * c ≤ _; omega)

theorem TabOk.below {w w' : World} {B : Nat} (h : TabOk w) (hb : Below B w w') (hB : 6 < B) : TabOk w' :=
  (hb.cell (p := ⟨6, 15, none⟩) hB).trans h
theorem TabOk.lt {w : World} (h : TabOk w) : 6 < w.heap.size := World.block_lt_of_cell? w _ h
theorem TabOk.next {w w' : World} (h : TabOk w) (hb : Below w.heap.size w w') : TabOk w' := h.below hb h.lt

set_option maxHeartbeats 2000000 in
theorem figures_any (n : Nat) (w : World) (hn : n ≤ 1114111) (ht : TabOk w) :
    Calls Tryz.prog 32 #[.int .i64 n] w fun e w' => e = .returned (.string (M.bytes (M.figs n))) ∧ Below w.heap.size w w' := by
  have HT := Lib.hid ht
  have HF := Lib.hid (M.figs_eq hn)
  have hl := M.low_length n (M.ndig n)
  have hul : (Lib.toUpperA (M.low n (M.ndig n))).length = M.ndig n := by unfold Lib.toUpperA; rw [List.length_map, hl]
  obtain ⟨d, hd⟩ : ∃ d, M.ndig n = d := ⟨_, rfl⟩
  have hd6 := M.ndig_le n
  rw [hd] at hl hul HF hd6
  have HFI := Lib.hid (formatInt_16 n w hn ht)
  rw [hd] at HFI
  have HLA := Lib.hid (M.low_ascii n d)
  obtain ⟨L, hL⟩ : ∃ L, M.low n d = L := ⟨_, rfl⟩
  rw [hL] at hl hul HF HFI HLA
  obtain ⟨U, hU⟩ : ∃ U, Lib.toUpperA L = U := ⟨_, rfl⟩
  have HU := Lib.hid hU
  rw [hU] at hul HF
  have HLL := Lib.hid hl
  obtain ⟨hd1, hd2⟩ := hd6
  clear ht hd hL hU hl
  have hsz : (M.bytes U).size = d := by rw [bytes_size, hul]
  have HUL := Lib.hid hul
  clear hul
  obtain ⟨k, hk⟩ : ∃ k, 4 - d = k := ⟨_, rfl⟩
  rw [hk] at HF
  have HRS := Lib.hid (show (M.bytes (Lib.repeatL [48] k)).size = k by rw [bytes_size, Lib.repeatL_length]; simp)
  rcases (show d = 1 ∨ d = 2 ∨ d = 3 ∨ d = 4 ∨ d = 5 ∨ d = 6 by omega) with rfl | rfl | rfl | rfl | rfl | rfl
  · obtain rfl : k = 3 := by omega
    clear hk
    go_enter Tryz.func32, Tryz.ntmps32
    go_wp2_with fail
    refine HFI.out.mono ?_
    rintro e w1 ⟨rfl, hb1⟩
    go_wp2_with fail
    refine (upper_any L w1 (by rw [HLL.out]; omega) HLA.out).mono ?_
    rintro e w2 ⟨rfl, hb2⟩
    rw [HU.out]
    go_wp2_with fail
    refine (repeat_any 3 w2 (by omega)).mono ?_
    rintro e w3 ⟨rfl, hb3⟩
    have hbb := (hb1.trans (hb2.mono hb1.size)).trans (hb3.mono (Nat.le_trans hb1.size hb2.size))
    have hrs := HRS.out
    clear hb1 hb2 hb3
    go_wp2
    go_ret
    refine ⟨?_, hbb⟩
    show Ending.returned (.string (M.bytes (Lib.repeatL [48] 3) ++ M.bytes U)) = _
    rw [bytes_append, HF.out]
  · obtain rfl : k = 2 := by omega
    clear hk
    go_enter Tryz.func32, Tryz.ntmps32
    go_wp2_with fail
    refine HFI.out.mono ?_
    rintro e w1 ⟨rfl, hb1⟩
    go_wp2_with fail
    refine (upper_any L w1 (by rw [HLL.out]; omega) HLA.out).mono ?_
    rintro e w2 ⟨rfl, hb2⟩
    rw [HU.out]
    go_wp2_with fail
    refine (repeat_any 2 w2 (by omega)).mono ?_
    rintro e w3 ⟨rfl, hb3⟩
    have hbb := (hb1.trans (hb2.mono hb1.size)).trans (hb3.mono (Nat.le_trans hb1.size hb2.size))
    have hrs := HRS.out
    clear hb1 hb2 hb3
    go_wp2
    go_ret
    refine ⟨?_, hbb⟩
    show Ending.returned (.string (M.bytes (Lib.repeatL [48] 2) ++ M.bytes U)) = _
    rw [bytes_append, HF.out]
  · obtain rfl : k = 1 := by omega
    clear hk
    go_enter Tryz.func32, Tryz.ntmps32
    go_wp2_with fail
    refine HFI.out.mono ?_
    rintro e w1 ⟨rfl, hb1⟩
    go_wp2_with fail
    refine (upper_any L w1 (by rw [HLL.out]; omega) HLA.out).mono ?_
    rintro e w2 ⟨rfl, hb2⟩
    rw [HU.out]
    go_wp2_with fail
    refine (repeat_any 1 w2 (by omega)).mono ?_
    rintro e w3 ⟨rfl, hb3⟩
    have hbb := (hb1.trans (hb2.mono hb1.size)).trans (hb3.mono (Nat.le_trans hb1.size hb2.size))
    have hrs := HRS.out
    clear hb1 hb2 hb3
    go_wp2
    go_ret
    refine ⟨?_, hbb⟩
    show Ending.returned (.string (M.bytes (Lib.repeatL [48] 1) ++ M.bytes U)) = _
    rw [bytes_append, HF.out]
  · obtain rfl : k = 0 := by omega
    clear hk
    go_enter Tryz.func32, Tryz.ntmps32
    go_wp2_with fail
    refine HFI.out.mono ?_
    rintro e w1 ⟨rfl, hb1⟩
    go_wp2_with fail
    refine (upper_any L w1 (by rw [HLL.out]; omega) HLA.out).mono ?_
    rintro e w2 ⟨rfl, hb2⟩
    rw [HU.out]
    go_wp2_with fail
    refine (repeat_any 0 w2 (by omega)).mono ?_
    rintro e w3 ⟨rfl, hb3⟩
    have hbb := (hb1.trans (hb2.mono hb1.size)).trans (hb3.mono (Nat.le_trans hb1.size hb2.size))
    have hrs := HRS.out
    clear hb1 hb2 hb3
    go_wp2
    go_ret
    refine ⟨?_, hbb⟩
    show Ending.returned (.string (M.bytes (Lib.repeatL [48] 0) ++ M.bytes U)) = _
    rw [bytes_append, HF.out]
  · obtain rfl : k = 0 := by omega
    clear hk
    go_enter Tryz.func32, Tryz.ntmps32
    go_wp2_with fail
    refine HFI.out.mono ?_
    rintro e w1 ⟨rfl, hb1⟩
    go_wp2_with fail
    refine (upper_any L w1 (by rw [HLL.out]; omega) HLA.out).mono ?_
    rintro e w2 ⟨rfl, hb2⟩
    rw [HU.out]
    go_wp2_with fail
    refine (repeat_any 0 w2 (by omega)).mono ?_
    rintro e w3 ⟨rfl, hb3⟩
    have hbb := (hb1.trans (hb2.mono hb1.size)).trans (hb3.mono (Nat.le_trans hb1.size hb2.size))
    have hrs := HRS.out
    clear hb1 hb2 hb3
    go_wp2
    go_ret
    refine ⟨?_, hbb⟩
    show Ending.returned (.string (M.bytes (Lib.repeatL [48] 0) ++ M.bytes U)) = _
    rw [bytes_append, HF.out]
  · obtain rfl : k = 0 := by omega
    clear hk
    go_enter Tryz.func32, Tryz.ntmps32
    go_wp2_with fail
    refine HFI.out.mono ?_
    rintro e w1 ⟨rfl, hb1⟩
    go_wp2_with fail
    refine (upper_any L w1 (by rw [HLL.out]; omega) HLA.out).mono ?_
    rintro e w2 ⟨rfl, hb2⟩
    rw [HU.out]
    go_wp2_with fail
    refine (repeat_any 0 w2 (by omega)).mono ?_
    rintro e w3 ⟨rfl, hb3⟩
    have hbb := (hb1.trans (hb2.mono hb1.size)).trans (hb3.mono (Nat.le_trans hb1.size hb2.size))
    have hrs := HRS.out
    clear hb1 hb2 hb3
    go_wp2
    go_ret
    refine ⟨?_, hbb⟩
    show Ending.returned (.string (M.bytes (Lib.repeatL [48] 0) ++ M.bytes U)) = _
    rw [bytes_append, HF.out]

theorem toList_nil (x : ByteArray) : (x.toList = []) ↔ (x.data.toList = []) := by rw [ByteArray.toList_eq]

set_option maxHeartbeats 2000000 in
theorem right_any (e : M.E) (w : World) (hv : e.v.size ≤ maxLen) (hx : e.x.size ≤ maxLen) :
    Calls Tryz.prog 18 #[e.val] w fun r w' => r = .returned (.bool (M.right e)) ∧ Below w.heap.size w w' := by
  obtain ⟨a, b, v, x⟩ := e
  unfold M.right M.E.val
  dsimp only at hv hx ⊢
  obtain ⟨r, hr⟩ : ∃ r, M.rising a b = r := ⟨_, rfl⟩
  obtain ⟨wv, hwv⟩ : ∃ r, M.word v.data.toList = r := ⟨_, rfl⟩
  obtain ⟨wx, hwx⟩ : ∃ r, M.word x.data.toList = r := ⟨_, rfl⟩
  rw [hr, hwv, hwx]
  have HR := Lib.hid hr
  have HV := Lib.hid hwv
  have HX := Lib.hid hwx
  clear hr hwv hwx
  have hb0 : Below w.heap.size w (w.alloc (.cells #[.int .i64 a, .int .i64 b, .string v, .string x] 35)) := (Below.refl _ _).alloc (Nat.le_refl _) _
  have HB0 := Lib.hid hb0
  clear hb0
  cases r with
  | false =>
    go_enter Tryz.func18, Tryz.ntmps18
    go_wp2_with fail
    refine (rising_any _ _ _).mono ?_
    rintro e w1 ⟨rfl, rfl⟩
    rw [HR.out]
    go_wp2
    go_ret
    exact ⟨ret_bool (by simp), HB0.out⟩
  | true =>
    cases wv with
    | false =>
      go_enter Tryz.func18, Tryz.ntmps18
      go_wp2_with fail
      refine (rising_any _ _ _).mono ?_
      rintro e w1 ⟨rfl, rfl⟩
      rw [HR.out]
      go_wp2_with fail
      refine (isWord_any v _ hv).mono ?_
      rintro e w2 ⟨rfl, hb2⟩
      rw [HV.out]
      have hbb := HB0.out.trans (hb2.mono (by simp))
      clear hb2
      go_wp2
      go_ret
      exact ⟨ret_bool (by simp), hbb⟩
    | true =>
      by_cases hx0 : x.data.toList = []
      · obtain rfl : x = ByteArray.empty := by rw [← M.bytes_self x, hx0]; rfl
        go_enter Tryz.func18, Tryz.ntmps18
        go_wp2_with fail
        refine (rising_any _ _ _).mono ?_
        rintro e w1 ⟨rfl, rfl⟩
        rw [HR.out]
        go_wp2_with fail
        refine (isWord_any v _ hv).mono ?_
        rintro e w2 ⟨rfl, hb2⟩
        rw [HV.out]
        have hbb := HB0.out.trans (hb2.mono (by simp))
        have f := (Four.new w (.int .i64 a) (.int .i64 b) (.string v) (.string ByteArray.empty) 35).below hb2 (by simp)
        have c3 := f.c3
        clear hb2 f
        go_wp2
        go_ret
        exact ⟨ret_bool (by simp), hbb⟩
      · have hl0 : ¬ x.toList = [] := by rw [toList_nil]; exact hx0
        have hl1 : x.toList.isEmpty = false := by rw [List.isEmpty_eq_false_iff]; exact hl0
        go_enter Tryz.func18, Tryz.ntmps18
        go_wp2_with fail
        refine (rising_any _ _ _).mono ?_
        rintro e w1 ⟨rfl, rfl⟩
        rw [HR.out]
        go_wp2_with fail
        refine (isWord_any v _ hv).mono ?_
        rintro e w2 ⟨rfl, hb2⟩
        rw [HV.out]
        have hbb := HB0.out.trans (hb2.mono (by simp))
        have f := (Four.new w (.int .i64 a) (.int .i64 b) (.string v) (.string x) 35).below hb2 (by simp)
        have c3 := f.c3
        clear hb2 f
        go_wp2_with fail
        refine (isWord_any x _ hx).mono ?_
        rintro e w3 ⟨rfl, hb3⟩
        rw [HX.out]
        have hbb3 := hbb.trans (hb3.mono hbb.size)
        clear hb3 hbb c3
        go_wp2
        go_ret
        exact ⟨ret_bool (by simp [hx0]), hbb3⟩

/-- An entry's line, without the byte 10 behind it. -/
def M.line (e : M.E) : List UInt8 :=
  M.figs e.a.toNat ++ (if e.b = e.a then [] else [46, 46] ++ M.figs e.b.toNat) ++ [32, 59, 32] ++ e.v.data.toList ++ (if e.x.data.toList = [] then [] else [32, 59, 32] ++ e.x.data.toList)
theorem M.word_le {l : List UInt8} (h : M.word l = true) : l.length ≤ 16 := by
  simp [M.word] at h
  exact h.1.2
theorem str_append (a b : ByteArray) : a ++ b = M.bytes (a.data.toList ++ b.data.toList) := by
  have := bytes_append a.data.toList b.data.toList
  rw [M.bytes_self, M.bytes_self] at this
  exact this

theorem byte_ext {s t : ByteArray} (h : s.data.toList = t.data.toList) : s = t := by rw [← M.bytes_self s, h, M.bytes_self]
theorem ret_str {a b : ByteArray} (h : a = b) : Ending.returned (.string a) = .returned (.string b) := by rw [h]

set_option maxHeartbeats 4000000 in
theorem line_any (e : M.E) (w : World) (he : M.right e = true) (ht : TabOk w) :
    Calls Tryz.prog 19 #[e.val] w fun r w' => r = .returned (.string (M.bytes (M.line e))) ∧ Below w.heap.size w w' := by
  obtain ⟨a, b, v, x⟩ := e
  simp only [M.right, M.rising, Bool.and_eq_true, decide_eq_true_eq, Bool.or_eq_true] at he
  obtain ⟨⟨⟨ha, hab, hb⟩, hv⟩, hx⟩ := he
  obtain ⟨n, rfl⟩ : ∃ n : Nat, a = n := ⟨a.toNat, by omega⟩
  obtain ⟨m, rfl⟩ : ∃ m : Nat, b = m := ⟨b.toNat, by omega⟩
  have hvl : v.size ≤ 16 := by have := M.word_le hv; simpa using this
  have hxl : x.size ≤ 16 := by
    rcases hx with hx | hx
    · have h1 : x.size = x.data.toList.length := by simp
      rw [h1, hx]
      decide
    · have := M.word_le hx; simpa using this
  unfold M.E.val
  obtain ⟨F, hF⟩ : ∃ F, M.bytes (M.figs n) = F := ⟨_, rfl⟩
  obtain ⟨G, hG⟩ : ∃ G, M.bytes (M.figs m) = G := ⟨_, rfl⟩
  have hFl : F.size ≤ 6 := by rw [← hF, bytes_size, M.figs_length]; have := M.ndig_le n; omega
  have hGl : G.size ≤ 6 := by rw [← hG, bytes_size, M.figs_length]; have := M.ndig_le m; omega
  have HT := Lib.hid ht
  have HF := Lib.hid hF
  have HG := Lib.hid hG
  have hb0 : Below w.heap.size w (w.alloc (.cells #[.int .i64 n, .int .i64 m, .string v, .string x] 35)) := (Below.refl _ _).alloc (Nat.le_refl _) _
  have HB0 := Lib.hid hb0
  have hF4 := Four.new w (.int .i64 n) (.int .i64 m) (.string v) (.string x) 35
  have HF4 := Lib.hid hF4
  clear ht hF hG hb0 hF4 hv hx
  by_cases hne : m = n
  · subst hne
    by_cases hx0 : x.data.toList = []
    · obtain rfl : x = ByteArray.empty := by rw [← M.bytes_self x, hx0]; rfl
      have HL := Lib.hid (show M.line ⟨m, m, v, ByteArray.empty⟩ = M.figs m ++ [] ++ [32, 59, 32] ++ v.data.toList ++ [] by
        unfold M.line
        dsimp only
        rw [if_pos rfl, if_pos (show ByteArray.empty.data.toList = [] from rfl)]
        rfl)
      clear hx0
      go_enter Tryz.func19, Tryz.ntmps19
      go_wp2_with fail
      refine (figures_any m _ (by omega) (HT.out.next HB0.out)).mono ?_
      rintro e w1 ⟨rfl, hb1⟩
      rw [HF.out]
      have hbw1 := HB0.out.trans (hb1.mono (by simp))
      have f1 := HF4.out.below hb1 (by simp)
      have HF1 := Lib.hid f1
      have HBW1 := Lib.hid hbw1
      have hsz1 : w.heap.size < w1.heap.size := by have := hb1.size; simp at this; omega
      clear hb1 hbw1
      obtain ⟨c0, c1, c2, c3, g0, g1, g2, g3⟩ := f1
      clear g0 g1 g2 g3
      go_wp2
      go_ret
      refine ⟨ret_str ?_, HBW1.out⟩
      rw [HL.out, ← HF.out]
      apply byte_ext
      simp [ByteArray.data_append, M.bytes_list]
    · have hl0 : ¬ x.toList = [] := by rw [toList_nil]; exact hx0
      have hl1 : x.toList.isEmpty = false := by rw [List.isEmpty_eq_false_iff]; exact hl0
      have HL := Lib.hid (show M.line ⟨m, m, v, x⟩ = M.figs m ++ [] ++ [32, 59, 32] ++ v.data.toList ++ ([32, 59, 32] ++ x.data.toList) by
        unfold M.line
        dsimp only
        rw [if_pos rfl, if_neg hx0]
        rfl)
      clear hx0
      go_enter Tryz.func19, Tryz.ntmps19
      go_wp2_with fail
      refine (figures_any m _ (by omega) (HT.out.next HB0.out)).mono ?_
      rintro e w1 ⟨rfl, hb1⟩
      rw [HF.out]
      have hbw1 := HB0.out.trans (hb1.mono (by simp))
      have f1 := HF4.out.below hb1 (by simp)
      have HF1 := Lib.hid f1
      have HBW1 := Lib.hid hbw1
      have hsz1 : w.heap.size < w1.heap.size := by have := hb1.size; simp at this; omega
      clear hb1 hbw1
      obtain ⟨c0, c1, c2, c3, g0, g1, g2, g3⟩ := f1
      clear g0 g1 g2 g3
      go_wp2
      go_ret
      refine ⟨ret_str ?_, HBW1.out⟩
      rw [HL.out, ← HF.out]
      apply byte_ext
      simp [ByteArray.data_append, M.bytes_list]
  · have hne1 : ((m : Int) == (n : Int)) = false := by rw [beq_eq_false_iff_ne]; omega
    have hne2 : ((m : Int) != (n : Int)) = true := by rw [bne_iff_ne]; omega
    by_cases hx0 : x.data.toList = []
    · obtain rfl : x = ByteArray.empty := by rw [← M.bytes_self x, hx0]; rfl
      have HL := Lib.hid (show M.line ⟨n, m, v, ByteArray.empty⟩ = M.figs n ++ ([46, 46] ++ M.figs m) ++ [32, 59, 32] ++ v.data.toList ++ [] by
        unfold M.line
        dsimp only
        rw [if_neg (show ¬ ((m : Int) = n) by omega), if_pos (show ByteArray.empty.data.toList = [] from rfl)]
        rfl)
      clear hx0
      go_enter Tryz.func19, Tryz.ntmps19
      go_wp2_with fail
      refine (figures_any n _ (by omega) (HT.out.next HB0.out)).mono ?_
      rintro e w1 ⟨rfl, hb1⟩
      rw [HF.out]
      have hbw1 := HB0.out.trans (hb1.mono (by simp))
      have f1 := HF4.out.below hb1 (by simp)
      have HF1 := Lib.hid f1
      have HBW1 := Lib.hid hbw1
      have hsz1 : w.heap.size < w1.heap.size := by have := hb1.size; simp at this; omega
      clear hb1 hbw1
      obtain ⟨c0, c1, c2, c3, g0, g1, g2, g3⟩ := f1
      clear g0 g1 g2 g3
      go_wp2_with fail
      refine (figures_any m _ (by omega) (HT.out.next HBW1.out)).mono ?_
      rintro e w2 ⟨rfl, hb2⟩
      rw [HG.out]
      have f2 := HF1.out.below hb2 hsz1
      have hbw2 := HBW1.out.trans (hb2.mono (by omega))
      clear c0 c1 c2 c3 hb2
      obtain ⟨c0, c1, c2, c3, g0, g1, g2, g3⟩ := f2
      clear g0 g1 g2 g3
      go_wp2
      go_ret
      refine ⟨ret_str ?_, hbw2⟩
      rw [HL.out, ← HF.out, ← HG.out]
      apply byte_ext
      simp [ByteArray.data_append, M.bytes_list]
    · have hl0 : ¬ x.toList = [] := by rw [toList_nil]; exact hx0
      have hl1 : x.toList.isEmpty = false := by rw [List.isEmpty_eq_false_iff]; exact hl0
      have HL := Lib.hid (show M.line ⟨n, m, v, x⟩ = M.figs n ++ ([46, 46] ++ M.figs m) ++ [32, 59, 32] ++ v.data.toList ++ ([32, 59, 32] ++ x.data.toList) by
        unfold M.line
        dsimp only
        rw [if_neg (show ¬ ((m : Int) = n) by omega), if_neg hx0]
        rfl)
      clear hx0
      go_enter Tryz.func19, Tryz.ntmps19
      go_wp2_with fail
      refine (figures_any n _ (by omega) (HT.out.next HB0.out)).mono ?_
      rintro e w1 ⟨rfl, hb1⟩
      rw [HF.out]
      have hbw1 := HB0.out.trans (hb1.mono (by simp))
      have f1 := HF4.out.below hb1 (by simp)
      have HF1 := Lib.hid f1
      have HBW1 := Lib.hid hbw1
      have hsz1 : w.heap.size < w1.heap.size := by have := hb1.size; simp at this; omega
      clear hb1 hbw1
      obtain ⟨c0, c1, c2, c3, g0, g1, g2, g3⟩ := f1
      clear g0 g1 g2 g3
      go_wp2_with fail
      refine (figures_any m _ (by omega) (HT.out.next HBW1.out)).mono ?_
      rintro e w2 ⟨rfl, hb2⟩
      rw [HG.out]
      have f2 := HF1.out.below hb2 hsz1
      have hbw2 := HBW1.out.trans (hb2.mono (by omega))
      clear c0 c1 c2 c3 hb2
      obtain ⟨c0, c1, c2, c3, g0, g1, g2, g3⟩ := f2
      clear g0 g1 g2 g3
      go_wp2
      go_ret
      refine ⟨ret_str ?_, hbw2⟩
      rw [HL.out, ← HF.out, ← HG.out]
      apply byte_ext
      simp [ByteArray.data_append, M.bytes_list]
end Go.Proofs.YtjbpjnnflcmmhaaGreatDoor
