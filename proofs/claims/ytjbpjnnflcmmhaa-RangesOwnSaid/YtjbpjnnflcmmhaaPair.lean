/- Tables of pairs in memory, and the contracts of utf's Scalar and of ranges' isScalars, Pair, At and Len of pairs over the translation. Conditions: the slice reads as a list of entries, whose strings are no longer than the model lets them be. -/
import Derived.Test.YtjbpjnnflcmmhaaObj
namespace Go.Proofs.Ytjbpjnnflcmmhaa
open Go.RowKit

def M.scalar (n : Int) : Bool := decide ((0 ≤ n ∧ n < 55296) ∨ (57343 < n ∧ n ≤ 1114111))
set_option maxHeartbeats 1000000 in
theorem scalar_any (n : Int) (w : World) :
    Calls Try.prog 39 #[.int .i64 n] w fun e w' => e = .returned (.bool (M.scalar n)) ∧ w = w' := by
  rcases (show n < 0 ∨ (0 ≤ n ∧ n < 55296) ∨ (55296 ≤ n ∧ n ≤ 57343) ∨ (57343 < n ∧ n ≤ 1114111) ∨ 1114111 < n by omega) with h | ⟨h, h'⟩ | ⟨h, h'⟩ | ⟨h, h'⟩ | h
  all_goals
    go_enter Try.func39, Try.ntmps39
    go_wp2
    go_ret
    refine ⟨ret_bool ?_, rfl⟩
    unfold M.scalar
    rw [Bool.eq_iff_iff]
    simp
    try omega

/-- A Value is a scalar's figures. -/
def M.figOk (s : ByteArray) : Bool := M.hexIs s.data.toList && M.scalar (M.hexInt s.data.toList)
set_option maxHeartbeats 1000000 in
theorem isScalars_any (s : ByteArray) (w : World) (hs : s.size ≤ maxLen) :
    Calls Try.prog 31 #[.string s] w fun e w' => e = .returned (.bool (M.figOk s)) ∧ Below w.heap.size w w' := by
  unfold M.figOk
  obtain ⟨n, hn⟩ : ∃ n, M.hexInt s.data.toList = n := ⟨_, rfl⟩
  have HN := Lib.hid hn
  cases hi : M.hexIs s.data.toList with
  | true =>
    have HI := Lib.hid hi
    rw [hn]
    clear hi hn
    go_enter Try.func31, Try.ntmps31
    go_wp2_with fail
    refine (hex_any s w hs).mono ?_
    rintro e w1 ⟨rfl, hb1⟩
    rw [HN.out, HI.out]
    have HB1 := Lib.hid hb1
    clear hb1
    go_wp2_with fail
    refine (scalar_any n w1).mono ?_
    rintro e w2 ⟨rfl, rfl⟩
    go_wp2
    go_ret
    exact ⟨ret_bool (by simp), HB1.out⟩
  | false =>
    have HI := Lib.hid hi
    clear hi hn
    go_enter Try.func31, Try.ntmps31
    go_wp2_with fail
    refine (hex_any s w hs).mono ?_
    rintro e w1 ⟨rfl, hb1⟩
    rw [HN.out, HI.out]
    have HB1 := Lib.hid hb1
    clear hb1
    go_wp2
    go_ret
    exact ⟨ret_bool (by simp), HB1.out⟩

def M.OnesTo (l : List M.E) (k : Nat) : Prop := ∀ j e, j < k → l[j]? = some e → e.a = e.b ∧ M.figOk e.v = true
theorem M.OnesTo.next {l : List M.E} {k : Nat} {e : M.E} (h : M.OnesTo l k) (he : l[k]? = some e) (h1 : e.a = e.b) (h2 : M.figOk e.v = true) : M.OnesTo l (k + 1) := fun j f hj hf => by
  rcases Nat.lt_or_ge j k with hlt | hge
  · exact h j f hlt hf
  · obtain rfl : j = k := by omega
    obtain rfl : e = f := by rw [he] at hf; injection hf
    exact ⟨h1, h2⟩
structure M.PairOk (l : List M.E) : Prop where
  rises : M.Rises l
  ones : M.OnesTo l l.length

/-- A table of pairs in memory. -/
def PairsAt (w : World) (lo pb : Nat) (l : List M.E) : Prop :=
  ∃ v, w.cell? ⟨pb, 0, none⟩ = some v ∧ OwnE w lo v l ∧ lo ≤ pb ∧ pb < w.heap.size
theorem PairsAt.below {w w' : World} {lo pb : Nat} {l : List M.E} (h : PairsAt w lo pb l) (hb : Below w.heap.size w w') : PairsAt w' lo pb l := by
  obtain ⟨v, c0, ho, h1, h2⟩ := h
  exact ⟨v, (hb.cell (p := ⟨pb, 0, none⟩) h2).trans c0, ho.below hb, h1, Nat.lt_of_lt_of_le h2 hb.size⟩
/-- What Pair leaves. -/
def PairOut (l : List M.E) (w : World) (r : Ending) (w' : World) : Prop :=
  Below w.heap.size w w' ∧ (M.PairOk l → ∃ pb, r = .returned (.tuple #[.pointer (some ⟨pb, 0, none⟩), .int .i64 0]) ∧ PairsAt w' w.heap.size pb l) ∧ (¬ M.PairOk l → r = .returned (.tuple #[.pointer none, .int .i64 31]))
theorem pair_no {w w' : World} {l : List M.E} (h : ¬ M.PairOk l) (hb : Below w.heap.size w w') : PairOut l w (.returned (.tuple #[.pointer none, .int .i64 31])) w' :=
  ⟨hb, fun h' => absurd h' h, fun _ => rfl⟩

set_option maxRecDepth 100000 in
set_option maxHeartbeats 4000000 in
theorem pair_any (A : Option Addr) (ca : Nat) (l : List M.E) (w : World) (hr : RdE w w.heap.size A l) (hA : A = none → ca = 0) (hm : l.length ≤ maxLen) (hz : Sized l) :
    Calls Try.prog 18 #[.slice A l.length ca] w (PairOut l w) := by
  have HR := Lib.hid hr
  have HZ := Lib.hid hz
  have HM := Lib.hid hm
  have HA := Lib.hid hA
  unfold maxLen at hm
  have HRL := Lib.hid (rising_list_any A ca l w hr HM.out hz)
  clear hr hz hA
  by_cases hris : M.Rises l
  · rw [M.rises_yes hris] at HRL
    have HRS := Lib.hid hris
    have h600 : l.length ≤ 600 := hris.1
    clear hris
    go_enter Try.func18, Try.ntmps18
    go_wp2_with fail
    refine HRL.out.mono ?_
    rintro r w2 ⟨rfl, hb2⟩
    have HB2 := Lib.hid hb2
    clear hb2
    go_wp2
    go_loopw [11] (fun i wr => ∃ k : Nat, k ≤ l.length ∧ i = .int .i64 k ∧ M.OnesTo l k ∧ Below w.heap.size w wr) (fun i _ => l.length - (intOf i).toNat)
    case atStart => exact ⟨0, Nat.zero_le _, rfl, (fun j e hj => by omega), HB2.out⟩
    case round =>
      obtain ⟨k, hk, rfl, hv, hb⟩ := hrel
      have HV := Lib.hid hv
      have HB := Lib.hid hb
      clear hv hb
      by_cases hlt : k < l.length
      · obtain ⟨e, he⟩ : ∃ e, l[k]? = some e := ⟨_, List.getElem?_eq_getElem hlt⟩
        obtain ⟨hzv, hzx⟩ := HZ.out e (List.mem_of_getElem? he)
        obtain ⟨ad, rfl, hab, c0, c1, c2, c3⟩ := HR.out.below HB.out k e he
        have hk1 : (0 : Int) ≤ (k : Int) := by omega
        have hk2 : (k : Int) < (l.length : Int) := by omega
        obtain ⟨W1, hW1⟩ : ∃ W, wr.alloc (.cells #[.int .i64 e.a, .int .i64 e.b, .string e.v, .string e.x] 36) = W := ⟨_, rfl⟩
        have hb1 : Below wr.heap.size wr W1 := by rw [← hW1]; exact (Below.refl _ _).alloc (Nat.le_refl _) _
        have hF := Four.new wr (.int .i64 e.a) (.int .i64 e.b) (.string e.v) (.string e.x) 36
        rw [hW1] at hF
        obtain ⟨d0, d1, d2, d3, f0, f1, f2, f3⟩ := hF
        have HB1 := Lib.hid (HB.out.trans (hb1.mono HB.out.size))
        have HE := Lib.hid he
        clear hb1 he f0 f1 f2 f3
        by_cases hab2 : e.a = e.b
        · have hn1 : (e.a != e.b) = false := by rw [bne_eq_false_iff_eq]; exact hab2
          have HAB := Lib.hid hab2
          clear hab2
          obtain ⟨q, hq⟩ : ∃ q, M.figOk e.v = q := ⟨_, rfl⟩
          have HQ := Lib.hid hq
          clear hq
          cases q with
          | true =>
            have HV2 := Lib.hid (HV.out.next HE.out HAB.out HQ.out)
            go_wp2_with fail
            refine (isScalars_any e.v W1 hzv).mono ?_
            rintro r w4 ⟨rfl, hb4⟩
            rw [HQ.out]
            have HB4 := Lib.hid (HB1.out.trans (hb4.mono HB1.out.size))
            clear hb4
            go_wp2
            go_roundw
            case rel => exact ⟨k + 1, by omega, by go_num, HV2.out, HB4.out⟩
            case measure => simp [intOf]; omega
          | false =>
            have HNO := Lib.hid (show ¬ M.PairOk l from fun h => by
              have := (h.ones k e hlt HE.out).2
              rw [HQ.out] at this
              cases this)
            go_wp2_with fail
            refine (isScalars_any e.v W1 hzv).mono ?_
            rintro r w4 ⟨rfl, hb4⟩
            rw [HQ.out]
            have HB4 := Lib.hid (HB1.out.trans (hb4.mono HB1.out.size))
            clear hb4
            go_wp2
            go_ret2
            exact pair_no HNO.out HB4.out
        · have hn1 : (e.a != e.b) = true := by rw [bne_iff_ne]; exact hab2
          have HNO := Lib.hid (show ¬ M.PairOk l from fun h => hab2 (h.ones k e hlt HE.out).1)
          clear hab2
          go_wp2
          go_ret2
          exact pair_no HNO.out HB1.out
      · have HOK := Lib.hid (show M.PairOk l from ⟨HRS.out, by have := HV.out; rwa [show k = l.length by omega] at this⟩)
        go_wp2_with fail
        refine (clone_any A ca l wr ((HR.out.below HB.out).more HB.out.size) HA.out h600).mono ?_
        rintro r w4 ⟨⟨v, rfl, ho4⟩, hb4⟩
        obtain ⟨A4, c4, rfl, _, _, _, _⟩ := ho4.shape
        have HO4 := Lib.hid ho4
        have HB4 := Lib.hid (HB.out.trans (hb4.mono HB.out.size))
        have hs34 : w.heap.size ≤ wr.heap.size := HB.out.size
        have hs4 : w.heap.size ≤ w4.heap.size := HB4.out.size
        clear ho4 hb4
        go_wp2
        go_ret2
        exact ⟨HB4.out.alloc hs4 _, fun _ => ⟨w4.heap.size, rfl, _, by simp [go_sem], (HO4.out.less hs34).below ((Below.refl _ _).alloc (Nat.le_refl _) _), hs4, by simp⟩, fun h => absurd HOK.out h⟩
  · rw [M.rises_no hris] at HRL
    have HNO := Lib.hid (show ¬ M.PairOk l from fun h => hris h.rises)
    clear hris
    go_enter Try.func18, Try.ntmps18
    go_wp2_with fail
    refine HRL.out.mono ?_
    rintro r w2 ⟨rfl, hb2⟩
    have HB2 := Lib.hid hb2
    clear hb2
    go_wp2
    go_ret2
    exact pair_no HNO.out HB2.out

set_option maxHeartbeats 1000000 in
theorem pairsLen_any (lo pb : Nat) (l : List M.E) (w : World) (h : PairsAt w lo pb l) :
    Calls Try.prog 19 #[.pointer (some ⟨pb, 0, none⟩)] w fun r w' => r = .returned (.int .i64 l.length) ∧ w = w' := by
  obtain ⟨v, c0, ho, h1, h2⟩ := h
  obtain ⟨A, ca, rfl, _, _, _, _⟩ := ho.shape
  clear ho
  go_enter Try.func19, Try.ntmps19
  go_wp2
  go_ret
  exact ⟨rfl, rfl⟩

/-- What is told of a number by pairs. -/
def M.other (o : Option M.E) : Value := match o with
  | some e => .tuple #[.int .i64 (M.hexInt e.v.data.toList), .string e.x, .bool true]
  | none => .tuple #[.int .i64 (-1), .string ⟨#[]⟩, .bool false]
set_option maxRecDepth 100000 in
set_option maxHeartbeats 2000000 in
theorem pairsAt_any (lo pb : Nat) (l : List M.E) (c : Int) (w : World) (h : PairsAt w lo pb l) (hs : M.Srt l) (hm : l.length ≤ maxLen) (hz : Sized l) :
    Calls Try.prog 20 #[.pointer (some ⟨pb, 0, none⟩), .int .i64 c] w fun r w' => r = .returned (M.other (M.find l c)) ∧ Below w.heap.size w w' := by
  obtain ⟨v, c0, ho, h1, h2⟩ := h
  obtain ⟨A, ca, rfl, hr, hc, hmx, _⟩ := ho.shape
  have HF := Lib.hid (find_any (A := A) (ca := ca) (l := l) (c := c) w hr hs hm)
  clear hr hs hm ho
  cases hf : M.find l c with
  | none =>
    rw [hf] at HF
    clear hf
    go_enter Try.func20, Try.ntmps20
    go_wp2_with fail
    refine HF.out.mono ?_
    rintro r w1 ⟨rfl, hb1⟩
    have HB1 := Lib.hid hb1
    have hs1 := hb1.size
    clear hb1
    unfold M.found M.zeroOf M.E.val
    dsimp only
    go_wp2
    refine bodyPost_ret (v := .tuple #[.int .i64 (-1), .string ⟨#[]⟩, .bool false]) (by simp [results, Try.results20, go_sem]) rfl ⟨rfl, HB1.out.alloc hs1 _⟩
  | some e =>
    have hzv := (hz e (M.find_mem hf)).1
    rw [hf] at HF
    clear hf
    go_enter Try.func20, Try.ntmps20
    go_wp2_with fail
    refine HF.out.mono ?_
    rintro r w1 ⟨rfl, hb1⟩
    have HB1 := Lib.hid hb1
    have hs1 := hb1.size
    obtain ⟨W1, hW1⟩ : ∃ W, w1.alloc (.cells #[.int .i64 e.a, .int .i64 e.b, .string e.v, .string e.x] 36) = W := ⟨_, rfl⟩
    have hbW : Below w1.heap.size w1 W1 := by rw [← hW1]; exact (Below.refl _ _).alloc (Nat.le_refl _) _
    have hF := Four.new w1 (.int .i64 e.a) (.int .i64 e.b) (.string e.v) (.string e.x) 36
    rw [hW1] at hF
    have hlt : w1.heap.size < W1.heap.size := by rw [← hW1]; simp
    have d2 := hF.c2
    have HF4 := Lib.hid hF
    have HBW := Lib.hid (HB1.out.trans (hbW.mono HB1.out.size))
    clear hb1 hbW hF c0
    unfold M.found M.E.val
    dsimp only
    go_wp2_with fail
    refine (hex_any e.v W1 hzv).mono ?_
    rintro r w2 ⟨rfl, hb2⟩
    have k3 := (HF4.out.below hb2 hlt).c3
    have HB2 := Lib.hid (HBW.out.trans (hb2.mono HBW.out.size))
    clear hb2
    go_wp2
    go_quiet (fail)
    go_wp2
    refine bodyPost_ret (v := .tuple #[.int .i64 (M.hexInt e.v.data.toList), .string e.x, .bool true]) (by simp [results, Try.results20, go_sem]) rfl ⟨rfl, below_drewN HB2.out _⟩
end Go.Proofs.Ytjbpjnnflcmmhaa
