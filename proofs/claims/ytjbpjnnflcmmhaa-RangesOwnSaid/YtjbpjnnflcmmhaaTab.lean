/- Names and their places, the map of them in memory, and the contracts of ranges' isValue and placesOf over the translation. Conditions: the slice reads as a list of strings no longer than the model lets them be. -/
import Derived.Test.YtjbpjnnflcmmhaaRight
import Derived.Maps.OwnSet
namespace Go.Proofs.Ytjbpjnnflcmmhaa
open Go.RowKit Go.Maps Go.WideMaps

/-- Where a name first stands. -/
def M.idx : List ByteArray → ByteArray → Option Nat
  | [], _ => none
  | n :: r, s => if n = s then some 0 else (M.idx r s).map (· + 1)
theorem M.idx_snoc (ns : List ByteArray) (x s : ByteArray) : M.idx (ns ++ [x]) s = match M.idx ns s with
    | some i => some i
    | none => if x = s then some ns.length else none := by
  induction ns with
  | nil => simp [M.idx]
  | cons n r ih =>
    simp only [List.cons_append, M.idx]
    by_cases h : n = s
    · simp [h]
    · rw [if_neg h, if_neg h, ih]
      cases M.idx r s with
      | some i => rfl
      | none => by_cases hx : x = s <;> simp [hx]
theorem M.idx_some {ns : List ByteArray} {s : ByteArray} : ∀ {i : Nat}, M.idx ns s = some i → ns[i]? = some s := by
  induction ns with
  | nil => intro i h; cases h
  | cons n r ih =>
    intro i h
    unfold M.idx at h
    by_cases hn : n = s
    · rw [if_pos hn] at h
      obtain rfl : 0 = i := by injection h
      simp [hn]
    · rw [if_neg hn] at h
      cases hr : M.idx r s with
      | none => rw [hr] at h; cases h
      | some j =>
        rw [hr] at h
        obtain rfl : j + 1 = i := by simpa using h
        simpa using ih hr
theorem M.idx_none {ns : List ByteArray} {s : ByteArray} : M.idx ns s = none ↔ s ∉ ns := by
  induction ns with
  | nil => simp [M.idx]
  | cons n r ih =>
    unfold M.idx
    by_cases hn : n = s
    · simp [hn]
    · rw [if_neg hn]
      simp only [Option.map_eq_none_iff, ih, List.mem_cons, not_or]
      exact ⟨fun h => ⟨fun e => hn e.symm, h⟩, fun h => h.2⟩
theorem M.idx_lt {ns : List ByteArray} {s : ByteArray} {i : Nat} (h : M.idx ns s = some i) : i < ns.length := (List.getElem?_eq_some_iff.1 (M.idx_some h)).1
theorem M.take_succ {α : Type} {l : List α} {k : Nat} {x : α} (h : l[k]? = some x) : l.take (k + 1) = l.take k ++ [x] := by
  obtain ⟨hk, rfl⟩ := List.getElem?_eq_some_iff.1 h
  exact List.take_succ_eq_append_getElem hk
theorem M.idx_append (a b : List ByteArray) (s : ByteArray) : M.idx (a ++ b) s = match M.idx a s with
    | some i => some i
    | none => (M.idx b s).map (· + a.length) := by
  induction a with
  | nil => simp [M.idx]
  | cons n r ih =>
    simp only [List.cons_append, M.idx]
    by_cases h : n = s
    · simp [h]
    · rw [if_neg h, if_neg h, ih]
      cases M.idx r s with
      | some i => rfl
      | none => cases M.idx b s <;> simp <;> omega
/-- A name stands first where it stands, just if it does not stand ahead. -/
theorem M.idx_take {ns : List ByteArray} {s : ByteArray} {k : Nat} (h : ns[k]? = some s) : M.idx ns s = some k ↔ M.idx (ns.take k) s = none := by
  obtain ⟨hk, rfl⟩ := List.getElem?_eq_some_iff.1 h
  have e : ns = ns.take k ++ (ns[k] :: ns.drop (k + 1)) := by
    rw [← List.drop_eq_getElem_cons hk, List.take_append_drop]
  have hl : (ns.take k).length = k := by rw [List.length_take]; omega
  constructor
  · intro hi
    cases ht : M.idx (ns.take k) ns[k] with
    | none => rfl
    | some i =>
      have := M.idx_append (ns.take k) (ns[k] :: ns.drop (k + 1)) ns[k]
      rw [← e, ht, hi] at this
      have h1 := M.idx_lt ht
      simp at this
      omega
  · intro hn
    have := M.idx_append (ns.take k) (ns[k] :: ns.drop (k + 1)) ns[k]
    rw [← e, hn] at this
    rw [this]
    simp [M.idx, hl]
/-- The place of a name; 0 (or -1), if it is none. -/
def M.idx0 (ns : List ByteArray) (s : ByteArray) : Int := match M.idx ns s with
  | some i => i
  | none => 0
def M.idxI (ns : List ByteArray) (s : ByteArray) : Int := match M.idx ns s with
  | some i => i
  | none => -1
/-- The first k names may be a table's. -/
def M.NamesTo (ns : List ByteArray) (k : Nat) : Prop := ∀ j s, j < k → ns[j]? = some s → M.word s.data.toList = true ∧ M.idx ns s = some j
def M.NamesOk (ns : List ByteArray) : Prop := ns.length ≤ 40 ∧ M.NamesTo ns ns.length
theorem M.NamesTo.next {ns : List ByteArray} {k : Nat} {s : ByteArray} (h : M.NamesTo ns k) (hs : ns[k]? = some s) (h1 : M.word s.data.toList = true) (h2 : M.idx ns s = some k) : M.NamesTo ns (k + 1) := fun j t hj ht => by
  rcases Nat.lt_or_ge j k with hlt | hge
  · exact h j t hlt ht
  · obtain rfl : j = k := by omega
    obtain rfl : s = t := by rw [hs] at ht; injection ht
    exact ⟨h1, h2⟩

/-- The slice that begins at A holds the strings l, in blocks below B. -/
def RdN (w : World) (B : Nat) (A : Option Addr) (l : List ByteArray) : Prop :=
  ∀ j s, l[j]? = some s → ∃ ad, A = some ad ∧ ad.block < B ∧ w.cell? (ad.add j) = some (.string s)
theorem RdN.below {w w' : World} {B : Nat} {A : Option Addr} {l : List ByteArray} (h : RdN w B A l) (hb : Below B w w') : RdN w' B A l := fun j s hj => by
  obtain ⟨ad, hA, hB, c⟩ := h j s hj
  exact ⟨ad, hA, hB, (hb.cell (by rw [addr_block]; exact hB)).trans c⟩
theorem RdN.more {w : World} {B B' : Nat} {A : Option Addr} {l : List ByteArray} (h : RdN w B A l) (hB : B ≤ B') : RdN w B' A l := fun j s hj => by
  obtain ⟨ad, hA, hb, c⟩ := h j s hj
  exact ⟨ad, hA, by omega, c⟩
def SizedN (l : List ByteArray) : Prop := ∀ s ∈ l, s.size ≤ maxLen

theorem strKeyed : Keyed Try.prog 9 := string_keyed Try.underlying9
theorem zeroInt (w : World) : (zeroValue 3).run Try.prog w = .ok (.int .i64 0) w := by kernel_rfl
theorem key_str {s : ByteArray} (hs : s.size ≤ maxLen) : keyOf Try.prog 9 (.string s) = some (.string s.data.toList) := keyOf_string_mk Try.underlying9 hs
theorem list_inj {a b : ByteArray} (h : a.data.toList = b.data.toList) : a = b := by rw [← M.bytes_self a, h, M.bytes_self]

/-- What is told of each name. -/
def MapIs (D : DataW Unit) (ns : List ByteArray) : Prop :=
  ∀ s : ByteArray, has D (.string s.data.toList) = (M.idx ns s).isSome ∧ D.atKey (.string s.data.toList) (.lit (.int .i64 0)) = .lit (.int .i64 (M.idx0 ns s))
theorem MapIs.nil : MapIs (.map []) [] := fun _ => ⟨rfl, rfl⟩
theorem key_lit (l : List UInt8) : WideAt.IsKeyLit (.string l) := by simp [WideAt.IsKeyLit]
theorem MapIs.put {D : DataW Unit} {ns : List ByteArray} (h : MapIs D ns) (hD : IsMap D) {s : ByteArray} (hs : M.idx ns s = none) : MapIs (D.put (.string s.data.toList) (.lit (.int .i64 ns.length))) (ns ++ [s]) := fun t => by
  have hk := M.idx_snoc ns s t
  by_cases e : s = t
  · subst e
    rw [hs] at hk
    simp only [if_true] at hk
    refine ⟨?_, ?_⟩
    · rw [has_put_same hD (key_lit _), hk]; rfl
    · rw [atKey_put_same hD (key_lit _)]
      unfold M.idx0
      rw [hk]
  · have hne : (Lit.string t.data.toList) ≠ .string s.data.toList := fun k => e (list_inj (by injection k with k; exact k.symm))
    have hk' : M.idx (ns ++ [s]) t = M.idx ns t := by
      rw [hk]
      cases M.idx ns t with
      | some i => rfl
      | none => simp [e]
    refine ⟨?_, ?_⟩
    · rw [has_put_other hne, (h t).1, hk']
    · rw [atKey_put_other hne, (h t).2]
      unfold M.idx0
      rw [hk']

/-- The map of names' places. -/
def MapW (w : World) (mb : Nat) (ns : List ByteArray) : Prop :=
  ∃ n D, w.ownsMap Try.prog 9 (plainElem (H := Unit) Try.prog 3) mb n D ∧ n ≤ ns.length ∧ MapIs D ns
theorem MapW.lt {w : World} {mb : Nat} {ns : List ByteArray} (h : MapW w mb ns) : mb < w.heap.size := by obtain ⟨n, D, h, _⟩ := h; exact h.lt
theorem MapW.below {w w' : World} {mb B : Nat} {ns : List ByteArray} (h : MapW w mb ns) (hb : Below B w w') (hB : mb < B) : MapW w' mb ns := by
  obtain ⟨n, D, ⟨es, clock, h1, h2⟩, h3⟩ := h
  exact ⟨n, D, ⟨es, clock, by rw [hb.block mb hB]; exact h1, h2⟩, h3⟩
theorem MapW.look2 {w : World} {mb : Nat} {ns : List ByteArray} (h : MapW w mb ns) {s : ByteArray} (hs : s.size ≤ maxLen) :
    (Instr.lookup 53 (.map (some mb)) (.string s) true).run Try.prog w = .ok (.tuple #[.int .i64 (M.idx0 ns s), .bool (M.idx ns s).isSome]) w := by
  obtain ⟨n, D, h, _, hi⟩ := h
  obtain ⟨v, ps, hrun, hv⟩ := h.look_ok strKeyed Try.underlying53 (zeroInt w) (plainElem_int Try.underlying3 (by decide)) (key_str hs)
  obtain ⟨c, rfl, hc, _⟩ := plainElem_int_inv Try.underlying3 hv
  have hc1 : D.atKey (.string s.data.toList) (.lit (.int .i64 0)) = .lit (.int .i64 c) := congrArg Prod.fst hc
  rw [(hi s).2] at hc1
  injection hc1 with hc2
  injection hc2 with _ hc3
  rw [hrun, (hi s).1, hc3]
theorem MapW.look1 {w : World} {mb : Nat} {ns : List ByteArray} (h : MapW w mb ns) {s : ByteArray} (hs : s.size ≤ maxLen) :
    (Instr.lookup 53 (.map (some mb)) (.string s) false).run Try.prog w = .ok (.int .i64 (M.idx0 ns s)) w := by
  obtain ⟨n, D, h, _, hi⟩ := h
  obtain ⟨c, hrun, hat, _⟩ := h.lookup_int strKeyed Try.underlying53 Try.underlying3 (zeroInt w) (key_str hs)
  rw [(hi s).2] at hat
  injection hat with hc2
  injection hc2 with _ hc3
  rw [hrun, hc3]

set_option maxHeartbeats 1000000 in
theorem isValue_any (s : ByteArray) (w : World) (hs : s.size ≤ maxLen) :
    Calls Try.prog 34 #[.string s] w fun e w' => e = .returned (.bool (M.word s.data.toList)) ∧ Below w.heap.size w w' := by
  have H := Lib.hid (show M.right ⟨0, 0, s, ⟨#[]⟩⟩ = M.word s.data.toList by simp [M.right, M.rising])
  go_enter Try.func34, Try.ntmps34
  go_wp2_with fail
  refine (right_any ⟨0, 0, s, ⟨#[]⟩⟩ w hs (by show (0 : Nat) ≤ maxLen; exact Nat.zero_le _)).mono ?_
  rintro e w1 ⟨rfl, hb1⟩
  rw [H.out]
  go_wp2
  go_ret
  exact ⟨rfl, hb1⟩

/-- What placesOf leaves. -/
def PlacesOut (w : World) (ns : List ByteArray) (e : Ending) (w' : World) : Prop :=
  Below w.heap.size w w' ∧ (M.NamesOk ns → ∃ mb, e = .returned (.tuple #[.map (some mb), .bool true]) ∧ MapW w' mb ns ∧ w.heap.size ≤ mb) ∧ (¬ M.NamesOk ns → e = .returned (.tuple #[.map none, .bool false]))
theorem places_no {w w' : World} {ns : List ByteArray} (h : ¬ M.NamesOk ns) (hb : Below w.heap.size w w') : PlacesOut w ns (.returned (.tuple #[.map none, .bool false])) w' :=
  ⟨hb, fun h' => absurd h' h, fun _ => rfl⟩

set_option maxRecDepth 100000 in
set_option maxHeartbeats 4000000 in
theorem placesOf_any (A : Option Addr) (ca : Nat) (ns : List ByteArray) (w : World) (hr : RdN w w.heap.size A ns) (hm : ns.length ≤ maxLen) (hz : SizedN ns) :
    Calls Try.prog 25 #[.slice A ns.length ca] w (PlacesOut w ns) := by
  unfold maxLen at hm
  have HR := Lib.hid hr
  have HZ := Lib.hid hz
  clear hr hz
  by_cases h40 : 40 < ns.length
  · have HN := Lib.hid (show ¬ M.NamesOk ns from fun h => by have := h.1; omega)
    go_enter Try.func25, Try.ntmps25
    go_wp2
    go_ret2
    exact places_no HN.out (Below.refl _ _)
  · have hmm : ∀ (v : Int) (w : World), (Instr.makeMap 53 (some (.int .i64 v))).run Try.prog w = .ok (.map (some w.heap.size)) (w.alloc (.map #[] 0)) := fun v w => by
      simp [Instr.makeMap, go_sem]
    have hd : decide ((40 : Int) < (ns.length : Int)) = false := by rw [decide_eq_false_iff_not]; omega
    go_enter Try.func25, Try.ntmps25
    go_wp2
    go_loopw [17] (fun i wr => ∃ k : Nat, k ≤ ns.length ∧ i = .int .i64 k ∧ M.NamesTo ns k ∧ MapW wr w.heap.size (ns.take k) ∧ Below w.heap.size w wr) (fun i _ => ns.length - (intOf i).toNat)
    case atStart => exact ⟨0, Nat.zero_le _, rfl, (fun j s hj => by omega), ⟨0, .map [], World.ownsMap_made _ _ _ _, Nat.zero_le _, MapIs.nil⟩, (Below.refl _ _).alloc (Nat.le_refl _) _⟩
    case round =>
      obtain ⟨k, hk, rfl, hto, hmap, hb⟩ := hrel
      have HTO := Lib.hid hto
      have HMAP := Lib.hid hmap
      have HB := Lib.hid hb
      clear hto hmap hb hmm
      by_cases hlt : k < ns.length
      · obtain ⟨s, hs⟩ : ∃ s, ns[k]? = some s := ⟨_, List.getElem?_eq_getElem hlt⟩
        have hsz : s.size ≤ maxLen := HZ.out s (List.mem_of_getElem? hs)
        obtain ⟨ad, rfl, hab, c0⟩ := HR.out.below HB.out k s hs
        have hl2 := HMAP.out.look2 hsz
        obtain ⟨q, hq⟩ : ∃ q, M.idx (ns.take k) s = q := ⟨_, rfl⟩
        rw [hq] at hl2
        have HS := Lib.hid hs
        have HQ := Lib.hid hq
        clear hs hq
        have hk1 : (0 : Int) ≤ (k : Int) := by omega
        have hk2 : (k : Int) < (ns.length : Int) := by omega
        obtain ⟨x0, hx0⟩ : ∃ x, M.idx0 (ns.take k) s = x := ⟨_, rfl⟩
        rw [hx0] at hl2
        clear hx0
        cases q with
        | some i =>
          have HN := Lib.hid (show ¬ M.NamesOk ns from fun h => by
            have := (M.idx_take HS.out).1 (h.2 k s hlt HS.out).2
            rw [HQ.out] at this
            cases this)
          have hl3 : (Instr.lookup 53 (.map (some w.heap.size)) (.string s) true).run Try.prog wr = .ok (.tuple #[.int .i64 x0, .bool true]) wr := hl2
          clear hl2
          go_wp2
          go_ret2
          exact places_no HN.out HB.out
        | none =>
          have hl3 : (Instr.lookup 53 (.map (some w.heap.size)) (.string s) true).run Try.prog wr = .ok (.tuple #[.int .i64 x0, .bool false]) wr := hl2
          clear hl2
          cases hw : M.word s.data.toList with
          | false =>
            have HW := Lib.hid hw
            have HN := Lib.hid (show ¬ M.NamesOk ns from fun h => by
              have := (h.2 k s hlt HS.out).1
              rw [HW.out] at this
              cases this)
            clear hw
            go_wp2_with fail
            refine (isValue_any s wr hsz).mono ?_
            rintro e w2 ⟨rfl, hb2⟩
            rw [HW.out]
            have HB2 := Lib.hid (HB.out.trans (hb2.mono HB.out.size))
            clear hb2
            go_wp2
            go_ret2
            exact places_no HN.out HB2.out
          | true =>
            have HW := Lib.hid hw
            have HTO2 := Lib.hid (HTO.out.next HS.out hw ((M.idx_take HS.out).2 HQ.out))
            clear hw
            go_wp2_with fail
            refine (isValue_any s wr hsz).mono ?_
            rintro e w2 ⟨rfl, hb2⟩
            rw [HW.out]
            have HB2 := Lib.hid (HB.out.trans (hb2.mono HB.out.size))
            have HM2 := Lib.hid (HMAP.out.below hb2 HMAP.out.lt)
            obtain ⟨n, D, hown, hn, his⟩ := HM2.out
            have hnk : n ≤ k := by rw [List.length_take] at hn; omega
            have HIS := Lib.hid his
            have HO := Lib.hid hown
            clear hb2 hl3 hown hn his
            go_wp2_with (at_mapUpdate; refine wpList_mapUpdate_own _ rfl _ _ _ 53 rfl 9 3 strKeyed Try.underlying53 _ w.heap.size n _ rfl HO.out (by unfold maxLen; omega) _ _ _ rfl rfl (key_str hsz) _ [] (plainElem_int Try.underlying3 (WalkArith.wf_i64 (by omega))) ?_)
            intro w3 hown3 hgrow3
            have HB3 := Lib.hid (HB2.out.grown hgrow3 HB2.out.size (fun j hj => by cases hj; exact Nat.le_refl _))
            have HM3 := Lib.hid (show MapW w3 w.heap.size (ns.take (k + 1)) by
              have := HIS.out.put HO.out.isMap HQ.out
              rw [List.length_take, Nat.min_eq_left hk] at this
              rw [M.take_succ HS.out]
              exact ⟨n + 1, _, hown3, by rw [List.length_append, List.length_take]; simp; omega, this⟩)
            clear hown3 hgrow3
            go_wp2
            go_roundw
            case rel => exact ⟨k + 1, by omega, by go_num, HTO2.out, HM3.out, HB3.out⟩
            case measure => simp [intOf]; omega
      · have hkn : k = ns.length := by omega
        have HOK := Lib.hid (show M.NamesOk ns from ⟨by omega, by have := HTO.out; rw [hkn] at this; exact this⟩)
        have HM := Lib.hid (show MapW wr w.heap.size ns by have := HMAP.out; rw [hkn, List.take_length] at this; exact this)
        clear hkn
        go_wp2
        go_ret2
        exact ⟨HB.out, fun _ => ⟨_, rfl, HM.out, Nat.le_refl _⟩, fun h => absurd HOK.out h⟩
end Go.Proofs.Ytjbpjnnflcmmhaa
