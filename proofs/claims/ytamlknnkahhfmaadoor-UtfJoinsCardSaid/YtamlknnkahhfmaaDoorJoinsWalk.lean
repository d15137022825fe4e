/- The walk of the statement UtfJoins over the translation: it answers true. Conditions: the two slices read as lists of bytes; the variable lengths holds the four rows of the program's text. -/
import Derived.Test.YtamlknnkahhfmaaDoorAlive
import Derived.Test.YtamlknnkahhfmaaDoorMathD
import Derived.Test.YtamlknnkahhfmaaDoorInts
import Derived.Test.YtamlknnkahhfmaaDoorAppendRd
namespace Go.Proofs.YtamlknnkahhfmaaDoor
open Go.RowKit

theorem decode_ends (A : Option Addr) (cap : Nat) (bs : List Int) (w : World) (hl : LensOk w) (hby : ∀ x ∈ bs, 0 ≤ x ∧ x ≤ 255) (hrd : RdS .u8 w w.heap.size A bs) (hcap : bs.length ≤ cap) (hm : cap ≤ maxLen) (hlen : bs.length ≤ 100000) :
    Calls Tryd.prog 15 #[.slice A bs.length cap] w fun e w' => ∃ v y, e = .returned (.tuple #[v, .int .i64 y]) ∧ Below w.heap.size w w' := by
  refine (decode_any A cap bs w hl hby hrd hcap hm hlen).mono ?_
  rintro e w' ⟨⟨_, h⟩ | ⟨l', v, _, h, _⟩, hb⟩
  · exact ⟨_, _, h, hb⟩
  · exact ⟨_, _, h, hb⟩
/-- What Decode leaves, where it leaves something; a nil slice has no room. -/
def DecOut0 (w : World) (l : List Int) (e : Ending) (w' : World) : Prop :=
  ∃ A' c', e = .returned (.tuple #[.slice A' l.length c', .int .i64 0]) ∧ RdS .i64 w' w'.heap.size A' l ∧ (A' = none → c' = 0) ∧ Below w.heap.size w w'
theorem reads_of_own0 {k : IntKind} {w : World} {base : Nat} {t : TypeId} {v : Value} {l : List Int} (h : w.ownsRow base t 1 v l.length (l.map (Value.int k))) :
    ∃ A' c', v = .slice A' l.length c' ∧ RdS k w w.heap.size A' l ∧ (A' = none → c' = 0) := by
  rcases h.2 with ⟨rfl, h0⟩ | ⟨g, cap, cur, rfl, _, hg, hn, hm, _, htake⟩
  · have : l = [] := List.eq_nil_of_length_eq_zero h0
    subst this
    exact ⟨none, 0, rfl, RdS.nil, fun _ => rfl⟩
  · refine ⟨_, cap, rfl, fun j x hx => ⟨_, rfl, lt_of_block hg, ?_⟩, fun h => by cases h⟩
    exact World.ownsRow.cells h rfl j _ (by rw [List.getElem?_map, hx]; rfl)
theorem decode_some0 (A : Option Addr) (cap : Nat) (bs l : List Int) (w : World) (hl : LensOk w) (hby : ∀ x ∈ bs, 0 ≤ x ∧ x ≤ 255) (hrd : RdS .u8 w w.heap.size A bs) (hcap : bs.length ≤ cap) (hm : cap ≤ maxLen) (hlen : bs.length ≤ 100000) (he : M.dec bs = some l) :
    Calls Tryd.prog 15 #[.slice A bs.length cap] w (DecOut0 w l) := by
  refine (decode_any A cap bs w hl hby hrd hcap hm hlen).mono ?_
  rintro e w' ⟨⟨h, _⟩ | ⟨l', v, h, rfl, ho⟩, hb⟩
  · rw [h] at he; cases he
  · rw [he] at h
    obtain rfl : l = l' := by injection h
    obtain ⟨A', c', rfl, hr, h1⟩ := reads_of_own0 ho
    exact ⟨A', c', rfl, hr, h1, hb⟩
theorem own_join {k : IntKind} {w : World} {base : Nat} {t : TypeId} {v : Value} {a b ab : List Int} (hab : a ++ b = ab) (h : w.ownsRow base t 1 v (a.length + b.length) (a.map (Value.int k) ++ b.map (Value.int k))) : w.ownsRow base t 1 v ab.length (ab.map (Value.int k)) := by
  subst hab
  simpa using h
theorem grow_below0 {w w1 w2 : World} {base n : Nat} {t : TypeId} {v : Value} {xs : List Value} (hb : Below base w w1) (h : w1.ownsRow base t 1 v n xs) (hg : w1.grownBy w2 v.ownBlock) (hbase : base ≤ w1.heap.size) : Below base w w2 :=
  hb.grown hg hbase (fun k hk => (World.ownsRow.lt h k hk).1)

set_option maxHeartbeats 1000000 in
theorem joins_long (A A' : Option Addr) (n n' c c' : Nat) (w : World) (hl : LensOk w) (hn : n ≤ maxLen) (hn' : n' ≤ maxLen) (h : 400 < n ∨ 400 < n') :
    Calls Tryd.prog 7 #[.slice A n c, .slice A' n' c'] w fun e w' => e = .returned (.bool true) ∧ Below w.heap.size w w' := by
  have H := Lib.hid hl
  clear hl
  unfold maxLen at hn hn'
  by_cases h1 : 400 < n
  · clear h
    go_enter Tryd.func7, Tryd.ntmps7
    go_wp2_with fail
    refine (alive_true _ H.out).mono ?_
    rintro e w1 ⟨rfl, hb⟩
    go_wp2
    go_ret
    exact ⟨rfl, hb⟩
  · have h2 : 400 < n' := by omega
    clear h
    go_enter Tryd.func7, Tryd.ntmps7
    go_wp2_with fail
    refine (alive_true _ H.out).mono ?_
    rintro e w1 ⟨rfl, hb⟩
    go_wp2
    go_ret
    exact ⟨rfl, hb⟩

set_option maxHeartbeats 1000000 in
theorem joins_n (A A' : Option Addr) (c c' : Nat) (a b : List Int) (w : World) (hl : LensOk w) (ha : M.Bytes a) (hb : M.Bytes b) (hr : RdS .u8 w w.heap.size A a) (hr' : RdS .u8 w w.heap.size A' b) (hn : a.length ≤ 400) (hn' : b.length ≤ 400) (hc : a.length ≤ c) (hm : c ≤ maxLen) (hc' : b.length ≤ c') (hm' : c' ≤ maxLen) (hz : A = none → c = 0) (hz' : A' = none → c' = 0) (hda : M.dec a = none)  :
    Calls Tryd.prog 7 #[.slice A a.length c, .slice A' b.length c'] w fun e w' => e = .returned (.bool true) ∧ Below w.heap.size w w' := by
  obtain ⟨i0, hi, hz0, hz1, hz2⟩ := info_parts Tryd.infoByte
  obtain ⟨j0, hj, yz0, yz1, yz2⟩ := info_parts Tryd.infoInt
  have H := Lib.hid hl
  have HA := Lib.hid ha
  have HB := Lib.hid hb
  have HR := Lib.hid hr
  have HR' := Lib.hid hr'
  have HZ := Lib.hid hz
  have HZ' := Lib.hid hz'
  have HDA := Lib.hid hda
  obtain ⟨ab, hab⟩ : ∃ ab, a ++ b = ab := ⟨_, rfl⟩
  have HQ := Lib.hid hab
  clear hab
  have hl5 : ab.length ≤ 800 := by rw [← HQ.out, List.length_append]; omega
  have HAB := Lib.hid (show M.Bytes ab from HQ.out ▸ fun x hx => by rcases List.mem_append.1 hx with h | h; exact ha x h; exact hb x h)
  clear hl ha hb hr hr' hz hz' hda
  go_enter Tryd.func7, Tryd.ntmps7
  go_wp2_with fail
  refine (decode_none A c a w H.out HA.out HR.out hc hm (by omega) HDA.out).mono ?_
  rintro e w1 ⟨rfl, hb1⟩
  have hs1 := hb1.size
  go_wp2_with fail
  refine (decode_ends A' c' b w1 (H.out.below hb1 H.out.lt) HB.out ((HR'.out.below hb1).more hs1) hc' hm' (by omega)).mono ?_
  rintro e w2 ⟨v2, y2, rfl, hb2⟩
  have hw2 : Below w.heap.size w w2 := hb1.trans (hb2.mono hs1)
  have hs2 := hw2.size
  clear hb1 hb2
  go_wp2_with (at_builtin; refine wpList_append_rd _ rfl (.tmp 36) (.tmp 37) 24 rfl w2.heap.size 5 i0 (.int .u8 0) 1 Tryd.underlying24 hi hz0 hz1 hz2 rfl _ 0 [] rfl (World.ownsRow_lit w2 #[] 0 (Nat.le_refl _) (Nat.zero_le _) rfl) .u8 w.heap.size A c a rfl ((HR.out.below hw2).keep (fun p hp => World.cell?_alloc_lt w2 _ p (by omega))) HZ.out (by unfold maxLen; omega) (by omega) (by simp) ?_)
  intro v3 w3 ho3 hg3
  have hb3 : Below w2.heap.size w2 w3 := grow_below0 ((Below.refl _ _).alloc (Nat.le_refl _) _) (World.ownsRow_lit w2 #[] 0 (Nat.le_refl _) (Nat.zero_le _) rfl) hg3 (by simp)
  have hs3 := hb3.size
  have hw3 : Below w.heap.size w w3 := hw2.trans (hb3.mono hs2)
  have HO3 := Lib.hid ho3
  clear ho3 hg3
  go_wp2_with (at_builtin; refine wpList_append_rd _ rfl (.tmp 39) (.tmp 40) 24 rfl w2.heap.size 5 i0 (.int .u8 0) 1 Tryd.underlying24 hi hz0 hz1 hz2 rfl _ _ _ rfl HO3.out .u8 w.heap.size A' c' b rfl (HR'.out.below hw3) HZ'.out (by unfold maxLen; omega) (by omega) hs3 ?_)
  intro v4 w4 ho4 hg4
  have hb4 : Below w2.heap.size w2 w4 := grow_below0 hb3 HO3.out hg4 hs3
  have hs4 := hb4.size
  have hw4 : Below w.heap.size w w4 := hw2.trans (hb4.mono hs2)
  obtain ⟨A5, c5, rfl, hr5, hx5, hm5⟩ := reads_of_own (own_join HQ.out ho4)
  have HR5 := Lib.hid hr5
  clear ho4 hg4 hr5 hb3 hs3 hw3 HO3
  go_wp2_with fail
  refine (decode_ends A5 c5 ab w4 (H.out.below hw4 H.out.lt) HAB.out HR5.out hx5 hm5 (by omega)).mono ?_
  rintro e w6 ⟨v6, y6, rfl, hb6⟩
  have hw6 : Below w.heap.size w w6 := hw4.trans (hb6.mono hw4.size)
  go_wp2_with fail
  refine (alive_true _ (H.out.below hw6 H.out.lt)).mono ?_
  rintro e w7 ⟨rfl, hb7⟩
  go_wp2
  go_ret
  exact ⟨rfl, hw6.trans (hb7.mono hw6.size)⟩

set_option maxHeartbeats 1000000 in
theorem joins_sn (A A' : Option Addr) (c c' : Nat) (a b : List Int) (w : World) (hl : LensOk w) (ha : M.Bytes a) (hb : M.Bytes b) (hr : RdS .u8 w w.heap.size A a) (hr' : RdS .u8 w w.heap.size A' b) (hn : a.length ≤ 400) (hn' : b.length ≤ 400) (hc : a.length ≤ c) (hm : c ≤ maxLen) (hc' : b.length ≤ c') (hm' : c' ≤ maxLen) (hz : A = none → c = 0) (hz' : A' = none → c' = 0) (l : List Int) (hda : M.dec a = some l) (hdb : M.dec b = none) :
    Calls Tryd.prog 7 #[.slice A a.length c, .slice A' b.length c'] w fun e w' => e = .returned (.bool true) ∧ Below w.heap.size w w' := by
  obtain ⟨i0, hi, hz0, hz1, hz2⟩ := info_parts Tryd.infoByte
  obtain ⟨j0, hj, yz0, yz1, yz2⟩ := info_parts Tryd.infoInt
  have H := Lib.hid hl
  have HA := Lib.hid ha
  have HB := Lib.hid hb
  have HR := Lib.hid hr
  have HR' := Lib.hid hr'
  have HZ := Lib.hid hz
  have HZ' := Lib.hid hz'
  have HDA := Lib.hid hda
  have HDB := Lib.hid hdb
  obtain ⟨ab, hab⟩ : ∃ ab, a ++ b = ab := ⟨_, rfl⟩
  have HQ := Lib.hid hab
  clear hab
  have hl5 : ab.length ≤ 800 := by rw [← HQ.out, List.length_append]; omega
  have HAB := Lib.hid (show M.Bytes ab from HQ.out ▸ fun x hx => by rcases List.mem_append.1 hx with h | h; exact ha x h; exact hb x h)
  clear hl ha hb hr hr' hz hz' hda hdb
  go_enter Tryd.func7, Tryd.ntmps7
  go_wp2_with fail
  refine (decode_some0 A c a l w H.out HA.out HR.out hc hm (by omega) HDA.out).mono ?_
  rintro e w1 ⟨A1, c1, rfl, hr1, hn1, hb1⟩
  have HR1 := Lib.hid hr1
  have HZ1 := Lib.hid hn1
  clear hr1 hn1
  have hs1 := hb1.size
  go_wp2_with fail
  refine (decode_none A' c' b w1 (H.out.below hb1 H.out.lt) HB.out ((HR'.out.below hb1).more hs1) hc' hm' (by omega) HDB.out).mono ?_
  rintro e w2 ⟨rfl, hb2⟩
  have hw2 : Below w.heap.size w w2 := hb1.trans (hb2.mono hs1)
  have hs2 := hw2.size
  have HR1b := Lib.hid (HR1.out.below hb2)
  have hs12 := hb2.size
  clear hb1 hb2
  go_wp2_with (at_builtin; refine wpList_append_rd _ rfl (.tmp 36) (.tmp 37) 24 rfl w2.heap.size 5 i0 (.int .u8 0) 1 Tryd.underlying24 hi hz0 hz1 hz2 rfl _ 0 [] rfl (World.ownsRow_lit w2 #[] 0 (Nat.le_refl _) (Nat.zero_le _) rfl) .u8 w.heap.size A c a rfl ((HR.out.below hw2).keep (fun p hp => World.cell?_alloc_lt w2 _ p (by omega))) HZ.out (by unfold maxLen; omega) (by omega) (by simp) ?_)
  intro v3 w3 ho3 hg3
  have hb3 : Below w2.heap.size w2 w3 := grow_below0 ((Below.refl _ _).alloc (Nat.le_refl _) _) (World.ownsRow_lit w2 #[] 0 (Nat.le_refl _) (Nat.zero_le _) rfl) hg3 (by simp)
  have hs3 := hb3.size
  have hw3 : Below w.heap.size w w3 := hw2.trans (hb3.mono hs2)
  have HO3 := Lib.hid ho3
  clear ho3 hg3
  go_wp2_with (at_builtin; refine wpList_append_rd _ rfl (.tmp 39) (.tmp 40) 24 rfl w2.heap.size 5 i0 (.int .u8 0) 1 Tryd.underlying24 hi hz0 hz1 hz2 rfl _ _ _ rfl HO3.out .u8 w.heap.size A' c' b rfl (HR'.out.below hw3) HZ'.out (by unfold maxLen; omega) (by omega) hs3 ?_)
  intro v4 w4 ho4 hg4
  have hb4 : Below w2.heap.size w2 w4 := grow_below0 hb3 HO3.out hg4 hs3
  have hs4 := hb4.size
  have hw4 : Below w.heap.size w w4 := hw2.trans (hb4.mono hs2)
  obtain ⟨A5, c5, rfl, hr5, hx5, hm5⟩ := reads_of_own (own_join HQ.out ho4)
  have HR5 := Lib.hid hr5
  clear ho4 hg4 hr5 hb3 hs3 hw3 HO3
  go_wp2_with fail
  have HD6 := Lib.hid (show M.dec ab = none by rw [← HQ.out, M.dec_append b HDA.out, HDB.out]; rfl)
  obtain ⟨k, hk⟩ : ∃ k, M.wrong b = some k := by
    cases hw : M.wrong b with
    | none => exact absurd HDB.out ((M.wrong_dec b).1 hw)
    | some k => exact ⟨k, rfl⟩
  have hkl := M.wrong_lt hk
  have HK := Lib.hid hk
  have HK6 := Lib.hid (show M.wrong ab = some (a.length + k) by rw [← HQ.out, M.wrong_append b ((M.wrong_dec a).2 (by rw [HDA.out]; simp)), hk]; rfl)
  clear hk
  refine (decode_none A5 c5 ab w4 (H.out.below hw4 H.out.lt) HAB.out HR5.out hx5 hm5 (by omega) HD6.out).mono ?_
  rintro e w6 ⟨rfl, hb6⟩
  have hw6 : Below w.heap.size w w6 := hw4.trans (hb6.mono hw4.size)
  have hs6 := hw6.size
  go_wp2_with fail
  refine (wrong_any A' c' b w6 (H.out.below hw6 H.out.lt) HB.out ((HR'.out.below hw6).more hs6) hc' hm').mono ?_
  rintro e w7 ⟨rfl, hb7⟩
  rw [show wrongOut b = .tuple #[.int .i64 k, .bool true] by rw [wrongOut, HK.out]]
  have hb47 : Below w4.heap.size w4 w7 := hb6.trans (hb7.mono hb6.size)
  have hs47 := hb47.size
  have hw7 : Below w.heap.size w w7 := hw6.trans (hb7.mono hs6)
  go_wp2_with fail
  refine (wrong_any A5 c5 ab w7 (H.out.below hw7 H.out.lt) HAB.out ((HR5.out.below hb47).more hs47) hx5 hm5).mono ?_
  rintro e w8 ⟨rfl, hb8⟩
  rw [show wrongOut ab = .tuple #[.int .i64 (a.length + k : Nat), .bool true] by rw [wrongOut, HK6.out]]
  have hw8 : Below w.heap.size w w8 := hw7.trans (hb8.mono hw7.size)
  go_wp2_with fail
  refine (alive_true _ (H.out.below hw8 H.out.lt)).mono ?_
  rintro e w9 ⟨rfl, hb9⟩
  go_wp2
  go_ret
  exact ⟨by simp, hw8.trans (hb9.mono hw8.size)⟩

set_option maxHeartbeats 1000000 in
theorem joins_ss (A A' : Option Addr) (c c' : Nat) (a b : List Int) (w : World) (hl : LensOk w) (ha : M.Bytes a) (hb : M.Bytes b) (hr : RdS .u8 w w.heap.size A a) (hr' : RdS .u8 w w.heap.size A' b) (hn : a.length ≤ 400) (hn' : b.length ≤ 400) (hc : a.length ≤ c) (hm : c ≤ maxLen) (hc' : b.length ≤ c') (hm' : c' ≤ maxLen) (hz : A = none → c = 0) (hz' : A' = none → c' = 0) (l : List Int) (hda : M.dec a = some l) (m : List Int) (hdb : M.dec b = some m) :
    Calls Tryd.prog 7 #[.slice A a.length c, .slice A' b.length c'] w fun e w' => e = .returned (.bool true) ∧ Below w.heap.size w w' := by
  obtain ⟨i0, hi, hz0, hz1, hz2⟩ := info_parts Tryd.infoByte
  obtain ⟨j0, hj, yz0, yz1, yz2⟩ := info_parts Tryd.infoInt
  have H := Lib.hid hl
  have HA := Lib.hid ha
  have HB := Lib.hid hb
  have HR := Lib.hid hr
  have HR' := Lib.hid hr'
  have HZ := Lib.hid hz
  have HZ' := Lib.hid hz'
  have HDA := Lib.hid hda
  have HDB := Lib.hid hdb
  obtain ⟨ab, hab⟩ : ∃ ab, a ++ b = ab := ⟨_, rfl⟩
  have HQ := Lib.hid hab
  clear hab
  have hl5 : ab.length ≤ 800 := by rw [← HQ.out, List.length_append]; omega
  have HAB := Lib.hid (show M.Bytes ab from HQ.out ▸ fun x hx => by rcases List.mem_append.1 hx with h | h; exact ha x h; exact hb x h)
  clear hl ha hb hr hr' hz hz' hda hdb
  go_enter Tryd.func7, Tryd.ntmps7
  go_wp2_with fail
  refine (decode_some0 A c a l w H.out HA.out HR.out hc hm (by omega) HDA.out).mono ?_
  rintro e w1 ⟨A1, c1, rfl, hr1, hn1, hb1⟩
  have HR1 := Lib.hid hr1
  have HZ1 := Lib.hid hn1
  clear hr1 hn1
  have hs1 := hb1.size
  go_wp2_with fail
  refine (decode_some0 A' c' b m w1 (H.out.below hb1 H.out.lt) HB.out ((HR'.out.below hb1).more hs1) hc' hm' (by omega) HDB.out).mono ?_
  rintro e w2 ⟨A2, c2, rfl, hr2, hn2, hb2⟩
  have HR2 := Lib.hid hr2
  have HZ2 := Lib.hid hn2
  clear hr2 hn2
  have hw2 : Below w.heap.size w w2 := hb1.trans (hb2.mono hs1)
  have hs2 := hw2.size
  have HR1b := Lib.hid (HR1.out.below hb2)
  have hs12 := hb2.size
  clear hb1 hb2
  go_wp2_with (at_builtin; refine wpList_append_rd _ rfl (.tmp 36) (.tmp 37) 24 rfl w2.heap.size 5 i0 (.int .u8 0) 1 Tryd.underlying24 hi hz0 hz1 hz2 rfl _ 0 [] rfl (World.ownsRow_lit w2 #[] 0 (Nat.le_refl _) (Nat.zero_le _) rfl) .u8 w.heap.size A c a rfl ((HR.out.below hw2).keep (fun p hp => World.cell?_alloc_lt w2 _ p (by omega))) HZ.out (by unfold maxLen; omega) (by omega) (by simp) ?_)
  intro v3 w3 ho3 hg3
  have hb3 : Below w2.heap.size w2 w3 := grow_below0 ((Below.refl _ _).alloc (Nat.le_refl _) _) (World.ownsRow_lit w2 #[] 0 (Nat.le_refl _) (Nat.zero_le _) rfl) hg3 (by simp)
  have hs3 := hb3.size
  have hw3 : Below w.heap.size w w3 := hw2.trans (hb3.mono hs2)
  have HO3 := Lib.hid ho3
  clear ho3 hg3
  go_wp2_with (at_builtin; refine wpList_append_rd _ rfl (.tmp 39) (.tmp 40) 24 rfl w2.heap.size 5 i0 (.int .u8 0) 1 Tryd.underlying24 hi hz0 hz1 hz2 rfl _ _ _ rfl HO3.out .u8 w.heap.size A' c' b rfl (HR'.out.below hw3) HZ'.out (by unfold maxLen; omega) (by omega) hs3 ?_)
  intro v4 w4 ho4 hg4
  have hb4 : Below w2.heap.size w2 w4 := grow_below0 hb3 HO3.out hg4 hs3
  have hs4 := hb4.size
  have hw4 : Below w.heap.size w w4 := hw2.trans (hb4.mono hs2)
  obtain ⟨A5, c5, rfl, hr5, hx5, hm5⟩ := reads_of_own (own_join HQ.out ho4)
  have HR5 := Lib.hid hr5
  clear ho4 hg4 hr5 hb3 hs3 hw3 HO3
  go_wp2_with fail
  obtain ⟨lm, hlmq⟩ : ∃ lm, l ++ m = lm := ⟨_, rfl⟩
  have HLM := Lib.hid hlmq
  clear hlmq
  have HD6 := Lib.hid (show M.dec ab = some lm by rw [← HQ.out, M.dec_append b HDA.out, HDB.out, ← HLM.out]; rfl)
  have hll := (M.enc_dec HA.out HDA.out).2
  have hlm := (M.enc_dec HB.out HDB.out).2
  refine (decode_some A5 c5 ab lm w4 (H.out.below hw4 H.out.lt) HAB.out HR5.out hx5 hm5 (by omega) HD6.out).mono ?_
  rintro e w6 ⟨A6, c6, rfl, hr6, hx6, hm6, hb6⟩
  have hw6 : Below w.heap.size w w6 := hw4.trans (hb6.mono hw4.size)
  have hb26 : Below w2.heap.size w2 w6 := hb4.trans (hb6.mono hs4)
  have hs26 := hb26.size
  have hs6 := hw6.size
  have HR6 := Lib.hid hr6
  have HR16 := Lib.hid ((HR1b.out.more hs12).below hb26)
  have HR26 := Lib.hid (HR2.out.below hb26)
  clear hr6 hb6 hb4 hb26 hx5 hm5 HR5 hw4
  go_wp2_with (at_builtin; refine wpList_append_rd _ rfl (.tmp 78) (.tmp 79) 22 rfl w6.heap.size 3 j0 (.int .i64 0) 8 Tryd.underlying22 hj yz0 yz1 yz2 rfl _ 0 [] rfl (World.ownsRow_lit w6 #[] 0 (Nat.le_refl _) (Nat.zero_le _) rfl) .i64 w2.heap.size A1 c1 l rfl (HR16.out.keep (fun p hp => World.cell?_alloc_lt w6 _ p (by omega))) HZ1.out (by unfold maxLen; omega) (by omega) (by simp) ?_)
  intro v7 w7 ho7 hg7
  have hb7 : Below w6.heap.size w6 w7 := grow_below0 ((Below.refl _ _).alloc (Nat.le_refl _) _) (World.ownsRow_lit w6 #[] 0 (Nat.le_refl _) (Nat.zero_le _) rfl) hg7 (by simp)
  have hs7 := hb7.size
  have HO7 := Lib.hid ho7
  clear ho7 hg7
  go_wp2_with (at_builtin; refine wpList_append_rd _ rfl (.tmp 81) (.tmp 82) 22 rfl w6.heap.size 3 j0 (.int .i64 0) 8 Tryd.underlying22 hj yz0 yz1 yz2 rfl _ _ _ rfl HO7.out .i64 w2.heap.size A2 c2 m rfl (HR26.out.below (hb7.mono hs26)) HZ2.out (by unfold maxLen; omega) (by omega) hs7 ?_)
  intro v8 w8 ho8 hg8
  have hb8 : Below w6.heap.size w6 w8 := grow_below0 hb7 HO7.out hg8 hs7
  have hw8 : Below w.heap.size w w8 := hw6.trans (hb8.mono hs6)
  obtain ⟨A9, c9, rfl, hr9, hx9, hm9⟩ := reads_of_own (own_join HLM.out ho8)
  have HR9 := Lib.hid hr9
  clear ho8 hg8 hr9 hb7 hs7 HO7
  have hl9 : lm.length ≤ 800 := by rw [← HLM.out, List.length_append]; omega
  go_wp2_with fail
  refine (alive_true _ (H.out.below hw8 H.out.lt)).mono ?_
  rintro e w9 ⟨rfl, hb9⟩
  have hw9 : Below w.heap.size w w9 := hw8.trans (hb9.mono hw8.size)
  go_wp2_with fail
  refine (ints_below A6 A9 c6 c9 lm _ _ w9 (by omega) ((HR6.out.below hb8).below (hb9.mono hb8.size)) (HR9.out.below hb9)).mono ?_
  rintro e w10 ⟨rfl, hb10⟩
  go_wp2
  go_ret
  exact ⟨rfl, hw9.trans (hb10.mono hw9.size)⟩

theorem joins_any (A A' : Option Addr) (c c' : Nat) (a b : List Int) (w : World) (hl : LensOk w) (ha : M.Bytes a) (hb : M.Bytes b) (hr : RdS .u8 w w.heap.size A a) (hr' : RdS .u8 w w.heap.size A' b) (hc : a.length ≤ c) (hm : c ≤ maxLen) (hc' : b.length ≤ c') (hm' : c' ≤ maxLen) (hz : A = none → c = 0) (hz' : A' = none → c' = 0) :
    Calls Tryd.prog 7 #[.slice A a.length c, .slice A' b.length c'] w fun e w' => e = .returned (.bool true) ∧ Below w.heap.size w w' := by
  by_cases h : 400 < a.length ∨ 400 < b.length
  · exact joins_long A A' _ _ c c' w hl (Nat.le_trans hc hm) (Nat.le_trans hc' hm') h
  · have h1 : a.length ≤ 400 := by omega
    have h2 : b.length ≤ 400 := by omega
    cases hda : M.dec a with
    | none => exact joins_n A A' c c' a b w hl ha hb hr hr' h1 h2 hc hm hc' hm' hz hz' hda
    | some l => cases hdb : M.dec b with
      | none => exact joins_sn A A' c c' a b w hl ha hb hr hr' h1 h2 hc hm hc' hm' hz hz' l hda hdb
      | some m => exact joins_ss A A' c c' a b w hl ha hb hr hr' h1 h2 hc hm hc' hm' hz hz' l hda m hdb
end Go.Proofs.YtamlknnkahhfmaaDoor
