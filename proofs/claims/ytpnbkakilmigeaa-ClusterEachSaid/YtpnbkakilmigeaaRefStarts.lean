/- The document's own Starts and Of for clusters, over the translation. Conditions: the slices read as lists, at most a thousand long. -/
import Derived.Test.YtpnbkakilmigeaaRefBreak
import Derived.OwnWalk
import Derived.Laws.AppendOwnNone
namespace Go.Proofs.Ytpnbkakilmigeaa
open Go.RowKit

/-- Which of the first k starts is the last one that is not behind i. -/
def M.ofAt (l : List Int) (i : Int) : Nat → Int
  | 0 => -1
  | k + 1 => if l.getD k 0 ≤ i then (k : Int) else M.ofAt l i k
def M.ofI (l : List Int) (i : Int) : Int := if i < 0 then -1 else M.ofAt l i l.length
/-- Where clusters begin, up to a place. -/
def M.startsTo (l : List Int) : Nat → List Int
  | 0 => []
  | k + 1 => if M.brk l k = true then M.startsTo l k ++ [(k : Int)] else M.startsTo l k
theorem M.startsTo_len (l : List Int) (k : Nat) : (M.startsTo l k).length ≤ k := by
  induction k with
  | zero => exact Nat.le_refl _
  | succ k ih =>
    unfold M.startsTo
    split
    · simp; omega
    · omega
/-- A slice of whole numbers that reads as a list. -/
def ListOut (t : List Int) (w : World) (r : Ending) (w' : World) : Prop :=
  ∃ A c, r = .returned (.slice A t.length c) ∧ RdS .i64 w' w'.heap.size A t ∧ t.length ≤ c ∧ c ≤ maxLen ∧ (A = none → c = 0) ∧ Below w.heap.size w w'

theorem Try.infoInt : (Try.prog.info? 3).map (fun i => (i.zero, i.size, i.bytes)) = some (some (.int .i64 0), 1, 8) := by kernel_rfl
theorem one_new (w : World) (x : Value) (ty : TypeId) : ∀ j u, [x][j]? = some u → (w.alloc (.cells #[x] ty)).cell? ((⟨w.heap.size, 0, none⟩ : Addr).add j) = some u := by
  intro j u hj
  match j, hj with
  | 0, hj => simp at hj; subst hj; simp [Addr.add]
theorem one_cell {k : IntKind} {x : Int} : ∀ u ∈ [Value.int k x], u.oneCell' = true := by
  intro u hu; simp at hu; subst hu; rfl
theorem grow_below0 {w w1 w2 : World} {base n : Nat} {t : TypeId} {v : Value} {xs : List Value} (hb : Below base w w1) (h : w1.ownsRow base t 1 v n xs) (hg : w1.grownBy w2 v.ownBlock) (hbase : base ≤ w1.heap.size) : Below base w w2 :=
  hb.grown hg hbase (fun k hk => (World.ownsRow.lt h k hk).1)
theorem reads_own {k : IntKind} {w : World} {base : Nat} {t : TypeId} {v : Value} {l : List Int} (h : w.ownsRow base t 1 v l.length (l.map (Value.int k))) :
    ∃ A' c', v = .slice A' l.length c' ∧ RdS k w w.heap.size A' l ∧ l.length ≤ c' ∧ c' ≤ maxLen ∧ (A' = none → c' = 0) := by
  rcases h.2 with ⟨rfl, h0⟩ | ⟨g, cap, cur, rfl, _, hg, hn, hm, _, htake⟩
  · have : l = [] := List.eq_nil_of_length_eq_zero h0
    subst this
    exact ⟨none, 0, rfl, RdS.nil, Nat.le_refl _, Nat.zero_le _, fun _ => rfl⟩
  · refine ⟨_, cap, rfl, fun j x hx => ⟨_, rfl, lt_of_block hg, ?_⟩, hn, hm, fun h => by cases h⟩
    exact World.ownsRow.cells h rfl j _ (by rw [List.getElem?_map, hx]; rfl)
/-- A row of one's own is kept where blocks from its base on are laid behind it alone. -/
theorem own_below {w w' : World} {base n : Nat} {e : TypeId} {v : Value} {xs : List Value} (h : w.ownsRow base e 1 v n xs) (hb : Below w.heap.size w w') : w'.ownsRow base e 1 v n xs := by
  refine ⟨h.1, ?_⟩
  rcases h.2 with h1 | ⟨g, cap, cur, hv, hbg, hg, rest⟩
  · exact .inl h1
  · exact .inr ⟨g, cap, cur, hv, hbg, by rw [hb.block g (lt_of_block hg)]; exact hg, rest⟩

set_option maxHeartbeats 2000000 in
theorem refOf_any (A : Option Addr) (ca n : Nat) (l : List Int) (i : Int) (w : World) (hr : RdS .i64 w w.heap.size A l) (hn : l.length = n) (hl : n ≤ 1000) :
    Calls Try.prog 14 #[.slice A n ca, .int .i64 i] w fun r w' => r = .returned (.int .i64 (M.ofI l i)) ∧ Below w.heap.size w w' := by
  have HR := Lib.hid hr
  have HN := Lib.hid hn
  have hl1 : (n : Int) ≤ 1000 := by omega
  obtain ⟨ans, hans⟩ : ∃ ans, M.ofI l i = ans := ⟨_, rfl⟩
  rw [hans]
  by_cases h0 : i < 0
  · have hneg : ans = -1 := by rw [← hans]; unfold M.ofI; rw [if_pos h0]
    subst hneg
    have h0' : ¬ 0 ≤ i := by omega
    clear hr hn hans
    go_enter Try.func14, Try.ntmps14
    go_wp2
    go_loopw [5, 6] (fun m v wr => m = .int .i64 (-1) ∧ v = .int .i64 0 ∧ wr = w) (fun _ _ _ => 0)
    case atStart => exact ⟨rfl, rfl, rfl⟩
    case round =>
      obtain ⟨rfl, rfl, rfl⟩ := hrel
      by_cases hz : (0 : Int) < n
      · go_wp2
        go_ret
        exact ⟨rfl, Below.refl _ _⟩
      · go_wp2
        go_ret
        exact ⟨rfl, Below.refl _ _⟩
  · have hpos : ans = M.ofAt l i n := by rw [← hans]; unfold M.ofI; rw [if_neg h0, hn]
    have HANS := Lib.hid hpos
    have h0' : 0 ≤ i := by omega
    clear hr hn hans hpos
    go_enter Try.func14, Try.ntmps14
    go_wp2
    go_loopw [5, 6] (fun m v wr => ∃ k : Nat, m = .int .i64 (M.ofAt l i k) ∧ v = .int .i64 k ∧ k ≤ n ∧ Below w.heap.size w wr) (fun _ v _ => n - (intOf v).toNat)
    case atStart => exact ⟨0, rfl, rfl, Nat.zero_le _, Below.refl _ _⟩
    case round =>
      obtain ⟨k, rfl, rfl, hk, hb⟩ := hrel
      have HB := Lib.hid hb
      have hn := HN.out
      obtain ⟨m, hm⟩ : ∃ m, M.ofAt l i k = m := ⟨_, rfl⟩
      rw [hm]
      by_cases hlt : k < n
      · obtain ⟨ad, x, rfl, hcx, hx, hab⟩ := rd_at HR.out hb (by omega : k < l.length)
        have k0 : (0 : Int) ≤ k := by omega
        have k1 : (k : Int) < n := by omega
        have hnext : M.ofAt l i (k + 1) = if x ≤ i then (k : Int) else m := by
          show (if l.getD k 0 ≤ i then _ else _) = _
          rw [List.getD_eq_getElem?_getD, hx, hm]
          rfl
        by_cases hxi : x ≤ i
        · rw [if_pos hxi] at hnext
          have HX := Lib.hid hnext
          clear hb hx hab hnext hn hm
          go_wp2
          go_roundw
          case rel => exact ⟨k + 1, by rw [HX.out], by go_num, by omega, HB.out⟩
          case measure => simp [intOf]; omega
        · rw [if_neg hxi] at hnext
          have HX := Lib.hid hnext
          clear hb hx hab hnext hn hm
          go_wp2
          go_roundw
          case rel => exact ⟨k + 1, by rw [HX.out], by go_num, by omega, HB.out⟩
          case measure => simp [intOf]; omega
      · obtain rfl : k = n := by omega
        have HM := Lib.hid (show ans = m by rw [HANS.out, hm])
        clear hb hn hm
        go_wp2
        go_ret
        exact ⟨by rw [HM.out]; rfl, HB.out⟩

set_option maxHeartbeats 4000000 in
theorem refStarts_any (A : Option Addr) (ca n : Nat) (l : List Int) (w : World) (hr : RdS .i64 w w.heap.size A l) (hn : l.length = n) (hl : n ≤ 1000) :
    Calls Try.prog 10 #[.slice A n ca] w (ListOut (M.startsTo l n) w) := by
  obtain ⟨i0, hi, hz0, hz1, hz2⟩ := info_parts Try.infoInt
  have HR := Lib.hid hr
  have HN := Lib.hid hn
  have hl1 : (n : Int) ≤ 1000 := by omega
  clear hr hn
  go_enter Try.func10, Try.ntmps10
  go_wp2_with fail
  go_loopw [3, 4] (fun o v wr => ∃ (k : Nat) (t : List Int), v = .int .i64 k ∧ k ≤ n ∧ t = M.startsTo l k ∧ wr.ownsRow w.heap.size 3 1 o t.length (t.map (Value.int .i64)) ∧ Below w.heap.size w wr) (fun _ v _ => n - (intOf v).toNat)
  case atStart => exact ⟨0, [], rfl, Nat.zero_le _, rfl, ⟨rfl, .inl ⟨rfl, rfl⟩⟩, Below.refl _ _⟩
  case round =>
    obtain ⟨k, t, rfl, hk, ht, ho, hb⟩ := hrel
    rename Value => o
    have hn := HN.out
    have HB := Lib.hid hb
    have HO := Lib.hid ho
    have HT := Lib.hid ht
    have HTL := Lib.hid (show t.length ≤ k by rw [ht]; exact M.startsTo_len l k)
    have k0 : (0 : Int) ≤ k := by omega
    by_cases hlt : k < n
    · have k1 : (k : Int) < n := by omega
      have HBR := Lib.hid (refBreak_any A ca n l k wr ((HR.out.below hb).more hb.size) hn hl)
      cases hbr : M.brk l k with
      | false =>
        rw [hbr] at HBR
        have HNX := Lib.hid (show t = M.startsTo l (k + 1) by show _ = (if M.brk l k = true then _ else _); rw [hbr, if_neg (by decide)]; exact ht)
        clear hb ho ht hn hbr
        go_wp2_with fail
        refine HBR.out.mono ?_
        rintro r w2 ⟨rfl, hb2⟩
        have HB2 := Lib.hid (HB.out.trans (hb2.mono HB.out.size))
        have HO2 := Lib.hid (own_below HO.out hb2)
        clear hb2
        go_wp2_with fail
        go_roundw
        case rel => exact ⟨k + 1, t, by go_num, by omega, HNX.out, HO2.out, HB2.out⟩
        case measure => simp [intOf]; omega
      | true =>
        rw [hbr] at HBR
        have HNX := Lib.hid (show t ++ [(k : Int)] = M.startsTo l (k + 1) by show _ = (if M.brk l k = true then _ else _); rw [hbr, if_pos rfl, ht])
        clear hb ho ht hn hbr
        go_wp2_with fail
        refine HBR.out.mono ?_
        rintro r w2 ⟨rfl, hb2⟩
        have HB2 := Lib.hid (HB.out.trans (hb2.mono HB.out.size))
        have HO2 := Lib.hid (own_below HO.out hb2)
        clear hb2
        go_wp2_with (at_builtin; refine wpList_append_own _ rfl _ _ 24 rfl w.heap.size 3 i0 (.int .i64 0) 1 8 Try.underlying24 hi hz0 hz1 hz2 rfl (by decide) _ _ _ rfl (World.ownsRow.alloc HO2.out _) ⟨w2.heap.size, 0, none⟩ 1 1 [.int .i64 k] rfl rfl (one_new _ _ _) one_cell (by have := HTL.out; unfold maxLen; omega) (by have := HTL.out; omega) (by have := HB2.out.size; simp; omega) ?_)
        intro v4 w4 ho4 hg4 _
        have hb4 : Below w.heap.size w w4 := grow_below0 (HB2.out.alloc HB2.out.size _) (World.ownsRow.alloc HO2.out _) hg4 (by have := HB2.out.size; simp; omega)
        have HB4 := Lib.hid hb4
        have HO4 := Lib.hid (show w4.ownsRow w.heap.size 3 1 v4 (t ++ [(k : Int)]).length ((t ++ [(k : Int)]).map (Value.int .i64)) by simpa using ho4)
        clear ho4 hg4 hb4
        go_wp2_with fail
        go_roundw
        case rel => exact ⟨k + 1, t ++ [(k : Int)], by go_num, by omega, HNX.out, HO4.out, HB4.out⟩
        case measure => simp [intOf]; omega
    · obtain rfl : k = n := by omega
      obtain ⟨A', c', rfl, hr', hc', hm', hnn⟩ := reads_own ho
      have HF := Lib.hid (show t = M.startsTo l k ∧ RdS .i64 wr wr.heap.size A' t ∧ t.length ≤ c' ∧ c' ≤ maxLen ∧ (A' = none → c' = 0) from ⟨ht, hr', hc', hm', hnn⟩)
      clear hb ho ht hn hr' hc' hm' hnn HO HTL HT
      go_wp2_with fail
      go_ret
      obtain ⟨f1, f2, f3, f4, f5⟩ := HF.out
      subst f1
      exact ⟨A', c', rfl, f2, f3, f4, f5, HB.out⟩
end Go.Proofs.Ytpnbkakilmigeaa
