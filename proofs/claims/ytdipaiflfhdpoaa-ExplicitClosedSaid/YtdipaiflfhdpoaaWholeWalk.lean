/- The contract of the statements' whole over the translation. Condition: the slice reads as a list, at most a thousand long. -/
import Derived.Test.YtdipaiflfhdpoaaWhole
import Derived.Test.YtdipaiflfhdpoaaLevels
namespace Go.Proofs.Ytdipaiflfhdpoaa
open Go.RowKit

theorem M.wholeF_skip {o c : Int} {r : List Int} (h : c = 10 ∨ (c = 22 ∧ o = 0)) : M.wholeF o (c :: r) = M.wholeF o r := by rw [M.wholeF, if_pos h]
theorem M.wholeF_take {o c o' : Int} {r : List Int} (h : ¬ (c = 10 ∨ (c = 22 ∧ o = 0))) (ho : M.opened o c = o') : M.wholeF o (c :: r) = c :: M.wholeF o' r := by rw [M.wholeF, if_neg h, ho]
/-- Where the first loop stands. -/
structure WhRel (l : List Int) (B : Nat) (w wr : World) (v : Value) (k : Nat) (o : Int) (out : List Int) : Prop where
  eq : M.whole l = out ++ M.wholeF o ((l.take 20).drop k)
  o0 : 0 ≤ o
  o1 : o ≤ k
  len : out.length ≤ k
  own : wr.ownsRow B 34 1 v out.length (out.map (Value.int .i64))
  below : Below B w wr
theorem WhRel.at_ {l : List Int} {B : Nat} {w wr : World} {v : Value} {k : Nat} {o x : Int} {out : List Int} (h : WhRel l B w wr v k o out) (hx : l[k]? = some x) (hk : k < 20) : M.whole l = out ++ M.wholeF o (x :: (l.take 20).drop (k + 1)) := by
  have hl := (List.getElem?_eq_some_iff.1 hx).1
  have ht : k < (l.take 20).length := by rw [List.length_take]; omega
  have e : (l.take 20)[k] = x := by
    rw [List.getElem_take]
    rw [List.getElem?_eq_getElem hl] at hx
    exact Option.some.inj hx
  rw [h.eq, List.drop_eq_getElem_cons ht, e]
/-- Where the second loop stands. -/
structure EndRel (l : List Int) (B : Nat) (w wr : World) (v : Value) (o : Int) (out : List Int) : Prop where
  eq : M.whole l = out ++ List.replicate o.toNat 22
  o0 : 0 ≤ o
  len : out.length + o.toNat ≤ 40
  own : wr.ownsRow B 34 1 v out.length (out.map (Value.int .i64))
  below : Below B w wr
set_option maxRecDepth 8000 in
set_option maxHeartbeats 4000000 in
theorem whole_any (A : Option Addr) (ca n : Nat) (l : List Int) (w : World) (hr : RdS .i64 w w.heap.size A l) (hn : l.length = n) (hl : n ≤ 1000) :
    Calls Try.prog 18 #[.slice A n ca] w (RowOut 34 (M.whole l) w) := by
  obtain ⟨i1, hj, hy0, hy1, hy2⟩ := info_parts Try.infoCls
  have HR := Lib.hid hr
  have HN := Lib.hid hn
  have hl1 : (n : Int) ≤ 1000 := by omega
  clear hr hn
  go_enter Try.func18, Try.ntmps18
  go_wp2_with fail
  go_loopw [3, 4, 5] (fun v ov iv wr => ∃ k o out, k ≤ n ∧ k ≤ 20 ∧ iv = .int .i64 (k : Nat) ∧ ov = .int .i64 o ∧ WhRel l w.heap.size w wr v k o out) (fun _ _ iv _ => n - (intOf iv).toNat)
  case atStart => exact ⟨0, 0, [], Nat.zero_le _, by omega, rfl, rfl, ⟨rfl, Int.le_refl _, Int.le_refl _, Nat.le_refl _, World.ownsRow_nil _ _ _ _, Below.refl _ _⟩⟩
  case round =>
    obtain ⟨k, o, out, hk, hk20, rfl, rfl, hrel⟩ := hrel
    have HL := Lib.hid hrel
    have hle : w.heap.size ≤ wr.heap.size := hrel.below.size
    clear hrel
    by_cases hlt : k < n ∧ k < 20
    · obtain ⟨hlt, hlt2⟩ := hlt
      obtain ⟨ad, x, hA, hcc, hx, -⟩ := rd_at HR.out HL.out.below (by rw [HN.out]; exact hlt : k < l.length)
      subst hA
      have hk0 : (0 : Int) ≤ (k : Int) := by omega
      have hk1 : (k : Int) < (n : Int) := by omega
      have hk2 : (k : Int) < 20 := by omega
      have HX := Lib.hid (HL.out.at_ hx hlt2)
      have ho0 := HL.out.o0
      have ho1 : o ≤ 20 := by have := HL.out.o1; omega
      have hlen : out.length ≤ 20 := by have := HL.out.len; omega
      have HO1 := Lib.hid HL.out.o1
      have HLEN := Lib.hid HL.out.len
      clear hx hlt hlt2
      obtain ⟨bg, hbg⟩ : ∃ bg, M.begins x = bg := ⟨_, rfl⟩
      have BG := Lib.hid (show Calls Try.prog 24 #[.int .i64 x] wr fun r w' => r = .returned (.bool bg) ∧ wr = w' by have q := begins_any x wr; rw [hbg] at q; exact q)
      have HBG := Lib.hid hbg
      clear hbg
      by_cases h10 : x = 10
      · subst h10
        rw [M.wholeF_skip (.inl rfl)] at HX
        go_wp2_with fail
        refine BG.out.mono ?_
        rintro r wx ⟨rfl, rfl⟩
        go_wp2_with fail
        go_roundw
        case rel => exact ⟨k + 1, o, out, by omega, by omega, by go_num, rfl, HX.out, ho0, by have := HO1.out; omega, by have := HLEN.out; omega, HL.out.own, HL.out.below⟩
        case measure => simp [intOf]; omega
      · have h10' : (x == 10) = false := by simp [h10]
        by_cases h22 : x = 22 ∧ o = 0
        · obtain ⟨rfl, rfl⟩ := h22
          rw [M.wholeF_skip (.inr ⟨rfl, rfl⟩)] at HX
          go_wp2_with fail
          refine BG.out.mono ?_
          rintro r wx ⟨rfl, rfl⟩
          go_wp2_with fail
          go_roundw
          case rel => exact ⟨k + 1, 0, out, by omega, by omega, by go_num, rfl, HX.out, Int.le_refl _, by omega, by have := HLEN.out; omega, HL.out.own, HL.out.below⟩
          case measure => simp [intOf]; omega
        · have HT : ∀ o', M.opened o x = o' → Hid (M.whole l = (out ++ [x]) ++ M.wholeF o' ((l.take 20).drop (k + 1))) := fun o' ho => Lib.hid (by rw [HX.out, M.wholeF_take (fun e => e.elim h10 h22) ho, List.append_assoc]; rfl)
          obtain ⟨o', ho'⟩ : ∃ o', M.opened o x = o' := ⟨_, rfl⟩
          have HT2 := HT o' ho'
          have hle2 := M.opened_le (c := x) ho0 (fun e => by have : o ≠ 0 := fun e2 => h22 ⟨e, e2⟩; omega)
          rw [ho'] at hle2
          obtain ⟨hq0, hq1⟩ := hle2
          have HQ := Lib.hid hq0
          have HQ1 := Lib.hid hq1
          have HOO := Lib.hid ho'
          clear HT ho' hq0 hq1
          by_cases hx22 : x = 22
          · subst hx22
            obtain rfl : false = bg := HBG.out
            have hne : ¬ o = 0 := fun e => h22 ⟨rfl, e⟩
            obtain rfl : o - 1 = o' := by rw [← HOO.out, M.opened_22]
            have hw1 : IntKind.i64.wrap (o - 1) = o - 1 := by rw [IntKind.wrap_i64]; omega
            clear h22
            go_wp2_with fail
            refine BG.out.mono ?_
            rintro r wx ⟨rfl, rfl⟩
            go_wp2_with (at_builtin; refine wpList_append_lies _ rfl _ _ 22 rfl w.heap.size 34 i1 (.int .i64 0) 1 8 Try.underlying22 hj hy0 hy1 hy2 rfl (by decide) _ _ _ rfl (World.ownsRow.alloc HL.out.own _) ⟨wr.heap.size, 0, none⟩ 1 1 [.int .i64 22] rfl rfl (one_new _ _ _) one_cell (by omega) (by unfold maxLen; omega) (by omega) (by simp; omega) (wr.heap.size + 1) (by simp) ?_)
            intro q3 c3 w3 hown3 hg3 _ _
            have L3 := Lib.hid (show WhRel l w.heap.size w w3 (.slice (some ⟨q3, 0, none⟩) (out.length + 1) c3) (k + 1) (o - 1) (out ++ [22]) from
              ⟨HT2.out, HQ.out, by have := HQ1.out; have := HO1.out; omega, by have := HLEN.out; rw [List.length_append, List.length_singleton]; omega, by rw [List.length_append, List.map_append]; exact hown3, (HL.out.below.alloc hle _).grown hg3 (by simp; omega) (fun q hq => (World.ownsRow.lt HL.out.own q hq).1)⟩)
            clear hown3 hg3
            go_wp2_with fail
            go_roundw
            case rel => exact ⟨k + 1, o - 1, out ++ [22], by omega, by omega, by go_num, rfl, by have q := L3.out; simpa using q⟩
            case measure => simp [intOf]; omega
          · have hx22' : (x == 22) = false := by simp [hx22]
            clear h22
            cases bg with
            | true =>
              obtain rfl : o + 1 = o' := by rw [← HOO.out]; unfold M.opened; rw [if_pos HBG.out, if_neg hx22]; omega
              have hw1 : IntKind.i64.wrap (o + 1) = o + 1 := by rw [IntKind.wrap_i64]; omega
              go_wp2_with fail
              refine BG.out.mono ?_
              rintro r wx ⟨rfl, rfl⟩
              go_wp2_with (at_builtin; refine wpList_append_lies _ rfl _ _ 22 rfl w.heap.size 34 i1 (.int .i64 0) 1 8 Try.underlying22 hj hy0 hy1 hy2 rfl (by decide) _ _ _ rfl (World.ownsRow.alloc HL.out.own _) ⟨wr.heap.size, 0, none⟩ 1 1 [.int .i64 x] rfl rfl (one_new _ _ _) one_cell (by omega) (by unfold maxLen; omega) (by omega) (by simp; omega) (wr.heap.size + 1) (by simp) ?_)
              intro q3 c3 w3 hown3 hg3 _ _
              have L3 := Lib.hid (show WhRel l w.heap.size w w3 (.slice (some ⟨q3, 0, none⟩) (out.length + 1) c3) (k + 1) (o + 1) (out ++ [x]) from
                ⟨HT2.out, HQ.out, by have := HQ1.out; have := HO1.out; omega, by have := HLEN.out; rw [List.length_append, List.length_singleton]; omega, by rw [List.length_append, List.map_append]; exact hown3, (HL.out.below.alloc hle _).grown hg3 (by simp; omega) (fun q hq => (World.ownsRow.lt HL.out.own q hq).1)⟩)
              clear hown3 hg3
              go_wp2_with fail
              go_roundw
              case rel => exact ⟨k + 1, o + 1, out ++ [x], by omega, by omega, by go_num, rfl, by have q := L3.out; simpa using q⟩
              case measure => simp [intOf]; omega
            | false =>
              obtain rfl : o = o' := by rw [← HOO.out]; unfold M.opened; rw [if_neg (by rw [HBG.out]; simp), if_neg hx22]; omega
              go_wp2_with fail
              refine BG.out.mono ?_
              rintro r wx ⟨rfl, rfl⟩
              go_wp2_with (at_builtin; refine wpList_append_lies _ rfl _ _ 22 rfl w.heap.size 34 i1 (.int .i64 0) 1 8 Try.underlying22 hj hy0 hy1 hy2 rfl (by decide) _ _ _ rfl (World.ownsRow.alloc HL.out.own _) ⟨wr.heap.size, 0, none⟩ 1 1 [.int .i64 x] rfl rfl (one_new _ _ _) one_cell (by omega) (by unfold maxLen; omega) (by omega) (by simp; omega) (wr.heap.size + 1) (by simp) ?_)
              intro q3 c3 w3 hown3 hg3 _ _
              have L3 := Lib.hid (show WhRel l w.heap.size w w3 (.slice (some ⟨q3, 0, none⟩) (out.length + 1) c3) (k + 1) (o) (out ++ [x]) from
                ⟨HT2.out, HQ.out, by have := HQ1.out; have := HO1.out; omega, by have := HLEN.out; rw [List.length_append, List.length_singleton]; omega, by rw [List.length_append, List.map_append]; exact hown3, (HL.out.below.alloc hle _).grown hg3 (by simp; omega) (fun q hq => (World.ownsRow.lt HL.out.own q hq).1)⟩)
              clear hown3 hg3
              go_wp2_with fail
              go_roundw
              case rel => exact ⟨k + 1, o, out ++ [x], by omega, by omega, by go_num, rfl, by have q := L3.out; simpa using q⟩
              case measure => simp [intOf]; omega
    · have HE := Lib.hid (show M.whole l = out ++ List.replicate o.toNat 22 by rw [HL.out.eq, List.drop_eq_nil_of_le (by rw [List.length_take, HN.out]; omega)]; rfl)
      have hlen : out.length ≤ 20 := by have := HL.out.len; omega
      have ho1 : o ≤ 20 := by have := HL.out.o1; omega
      have H0 := Lib.hid (show EndRel l w.heap.size w wr _ o out from ⟨HE.out, HL.out.o0, by have := HL.out.o0; omega, HL.out.own, HL.out.below⟩)
      have hcase : ¬ (k : Int) < (n : Int) ∨ ((k : Int) < (n : Int) ∧ ¬ (k : Int) < 20) := by omega
      clear hlt hlen ho1
      rcases hcase with hc | ⟨hc, hc2⟩
      all_goals
        go_wp2_with fail
        obtain ⟨wz, hwz⟩ : ∃ wz : World, wr = wz := ⟨_, rfl⟩
        go_loopw [3, 4] (fun v ov wr => ∃ o out, ov = .int .i64 o ∧ EndRel l w.heap.size w wr v o out) (fun _ ov _ => (intOf ov).toNat)
        case atStart => exact ⟨o, out, rfl, H0.out⟩
        case round =>
          clear hwz
          obtain ⟨o, out, rfl, hrel⟩ := hrel
          have HG := Lib.hid hrel
          have hle3 := hrel.below.size
          have ho0 := hrel.o0
          have hlen := hrel.len
          clear hrel
          by_cases hz : o = 0
          · subst hz
            go_wp2_with fail
            go_ret
            refine ⟨_, rfl, ?_, HG.out.below⟩
            have e : M.whole l = out := by rw [HG.out.eq]; simp
            rw [e]
            exact HG.out.own
          · have hpos : 0 < o := by omega
            have hw1 : IntKind.i64.wrap (o - 1) = o - 1 := by rw [IntKind.wrap_i64]; omega
            go_wp2_with (at_builtin; refine wpList_append_lies _ rfl _ _ 22 rfl w.heap.size 34 i1 (.int .i64 0) 1 8 Try.underlying22 hj hy0 hy1 hy2 rfl (by decide) _ _ _ rfl (World.ownsRow.alloc HG.out.own _) ⟨wr.heap.size, 0, none⟩ 1 1 [.int .i64 22] rfl rfl (one_new _ _ _) one_cell (by omega) (by unfold maxLen; omega) (by omega) (by simp; omega) (wr.heap.size + 1) (by simp) ?_)
            intro q3 c3 w3 hown3 hg3 _ _
            have L3 := Lib.hid (show EndRel l w.heap.size w w3 (.slice (some ⟨q3, 0, none⟩) (out.length + 1) c3) (o - 1) (out ++ [22]) from
              ⟨by rw [HG.out.eq, List.append_assoc]; congr 1; obtain ⟨j, rfl⟩ := Int.eq_ofNat_of_zero_le ho0; cases j with
                  | zero => exact absurd rfl hz
                  | succ j => have e : (((j + 1 : Nat) : Int) - 1).toNat = j := by omega
                              rw [e]; rfl, by omega, by rw [List.length_append, List.length_singleton]; omega, by rw [List.length_append, List.map_append]; exact hown3, (HG.out.below.alloc hle3 _).grown hg3 (by simp; omega) (fun q hq => (World.ownsRow.lt HG.out.own q hq).1)⟩)
            clear hown3 hg3
            go_wp2_with fail
            go_roundw
            case rel => exact ⟨o - 1, out ++ [22], by go_num, by have q := L3.out; simpa using q⟩
            case measure => simp [intOf]; omega
end Go.Proofs.Ytdipaiflfhdpoaa
