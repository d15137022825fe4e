/- The contracts of span's Right and of the document's. Conditions: the slice reads as a list of at most sixty spans whose fields are those of a span, each Ruby of at most two hundred bytes; the variable lengths holds the four rows of the program's text. -/
import Derived.Test.YteknpodofmmklaaDoorOne
import Derived.Deep.QuietTactic
import Derived.BigQuiet
namespace Go.Proofs.YteknpodofmmklaaDoor
open Go.RowKit

/-- The fields of spans are within their types; Rubies are not too long. -/
def Szd (l : List M.S) : Prop := ∀ s ∈ l, (-9223372036854775808 ≤ s.f ∧ s.t ≤ 9223372036854775807) ∧ (0 ≤ s.x ∧ s.x ≤ 18446744073709551615) ∧ s.r.size ≤ 200
theorem M.chain_at {l : List M.S} {k : Nat} {s : M.S} {n e : Int} (hs : l[k]? = some s) : M.chain n e (l.drop k) = ((decide (e ≤ s.f) && (decide (s.f < s.t) && (decide (s.t ≤ n) && s.ok))) && M.chain n s.t (l.drop (k + 1))) := by
  obtain ⟨hk, rfl⟩ := List.getElem?_eq_some_iff.1 hs
  rw [List.drop_eq_getElem_cons hk]
  rfl
set_option maxRecDepth 100000 in
set_option maxHeartbeats 4000000 in
theorem right_any (A : Option Addr) (ca : Nat) (l : List M.S) (n : Int) (w : World) (hl : LensOk w) (hr : RdP w w.heap.size A l) (hm : l.length ≤ 60) (hz : Szd l) :
    Calls Tryd.prog 10 #[.slice A l.length ca, .int .i64 n] w fun r w' => r = .returned (.bool (M.right l n)) ∧ Below w.heap.size w w' := by
  have HR := Lib.hid hr
  have HZ := Lib.hid hz
  have HL := Lib.hid hl
  clear hr hz hl
  by_cases h40 : 40 < l.length
  · have HN := Lib.hid (show M.right l n = false by unfold M.right; rw [decide_eq_false (by omega)]; rfl)
    have h41 : (40 : Int) < (l.length : Int) := by omega
    clear h40
    go_enter Tryd.func10, Tryd.ntmps10
    go_wp2_with fail
    go_ret
    exact ⟨ret_bool (by rw [HN.out]), Below.refl _ _⟩
  · have HN := Lib.hid (show M.right l n = M.chain n 0 (l.drop 0) by unfold M.right; rw [decide_eq_true (by omega)]; rfl)
    have h41 : (l.length : Int) ≤ 40 := by omega
    go_enter Tryd.func10, Tryd.ntmps10
    go_wp2_with fail
    go_loopw [5, 13] (fun ev v wr => ∃ (k : Nat) (e : Int), k ≤ l.length ∧ ev = .int .i64 e ∧ v = .int .i64 k ∧ 0 ≤ e ∧ M.right l n = M.chain n e (l.drop k) ∧ Below w.heap.size w wr) (fun _ v _ => l.length - (intOf v).toNat)
    case atStart => exact ⟨0, 0, Nat.zero_le _, rfl, rfl, Int.le_refl _, HN.out, Below.refl _ _⟩
    case round =>
      obtain ⟨k, e, hk, rfl, rfl, he0, hch, hbr⟩ := hrel
      have HB := Lib.hid hbr
      have hbs := hbr.size
      by_cases hlt : k < l.length
      · obtain ⟨s, hs⟩ : ∃ s, l[k]? = some s := ⟨_, List.getElem?_eq_getElem hlt⟩
        have HC := Lib.hid (hch.trans (M.chain_at hs))
        obtain ⟨⟨q0, q1⟩, ⟨q2, q3⟩, q4⟩ := HZ.out s (List.mem_of_getElem? hs)
        have HQ1 := Lib.hid q1
        have HRS := Lib.hid (fun W (hW : Below wr.heap.size wr W) (f0 : 0 ≤ s.f) (f1 : s.f < s.t) => rightStyle_any s W ((HL.out.below hbr HL.out.lt).below hW (HL.out.below hbr HL.out.lt).lt) q2 q3 q4 f0 f1 q1)
        obtain ⟨ad, rfl, hab, c0, c1, c2, c3, c4, c5⟩ := HR.out.below hbr k s hs
        have hk1 : (0 : Int) ≤ (k : Int) := by omega
        have hk2 : (k : Int) < (l.length : Int) := by omega
        obtain ⟨W, hW, hbW, ⟨e0, e1, e2, e3, e4, e5, _, _, _, _, _, _⟩, -⟩ := new_span wr s
        have HBW := Lib.hid hbW
        have HBW2 := Lib.hid (hbr.trans (hbW.mono hbs))
        clear hs hch hbr q0 q1 q2 q3 q4 hbW
        by_cases h1 : s.f < e
        · have HF := Lib.hid (show M.right l n = false by rw [HC.out, decide_eq_false (by omega : ¬ e ≤ s.f)]; rfl)
          go_wp2_with fail
          go_ret
          exact ⟨ret_bool (by rw [HF.out]), HBW2.out⟩
        · by_cases h2 : s.t ≤ s.f
          · have HF := Lib.hid (show M.right l n = false by rw [HC.out, decide_eq_false (by omega : ¬ s.f < s.t)]; simp)
            go_wp2_with fail
            go_ret
            exact ⟨ret_bool (by rw [HF.out]), HBW2.out⟩
          · by_cases h3 : n < s.t
            · have HF := Lib.hid (show M.right l n = false by rw [HC.out, decide_eq_false (by omega : ¬ s.t ≤ n)]; simp)
              go_wp2_with fail
              go_ret
              exact ⟨ret_bool (by rw [HF.out]), HBW2.out⟩
            · have HF := Lib.hid (show M.right l n = (s.ok && M.chain n s.t (l.drop (k + 1))) by rw [HC.out, decide_eq_true (by omega : e ≤ s.f), decide_eq_true (by omega : s.f < s.t), decide_eq_true (by omega : s.t ≤ n)]; rfl)
              have HRW := Lib.hid (HRS.out W HBW.out (by omega) (by omega))
              go_wp2_with fail
              refine HRW.out.mono ?_
              rintro r1 w1 ⟨rfl, hb1⟩
              have hsW := HBW.out.size
              have HB1 := Lib.hid (HBW2.out.trans (hb1.mono (Nat.le_trans hbs hsW)))
              have d1 := (hb1.cell (p := ⟨wr.heap.size, 1, none⟩) (World.block_lt_of_cell? W _ e1)).trans e1
              clear hb1
              cases hok : s.ok
              · have HG := Lib.hid (show M.right l n = false by rw [HF.out, hok]; rfl)
                clear hok
                go_wp2_with fail
                go_ret
                exact ⟨ret_bool (by rw [HG.out]), HB1.out⟩
              · have HG := Lib.hid (show M.right l n = M.chain n s.t (l.drop (k + 1)) by rw [HF.out, hok]; rfl)
                clear hok
                go_wp2_with fail
                go_roundw
                case rel => exact ⟨k + 1, s.t, by omega, rfl, by go_num, by omega, HG.out, HB1.out⟩
                case measure => simp [intOf]; omega
      · obtain rfl : k = l.length := by omega
        have HF := Lib.hid (show M.right l n = true by rw [hch, List.drop_length]; rfl)
        clear hch hbr
        go_wp2_with fail
        go_ret
        exact ⟨ret_bool (by rw [HF.out]), HB.out⟩
end Go.Proofs.YteknpodofmmklaaDoor
