/- The contract of span's moved, whatever function moves the spans. Conditions: the slice reads as a list of at most sixty spans; the function value answers as told, at each world that keeps what was there. -/
import Derived.Test.YteknpodofmmklaaDoorClos
import Derived.WalkSpells
namespace Go.Proofs.YteknpodofmmklaaDoor
open Go.RowKit

theorem take_filter {l : List M.S} {k : Nat} {s : M.S} (h : l[k]? = some s) (mv : M.S → Option M.S) : (l.take (k + 1)).filterMap mv = (l.take k).filterMap mv ++ (mv s).toList := by
  obtain ⟨hk, rfl⟩ := List.getElem?_eq_some_iff.1 h
  rw [List.take_succ_eq_append_getElem hk, List.filterMap_append]
  cases hm : mv l[k] <;> simp [hm]
set_option maxRecDepth 100000 in
set_option maxHeartbeats 4000000 in
theorem moved_any (A : Option Addr) (ca : Nat) (l : List M.S) (mv : M.S → Option M.S) (fid : FuncId) (caps : Array Value) (w : World) (hr : RdP w w.heap.size A l) (hm : l.length ≤ 60)
    (hent : ∀ (args : Array Value) (w : World), (callFunc fid args).run Tryd.prog w = .ok (.enter fid args) w)
    (hf : ∀ s ∈ l, ∀ w', Below w.heap.size w w' → Calls Tryd.prog fid (#[s.val] ++ caps) w' (MoveOut (mv s) w')) :
    Calls Tryd.prog 31 #[.slice A l.length ca, .func (.func fid) #[] caps] w (OutP (l.filterMap mv) w) := by
  obtain ⟨i0, hi, hz0, hz1, hz2⟩ := info_parts Tryd.infoSpan
  have HR := Lib.hid hr
  have HF := Lib.hid hf
  clear hr hf
  go_enter Tryd.func31, Tryd.ntmps31
  go_wp2
  go_loopw [5, 12] (fun v i wr => ∃ k : Nat, k ≤ l.length ∧ i = .int .i64 k ∧ OwnP wr w.heap.size v ((l.take k).filterMap mv) ∧ Below w.heap.size w wr) (fun _ i _ => l.length - (intOf i).toNat)
  case atStart => exact ⟨0, Nat.zero_le _, rfl, OwnP.nil _ _, Below.refl _ _⟩
  case round =>
    obtain ⟨k, hk, rfl, hown, hb⟩ := hrel
    have HO := Lib.hid hown
    have HB := Lib.hid hb
    have hbs := hb.size
    clear hown hb
    by_cases hlt : k < l.length
    · obtain ⟨s, hs⟩ : ∃ s, l[k]? = some s := ⟨_, List.getElem?_eq_getElem hlt⟩
      have HS := Lib.hid hs
      have HT := Lib.hid (take_filter hs mv)
      have hlen : ((l.take k).filterMap mv).length ≤ 60 := by
        have := List.length_filterMap_le mv (l.take k)
        rw [List.length_take] at this
        omega
      obtain ⟨ad, rfl, hab, c0, c1, c2, c3, c4, c5⟩ := HR.out.below HB.out k s hs
      have hk1 : (0 : Int) ≤ (k : Int) := by omega
      have hk2 : (k : Int) < (l.length : Int) := by omega
      clear hs
      go_wp2_with fail
      refine (HF.out s (List.mem_of_getElem? HS.out) _ (HB.out.alloc hbs _)).mono ?_
      rintro r w1 ⟨z, rfl, hz, hb1⟩
      have HB1 := Lib.hid (HB.out.trans ((((Below.refl _ wr).alloc (Nat.le_refl _) _).trans (hb1.mono (by simp))).mono hbs))
      have HO1 := Lib.hid (HO.out.below (((Below.refl _ wr).alloc (Nat.le_refl _) _).trans (hb1.mono (by simp))))
      have hs1 := HB1.out.size
      have HZ := Lib.hid hz
      clear hz hb1 c0 c1 c2 c3 c4 c5
      unfold M.S.val
      cases hm : mv s with
      | none =>
        have HN := Lib.hid (show (l.take (k + 1)).filterMap mv = (l.take k).filterMap mv by rw [HT.out, hm]; simp)
        clear hm
        go_wp2_with fail
        go_roundw
        case rel => exact ⟨k + 1, by omega, by go_num, by rw [HN.out]; exact HO1.out.below ((Below.refl _ _).alloc (Nat.le_refl _) _), HB1.out.alloc hs1 _⟩
        case measure => simp [intOf]; omega
      | some z' =>
        obtain rfl := HZ.out z' hm
        have HN := Lib.hid (show (l.take (k + 1)).filterMap mv = (l.take k).filterMap mv ++ [z] by rw [HT.out, hm]; simp)
        obtain ⟨W2, hW2, hbW, ⟨e0, e1, e2, e3, e4, e5, _, _, _, _, _, _⟩, -⟩ := new_span w1 z
        have HO2 := Lib.hid (HO1.out.below hbW)
        have HB2 := Lib.hid (HB1.out.trans (hbW.mono hs1))
        have hs2 := HB2.out.size
        clear hm hbW
        go_wp2_with (at_builtin; refine wpList_append_own _ rfl _ _ 22 rfl w.heap.size 27 i0 _ 6 56 Tryd.underlying22 hi hz0 hz1 hz2 rfl (by decide) _ _ _ rfl (World.ownsRow.alloc HO2.out _) ⟨W2.heap.size, 0, none⟩ 1 1 z.cells rfl rfl (news_cells _ z _) (news_one z) (by unfold maxLen; omega) (by omega) (by simp; omega) ?_)
        intro v3 w3 hown3 hgrow3 _
        have HO3 := Lib.hid (OwnP.snoc hown3)
        have HB3 := Lib.hid ((HB2.out.alloc hs2 _).grown hgrow3 (by simp; omega) (fun q hq => (World.ownsRow.lt HO2.out q hq).1))
        clear hown3 hgrow3
        go_wp2
        go_roundw
        case rel => exact ⟨k + 1, by omega, by go_num, by rw [HN.out]; exact HO3.out, HB3.out⟩
        case measure => simp [intOf]; omega
    · obtain rfl : k = l.length := by omega
      have HE := Lib.hid (show l.filterMap mv = (l.take l.length).filterMap mv by rw [List.take_length])
      go_wp2
      go_ret
      exact ⟨_, rfl, by rw [HE.out]; exact HO.out, HB.out⟩
end Go.Proofs.YteknpodofmmklaaDoor
