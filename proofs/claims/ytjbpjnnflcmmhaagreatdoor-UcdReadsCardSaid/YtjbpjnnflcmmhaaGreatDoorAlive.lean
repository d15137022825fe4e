/- What Parse and Text leave, as the statements want it, and the contract of the statements' live question over the translation: it is true. Conditions: the variable MaxLen of the library holds some number, and its table deBruijn64tab is as the program's text lays it. -/
import Derived.Test.YtjbpjnnflcmmhaaGreatDoorParse
import Derived.Test.YtjbpjnnflcmmhaaGreatDoorText
import Derived.Lib.SlBytesConst
namespace Go.Proofs.YtjbpjnnflcmmhaaGreatDoor
open Go.RowKit

theorem addr0_add (g k : Nat) : (⟨g, 0, none⟩ : Addr).add k = ⟨g, k, none⟩ := by
  unfold Addr.add
  split
  · rename_i h; subst h; rfl
  · simp
theorem cellsE_at {l : List M.E} {j : Nat} {e : M.E} (h : l[j]? = some e) (k : Nat) (hk : k < 4) : (cellsE l)[j * 4 + k]? = e.cells[k]? := by
  induction l generalizing j with
  | nil => simp at h
  | cons x r ih =>
    have hx : x.cells.length = 4 := rfl
    show (x.cells ++ cellsE r)[j * 4 + k]? = _
    cases j with
    | zero =>
      simp at h
      subst h
      rw [List.getElem?_append_left (by rw [hx]; omega)]
      simp
    | succ j =>
      simp at h
      rw [List.getElem?_append_right (by rw [hx]; omega), hx, ← ih h]
      congr 1
      omega
/-- A row of entries reads as a list. -/
theorem reads_own {w : World} {base : Nat} {v : Value} {l : List M.E} (h : OwnE w base v l) :
    ∃ A' c', v = .slice A' l.length c' ∧ RdE w w.heap.size A' l ∧ l.length ≤ c' ∧ c' ≤ maxLen ∧ (l ≠ [] → ∃ g, A' = some ⟨g, 0, none⟩) := by
  rcases h.2 with ⟨rfl, h0⟩ | ⟨g, cap, cur, rfl, _, hg, hn, hm, _, _⟩
  · have : l = [] := List.eq_nil_of_length_eq_zero h0
    subst this
    exact ⟨none, 0, rfl, (fun j e hj => by simp at hj), Nat.le_refl _, Nat.zero_le _, fun h => absurd rfl h⟩
  · refine ⟨_, cap, rfl, fun j e hj => ?_, hn, hm, fun _ => ⟨g, rfl⟩⟩
    have c := fun k (hk : k < 4) u (hu : e.cells[k]? = some u) => World.ownsRow.cells h rfl (j * 4 + k) u (by rw [cellsE_at hj k hk]; exact hu)
    simp only [addr0_add] at c ⊢
    exact ⟨_, rfl, lt_of_block hg, by rw [addr0_add]; exact c 0 (by omega) _ rfl, by rw [addr0_add]; exact c 1 (by omega) _ rfl, by rw [addr0_add]; exact c 2 (by omega) _ rfl, by rw [addr0_add]; exact c 3 (by omega) _ rfl⟩
/-- A row of bytes reads as a list. -/
theorem reads_bytes {w : World} {base : Nat} {v : Value} {l : List UInt8} (h : OwnB w base v l) :
    ∃ A' c', v = .slice A' l.length c' ∧ RdB w w.heap.size A' l ∧ l.length ≤ c' ∧ c' ≤ maxLen ∧ (A' = none → c' = 0) := by
  rcases h.2 with ⟨rfl, h0⟩ | ⟨g, cap, cur, rfl, _, hg, hn, hm, _, _⟩
  · have : l = [] := List.eq_nil_of_length_eq_zero h0
    subst this
    exact ⟨none, 0, rfl, RdB.nil, Nat.le_refl _, Nat.zero_le _, fun _ => rfl⟩
  · refine ⟨_, cap, rfl, fun j x hx => ?_, hn, hm, fun h => by cases h⟩
    unfold ints at hx
    rw [List.getElem?_map] at hx
    cases hc : l[j]? with
    | none => rw [hc] at hx; cases hx
    | some c =>
      rw [hc] at hx
      obtain rfl : (c.toNat : Int) = x := by simpa using hx
      exact ⟨_, rfl, lt_of_block hg, World.ownsRow.cells h rfl j _ (by rw [List.getElem?_map, hc]; rfl)⟩

/-- What Parse leaves, where it leaves something. -/
def ParseOut (w : World) (l : List M.E) (e : Ending) (w' : World) : Prop :=
  ∃ A' c', e = .returned (.tuple #[.slice A' l.length c', .int .i64 0]) ∧ RdE w' w'.heap.size A' l ∧ l.length ≤ c' ∧ c' ≤ maxLen ∧ (l ≠ [] → ∃ g, A' = some ⟨g, 0, none⟩) ∧ Below w.heap.size w w'
/-- What Text leaves, where it leaves something. -/
def TextOut (w : World) (b : List UInt8) (e : Ending) (w' : World) : Prop :=
  ∃ A' c', e = .returned (.tuple #[.slice A' b.length c', .int .i64 0]) ∧ RdB w' w'.heap.size A' b ∧ b.length ≤ c' ∧ c' ≤ maxLen ∧ (A' = none → c' = 0) ∧ Below w.heap.size w w'

section
variable (A : Option Addr) (cap : Nat) (w : World)
theorem parse_some (txt : List UInt8) (l : List M.E) (hr : RdB w w.heap.size A txt) (hm : MaxOk w) (hc : txt.length ≤ cap) (hx : cap ≤ maxLen) (hp : A = none → cap = 0) (hs : txt.length < 4294967281) (h : M.parse txt = some l) :
    Calls Tryz.prog 5 #[.slice A txt.length cap] w (ParseOut w l) := by
  refine (parse_any A cap txt w hr hm hc hx hp hs).mono ?_
  rintro e w' ⟨he, hb⟩
  rw [h] at he
  obtain ⟨v, rfl, ho⟩ := he
  obtain ⟨A', c', rfl, h1, h2, h3, h4⟩ := reads_own ho
  exact ⟨A', c', rfl, h1, h2, h3, h4, hb⟩
theorem parse_none (txt : List UInt8) (hr : RdB w w.heap.size A txt) (hm : MaxOk w) (hc : txt.length ≤ cap) (hx : cap ≤ maxLen) (hp : A = none → cap = 0) (hs : txt.length < 4294967281) (h : M.parse txt = none) :
    Calls Tryz.prog 5 #[.slice A txt.length cap] w fun e w' => e = .returned (.tuple #[.slice none 0 0, .int .i64 21]) ∧ Below w.heap.size w w' := by
  refine (parse_any A cap txt w hr hm hc hx hp hs).mono ?_
  rintro e w' ⟨he, hb⟩
  rw [h] at he
  exact ⟨he, hb⟩
theorem text_some (l : List M.E) (b : List UInt8) (hr : RdE w w.heap.size A l) (hz : ∀ e ∈ l, e.v.size ≤ maxLen ∧ e.x.size ≤ maxLen) (ht : TabOk w) (hm : cap ≤ maxLen) (hc : l.length ≤ cap) (h : M.text l = some b) :
    Calls Tryz.prog 10 #[.slice A l.length cap] w (TextOut w b) := by
  refine (text_any A cap l w hr hz ht hm hc).mono ?_
  rintro e w' ⟨he, hb⟩
  rw [h] at he
  obtain ⟨v, rfl, ho⟩ := he
  obtain ⟨A', c', rfl, h1, h2, h3, h4⟩ := reads_bytes ho
  exact ⟨A', c', rfl, h1, h2, h3, h4, hb⟩
theorem text_none (l : List M.E) (hr : RdE w w.heap.size A l) (hz : ∀ e ∈ l, e.v.size ≤ maxLen ∧ e.x.size ≤ maxLen) (ht : TabOk w) (hm : cap ≤ maxLen) (hc : l.length ≤ cap) (h : M.text l = none) :
    Calls Tryz.prog 10 #[.slice A l.length cap] w fun e w' => e = .returned (.tuple #[.slice none 0 0, .int .i64 21]) ∧ Below w.heap.size w w' := by
  refine (text_any A cap l w hr hz ht hm hc).mono ?_
  rintro e w' ⟨he, hb⟩
  rw [h] at he
  exact ⟨he, hb⟩
end

/-- Bytes that are written out. -/
theorem RdB.lit (w : World) (B : Nat) (l : List UInt8) (t : TypeId) (fr : Nat × Nat) (cs : Array Value) (hcs : cs.toList = l.map (fun c => Value.int .u8 (c.toNat : Int))) (hB : w.heap.size < B) : RdB (w.alloc (.cells cs t fr)) B (some ⟨w.heap.size, 0, none⟩) l := fun j x hx => by
  refine ⟨_, rfl, hB, ?_⟩
  rw [addr0_add, cell_of_row _ _ _ cs t fr (heap_alloc_new w _)]
  have : cs[j]? = (l.map (fun c => Value.int .u8 (c.toNat : Int)))[j]? := by rw [← hcs]; simp
  unfold ints at hx
  rw [List.getElem?_map] at hx
  rw [this, List.getElem?_map]
  cases hc : l[j]? with
  | none => rw [hc] at hx; cases hx
  | some c =>
    rw [hc] at hx
    obtain rfl : (c.toNat : Int) = x := by simpa using hx
    rfl

def live1 : List UInt8 := [35, 32, 97, 32, 116, 97, 98, 108, 101, 10, 48, 48, 52, 49, 46, 46, 48, 48, 53, 65, 32, 59, 32, 76, 32, 35, 32, 108, 101, 116, 116, 101, 114, 115, 10, 10, 32, 50, 56, 59, 50, 57, 32, 59, 32, 111, 10]
def live2 : List UInt8 := [48, 48, 50, 56, 32, 59, 32, 48, 48, 50, 57, 32, 59, 32, 111, 10, 48, 48, 52, 49, 46, 46, 48, 48, 53, 65, 59, 76]
def live3 : List UInt8 := [48, 48, 50, 56, 32, 59, 32, 48, 48, 50, 57, 32, 59, 32, 111, 10, 48, 48, 52, 49, 46, 46, 48, 48, 53, 65, 32, 59, 32, 76, 10]
def liveE : List M.E := [⟨40, 40, ⟨#[48, 48, 50, 57]⟩, ⟨#[111]⟩⟩, ⟨65, 90, ⟨#[76]⟩, ByteArray.empty⟩]
theorem live_1 : M.parse live1 = none := by kernel_rfl
theorem live_2 : M.parse live2 = some liveE := by kernel_rfl
theorem live_3 : M.text liveE = some live3 := by kernel_rfl

set_option maxRecDepth 100000 in
set_option maxHeartbeats 4000000 in
theorem alive_true (w : World) (hm : MaxOk w) (ht : TabOk w) :
    Calls Tryz.prog 4 #[] w fun e w' => e = .returned (.bool true) ∧ Below w.heap.size w w' := by
  have HM := Lib.hid hm
  have HT := Lib.hid ht
  clear hm ht
  have kc := fun (w : World) (C : Array Value) (n c : Nat) => Lib.run_convert_bytes_const (P := Tryz.prog) w 22 5 C n c Tryz.underlying22 Tryz.underlying5
  go_enter Tryz.func4, Tryz.ntmps4
  go_wp2_with fail
  refine (parse_none _ 47 _ live1 (RdB.lit w _ live1 _ _ _ (by rfl) (by simp)) (HM.out.next ((Below.refl _ _).alloc (Nat.le_refl _) _)) (by decide) (by unfold maxLen; omega) (fun h => by cases h) (by decide) live_1).mono ?_
  rintro e w1 ⟨rfl, hb1⟩
  have hw1 : Below w.heap.size w w1 := ((Below.refl _ _).alloc (Nat.le_refl _) _).trans (hb1.mono (by simp))
  have HW1 := Lib.hid hw1
  clear hb1 hw1
  go_wp2_with fail
  refine (parse_some _ 28 _ live2 liveE (RdB.lit w1 _ live2 _ _ _ (by rfl) (by simp)) ((HM.out.next HW1.out).next ((Below.refl _ _).alloc (Nat.le_refl _) _)) (by decide) (by unfold maxLen; omega) (fun h => by cases h) (by decide) live_2).mono ?_
  rintro e w2 ⟨A2, c2, rfl, hr2, hc2, hm2, hg2, hb2⟩
  rw [show liveE.length = 2 from rfl]
  have hw2 : Below w1.heap.size w1 w2 := ((Below.refl _ _).alloc (Nat.le_refl _) _).trans (hb2.mono (by simp))
  have HW2 := Lib.hid (HW1.out.trans (hw2.mono HW1.out.size))
  have HR2 := Lib.hid hr2
  have HC2 := Lib.hid hc2
  have HM2 := Lib.hid hm2
  obtain ⟨g, rfl⟩ := hg2 (by simp [liveE])
  clear hb2 hw2 hr2 hc2 hm2 hg2
  go_wp2_with fail
  refine (text_some _ c2 w2 liveE live3 HR2.out (by intro e he; simp [liveE] at he; rcases he with rfl | rfl <;> exact ⟨by decide, by decide⟩) (HT.out.next HW2.out) HM2.out HC2.out live_3).mono ?_
  rintro e w3 ⟨A3, c3, rfl, hr3, _, _, _, hb3⟩
  rw [show live3.length = 31 from rfl]
  have HW3 := Lib.hid (HW2.out.trans (hb3.mono HW2.out.size))
  have hr2' := HR2.out.below hb3
  obtain ⟨ad, had, _, _, _, _, k3⟩ := hr2' 0 _ rfl
  obtain ⟨ad', had', _, _, k1, _, _⟩ := hr2' 1 _ rfl
  obtain rfl : (⟨g, 0, none⟩ : Addr) = ad := by injection had
  obtain rfl : (⟨g, 0, none⟩ : Addr) = ad' := by injection had'
  simp only [addr0_add] at k1 k3
  simp at k1 k3
  have hcv := hr3.run_str (n := 31) (cap := c3) rfl
  obtain ⟨S, hS⟩ : ∃ S, M.bytes live3 = S := ⟨_, rfl⟩
  have hSl : S.toList = [48, 48, 50, 56, 32, 59, 32, 48, 48, 50, 57, 32, 59, 32, 111, 10, 48, 48, 52, 49, 46, 46, 48, 48, 53, 65, 32, 59, 32, 76, 10] := by rw [← hS, ByteArray.toList_eq, M.bytes_list]; rfl
  rw [hS] at hcv
  have HS := Lib.hid hS
  clear hS hr2' hr3 hb3 had had'
  go_wp2
  go_ret
  exact ⟨rfl, HW3.out⟩
end Go.Proofs.YtjbpjnnflcmmhaaGreatDoor
