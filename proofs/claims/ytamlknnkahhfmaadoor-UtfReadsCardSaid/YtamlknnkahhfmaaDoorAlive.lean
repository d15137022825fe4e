/- The contract of the statements' live question over the translation: it is true. Conditions: the variable lengths holds the four rows of the program's text. -/
import Derived.Test.YtamlknnkahhfmaaDoorEncode
import Derived.Test.YtamlknnkahhfmaaDoorDecode
import Derived.Test.YtamlknnkahhfmaaDoorWrong
import Derived.Test.YtamlknnkahhfmaaDoorStr
namespace Go.Proofs.YtamlknnkahhfmaaDoor
open Go.RowKit

theorem RdS.lit {k : IntKind} (w : World) (B : Nat) (l : List Int) (t : TypeId) (fr : Nat × Nat) (cs : Array Value) (hcs : cs.toList = l.map (Value.int k)) (hB : w.heap.size < B) : RdS k (w.alloc (.cells cs t fr)) B (some ⟨w.heap.size, 0, none⟩) l := fun j x hx => by
  refine ⟨_, rfl, hB, ?_⟩
  have hadd : (⟨w.heap.size, 0, none⟩ : Addr).add j = ⟨w.heap.size, j, none⟩ := by unfold Addr.add; split <;> simp_all
  rw [hadd, cell_of_row _ _ _ cs t fr (heap_alloc_new w _)]
  have : cs[j]? = (l.map (Value.int k))[j]? := by rw [← hcs]; simp
  rw [this, List.getElem?_map, hx]
  rfl

theorem alive_enc : M.enc [65, 1488, 25991, 128512] = some [65, 215, 144, 230, 150, 135, 240, 159, 152, 128] := by decide +kernel
theorem alive_dec : M.dec [230, 150, 135, 97] = some [25991, 97] := by decide +kernel
theorem alive_wrong : M.wrong [97, 192, 128] = some 1 := by decide +kernel

/-- What Encode leaves, where it leaves something. -/
def EncOut (w : World) (bs : List Int) (e : Ending) (w' : World) : Prop :=
  ∃ A' c', e = .returned (.tuple #[.slice A' bs.length c', .int .i64 0]) ∧ RdS .u8 w' w'.heap.size A' bs ∧ bs.length ≤ c' ∧ c' ≤ maxLen ∧ Below w.heap.size w w'
/-- What Decode leaves, where it leaves something. -/
def DecOut (w : World) (l : List Int) (e : Ending) (w' : World) : Prop :=
  ∃ A' c', e = .returned (.tuple #[.slice A' l.length c', .int .i64 0]) ∧ RdS .i64 w' w'.heap.size A' l ∧ l.length ≤ c' ∧ c' ≤ maxLen ∧ Below w.heap.size w w'

theorem reads_of_own {k : IntKind} {w : World} {base : Nat} {t : TypeId} {v : Value} {l : List Int} (h : w.ownsRow base t 1 v l.length (l.map (Value.int k))) :
    ∃ A' c', v = .slice A' l.length c' ∧ RdS k w w.heap.size A' l ∧ l.length ≤ c' ∧ c' ≤ maxLen := by
  rcases h.2 with ⟨rfl, h0⟩ | ⟨g, cap, cur, rfl, _, hg, hn, hm, _, htake⟩
  · have : l = [] := List.eq_nil_of_length_eq_zero h0
    subst this
    exact ⟨none, 0, rfl, RdS.nil, Nat.le_refl _, Nat.zero_le _⟩
  · refine ⟨_, cap, rfl, fun j x hx => ⟨_, rfl, lt_of_block hg, ?_⟩, hn, hm⟩
    exact World.ownsRow.cells h rfl j _ (by rw [List.getElem?_map, hx]; rfl)

theorem encode_some (A : Option Addr) (cap : Nat) (l bs : List Int) (w : World) (hl : LensOk w) (hrd : RdS .i64 w w.heap.size A l) (hlen : l.length ≤ 20000) (he : M.enc l = some bs) :
    Calls Tryd.prog 9 #[.slice A l.length cap] w (EncOut w bs) := by
  refine (encode_any A cap l w hl hrd hlen).mono ?_
  rintro e w' ⟨⟨h, _⟩ | ⟨bs', v, h, rfl, ho⟩, hb⟩
  · rw [h] at he; cases he
  · rw [he] at h
    obtain rfl : bs = bs' := by injection h
    obtain ⟨A', c', rfl, hr, h1, h2⟩ := reads_of_own ho
    exact ⟨A', c', rfl, hr, h1, h2, hb⟩
theorem encode_none (A : Option Addr) (cap : Nat) (l : List Int) (w : World) (hl : LensOk w) (hrd : RdS .i64 w w.heap.size A l) (hlen : l.length ≤ 20000) (he : M.enc l = none) :
    Calls Tryd.prog 9 #[.slice A l.length cap] w fun e w' => e = .returned (.tuple #[.slice none 0 0, .int .i64 11]) ∧ Below w.heap.size w w' := by
  refine (encode_any A cap l w hl hrd hlen).mono ?_
  rintro e w' ⟨⟨_, h⟩ | ⟨bs', v, h, _⟩, hb⟩
  · exact ⟨h, hb⟩
  · rw [he] at h; cases h
theorem decode_some (A : Option Addr) (cap : Nat) (bs l : List Int) (w : World) (hl : LensOk w) (hby : ∀ x ∈ bs, 0 ≤ x ∧ x ≤ 255) (hrd : RdS .u8 w w.heap.size A bs) (hcap : bs.length ≤ cap) (hm : cap ≤ maxLen) (hlen : bs.length ≤ 100000) (he : M.dec bs = some l) :
    Calls Tryd.prog 15 #[.slice A bs.length cap] w (DecOut w l) := by
  refine (decode_any A cap bs w hl hby hrd hcap hm hlen).mono ?_
  rintro e w' ⟨⟨h, _⟩ | ⟨l', v, h, rfl, ho⟩, hb⟩
  · rw [h] at he; cases he
  · rw [he] at h
    obtain rfl : l = l' := by injection h
    obtain ⟨A', c', rfl, hr, h1, h2⟩ := reads_of_own ho
    exact ⟨A', c', rfl, hr, h1, h2, hb⟩
theorem decode_none (A : Option Addr) (cap : Nat) (bs : List Int) (w : World) (hl : LensOk w) (hby : ∀ x ∈ bs, 0 ≤ x ∧ x ≤ 255) (hrd : RdS .u8 w w.heap.size A bs) (hcap : bs.length ≤ cap) (hm : cap ≤ maxLen) (hlen : bs.length ≤ 100000) (he : M.dec bs = none) :
    Calls Tryd.prog 15 #[.slice A bs.length cap] w fun e w' => e = .returned (.tuple #[.slice none 0 0, .int .i64 11]) ∧ Below w.heap.size w w' := by
  refine (decode_any A cap bs w hl hby hrd hcap hm hlen).mono ?_
  rintro e w' ⟨⟨_, h⟩ | ⟨bs', v, h, _⟩, hb⟩
  · exact ⟨h, hb⟩
  · rw [he] at h; cases h

set_option maxHeartbeats 1000000 in
theorem alive_true (w : World) (hl : LensOk w) :
    Calls Tryd.prog 8 #[] w fun e w' => e = .returned (.bool true) ∧ Below w.heap.size w w' := by
  have H := Lib.hid hl
  clear hl
  have kc := fun (w : World) (C : Array Value) (n c : Nat) => Lib.run_convert_bytes_const (P := Tryd.prog) w 24 5 C n c Tryd.underlying24 Tryd.underlying5
  go_enter Tryd.func8, Tryd.ntmps8
  go_wp2_with fail
  have hb1 : Below w.heap.size w (w.alloc (.cells #[.int .i64 65, .int .i64 1488, .int .i64 25991, .int .i64 128512] 3)) := (Below.refl _ _).alloc (Nat.le_refl _) _
  refine (encode_some _ 4 [65, 1488, 25991, 128512] _ _ (H.out.below hb1 H.out.lt) (RdS.lit w _ _ _ _ _ (by rfl) (by simp)) (by simp) alive_enc).mono ?_
  rintro e w2 ⟨A2, c2, rfl, hr2, _, _, hb2⟩
  have hw2 : Below w.heap.size w w2 := hb1.trans (hb2.mono (by simp))
  have HR2 := Lib.hid hr2
  clear hr2 hb1 hb2
  go_wp2_with fail
  have hb3 : Below w2.heap.size w2 (w2.alloc (.cells #[.int .u8 230, .int .u8 150, .int .u8 135, .int .u8 97] 5 (4, 5))) := (Below.refl _ _).alloc (Nat.le_refl _) _
  refine (decode_some _ 4 [230, 150, 135, 97] _ _ (H.out.below (hw2.trans (hb3.mono hw2.size)) H.out.lt) (by decide) (RdS.lit w2 _ _ _ _ _ (by rfl) (by simp)) (by simp) (by unfold maxLen; omega) (by simp) alive_dec).mono ?_
  rintro e w3 ⟨A3, c3, rfl, hr3, _, _, hb4⟩
  have hw3 : Below w2.heap.size w2 w3 := hb3.trans (hb4.mono (by simp))
  have HR3 := Lib.hid hr3
  clear hr3 hb3 hb4
  go_wp2_with fail
  have hb5 : Below w3.heap.size w3 (w3.alloc (.cells #[.int .u8 97, .int .u8 192, .int .u8 128] 5 (3, 4))) := (Below.refl _ _).alloc (Nat.le_refl _) _
  have hww3 : Below w.heap.size w w3 := hw2.trans (hw3.mono hw2.size)
  refine (wrong_any _ 3 [97, 192, 128] _ (H.out.below (hww3.trans (hb5.mono hww3.size)) H.out.lt) (by decide) (RdS.lit w3 _ _ _ _ _ (by rfl) (by simp)) (by simp) (by unfold maxLen; omega)).mono ?_
  rintro e w4 ⟨rfl, hb6⟩
  rw [show wrongOut [97, 192, 128] = .tuple #[.int .i64 1, .bool true] by rw [wrongOut, alive_wrong]; rfl]
  have hw4 : Below w3.heap.size w3 w4 := hb5.trans (hb6.mono (by simp))
  have hww4 : Below w.heap.size w w4 := hww3.trans (hw4.mono hww3.size)
  clear hb5 hb6
  obtain ⟨S, hS⟩ : ∃ S, S = str [65, 215, 144, 230, 150, 135, 240, 159, 152, 128] := ⟨_, rfl⟩
  have hst := run_str w4 _ A2 [65, 215, 144, 230, 150, 135, 240, 159, 152, 128] 10 c2 rfl ((HR2.out.below hw3).below (hw4.mono hw3.size))
  rw [← hS] at hst
  have hSl : S.toList = [65, 215, 144, 230, 150, 135, 240, 159, 152, 128] := by rw [hS, str_list]; rfl
  have HS := Lib.hid hS
  clear hS
  obtain ⟨ad, rfl, _, hc0⟩ := (HR3.out.below hw4) 0 25991 rfl
  have hc1 : w4.cell? ad = some (.int .i64 25991) := by simpa [Addr.add] using hc0
  clear hc0 hw2 hw3 hw4 hww3
  go_wp2_with (go_at_call 11; refine (scalar_any 55296 _).mono ?_; rintro e w' ⟨rfl, rfl⟩)
  go_ret
  exact ⟨rfl, hww4⟩
end Go.Proofs.YtamlknnkahhfmaaDoor
