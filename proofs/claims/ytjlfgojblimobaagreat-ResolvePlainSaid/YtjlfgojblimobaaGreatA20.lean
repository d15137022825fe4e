/- What the rules of package weak make, in the way of the code (in its places, one pass or two), is what the document's rules make: plain functions on lists. No program is read here. -/
/- The contracts of package weak's leaves: marked, joins, and the library's Index and Contains at a slice of classes. -/
/- A row of classes that is changed in its places: what of it is done. No function of the program is walked here. -/
/- The contract of package weak's marksFollow: W1, in the row's places. -/
/- The contract of the function that package weak's numbersBehind makes: W2 and W7, in the row's places. Condition: what it caught lies below the row. -/
/- The contract of the function that package weak's become makes: W3 and W6, in the row's places. Condition: what it caught lies below the row. -/
/- The contract of package weak's separatorsJoin: W4, in the row's places. -/
import Derived.Test.YtjlfgojblimobaaGreatA19
import Derived.Laws.OwnMore
section
namespace Go.Proofs.YtjlfgojblimobaaGreat.S10.M

def ah (f : Int) : List Int → Int
  | [] => f
  | a :: _ => if iso a then 13 else a
theorem wat1 (f : Int) (p o : List Int) (c : Int) (q : List Int) : wat 1 f p o c q = if c = 8 then ah f o else c := by
  unfold wat
  by_cases h : c = 8
  · rw [if_pos ⟨rfl, h⟩, if_pos h]
    cases o <;> rfl
  · rw [if_neg (by omega), if_neg (by omega), if_neg (by omega), if_neg (by omega), if_neg (by omega), if_neg (by omega), if_neg (by omega), if_neg h]
theorem wat2 (f : Int) (p o : List Int) (c : Int) (q : List Int) : wat 2 f p o c q = if c = 3 ∧ stg f p = 2 then 6 else c := by
  unfold wat
  rw [if_neg (by omega)]
  by_cases h : c = 3 ∧ stg f p = 2
  · rw [if_pos ⟨rfl, h⟩, if_pos h]
  · rw [if_neg (fun e => h e.2), if_neg (by omega), if_neg (by omega), if_neg (by omega), if_neg (by omega), if_neg (by omega), if_neg h]
theorem wat7 (f : Int) (p o : List Int) (c : Int) (q : List Int) : wat 7 f p o c q = if c = 3 ∧ stg f p = 0 then 0 else c := by
  unfold wat
  rw [if_neg (by omega), if_neg (by omega), if_neg (by omega), if_neg (by omega), if_neg (by omega), if_neg (by omega)]
  by_cases h : c = 3 ∧ stg f p = 0
  · rw [if_pos ⟨rfl, h⟩, if_pos h]
  · rw [if_neg (fun e => h e.2), if_neg h]
theorem wat3 (f : Int) (p o : List Int) (c : Int) (q : List Int) : wat 3 f p o c q = if c ∈ [(2 : Int)] then 1 else c := by
  unfold wat
  rw [if_neg (by omega), if_neg (by omega)]
  by_cases h : c = 2
  · rw [if_pos ⟨rfl, h⟩, if_pos (by simp [h])]
  · rw [if_neg (by omega), if_neg (by omega), if_neg (by omega), if_neg (by omega), if_neg (by omega), if_neg (by simp [h])]
theorem wat6 (f : Int) (p o : List Int) (c : Int) (q : List Int) : wat 6 f p o c q = if c ∈ [(4 : Int), 5, 7] then 13 else c := by
  unfold wat
  rw [if_neg (by omega), if_neg (by omega), if_neg (by omega), if_neg (by omega), if_neg (by omega)]
  by_cases h : c = 4 ∨ c = 5 ∨ c = 7
  · rw [if_pos ⟨rfl, h⟩, if_pos (by simpa using h)]
  · rw [if_neg (by omega), if_neg (by omega), if_neg (by simpa using h)]
def jn (c a : Int) : Bool := decide (a = 3 ∧ (c = 4 ∨ c = 7) ∨ a = 6 ∧ c = 7)
theorem wat4 (f : Int) (p : List Int) (a : Int) (o : List Int) (c b : Int) (q : List Int) : wat 4 f p (a :: o) c (b :: q) = if a = b ∧ jn c a = true then a else c := by
  have hj : jn c a = true ↔ (a = 3 ∧ (c = 4 ∨ c = 7) ∨ a = 6 ∧ c = 7) := by unfold jn; exact decide_eq_true_iff
  unfold wat
  rw [sep_cons, if_neg (by omega), if_neg (by omega), if_neg (by omega)]
  by_cases h : c = 4 ∨ c = 7
  · rw [if_pos ⟨rfl, h⟩]
    by_cases h2 : a = b ∧ (a = 3 ∨ c = 7 ∧ a = 6)
    · rw [if_pos h2, if_pos ⟨h2.1, hj.2 (by omega)⟩]
    · rw [if_neg h2, if_neg (fun e => h2 ⟨e.1, by have := hj.1 e.2; omega⟩)]
  · rw [if_neg (by omega), if_neg (by omega), if_neg (by omega), if_neg (by omega), if_neg (fun e => by have := hj.1 e.2; omega)]
theorem wat4_first (f : Int) (p : List Int) (c : Int) (q : List Int) : wat 4 f p [] c q = c := by
  unfold wat
  rw [sep_no0, if_neg (by omega), if_neg (by omega), if_neg (by omega)]
  split
  · rfl
  · rw [if_neg (by omega), if_neg (by omega), if_neg (by omega)]
theorem wat4_last (f : Int) (p o : List Int) (c : Int) : wat 4 f p o c [] = c := by
  unfold wat
  rw [sep_no, if_neg (by omega), if_neg (by omega), if_neg (by omega)]
  split
  · rfl
  · rw [if_neg (by omega), if_neg (by omega), if_neg (by omega)]
theorem wat5 (f : Int) (p o : List Int) (c : Int) (q : List Int) : wat 5 f p o c q = if c = 5 ∧ (en5 p = true ∨ en5 q = true) then 3 else c := by
  unfold wat
  rw [if_neg (by omega), if_neg (by omega), if_neg (by omega), if_neg (by omega)]
  by_cases h : c = 5 ∧ (en5 p = true ∨ en5 q = true)
  · rw [if_pos ⟨rfl, h⟩, if_pos h]
  · rw [if_neg (fun e => h e.2), if_neg (by omega), if_neg (by omega), if_neg h]
def fx (b c : Int) : Int := if c = 5 ∧ b = 3 then 3 else c
def fw : Int → List Int → List Int
  | _, [] => []
  | b, c :: q => fx b c :: fw (fx b c) q
def bw : List Int → List Int
  | [] => []
  | c :: q => (match bw q with | [] => c | b :: _ => fx b c) :: bw q
theorem fw_len {b : Int} {q : List Int} : (fw b q).length = q.length := by
  induction q generalizing b with
  | nil => rfl
  | cons c q ih => unfold fw; rw [List.length_cons, ih, List.length_cons]
theorem bw_len {q : List Int} : (bw q).length = q.length := by
  induction q with
  | nil => rfl
  | cons c q ih => unfold bw; rw [List.length_cons, ih, List.length_cons]
theorem bw_cons {c b : Int} {q t : List Int} (h : bw q = b :: t) : bw (c :: q) = fx b c :: b :: t := by
  rw [bw, h]
theorem bw_fw {f b : Int} {p o q : List Int} (h : b = 3 ↔ en5 p = true) : bw (fw b q) = wgo 5 f p o q := by
  induction q generalizing b p o with
  | nil => rfl
  | cons c q ih =>
    have hx : fx b c = 3 ↔ en5 (c :: p) = true := by
      rw [en5_cons]
      unfold fx
      by_cases h5 : c = 5
      · subst h5
        rw [if_pos rfl, ← h]
        split
        · simp_all
        · rename_i e
          simp at e
          simp [e]
      · rw [if_neg (by omega), if_neg h5]
        simp
    have e := ih (o := wat 5 f p o c q :: o) hx
    rw [fw, wgo_cons, bw, e, wat5]
    congr 1
    by_cases h5 : c = 5
    · subst h5
      by_cases h3 : b = 3
      · rw [if_pos ⟨rfl, .inl (h.1 h3)⟩]
        have e3 : fx b 5 = 3 := by unfold fx; rw [if_pos ⟨rfl, h3⟩]
        rw [e3]
        cases wgo 5 f (5 :: p) (3 :: o) q <;> rfl
      · have hp : ¬ en5 p = true := fun e => h3 (h.2 e)
        have e5 : fx b 5 = 5 := by unfold fx; rw [if_neg (fun e => h3 e.2)]
        rw [e5]
        cases q with
        | nil => rw [if_neg (by simp [hp, en5])]; rfl
        | cons d q =>
          rw [wgo_cons, wat5 f (5 :: p), en5_cons 5 p, if_pos rfl, en5_cons d q]
          show fx _ 5 = _
          unfold fx
          by_cases hd : d = 5
          · subst hd
            by_cases hq : en5 q = true <;> simp [hp, hq]
          · by_cases h33 : d = 3 <;> simp [hp, hd, h33]
    · rw [if_neg (fun e => h5 e.1)]
      have ec : fx b c = c := by unfold fx; rw [if_neg (fun e => h5 e.1)]
      rw [ec]
      cases wgo 5 f (c :: p) (c :: o) q with
      | nil => rfl
      | cons d t =>
        show fx d c = c
        unfold fx
        rw [if_neg (fun e => h5 e.1)]
theorem signs_are {f : Int} {l : List Int} : bw (fw 0 l) = wrule 5 f l := bw_fw (by simp [en5])
end Go.Proofs.YtjlfgojblimobaaGreat.S10.M
end

section
namespace Go.Proofs.YtjlfgojblimobaaGreat.S10
open Go.RowKit
set_option maxRecDepth 100000

def M.mkd (a : Int) : Int := if M.iso a then 13 else a
set_option maxHeartbeats 2000000 in
theorem marked_any (a : Int) (w : World) : Calls Tryz.prog 132 #[.int .i64 a] w fun r w' => r = .returned (.int .i64 (M.mkd a)) ∧ w = w' := by
  obtain ⟨ans, hans⟩ : ∃ x, M.mkd a = x := ⟨_, rfl⟩
  rw [hans]
  unfold M.mkd M.iso at hans
  have HANS := Lib.hid hans
  clear hans
  go_enter Tryz.func132, Tryz.ntmps132
  go_wp2
  all_goals (go_ret; exact ⟨ret_int (by rw [← HANS.out]; simp_all), rfl⟩)
set_option maxHeartbeats 2000000 in
theorem joins_any (c a : Int) (w : World) : Calls Tryz.prog 136 #[.int .i64 c, .int .i64 a] w fun r w' => r = .returned (.bool (M.jn c a)) ∧ w = w' := by
  obtain ⟨ans, hans⟩ : ∃ x, M.jn c a = x := ⟨_, rfl⟩
  rw [hans]
  unfold M.jn at hans
  have HANS := Lib.hid hans
  clear hans
  go_enter Tryz.func136, Tryz.ntmps136
  go_wp2
  all_goals (go_ret; exact ⟨ret_bool (by rw [← HANS.out, Bool.eq_iff_iff]; simp_all), rfl⟩)
set_option maxHeartbeats 2000000 in
theorem index_any (A : Option Addr) (ca n : Nat) (m : List Int) (c : Int) (w : World) (hr : RdS .i64 w w.heap.size A m) (hn : m.length = n) (hl : n ≤ 1000) :
    Calls Tryz.prog 141 #[.slice A n ca, .int .i64 c] w fun r w' => (∃ i : Int, r = .returned (.int .i64 i) ∧ (0 ≤ i ↔ c ∈ m)) ∧ w = w' := by
  have HR := Lib.hid hr
  have HN := Lib.hid hn
  have hl1 : (n : Int) ≤ 1000 := by omega
  clear hr hn
  go_enter Tryz.func141, Tryz.ntmps141
  go_wp2_with fail
  go_loopw [8] (fun v wr => ∃ k : Nat, v = .int .i64 k ∧ k ≤ n ∧ c ∉ m.take k ∧ wr = w) (fun v _ => n - (intOf v).toNat)
  case atStart => exact ⟨0, rfl, Nat.zero_le _, by simp, rfl⟩
  case round =>
    obtain ⟨k, rfl, hk, hno, rfl⟩ := hrel
    have HNO := Lib.hid hno
    have k0 : (0 : Int) ≤ k := by omega
    clear hno
    by_cases hlt : k < n
    · have k1 : (k : Int) < n := by omega
      obtain ⟨ad, x, rfl, hcx, hx, hab⟩ := rd_at HR.out (Below.refl _ _) (by rw [HN.out]; exact hlt : k < m.length)
      have HX := Lib.hid hx
      clear hx
      by_cases he : c = x
      · have hb : (c == x) = true := by simp [he]
        have HE := Lib.hid he
        clear he
        go_wp2_with fail
        go_ret
        exact ⟨⟨k, rfl, by simp only [k0, true_iff]; rw [HE.out]; exact List.mem_of_getElem? HX.out⟩, rfl⟩
      · have hb : (c == x) = false := by simp [he]
        have HE := Lib.hid he
        clear he
        go_wp2_with fail
        go_roundw
        case rel =>
          refine ⟨k + 1, by go_num, by omega, ?_, trivial⟩
          obtain ⟨hk', e⟩ := List.getElem?_eq_some_iff.1 HX.out
          rw [List.take_succ_eq_append_getElem hk', List.mem_append, not_or, e]
          exact ⟨HNO.out, by simpa using HE.out⟩
        case measure => simp [intOf]; omega
    · obtain rfl : k = n := by omega
      have k1 : ¬ (k : Int) < (k : Int) := by omega
      go_wp2_with fail
      go_ret
      refine ⟨⟨-1, rfl, ?_⟩, rfl⟩
      have h := HNO.out
      rw [← HN.out, List.take_length] at h
      simp [h]
theorem contains_any (A : Option Addr) (ca n : Nat) (m : List Int) (c : Int) (w : World) (hr : RdS .i64 w w.heap.size A m) (hn : m.length = n) (hl : n ≤ 1000) :
    Calls Tryz.prog 135 #[.slice A n ca, .int .i64 c] w fun r w' => r = .returned (.bool (decide (c ∈ m))) ∧ w = w' := by
  have HC := Lib.hid (index_any A ca n m c w hr hn hl)
  obtain ⟨ans, hans⟩ : ∃ x, decide (c ∈ m) = x := ⟨_, rfl⟩
  rw [hans]
  have HANS := Lib.hid hans
  clear hans hr hn
  go_enter Tryz.func135, Tryz.ntmps135
  go_wp2_with fail
  refine HC.out.mono ?_
  rintro r w1 ⟨⟨i, rfl, hi⟩, rfl⟩
  have HI := Lib.hid hi
  clear hi
  go_wp2_with fail
  go_ret
  exact ⟨ret_bool (by rw [← HANS.out]; simp only [decide_eq_decide]; exact HI.out), rfl⟩
end Go.Proofs.YtjlfgojblimobaaGreat.S10
end

section
namespace Go.Proofs.YtjlfgojblimobaaGreat.S10
open Go.RowKit

def BlockAt (w : World) (G : Nat) (ty : TypeId) (l : List Int) : Prop := w.heap[G]? = some (.cells (l.map (Value.int .i64)).toArray ty (0, 0))
theorem BlockAt.lt {w : World} {G : Nat} {ty : TypeId} {l : List Int} (h : BlockAt w G ty l) : G < w.heap.size := (Array.getElem?_eq_some_iff.1 h).1
theorem BlockAt.cell {w : World} {G j : Nat} {ty : TypeId} {l : List Int} {x : Int} (h : BlockAt w G ty l) (hj : l[j]? = some x) : w.cell? ⟨G, j, none⟩ = some (.int .i64 x) := by
  unfold World.cell?
  rw [show w.heap[G]? = _ from h]
  simp [hj]
theorem BlockAt.frozen {w : World} {G j : Nat} {ty : TypeId} {l : List Int} (h : BlockAt w G ty l) : w.frozen? ⟨G, j, none⟩ = false := by
  unfold World.frozen?
  rw [show w.heap[G]? = _ from h]
  simp
theorem BlockAt.reads {w : World} {G : Nat} {ty : TypeId} {l : List Int} (h : BlockAt w G ty l) : RdS .i64 w w.heap.size (some ⟨G, 0, none⟩) l := fun j x hx => by
  refine ⟨_, rfl, h.lt, ?_⟩
  have : (⟨G, 0, none⟩ : Addr).add j = ⟨G, j, none⟩ := by unfold Addr.add; split <;> simp_all
  rw [this]
  exact h.cell hx
theorem BlockAt.below {w w' : World} {G n : Nat} {ty : TypeId} {l : List Int} (h : BlockAt w G ty l) (hb : Below n w w') (hG : G < n) : BlockAt w' G ty l := (hb.block G hG).trans h
theorem BlockAt.set {w : World} {G k : Nat} {ty : TypeId} {l : List Int} (h : BlockAt w G ty l) (x : Int) : BlockAt (w.setCell ⟨G, k, none⟩ (.int .i64 x)) G ty (l.set k x) := by
  obtain ⟨hlt, hk⟩ := Array.getElem?_eq_some_iff.1 h
  show (w.heap.modify G _)[G]? = _
  rw [Array.getElem?_eq_getElem (by rw [Array.size_modify]; exact hlt), Array.getElem_modify_self, hk]
  show some (Obj.cells ((l.map (Value.int .i64)).toArray.setIfInBounds k (.int .i64 x)) ty (0, 0)) = _
  rw [List.setIfInBounds_toArray, List.map_set]
def Rul (G : Nat) (t : List Int) (w : World) (r : Ending) (w' : World) : Prop :=
  r = .returned (.tuple #[]) ∧ BlockAt w' G 39 t ∧ Below G w w'
structure Inp (nn f : Int) (l : List Int) (G : Nat) (w wr : World) (k : Nat) (O : List Int) : Prop where
  hk : k ≤ l.length
  ho : O.length = k
  blk : BlockAt wr G 39 (O ++ l.drop k)
  res : M.wrule nn f l = O ++ M.wgo nn f (l.take k).reverse O.reverse (l.drop k)
  bel : Below G w wr
section
variable {nn f : Int} {l O : List Int} {G k : Nat} {w wr : World}
theorem Inp.start (h : BlockAt w G 39 l) : Inp nn f l G w w 0 [] := ⟨Nat.zero_le _, rfl, h, rfl, Below.refl _ _⟩
theorem Inp.at_ (h : Inp nn f l G w wr k O) {c : Int} (hc : l[k]? = some c) : (O ++ l.drop k)[k]? = some c := by
  rw [List.getElem?_append_right (by rw [h.ho]; exact Nat.le_refl _), h.ho, Nat.sub_self, List.getElem?_drop]
  exact hc
theorem Inp.step (h : Inp nn f l G w wr k O) {c x : Int} (hc : l[k]? = some c) (hx : M.wat nn f (l.take k).reverse O.reverse c (l.drop (k + 1)) = x) :
    M.wrule nn f l = (O ++ [x]) ++ M.wgo nn f (l.take (k + 1)).reverse (O ++ [x]).reverse (l.drop (k + 1)) := by
  rw [h.res, M.drop_next' hc, M.wgo_cons, M.take_next' hc, List.reverse_append, hx]
  simp
theorem Inp.put (h : Inp nn f l G w wr k O) {c x : Int} (hc : l[k]? = some c) (hx : M.wat nn f (l.take k).reverse O.reverse c (l.drop (k + 1)) = x) :
    Inp nn f l G w (wr.setCell ⟨G, k, none⟩ (.int .i64 x)) (k + 1) (O ++ [x]) := by
  have hlt := (List.getElem?_eq_some_iff.1 hc).1
  refine ⟨hlt, by rw [List.length_append, h.ho]; rfl, ?_, h.step hc hx, h.bel.setCell (p := ⟨G, k, none⟩) (Nat.le_refl _) _⟩
  have := h.blk.set (k := k) x
  rw [List.set_append_right _ _ (by rw [h.ho]; exact Nat.le_refl _), h.ho, Nat.sub_self, M.drop_next' hc, List.set_cons_zero] at this
  rw [List.append_assoc]
  exact this
theorem Inp.keep (h : Inp nn f l G w wr k O) {c : Int} (hc : l[k]? = some c) (hx : M.wat nn f (l.take k).reverse O.reverse c (l.drop (k + 1)) = c) :
    Inp nn f l G w wr (k + 1) (O ++ [c]) := by
  have hlt := (List.getElem?_eq_some_iff.1 hc).1
  refine ⟨hlt, by rw [List.length_append, h.ho]; rfl, ?_, h.step hc hx, h.bel⟩
  have := h.blk
  rw [M.drop_next' hc] at this
  rw [List.append_assoc]
  exact this
theorem Inp.done (h : Inp nn f l G w wr k O) (hk : l.length ≤ k) : BlockAt wr G 39 (M.wrule nn f l) := by
  have hb := h.blk
  rw [h.res]
  rw [List.drop_eq_nil_of_le hk] at hb ⊢
  exact hb
end
end Go.Proofs.YtjlfgojblimobaaGreat.S10
end

section
namespace Go.Proofs.YtjlfgojblimobaaGreat.S10
open Go.RowKit
set_option maxRecDepth 100000

theorem M.ah_next (f x : Int) (O : List Int) : M.ah f (O ++ [x]).reverse = M.mkd x := by
  rw [List.reverse_append]
  rfl
set_option maxHeartbeats 4000000 in
theorem marks_any (G n : Nat) (f : Int) (l : List Int) (w : World) (h : BlockAt w G 39 l) (hn : l.length = n) (hl : n ≤ 1000) :
    Calls Tryz.prog 109 #[.slice (some ⟨G, 0, none⟩) n n, .int .i64 f] w (Rul G (M.wrule 1 f l) w) := by
  have H := Lib.hid h
  have HN := Lib.hid hn
  have hl1 : (n : Int) ≤ 1000 := by omega
  clear h hn
  go_enter Tryz.func109, Tryz.ntmps109
  go_wp2_with fail
  go_loopw [4, 10] (fun a v wr => ∃ (k : Nat) (O : List Int), a = .int .i64 (M.ah f O.reverse) ∧ v = .int .i64 k ∧ Inp 1 f l G w wr k O) (fun _ v _ => n - (intOf v).toNat)
  case atStart => exact ⟨0, [], rfl, rfl, .start H.out⟩
  case round =>
    obtain ⟨k, O, rfl, rfl, hin⟩ := hrel
    have HI := Lib.hid hin
    have k0 : (0 : Int) ≤ k := by omega
    have hkn : k ≤ n := by rw [← HN.out]; exact hin.hk
    by_cases hlt : k < n
    · have k1 : (k : Int) < n := by omega
      obtain ⟨c, hc⟩ : ∃ c, l[k]? = some c := ⟨_, List.getElem?_eq_getElem (by rw [HN.out]; exact hlt)⟩
      have hcell := hin.blk.cell (hin.at_ hc)
      have hfr := hin.blk.frozen (j := k)
      have hw := M.wat1 f (l.take k).reverse O.reverse c (l.drop (k + 1))
      obtain ⟨a, ha⟩ : ∃ a, M.ah f O.reverse = a := ⟨_, rfl⟩
      rw [ha] at hw ⊢
      by_cases h8 : c = 8
      · subst h8
        rw [if_pos rfl] at hw
        have HP := Lib.hid (hin.put hc hw)
        have hcell2 := HP.out.blk.cell (j := k) (x := a) (by rw [List.getElem?_append_left (by rw [List.length_append, hin.ho]; simp), List.getElem?_append_right (by rw [hin.ho]; exact Nat.le_refl _), hin.ho, Nat.sub_self]; rfl)
        have HC := Lib.hid (marked_any a)
        clear hin hc hw ha hkn
        go_wp2_with fail
        refine (HC.out _).mono ?_
        rintro r w2 ⟨rfl, rfl⟩
        go_wp2_with fail
        go_roundw
        case rel => exact ⟨k + 1, O ++ [a], by rw [M.ah_next], by go_num, HP.out⟩
        case measure => simp [intOf]; omega
      · rw [if_neg h8] at hw
        have HP := Lib.hid (hin.keep hc hw)
        have HC := Lib.hid (marked_any c)
        have hb : (c == 8) = false := by simp [h8]
        clear hin hc hw ha hkn h8
        go_wp2_with fail
        refine (HC.out _).mono ?_
        rintro r w2 ⟨rfl, rfl⟩
        go_wp2_with fail
        go_roundw
        case rel => exact ⟨k + 1, O ++ [c], by rw [M.ah_next], by go_num, HP.out⟩
        case measure => simp [intOf]; omega
    · have k1 : ¬ (k : Int) < (n : Int) := by omega
      have HD := Lib.hid (hin.done (by rw [HN.out]; omega))
      have HB := Lib.hid hin.bel
      clear hin hkn
      go_wp2_with fail
      go_end0
      exact ⟨rfl, HD.out, HB.out⟩
end Go.Proofs.YtjlfgojblimobaaGreat.S10
end

section
namespace Go.Proofs.YtjlfgojblimobaaGreat.S10
open Go.RowKit
set_option maxRecDepth 100000

theorem M.stg_next {l : List Int} {k : Nat} {c : Int} (hc : l[k]? = some c) (f : Int) : M.stg f (l.take (k + 1)).reverse = if c = 0 ∨ c = 1 ∨ c = 2 then c else M.stg f (l.take k).reverse := by
  rw [M.take_next' hc, M.stg_cons]
set_option maxHeartbeats 8000000 in
theorem behind_any (nn s o : Int) (G n b1 b2 : Nat) (f : Int) (l : List Int) (w : World) (h : BlockAt w G 39 l) (hn : l.length = n) (hl : n ≤ 1000)
    (hw : ∀ (p q r : List Int) (c : Int), M.wat nn f p q c r = if c = 3 ∧ M.stg f p = s then o else c)
    (h1 : w.cell? ⟨b1, 0, none⟩ = some (.int .i64 s)) (h2 : w.cell? ⟨b2, 0, none⟩ = some (.int .i64 o)) (l1 : b1 < G) (l2 : b2 < G) :
    Calls Tryz.prog 133 #[.slice (some ⟨G, 0, none⟩) n n, .int .i64 f, .pointer (some ⟨b1, 0, none⟩), .pointer (some ⟨b2, 0, none⟩)] w (Rul G (M.wrule nn f l) w) := by
  have H := Lib.hid h
  have HN := Lib.hid hn
  have HW := Lib.hid hw
  have H1 := Lib.hid (show w.cell? ⟨b1, 0, none⟩ = some (.int .i64 s) ∧ w.cell? ⟨b2, 0, none⟩ = some (.int .i64 o) from ⟨h1, h2⟩)
  have hl1 : (n : Int) ≤ 1000 := by omega
  clear h hn hw h1 h2
  go_enter Tryz.func133, Tryz.ntmps133
  go_wp2_with fail
  go_loopw [6, 12] (fun a v wr => ∃ (k : Nat) (O : List Int), a = .int .i64 (M.stg f (l.take k).reverse) ∧ v = .int .i64 k ∧ Inp nn f l G w wr k O) (fun _ v _ => n - (intOf v).toNat)
  case atStart => exact ⟨0, [], rfl, rfl, .start H.out⟩
  case round =>
    obtain ⟨k, O, rfl, rfl, hin⟩ := hrel
    have k0 : (0 : Int) ≤ k := by omega
    have hkn : k ≤ n := by rw [← HN.out]; exact hin.hk
    have hc1 := (hin.bel.cell (p := ⟨b1, 0, none⟩) l1).trans H1.out.1
    have hc2 := (hin.bel.cell (p := ⟨b2, 0, none⟩) l2).trans H1.out.2
    have hg1 : b1 ≠ G := by omega
    by_cases hlt : k < n
    · have k1 : (k : Int) < n := by omega
      obtain ⟨c, hc⟩ : ∃ c, l[k]? = some c := ⟨_, List.getElem?_eq_getElem (by rw [HN.out]; exact hlt)⟩
      have hcell := hin.blk.cell (hin.at_ hc)
      have hfr := hin.blk.frozen (j := k)
      have hw := HW.out (l.take k).reverse O.reverse (l.drop (k + 1)) c
      have hnx := M.stg_next hc f
      obtain ⟨a, ha⟩ : ∃ a, M.stg f (l.take k).reverse = a := ⟨_, rfl⟩
      rw [ha] at hw hnx ⊢
      by_cases h3 : c = 3
      · subst h3
        rw [if_neg (by omega)] at hnx
        have HX := Lib.hid hnx
        by_cases has : a = s
        · rw [if_pos ⟨rfl, has⟩] at hw
          have HP := Lib.hid (hin.put hc hw)
          have hb : (a == s) = true := by simp [has]
          clear hin hc hw ha hkn has hnx
          go_wp2_with fail
          go_roundw
          case rel => exact ⟨k + 1, O ++ [o], by rw [HX.out], by go_num, HP.out⟩
          case measure => simp [intOf]; omega
        · rw [if_neg (fun e => has e.2)] at hw
          have HP := Lib.hid (hin.keep hc hw)
          have hb : (a == s) = false := by simp [has]
          clear hin hc hw ha hkn has hnx
          go_wp2_with fail
          go_roundw
          case rel => exact ⟨k + 1, O ++ [3], by rw [HX.out], by go_num, HP.out⟩
          case measure => simp [intOf]; omega
      · rw [if_neg (fun e => h3 e.1)] at hw
        have HP := Lib.hid (hin.keep hc hw)
        have b3 : (c == 3) = false := by simp [h3]
        by_cases hs : c = 0 ∨ c = 1 ∨ c = 2
        · rw [if_pos hs] at hnx
          have HX := Lib.hid hnx
          clear hin hc hw ha hkn hnx h3
          rcases hs with rfl | rfl | rfl
          all_goals
            go_wp2_with fail
            go_roundw
            case rel => exact ⟨k + 1, _, by rw [HX.out], by go_num, HP.out⟩
            case measure => simp [intOf]; omega
        · rw [if_neg hs] at hnx
          have HX := Lib.hid hnx
          have b0 : (c == 0) = false := by simp; omega
          have b1 : (c == 1) = false := by simp; omega
          have b2 : (c == 2) = false := by simp; omega
          clear hin hc hw ha hkn hnx h3 hs
          go_wp2_with fail
          go_roundw
          case rel => exact ⟨k + 1, _, by rw [HX.out], by go_num, HP.out⟩
          case measure => simp [intOf]; omega
    · have k1 : ¬ (k : Int) < (n : Int) := by omega
      have HD := Lib.hid (hin.done (by rw [HN.out]; omega))
      have HB := Lib.hid hin.bel
      clear hin hkn
      go_wp2_with fail
      go_end0
      exact ⟨rfl, HD.out, HB.out⟩
end Go.Proofs.YtjlfgojblimobaaGreat.S10
end

section
namespace Go.Proofs.YtjlfgojblimobaaGreat.S10
open Go.RowKit
set_option maxRecDepth 100000

set_option maxHeartbeats 8000000 in
theorem become_any (nn o : Int) (m : List Int) (mn mc : Nat) (A : Option Addr) (G n b1 b2 : Nat) (f : Int) (l : List Int) (w : World) (h : BlockAt w G 39 l) (hn : l.length = n) (hl : n ≤ 1000)
    (hw : ∀ (p q r : List Int) (c : Int), M.wat nn f p q c r = if c ∈ m then o else c)
    (h1 : w.cell? ⟨b1, 0, none⟩ = some (.slice A mn mc)) (h2 : w.cell? ⟨b2, 0, none⟩ = some (.int .i64 o)) (l1 : b1 < G) (l2 : b2 < G)
    (hr : RdS .i64 w G A m) (hm : m.length = mn) (hml : mn ≤ 1000) :
    Calls Tryz.prog 134 #[.slice (some ⟨G, 0, none⟩) n n, .int .i64 f, .pointer (some ⟨b1, 0, none⟩), .pointer (some ⟨b2, 0, none⟩)] w (Rul G (M.wrule nn f l) w) := by
  have H := Lib.hid h
  have HN := Lib.hid hn
  have HW := Lib.hid hw
  have HR := Lib.hid hr
  have HM := Lib.hid hm
  have HML := Lib.hid hml
  have H1 := Lib.hid (show w.cell? ⟨b1, 0, none⟩ = some (.slice A mn mc) ∧ w.cell? ⟨b2, 0, none⟩ = some (.int .i64 o) from ⟨h1, h2⟩)
  have hl1 : (n : Int) ≤ 1000 := by omega
  clear h hn hw h1 h2 hr hm hml
  go_enter Tryz.func134, Tryz.ntmps134
  go_wp2_with fail
  go_loopw [10] (fun v wr => ∃ (k : Nat) (O : List Int), v = .int .i64 k ∧ Inp nn f l G w wr k O) (fun v _ => n - (intOf v).toNat)
  case atStart => exact ⟨0, [], rfl, .start H.out⟩
  case round =>
    obtain ⟨k, O, rfl, hin⟩ := hrel
    have k0 : (0 : Int) ≤ k := by omega
    have hkn : k ≤ n := by rw [← HN.out]; exact hin.hk
    have hc1 := (hin.bel.cell (p := ⟨b1, 0, none⟩) l1).trans H1.out.1
    have hc2 := (hin.bel.cell (p := ⟨b2, 0, none⟩) l2).trans H1.out.2
    by_cases hlt : k < n
    · have k1 : (k : Int) < n := by omega
      obtain ⟨c, hc⟩ : ∃ c, l[k]? = some c := ⟨_, List.getElem?_eq_getElem (by rw [HN.out]; exact hlt)⟩
      have hcell := hin.blk.cell (hin.at_ hc)
      have hfr := hin.blk.frozen (j := k)
      have hw := HW.out (l.take k).reverse O.reverse (l.drop (k + 1)) c
      have hg := hin.blk.lt
      have HC := Lib.hid (contains_any A mc mn m c wr ((HR.out.below hin.bel).more (by omega)) HM.out HML.out)
      by_cases hcm : c ∈ m
      · rw [if_pos hcm] at hw
        have HP := Lib.hid (hin.put hc hw)
        rw [decide_eq_true hcm] at HC
        clear hin hc hw hkn hcm hg
        go_wp2_with fail
        refine HC.out.mono ?_
        rintro r w2 ⟨rfl, rfl⟩
        go_wp2_with fail
        go_roundw
        case rel => exact ⟨k + 1, O ++ [o], by go_num, HP.out⟩
        case measure => simp [intOf]; omega
      · rw [if_neg hcm] at hw
        have HP := Lib.hid (hin.keep hc hw)
        rw [decide_eq_false hcm] at HC
        clear hin hc hw hkn hcm hg
        go_wp2_with fail
        refine HC.out.mono ?_
        rintro r w2 ⟨rfl, rfl⟩
        go_wp2_with fail
        go_roundw
        case rel => exact ⟨k + 1, O ++ [c], by go_num, HP.out⟩
        case measure => simp [intOf]; omega
    · have k1 : ¬ (k : Int) < (n : Int) := by omega
      have HD := Lib.hid (hin.done (by rw [HN.out]; omega))
      have HB := Lib.hid hin.bel
      clear hin hkn
      go_wp2_with fail
      go_end0
      exact ⟨rfl, HD.out, HB.out⟩
end Go.Proofs.YtjlfgojblimobaaGreat.S10
end

section
namespace Go.Proofs.YtjlfgojblimobaaGreat.S10
open Go.RowKit
set_option maxRecDepth 100000

theorem M.four_first {f c : Int} {q : List Int} : M.wrule 4 f (c :: q) = [c] ++ M.wgo 4 f [c] [c] q := by
  unfold M.wrule
  rw [M.wgo_cons, M.wat4_first]
  rfl
theorem Inp.first {f : Int} {l : List Int} {G : Nat} {w : World} (h : BlockAt w G 39 l) {c : Int} (hc : l[0]? = some c) : Inp 4 f l G w w 1 [c] := by
  have h0 := Inp.start (nn := 4) (f := f) h
  exact h0.keep hc (M.wat4_first _ _ _ _)
theorem Inp.last {f : Int} {l O : List Int} {G k : Nat} {w wr : World} (h : Inp 4 f l G w wr k O) (hk : k + 1 = l.length) : BlockAt wr G 39 (M.wrule 4 f l) := by
  obtain ⟨c, hc⟩ : ∃ c, l[k]? = some c := ⟨_, List.getElem?_eq_getElem (by omega)⟩
  exact (h.keep hc (by rw [List.drop_eq_nil_of_le (by omega)]; exact M.wat4_last _ _ _ _)).done (by omega)
theorem Inp.regrown {nn f : Int} {l O : List Int} {G k : Nat} {w wr : World} (h : Inp nn f l G w wr k O) (d : Nat) (os : Array Obj) : Inp nn f l G w (Sort.grow (redrawn wr d) os) k O :=
  ⟨h.hk, h.ho, h.blk.below (below_regrown wr d os) h.blk.lt, h.res, h.bel.trans ((below_regrown wr d os).mono (Nat.le_of_lt h.blk.lt))⟩
theorem M.four_short {f : Int} {l : List Int} (h : l.length ≤ 1) : M.wrule 4 f l = l := by
  match l, h with
  | [], _ => rfl
  | [c], _ => rw [M.four_first]; rfl
set_option maxHeartbeats 8000000 in
theorem separators_any (G n : Nat) (f : Int) (l : List Int) (w : World) (h : BlockAt w G 39 l) (hn : l.length = n) (hl : n ≤ 1000) :
    Calls Tryz.prog 112 #[.slice (some ⟨G, 0, none⟩) n n, .int .i64 f] w (Rul G (M.wrule 4 f l) w) := by
  have H := Lib.hid h
  have HN := Lib.hid hn
  have hl1 : (n : Int) ≤ 1000 := by omega
  have hw0 : IntKind.i64.wrap ((n : Int) - 1) = (n : Int) - 1 := by rw [IntKind.wrap_i64]; omega
  by_cases hs : n ≤ 1
  · have HS := Lib.hid (M.four_short (f := f) (hn ▸ hs))
    have hs1 : ¬ (1 : Int) < (n : Int) - 1 := by omega
    clear h hn
    go_enter Tryz.func112, Tryz.ntmps112
    go_wp2_with fail
    go_loopw [4] (fun v wr => v = .int .i64 1 ∧ wr = w) (fun v _ => 0)
    case atStart => exact ⟨rfl, rfl⟩
    case round =>
      obtain ⟨rfl, rfl⟩ := hrel
      go_wp2_with fail
      go_end0
      exact ⟨rfl, by rw [HS.out]; exact H.out, Below.refl _ _⟩
  · obtain ⟨c0, hc0⟩ : ∃ c, l[0]? = some c := ⟨_, List.getElem?_eq_getElem (by omega)⟩
    have HI := Lib.hid (Inp.first (f := f) h hc0)
    clear h hn hc0
    go_enter Tryz.func112, Tryz.ntmps112
    go_wp2_with fail
    go_loopw [4] (fun v wr => ∃ (k : Nat) (O : List Int), v = .int .i64 ((k : Int) + 1) ∧ k + 1 < n ∧ Inp 4 f l G w wr (k + 1) O) (fun v _ => n - (intOf v).toNat)
    case atStart => exact ⟨0, [c0], rfl, by omega, HI.out⟩
    case round =>
      obtain ⟨k, O, rfl, hk, hin⟩ := hrel
      have k0 : (0 : Int) ≤ k := by omega
      have hkn : (k : Int) + 1 < n := by omega
      have hw1 : IntKind.i64.wrap ((k : Int) + 1 - 1) = (k : Int) := by rw [IntKind.wrap_i64]; omega
      have hw2 : IntKind.i64.wrap ((k : Int) + 1 + 1) = (k : Int) + 1 + 1 := by rw [IntKind.wrap_i64]; omega
      by_cases hlt : k + 2 < n
      · have k1 : (k : Int) + 1 < (n : Int) - 1 := by omega
        have k2 : (k : Int) + 1 + 1 < (n : Int) := by omega
        obtain ⟨c, hc⟩ : ∃ c, l[k + 1]? = some c := ⟨_, List.getElem?_eq_getElem (by rw [HN.out]; omega)⟩
        obtain ⟨b, hb⟩ : ∃ c, l[k + 2]? = some c := ⟨_, List.getElem?_eq_getElem (by rw [HN.out]; omega)⟩
        obtain ⟨Q, a, rfl⟩ : ∃ Q a, O = Q ++ [a] := by
          refine ⟨O.dropLast, O.getLast (fun e => by have := hin.ho; rw [e] at this; cases this), (List.dropLast_concat_getLast _).symm⟩
        have hQ : Q.length = k := by have := hin.ho; rw [List.length_append] at this; simpa using this
        have hcell := hin.blk.cell (hin.at_ hc)
        have ha' : (Q ++ [a] ++ l.drop (k + 1))[k]? = some a := by rw [List.append_assoc, List.getElem?_append_right (by omega), hQ, Nat.sub_self]; rfl
        have hcella := hin.blk.cell (j := k) (x := a) ha'
        have hcellb := hin.blk.cell (j := k + 2) (x := b) (by rw [List.getElem?_append_right (by rw [hin.ho]; omega), hin.ho, List.getElem?_drop, show k + 1 + (k + 2 - (k + 1)) = k + 2 by omega]; exact hb)
        have hcell' := fun d os => cell_regrown hcell d os
        have hcella' := fun d os => cell_regrown hcella d os
        have hcellb' := fun d os => cell_regrown hcellb d os
        have hw := M.wat4 f (l.take (k + 1)).reverse a Q.reverse c b (l.drop (k + 2 + 1))
        rw [← M.drop_next' hb, show a :: Q.reverse = (Q ++ [a]).reverse by simp] at hw
        have HC := Lib.hid (fun d os => Calls.regrown_of ((joins_any c a (Sort.grow (redrawn wr d) os)).mono fun r w' h => ⟨h.1, by rw [← h.2]; exact Below.refl _ _⟩))
        have HA := Lib.hid ha'
        have HCC := Lib.hid hc
        have hIN := Lib.hid hin
        by_cases hab : a = b
        · have e : (a == b) = true := by simp [hab]
          by_cases hj : M.jn c a = true
          · rw [if_pos ⟨hab, hj⟩] at hw
            have HW := Lib.hid hw
            rw [hj] at HC
            clear hin hc hw hb hab hj hQ ha'
            go_wp2_with fail
            refine wp_region_quiet_below (by kernel_rfl) (by kernel_rfl) ?_
            repeat (go_big_quiet_step (first | (with_reducible exact HC.out _ _)))
            refine wpQuiet_nil ?_
            intro _ hw'
            obtain ⟨⟨dq, osq⟩, hw4⟩ := hw'
            subst hw4
            obtain ⟨Y, hY⟩ : ∃ Y, Sort.grow (redrawn wr dq) osq = Y := ⟨_, rfl⟩
            have hin := hIN.out.regrown dq osq
            rw [hY] at hin
            dsimp only
            rw [hY]
            clear hY hcell hcella hcellb hcell' hcella' hcellb'
            have hcell := hin.blk.cell (hin.at_ HCC.out)
            have hcella := hin.blk.cell (j := k) (x := a) HA.out
            have hfr := hin.blk.frozen (j := k + 1)
            have HP := Lib.hid (hin.put HCC.out HW.out)
            clear hin
            go_wp2_with fail
            go_roundw
            case rel => exact ⟨k + 1, Q ++ [a] ++ [a], by go_num, by omega, HP.out⟩
            case measure => simp [intOf]; omega
          · rw [if_neg (fun e => hj e.2)] at hw
            have HW := Lib.hid hw
            rw [Bool.not_eq_true] at hj
            rw [hj] at HC
            clear hin hc hw hb hab hj hQ ha'
            go_wp2_with fail
            refine wp_region_quiet_below (by kernel_rfl) (by kernel_rfl) ?_
            repeat (go_big_quiet_step (first | (with_reducible exact HC.out _ _)))
            refine wpQuiet_nil ?_
            intro _ hw'
            obtain ⟨⟨dq, osq⟩, hw4⟩ := hw'
            subst hw4
            obtain ⟨Y, hY⟩ : ∃ Y, Sort.grow (redrawn wr dq) osq = Y := ⟨_, rfl⟩
            have hin := hIN.out.regrown dq osq
            rw [hY] at hin
            dsimp only
            rw [hY]
            clear hY hcell hcella hcellb hcell' hcella' hcellb'
            have hcell := hin.blk.cell (hin.at_ HCC.out)
            have hcella := hin.blk.cell (j := k) (x := a) HA.out
            have hfr := hin.blk.frozen (j := k + 1)
            have HP := Lib.hid (hin.keep HCC.out HW.out)
            clear hin
            go_wp2_with fail
            go_roundw
            case rel => exact ⟨k + 1, Q ++ [a] ++ [c], by go_num, by omega, HP.out⟩
            case measure => simp [intOf]; omega
        · rw [if_neg (fun e => hab e.1)] at hw
          have HW := Lib.hid hw
          have e : (a == b) = false := by simp [hab]
          clear hin hc hw hb hab hQ ha'
          go_wp2_with fail
          refine wp_region_quiet_below (by kernel_rfl) (by kernel_rfl) ?_
          repeat (go_big_quiet_step (first | (with_reducible exact HC.out _ _)))
          refine wpQuiet_nil ?_
          intro _ hw'
          obtain ⟨⟨dq, osq⟩, hw4⟩ := hw'
          subst hw4
          obtain ⟨Y, hY⟩ : ∃ Y, Sort.grow (redrawn wr dq) osq = Y := ⟨_, rfl⟩
          have hin := hIN.out.regrown dq osq
          rw [hY] at hin
          dsimp only
          rw [hY]
          clear hY hcell hcella hcellb hcell' hcella' hcellb'
          have hcell := hin.blk.cell (hin.at_ HCC.out)
          have hcella := hin.blk.cell (j := k) (x := a) HA.out
          have hfr := hin.blk.frozen (j := k + 1)
          have HP := Lib.hid (hin.keep HCC.out HW.out)
          clear hin
          go_wp2_with fail
          go_roundw
          case rel => exact ⟨k + 1, Q ++ [a] ++ [c], by go_num, by omega, HP.out⟩
          case measure => simp [intOf]; omega
      · have k1 : ¬ (k : Int) + 1 < (n : Int) - 1 := by omega
        have HD := Lib.hid (hin.last (by rw [HN.out]; omega))
        have HB := Lib.hid hin.bel
        clear hin
        go_wp2_with fail
        go_end0
        exact ⟨rfl, HD.out, HB.out⟩
end Go.Proofs.YtjlfgojblimobaaGreat.S10
end
