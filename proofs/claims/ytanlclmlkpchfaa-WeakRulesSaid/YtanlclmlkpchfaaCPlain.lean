/- What the rules of package weak make, in the way of the code (in its places, one pass or two), is what the document's rules make: plain functions on lists. No program is read here. -/
import Derived.Test.YtanlclmlkpchfaaWeakM
namespace Go.Proofs.Ytanlclmlkpchfaa.M

/-- What an NSM becomes: what stands ahead of it (nearest first), or the first side. -/
def ah (f : Int) : List Int → Int
  | [] => f
  | a :: _ => if iso a then 13 else a
theorem wat1 (f : Int) (p o : List Int) (c : Int) (q : List Int) : wat 1 f p o c q = if c = 8 then ah f o else c := by
  unfold wat
  by_cases h : c = 8
  · rw [if_pos ⟨rfl, h⟩, if_pos h]
    cases o <;> rfl
  · rw [if_neg (by omega), if_neg (by omega), if_neg (by omega), if_neg (by omega), if_neg (by omega), if_neg (by omega), if_neg (by omega), if_neg h]
theorem wat2 (f : Int) (p o : List Int) (c : Int) (q : List Int) : wat 2 f p o c q = if c = 3 ∧ stg f p = 2 then 6 else c := by
  unfold wat
  rw [if_neg (by omega)]
  by_cases h : c = 3 ∧ stg f p = 2
  · rw [if_pos ⟨rfl, h⟩, if_pos h]
  · rw [if_neg (fun e => h e.2), if_neg (by omega), if_neg (by omega), if_neg (by omega), if_neg (by omega), if_neg (by omega), if_neg h]
theorem wat7 (f : Int) (p o : List Int) (c : Int) (q : List Int) : wat 7 f p o c q = if c = 3 ∧ stg f p = 0 then 0 else c := by
  unfold wat
  rw [if_neg (by omega), if_neg (by omega), if_neg (by omega), if_neg (by omega), if_neg (by omega), if_neg (by omega)]
  by_cases h : c = 3 ∧ stg f p = 0
  · rw [if_pos ⟨rfl, h⟩, if_pos h]
  · rw [if_neg (fun e => h e.2), if_neg h]
theorem wat3 (f : Int) (p o : List Int) (c : Int) (q : List Int) : wat 3 f p o c q = if c ∈ [(2 : Int)] then 1 else c := by
  unfold wat
  rw [if_neg (by omega), if_neg (by omega)]
  by_cases h : c = 2
  · rw [if_pos ⟨rfl, h⟩, if_pos (by simp [h])]
  · rw [if_neg (by omega), if_neg (by omega), if_neg (by omega), if_neg (by omega), if_neg (by omega), if_neg (by simp [h])]
theorem wat6 (f : Int) (p o : List Int) (c : Int) (q : List Int) : wat 6 f p o c q = if c ∈ [(4 : Int), 5, 7] then 13 else c := by
  unfold wat
  rw [if_neg (by omega), if_neg (by omega), if_neg (by omega), if_neg (by omega), if_neg (by omega)]
  by_cases h : c = 4 ∨ c = 5 ∨ c = 7
  · rw [if_pos ⟨rfl, h⟩, if_pos (by simpa using h)]
  · rw [if_neg (by omega), if_neg (by omega), if_neg (by simpa using h)]
/-- Do two alike stand about a separator that joins them? -/
def jn (c a : Int) : Bool := decide (a = 3 ∧ (c = 4 ∨ c = 7) ∨ a = 6 ∧ c = 7)
theorem wat4 (f : Int) (p : List Int) (a : Int) (o : List Int) (c b : Int) (q : List Int) : wat 4 f p (a :: o) c (b :: q) = if a = b ∧ jn c a = true then a else c := by
  have hj : jn c a = true ↔ (a = 3 ∧ (c = 4 ∨ c = 7) ∨ a = 6 ∧ c = 7) := by unfold jn; exact decide_eq_true_iff
  unfold wat
  rw [sep_cons, if_neg (by omega), if_neg (by omega), if_neg (by omega)]
  by_cases h : c = 4 ∨ c = 7
  · rw [if_pos ⟨rfl, h⟩]
    by_cases h2 : a = b ∧ (a = 3 ∨ c = 7 ∧ a = 6)
    · rw [if_pos h2, if_pos ⟨h2.1, hj.2 (by omega)⟩]
    · rw [if_neg h2, if_neg (fun e => h2 ⟨e.1, by have := hj.1 e.2; omega⟩)]
  · rw [if_neg (by omega), if_neg (by omega), if_neg (by omega), if_neg (by omega), if_neg (fun e => by have := hj.1 e.2; omega)]
theorem wat4_first (f : Int) (p : List Int) (c : Int) (q : List Int) : wat 4 f p [] c q = c := by
  unfold wat
  rw [sep_no0, if_neg (by omega), if_neg (by omega), if_neg (by omega)]
  split
  · rfl
  · rw [if_neg (by omega), if_neg (by omega), if_neg (by omega)]
theorem wat4_last (f : Int) (p o : List Int) (c : Int) : wat 4 f p o c [] = c := by
  unfold wat
  rw [sep_no, if_neg (by omega), if_neg (by omega), if_neg (by omega)]
  split
  · rfl
  · rw [if_neg (by omega), if_neg (by omega), if_neg (by omega)]
theorem wat5 (f : Int) (p o : List Int) (c : Int) (q : List Int) : wat 5 f p o c q = if c = 5 ∧ (en5 p = true ∨ en5 q = true) then 3 else c := by
  unfold wat
  rw [if_neg (by omega), if_neg (by omega), if_neg (by omega), if_neg (by omega)]
  by_cases h : c = 5 ∧ (en5 p = true ∨ en5 q = true)
  · rw [if_pos ⟨rfl, h⟩, if_pos h]
  · rw [if_neg (fun e => h e.2), if_neg (by omega), if_neg (by omega), if_neg h]
/-- The code's way ahead, and back, over ETs. -/
def fx (b c : Int) : Int := if c = 5 ∧ b = 3 then 3 else c
def fw : Int → List Int → List Int
  | _, [] => []
  | b, c :: q => fx b c :: fw (fx b c) q
def bw : List Int → List Int
  | [] => []
  | c :: q => (match bw q with | [] => c | b :: _ => fx b c) :: bw q
theorem fw_len {b : Int} {q : List Int} : (fw b q).length = q.length := by
  induction q generalizing b with
  | nil => rfl
  | cons c q ih => unfold fw; rw [List.length_cons, ih, List.length_cons]
theorem bw_len {q : List Int} : (bw q).length = q.length := by
  induction q with
  | nil => rfl
  | cons c q ih => unfold bw; rw [List.length_cons, ih, List.length_cons]
theorem bw_cons {c b : Int} {q t : List Int} (h : bw q = b :: t) : bw (c :: q) = fx b c :: b :: t := by
  rw [bw, h]
theorem bw_fw {f b : Int} {p o q : List Int} (h : b = 3 ↔ en5 p = true) : bw (fw b q) = wgo 5 f p o q := by
  induction q generalizing b p o with
  | nil => rfl
  | cons c q ih =>
    have hx : fx b c = 3 ↔ en5 (c :: p) = true := by
      rw [en5_cons]
      unfold fx
      by_cases h5 : c = 5
      · subst h5
        rw [if_pos rfl, ← h]
        split
        · simp_all
        · rename_i e
          simp at e
          simp [e]
      · rw [if_neg (by omega), if_neg h5]
        simp
    have e := ih (o := wat 5 f p o c q :: o) hx
    rw [fw, wgo_cons, bw, e, wat5]
    congr 1
    by_cases h5 : c = 5
    · subst h5
      by_cases h3 : b = 3
      · rw [if_pos ⟨rfl, .inl (h.1 h3)⟩]
        have e3 : fx b 5 = 3 := by unfold fx; rw [if_pos ⟨rfl, h3⟩]
        rw [e3]
        cases wgo 5 f (5 :: p) (3 :: o) q <;> rfl
      · have hp : ¬ en5 p = true := fun e => h3 (h.2 e)
        have e5 : fx b 5 = 5 := by unfold fx; rw [if_neg (fun e => h3 e.2)]
        rw [e5]
        cases q with
        | nil => rw [if_neg (by simp [hp, en5])]; rfl
        | cons d q =>
          rw [wgo_cons, wat5 f (5 :: p), en5_cons 5 p, if_pos rfl, en5_cons d q]
          show fx _ 5 = _
          unfold fx
          by_cases hd : d = 5
          · subst hd
            by_cases hq : en5 q = true <;> simp [hp, hq]
          · by_cases h33 : d = 3 <;> simp [hp, hd, h33]
    · rw [if_neg (fun e => h5 e.1)]
      have ec : fx b c = c := by unfold fx; rw [if_neg (fun e => h5 e.1)]
      rw [ec]
      cases wgo 5 f (c :: p) (c :: o) q with
      | nil => rfl
      | cons d t =>
        show fx d c = c
        unfold fx
        rw [if_neg (fun e => h5 e.1)]
theorem signs_are {f : Int} {l : List Int} : bw (fw 0 l) = wrule 5 f l := bw_fw (by simp [en5])
end Go.Proofs.Ytanlclmlkpchfaa.M
