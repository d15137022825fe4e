/- What the function that is looked up for a class does, whatever the class: it answers the level and class, and turns the walk, as the document says. Condition: the walk is right, its counts small, its overrides known. -/
/- The state of the program's Levels in memory: two rows, a walk, a map and a row of what is told of isolates, each apart from the others, and the steps that keep it. No function of the program is walked here. -/
import Derived.Test.YtjlfgojblimobaaGreatA07
import Derived.Test.YtjlfgojblimobaaGreatA08
section
namespace Go.Proofs.YtjlfgojblimobaaGreat
open Go.RowKit

def M.fnOf (c : Int) (fid : Nat) : Prop := (M.isStep c ∧ fid = M.stepF c) ∨ (¬ M.isStep c ∧ fid = 38)
theorem turn_odd {b odd odd' c : Int} {m : M.Mc} (h : M.begins c = false) : m.turn b odd c = m.turn b odd' c := by
  unfold M.Mc.turn
  (repeat' split) <;> first | rfl | (rename_i h2; rw [h] at h2; cases h2)
theorem remove_walk (base mb g cap : Nat) (b : Int) (m : M.Mc) (c f : Int) (w : World) (h : WalkAt w base mb g cap b m) :
    Calls Tryz.prog 66 #[.pointer (some ⟨mb, 0, none⟩), .agg #[.int .i64 c, .int .i64 f]] w (StepOut base mb g b m (-1) c w) :=
  (cremove_any mb c f w).mono fun _ _ ⟨h1, h2⟩ => ⟨h1, g, cap, h.below h2, Spun.of_below h2 mb g⟩
theorem step_any (base mb g cap k : Nat) (b : Int) (m : M.Mc) (c f : Int) (fid : Nat) (hfid : M.fnOf c fid) (w : World) (h : WalkAt w base mb g cap b m) (hf : m.Fit b k) (hov : m.Ov) (hk : k ≤ 5000) (hb : 0 ≤ b) :
    Calls Tryz.prog fid #[.pointer (some ⟨mb, 0, none⟩), .agg #[.int .i64 c, .int .i64 f]] w (StepOut base mb g b (m.turn b (M.oddOf c f) c) (m.lev b c) (m.cls c) w) := by
  have ho := hov.top hf.ok.ne_nil
  rcases hfid with ⟨hs, rfl⟩ | ⟨hs, rfl⟩
  · rcases hs with rfl | rfl | rfl | rfl | rfl | rfl | rfl | rfl | rfl | rfl | rfl
    · exact cembed_any base mb g cap k b m 16 f 1 13 (.inr (.inl ⟨rfl, rfl, rfl, rfl⟩)) w h hf hk hb
    · exact cembed_any base mb g cap k b m 14 f 0 13 (.inr (.inr (.inr (.inl ⟨rfl, rfl, rfl, rfl⟩)))) w h hf hk hb
    · exact cembed_any base mb g cap k b m 17 f 1 1 (.inl ⟨rfl, rfl, rfl, rfl⟩) w h hf hk hb
    · exact cembed_any base mb g cap k b m 15 f 0 0 (.inr (.inr (.inl ⟨rfl, rfl, rfl, rfl⟩))) w h hf hk hb
    · exact cisolate_any base mb g cap k b m 20 f (by decide) w h hf hk hb ho
    · exact cisolate_any base mb g cap k b m 19 f (by decide) w h hf hk hb ho
    · exact cisolate_any base mb g cap k b m 21 f (by decide) w h hf hk hb ho
    · exact cend_any base mb g cap k b m f w h hf hk hov
    · exact cpdf_any base mb g cap k b m 18 f w h hf hk
    · exact canew_any base mb g cap b m 10 f w h
    · exact remove_walk base mb g cap b m 9 f w h
  · obtain ⟨n, hn, hnk⟩ := hf.size
    unfold M.isStep at hs
    simp only [not_or] at hs
    obtain ⟨h0, h1, h2, h3, h4, h5, h6, h7, h8, h9, h10⟩ := hs
    have hr : M.removed c = false := by unfold M.removed; simp; omega
    have hbg : M.begins c = false := by unfold M.begins; simp; omega
    have e1 : m.turn b (M.oddOf c f) c = m := M.turn_no hr h9 h7 hbg
    have e2 : m.lev b c = m.top.lv := M.lev_at hr h9 (M.at_no h7) rfl
    have e3 : m.cls c = if m.top.ov ≠ 13 then m.top.ov else c := by unfold M.Mc.cls; rw [if_neg (by rw [hr]; simp), if_neg h9, M.at_no h7]
    rw [e1, e2, e3]
    exact (cstay_any base mb g cap n b m c f w h hn (by omega) ho).mono fun _ _ ⟨h1, h2⟩ => ⟨h1, g, cap, h.below h2, Spun.of_below h2 mb g⟩
theorem step_enter {c : Int} {fid : Nat} (hfid : M.fnOf c fid) (args : Array Value) (w : World) : (callFunc fid args).run Tryz.prog w = .ok (.enter fid args) w := by
  rcases hfid with ⟨hs, rfl⟩ | ⟨hs, rfl⟩
  · rcases hs with rfl | rfl | rfl | rfl | rfl | rfl | rfl | rfl | rfl | rfl | rfl <;> kernel_rfl
  · kernel_rfl
end Go.Proofs.YtjlfgojblimobaaGreat
end

section
namespace Go.Proofs.YtjlfgojblimobaaGreat
open Go.RowKit

structure Five (sz ga gb db G mb : Nat) : Prop where
  ga_lt : ga < sz
  gb_lt : gb < sz
  db_lt : db < sz
  G_lt : G < sz
  mb_lt : mb < sz
  ab : ga ≠ gb
  ad : ga ≠ db
  aG : ga ≠ G
  am : ga ≠ mb
  bd : gb ≠ db
  bG : gb ≠ G
  bm : gb ≠ mb
  dG : db ≠ G
  dm : db ≠ mb
  Gm : G ≠ mb
structure LcAt (B : Nat) (w w5 wr : World) (ga gb db G n : Nat) (la lb : List Int) (mb g cap : Nat) (b : Int) (m : M.Mc) : Prop where
  below : Below B w wr
  ra : wr.ownsRow B 3 1 (.slice (some ⟨ga, 0, none⟩) n n) n (la.map (Value.int .i64))
  rb : wr.ownsRow B 39 1 (.slice (some ⟨gb, 0, none⟩) n n) n (lb.map (Value.int .i64))
  walk : WalkAt wr B mb g cap b m
  sd : wr.heap[db]? = w5.heap[db]?
  sG : wr.heap[G]? = w5.heap[G]?
  na : ga ≠ g
  nb : gb ≠ g
  nd : db ≠ g
  nG : G ≠ g
  sz : w5.heap.size ≤ wr.heap.size
section
variable {B : Nat} {w w5 wr w3 : World} {ga gb db G n : Nat} {la lb : List Int} {mb g cap : Nat} {b : Int} {m : M.Mc}
theorem LcAt.le (h : LcAt B w w5 wr ga gb db G n la lb mb g cap b m) : B ≤ wr.heap.size := by
  have := h.walk.lo
  have := h.walk.lt
  omega
theorem LcAt.later (F : Five w5.heap.size ga gb db G mb) (h : LcAt B w w5 wr ga gb db G n la lb mb g cap b m) (hb : Below wr.heap.size wr w3) : LcAt B w w5 w3 ga gb db G n la lb mb g cap b m := by
  have s := h.sz
  have f1 := F.db_lt
  have f2 := F.G_lt
  have s2 := hb.size
  exact ⟨h.below.trans (hb.mono h.le), own_below h.ra hb, own_below h.rb hb, h.walk.below hb, (hb.block db (by omega)).trans h.sd, (hb.block G (by omega)).trans h.sG, h.na, h.nb, h.nd, h.nG, by omega⟩
theorem LcAt.turn (F : Five w5.heap.size ga gb db G mb) (h : LcAt B w w5 wr ga gb db G n la lb mb g cap b m) {g' cap' : Nat} {m' : M.Mc} (hm : WalkAt w3 B mb g' cap' b m') (hs : Spun wr w3 mb g g') : LcAt B w w5 w3 ga gb db G n la lb mb g' cap' b m' := by
  have s := h.sz
  have s2 := hs.size
  have K : ∀ q, q < w5.heap.size → q ≠ mb → q ≠ g → w3.heap[q]? = wr.heap[q]? := fun q h1 h2 h3 => hs.block q (by omega) h2 h3
  have N : ∀ q, q < w5.heap.size → q ≠ g → q ≠ g' := fun q h1 h2 => by
    rcases hs.new with e | e
    · omega
    · omega
  exact ⟨h.below.trans (hs.below h.walk.lo h.walk.glo.1 h.le),
    row_same h.ra (fun q hq => by simp [Value.ownBlock] at hq; subst hq; exact K _ F.ga_lt F.am h.na),
    row_same h.rb (fun q hq => by simp [Value.ownBlock] at hq; subst hq; exact K _ F.gb_lt F.bm h.nb), hm,
    (K _ F.db_lt F.dm h.nd).trans h.sd, (K _ F.G_lt F.Gm h.nG).trans h.sG, N _ F.ga_lt h.na, N _ F.gb_lt h.nb, N _ F.db_lt h.nd, N _ F.G_lt h.nG, by omega⟩
theorem setCell_block {w : World} {p k q : Nat} {u : Value} (h : q ≠ p) : (w.setCell ⟨p, k, none⟩ u).heap[q]? = w.heap[q]? := Below.heap_setCell _ _ _ _ h
theorem LcAt.storeA (F : Five w5.heap.size ga gb db G mb) (h : LcAt B w w5 wr ga gb db G n la lb mb g cap b m) (k : Nat) (x : Int) : LcAt B w w5 (wr.setCell ⟨ga, k, none⟩ (.int .i64 x)) ga gb db G n (la.set k x) lb mb g cap b m := by
  have s := h.sz
  have hlo := (World.ownsRow.lt h.ra ga rfl).1
  exact ⟨h.below.setCell (p := ⟨ga, k, none⟩) hlo _, by rw [List.map_set]; exact (World.ownsRow.stored h.ra k _).1, ownsRow_setCell_other h.rb (by simp [Value.ownBlock]; exact fun e => F.ab e.symm) _,
    h.walk.same (by simp [World.setCell]) (setCell_block F.am.symm) (setCell_block h.na.symm), (setCell_block F.ad.symm).trans h.sd, (setCell_block F.aG.symm).trans h.sG, h.na, h.nb, h.nd, h.nG, by simpa [World.setCell] using s⟩
theorem LcAt.storeB (F : Five w5.heap.size ga gb db G mb) (h : LcAt B w w5 wr ga gb db G n la lb mb g cap b m) (k : Nat) (x : Int) : LcAt B w w5 (wr.setCell ⟨gb, k, none⟩ (.int .i64 x)) ga gb db G n la (lb.set k x) mb g cap b m := by
  have s := h.sz
  have hlo := (World.ownsRow.lt h.rb gb rfl).1
  exact ⟨h.below.setCell (p := ⟨gb, k, none⟩) hlo _, ownsRow_setCell_other h.ra (by simp [Value.ownBlock]; exact F.ab) _, by rw [List.map_set]; exact (World.ownsRow.stored h.rb k _).1,
    h.walk.same (by simp [World.setCell]) (setCell_block F.bm.symm) (setCell_block h.nb.symm), (setCell_block F.bd.symm).trans h.sd, (setCell_block F.bG.symm).trans h.sG, h.na, h.nb, h.nd, h.nG, by simpa [World.setCell] using s⟩
end
structure LcRel (b : Int) (l : List Int) (B : Nat) (w w5 wr : World) (ga gb db G n k : Nat) (ps : List (Int × Int)) (mb g cap : Nat) (m : M.Mc) : Prop where
  len : ps.length = k
  run : M.run b (M.fresh b) l = ps ++ M.run b m (l.drop k)
  fit : m.Fit b k
  ov : m.Ov
  at_ : LcAt B w w5 wr ga gb db G n (ps.map Prod.fst ++ List.replicate (n - k) 0) (ps.map Prod.snd ++ List.replicate (n - k) 0) mb g cap b m
theorem fill_one (ps : List Int) (n k : Nat) (x : Int) (h : ps.length = k) (hk : k < n) : (ps ++ List.replicate (n - k) 0).set k x = (ps ++ [x]) ++ List.replicate (n - (k + 1)) 0 := by
  obtain ⟨m, hm⟩ : ∃ m, n - k = m + 1 := ⟨n - k - 1, by omega⟩
  rw [hm, List.set_append_right _ _ (by omega), h, Nat.sub_self, List.replicate_succ, List.set_cons_zero, show n - (k + 1) = m by omega, List.append_assoc]
  rfl
theorem LcRel.step {b : Int} {l : List Int} {B : Nat} {w w5 wr w' : World} {ga gb db G n k : Nat} {ps : List (Int × Int)} {mb g cap g' cap' : Nat} {m m' : M.Mc} {x c y z odd : Int} (h : LcRel b l B w w5 wr ga gb db G n k ps mb g cap m) (hx : l[k]? = some x) (hc : M.known x = c) (hb : b ≤ 125)
    (hl : m.lev b c = y) (hz : m.cls c = z) (ho : M.begins c = true → M.dir c (l.drop (k + 1)) = odd) (ht : m.turn b odd c = m') (hk : k < n)
    (L : LcAt B w w5 w' ga gb db G n ((ps.map Prod.fst ++ List.replicate (n - k) 0).set k y) ((ps.map Prod.snd ++ List.replicate (n - k) 0).set k z) mb g' cap' b m') : LcRel b l B w w5 w' ga gb db G n (k + 1) (ps ++ [(y, z)]) mb g' cap' m' := by
  subst hc hl hz ht
  have hk2 := (List.getElem?_eq_some_iff.1 hx).1
  have hd : l.drop k = x :: l.drop (k + 1) := by
    rw [List.drop_eq_getElem_cons hk2]
    congr 1
    rw [List.getElem?_eq_getElem hk2] at hx
    exact Option.some.inj hx
  have hodd : m.turn b odd (M.known x) = m.turn b (M.dir (M.known x) (l.drop (k + 1))) (M.known x) := by
    cases hbg : M.begins (M.known x) with
    | true => rw [ho hbg]
    | false => exact turn_odd hbg
  rw [fill_one _ _ _ _ (by rw [List.length_map]; exact h.len) hk, fill_one _ _ _ _ (by rw [List.length_map]; exact h.len) hk] at L
  refine ⟨by rw [List.length_append, h.len]; rfl, ?_, h.fit.turn hb _, h.ov.turn _ _ _, by rw [List.map_append, List.map_append]; exact L⟩
  rw [h.run, hd, List.append_assoc, hodd]
  rfl
end Go.Proofs.YtjlfgojblimobaaGreat
end
