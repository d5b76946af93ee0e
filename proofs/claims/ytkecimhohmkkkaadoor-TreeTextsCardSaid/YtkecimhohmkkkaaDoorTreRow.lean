/- Layer 4: Row. -/
import Derived.Test.YtkecimhohmkkkaaDoorTreCnt
namespace Go.Proofs.YtkecimhohmkkkaaDoor.tre
open Go.RowKit Go.Shelf

/-- An item of a row. -/
structure It where
  d : Int
  kind : Int
  int : Int
  key : ByteArray
  text : ByteArray
def cellsI (x : It) : List Value := [.int .i64 x.d, .int .i64 x.kind, .int .i64 x.int, .string x.key, .string x.text]
def flatI (l : List It) : List Value := (l.map cellsI).flatten
theorem flatI_snoc (l : List It) (x : It) : flatI (l ++ [x]) = flatI l ++ cellsI x := by simp [flatI]
theorem flatI_len (l : List It) : (flatI l).length = l.length * 5 := by
  unfold flatI
  rw [List.length_flatten, List.map_map, show (List.length ∘ cellsI) = fun _ => 5 from funext fun _ => rfl]
  induction l with
  | nil => rfl
  | cons x l ih => simp only [List.map_cons, List.sum_cons, List.length_cons]; omega
def itOf (v : V) (key : ByteArray) (d : Int) : It := ⟨d, v.kind, v.int, key, v.text⟩
def rowN (l : List It) (v : V) (key : ByteArray) (d : Int) : Bool × List It := (true, l ++ [itOf v key d])

theorem info_item : (Tryd.prog.info? 58).map (fun i => (i.zero, i.size, i.bytes)) = some (some (.agg #[.int .i64 0, .int .i64 0, .int .i64 0, .string ByteArray.empty, .string ByteArray.empty]), 5, 56) := by kernel_rfl
theorem info_of {e : TypeId} {z : Value} {n b : Nat} (h : (Tryd.prog.info? e).map (fun i => (i.zero, i.size, i.bytes)) = some (some z, n, b)) : ∃ i, Tryd.prog.info? e = some i ∧ i.zero = some z ∧ i.size = n ∧ i.bytes = b := by
  cases hi : Tryd.prog.info? e with
  | none => rw [hi] at h; cases h
  | some i =>
    rw [hi] at h
    simp only [Option.map_some, Option.some.injEq, Prod.mk.injEq] at h
    exact ⟨i, rfl, h.1, h.2.1, h.2.2⟩

/-- The state: the items that stand in the slice in block B; its row lies behind that. -/
def RowInv (B : Nat) (T : TypeId) (l : List It) (W : World) : Prop :=
  ∃ sl : Sl, W.heap[B]? = some (.cells #[.slice sl.a sl.n sl.c] T (0, 0)) ∧ W.ownsRow (B + 1) 58 5 (.slice sl.a sl.n sl.c) l.length (flatI l)
def RowOwn (B : Nat) (T : TypeId) (_ : List It) (W : World) (b : Nat) : Prop :=
  b = B ∨ ∃ sl : Sl, W.heap[B]? = some (.cells #[.slice sl.a sl.n sl.c] T (0, 0)) ∧ (Value.slice sl.a sl.n sl.c).ownBlock = some b ∧ b < W.heap.size
theorem slice_one {W : World} {B : Nat} {T : TypeId} {sl sm : Sl} (h : W.heap[B]? = some (.cells #[.slice sl.a sl.n sl.c] T (0, 0))) (k : W.heap[B]? = some (.cells #[.slice sm.a sm.n sm.c] T (0, 0))) : sl = sm := by
  rw [h] at k
  obtain ⟨a, n, c⟩ := sl
  obtain ⟨a', n', c'⟩ := sm
  simpa using k
theorem vst_row (B : Nat) (T : TypeId) : Vst (RowInv B T) (RowOwn B T) :=
  ⟨fun _ w _ h hb => by
    obtain ⟨sl, h1, h2⟩ := h
    exact ⟨sl, (hb.block B (Array.getElem?_eq_some_iff.1 h1).1).trans h1, h2.kept (row := none) ⟨hb.os, hb.tape, hb.output, hb.size, fun k hk _ => hb.block k hk⟩ (Classical.em _)⟩,
   fun _ _ b h hb => by
    obtain ⟨sl, h1, h2⟩ := h
    rcases hb with rfl | ⟨_, _, _, hlt⟩
    · exact (Array.getElem?_eq_some_iff.1 h1).1
    · exact hlt,
   fun _ w w' b h hb ho => by
    obtain ⟨sl, h1, h2⟩ := h
    have h1' := (hb.block B (Array.getElem?_eq_some_iff.1 h1).1).trans h1
    rcases ho with rfl | ⟨sm, h3, h4, _⟩
    · exact .inl rfl
    · obtain rfl := slice_one h1' h3
      exact .inr ⟨sl, h1, h4, (h2.lt b h4).2⟩⟩

set_option maxRecDepth 100000 in
set_option maxHeartbeats 2000000 in
theorem visits_row (N B : Nat) (hN : N ≤ 100000) (T : TypeId) : Visits (fun _ => True) (fun l => l.length) N (RowInv B T) (RowOwn B T) 43 #[.pointer (some ⟨B, 0, none⟩)] rowN := by
  refine ⟨enters_of Tryd.func43 (by kernel_rfl) rfl, fun s v k d => by simp [rowN], fun v key d S l W r t _ hlN _ _ hi _ _ => ?_⟩
  replace hlN : l.length < N := hlN
  obtain ⟨i0, hi0, hz0, hz1, hz2⟩ := info_of info_item
  obtain ⟨sl, h1, hown⟩ := hi
  obtain ⟨sa, sn, sc⟩ := sl
  simp only at h1 hown
  have hl := (Array.getElem?_eq_some_iff.1 h1).1
  have c0 : W.cell? ⟨B, 0, none⟩ = some (.slice sa sn sc) := by rw [blk_cell h1]; rfl
  have f0 := blk_frozen h1 0
  have hownA := fun o1 o2 => (hown.alloc o1).alloc o2
  have Hnews := Lib.hid (fun (o : Obj) => World.news_of_block (w := (W.alloc o).alloc (.cells #[.int .i64 d, .int .i64 v.kind, .int .i64 v.int, .string key, .string v.text] 58)) (B := W.heap.size + 1) (by
    have := block_new (W.alloc o) (.cells #[.int .i64 d, .int .i64 v.kind, .int .i64 v.int, .string key, .string v.text] 58)
    rw [size_alloc] at this
    exact this))
  have H := Lib.hid (And.intro h1 hown)
  clear h1 hown
  go_enter Tryd.func43, Tryd.ntmps43
  go_wp2_with (at_builtin; refine wpList_append_own_at _ rfl _ _ 22 rfl (B + 1) 58 i0 _ 5 56 Tryd.underlying22 hi0 hz0 hz1 hz2 rfl (by decide) _ _ _ rfl (hownA _ _) _ 1 1 [.int .i64 d, .int .i64 v.kind, .int .i64 v.int, .string key, .string v.text] rfl rfl (Hnews.out _) (by simp [Value.oneCell']) (by unfold maxLen; omega) (by omega) (by simp; omega) ?_; intro v' w1 hown1 hgrow1 _ hat1; obtain ⟨g', cap', rfl, _, _⟩ := hown1.form (by omega); have hB1 := (hgrow1.block B (by simp; omega) (fun e => by have := (H.out.2.lt B e.symm).1; omega)).trans ((block_old (by simp; omega)).trans ((block_old hl).trans H.out.1)); have c1 : w1.cell? ⟨B, 0, none⟩ = some (.slice sa sn sc) := (by rw [blk_cell hB1]; rfl); have f1 := blk_frozen hB1 0; have l1 := (Array.getElem?_eq_some_iff.1 hB1).1)
  go_wp2
  go_ret
  have hb2 : Below W.heap.size W ((W.alloc (.cells #[.int .i64 v.kind, .int .i64 v.int, .string v.text, .slice r.a r.n r.c, .slice t.a t.n t.c] 28)).alloc (.cells #[.int .i64 d, .int .i64 v.kind, .int .i64 v.int, .string key, .string v.text] 58)) :=
    ((Below.refl _ _).alloc (Nat.le_refl _) _).alloc (by rw [size_alloc]; omega) _
  have hkeep : Keeps (RowOwn B T l W) W w1 := by
    refine (Keeps.of_below hb2).trans (Y := fun k => (Value.slice sa sn sc).ownBlock = some k) ⟨hgrow1.os, hgrow1.tape, hgrow1.output, hgrow1.size, fun k hk hne => hgrow1.block k hk (fun e => hne e.symm)⟩ (fun k hk => ?_)
    exact .inl (.inr ⟨⟨sa, sn, sc⟩, H.out.1, hk, (H.out.2.lt k hk).2⟩)
  refine ⟨rfl, ⟨⟨⟨some ⟨g', 0, none⟩, l.length + 1, cap'⟩, blk_set hB1 0 _, ?_⟩, ?_, hkeep.set (a := ⟨B, 0, none⟩) (show RowOwn B T l W B from .inl rfl) _⟩⟩
  · have := ownsRow_setCell_below hown1 (a := ⟨B, 0, none⟩) (by simp) (.slice (some ⟨g', 0, none⟩) (l.length + 1) cap')
    show World.ownsRow _ _ _ _ _ (l ++ [itOf v key d]).length (flatI (l ++ [itOf v key d]))
    rw [List.length_append, List.length_singleton, flatI_snoc]
    exact this
  · rintro b (rfl | ⟨sm, h3, h4, _⟩)
    · exact .inl (.inl rfl)
    · have e := slice_one (sl := ⟨some ⟨g', 0, none⟩, l.length + 1, cap'⟩) (blk_set hB1 0 (.slice (some ⟨g', 0, none⟩) (l.length + 1) cap')) h3
      subst e
      rcases hat1 with e | e
      · have h5 := e.symm.trans h4
        exact .inl (.inr ⟨⟨sa, sn, sc⟩, H.out.1, h5, (H.out.2.lt b h5).2⟩)
      · rw [h4] at e
        injection e with e
        right; rw [e, size_alloc, size_alloc]; omega

/-- A value's row. -/
def rowV : V → Int → ByteArray → List It := V.fold fun v a b d key => itOf v key d :: (a.flatMap (fun h => h (d + 1) ⟨#[]⟩) ++ b.flatMap fun g => g.2 (d + 1) g.1)
theorem rowV_eq (v : V) (d : Int) (key : ByteArray) : rowV v d key = itOf v key d :: (v.list.flatMap (fun x => rowV x (d + 1) ⟨#[]⟩) ++ v.fields.flatMap fun g => rowV g.2 (d + 1) g.1) := by
  have := V.fold_eq (α := Int → ByteArray → List It) (fun v a b d key => itOf v key d :: (a.flatMap (fun h => h (d + 1) ⟨#[]⟩) ++ b.flatMap fun g => g.2 (d + 1) g.1)) v
  have h2 := congrFun (congrFun this d) key
  rw [List.flatMap_map, List.flatMap_map] at h2
  exact h2
theorem walk_row : ∀ (v : V) (key : ByteArray) (d : Int) (s : List It), walkS rowN v key d s = (true, s ++ rowV v d key) := V.ind fun v ihl ihf => by
  intro key d s
  have hl : ∀ (l : List V), (∀ x ∈ l, x ∈ v.list) → ∀ s, allS (inL rowN d) s l = (true, s ++ l.flatMap fun x => rowV x (d + 1) ⟨#[]⟩) := by
    intro l
    induction l with
    | nil => intro _ s; simp [allS]
    | cons x l ih =>
      intro hm s
      unfold allS
      have hx : inL rowN d s x = (true, s ++ rowV x (d + 1) ⟨#[]⟩) := ihl x (hm x (by simp)) _ _ _
      rw [hx]
      simp only [if_true]
      rw [ih (fun y hy => hm y (by simp [hy]))]
      simp
  have hf : ∀ (l : List (ByteArray × V)), (∀ x ∈ l, x ∈ v.fields) → ∀ s, allS (inF rowN d) s l = (true, s ++ l.flatMap fun g => rowV g.2 (d + 1) g.1) := by
    intro l
    induction l with
    | nil => intro _ s; simp [allS]
    | cons x l ih =>
      intro hm s
      unfold allS
      have hx : inF rowN d s x = (true, s ++ rowV x.2 (d + 1) x.1) := ihf x (hm x (by simp)) _ _ _
      rw [hx]
      simp only [if_true]
      rw [ih (fun y hy => hm y (by simp [hy]))]
      simp
  rw [walkS_eq, rowV_eq]
  have e0 : rowN s v key d = (true, s ++ [itOf v key d]) := rfl
  rw [e0]
  simp only [if_true]
  rw [hl v.list (fun _ h => h)]
  simp only [if_true]
  rw [hf v.fields (fun _ h => h)]
  simp
theorem rowV_len : ∀ (v : V) (d : Int) (key : ByteArray), (rowV v d key).length = countV v := V.ind fun v ihl ihf => by
  intro d key
  rw [rowV_eq, countV_eq]
  have hl : ∀ (l : List V), (∀ x ∈ l, x ∈ v.list) → (l.flatMap fun x => rowV x (d + 1) ⟨#[]⟩).length = sumN (l.map countV) := by
    intro l
    induction l with
    | nil => intro _; rfl
    | cons x l ih => intro hm; rw [List.flatMap_cons, List.length_append, ihl x (hm x (by simp)), ih (fun y hy => hm y (by simp [hy]))]; rfl
  have hf : ∀ (l : List (ByteArray × V)), (∀ x ∈ l, x ∈ v.fields) → (l.flatMap fun g => rowV g.2 (d + 1) g.1).length = sumN (l.map fun g => countV g.2) := by
    intro l
    induction l with
    | nil => intro _; rfl
    | cons x l ih => intro hm; rw [List.flatMap_cons, List.length_append, ihf x (hm x (by simp)), ih (fun y hy => hm y (by simp [hy]))]; rfl
  rw [List.length_cons, List.length_append, hl _ (fun _ h => h), hf _ (fun _ h => h)]

theorem own_mono {w : World} {B B' : Nat} {e : TypeId} {size : Nat} {v : Value} {n : Nat} {xs : List Value} (h : w.ownsRow B e size v n xs) (hB : B' ≤ B) : w.ownsRow B' e size v n xs := by
  obtain ⟨h1, h2⟩ := h
  refine ⟨h1, ?_⟩
  rcases h2 with h2 | ⟨g, cap, cur, hv, hg, r⟩
  · exact .inl h2
  · exact .inr ⟨g, cap, cur, hv, Nat.le_trans hB hg, r⟩
/-- Row. -/
theorem Row_any (v : V) (hc : countV v ≤ 100000) (hv : depthV v < 4611686018427387904) (S : Nat → Prop) (W : World) (r t : Sl) (hS : ∀ g, S g → g < W.heap.size) (hh : HV S W v r t) :
    Calls Tryd.prog 17 #[.agg #[.int .i64 v.kind, .int .i64 v.int, .string v.text, .slice r.a r.n r.c, .slice t.a t.n t.c]] W fun e w' => ∃ sl : Sl, e = .returned (.slice sl.a sl.n sl.c) ∧
      w'.ownsRow W.heap.size 58 5 (.slice sl.a sl.n sl.c) (rowV v 0 ⟨#[]⟩).length (flatI (rowV v 0 ⟨#[]⟩)) ∧ Below W.heap.size W w' := by
  have hb2 : ∀ o1 o2, Below W.heap.size W ((W.alloc o1).alloc o2) := fun o1 o2 => ((Below.refl _ _).alloc (Nat.le_refl _) o1).alloc (by rw [size_alloc]; omega) o2
  have hcell : ∀ o1 T, ((W.alloc o1).alloc (.cells #[.slice none 0 0] T)).heap[W.heap.size + 1]? = some (.cells #[.slice none 0 0] T (0, 0)) := fun o1 T => by have := block_new (W.alloc o1) (.cells #[.slice none 0 0] T); rwa [size_alloc] at this
  have hcall := fun o1 T => walk_any (fun _ _ => ⟨fun _ _ => trivial, fun _ _ => trivial⟩) (s := ([] : List It)) (vst_row (W.heap.size + 1) T) (visits_row (countV v) (W.heap.size + 1) hc T) v trivial (Nat.le_of_eq (Nat.zero_add _)) hv S ((W.alloc o1).alloc (.cells #[.slice none 0 0] T)) r t
    ⟨⟨none, 0, 0⟩, hcell o1 T, World.ownsRow_nil _ _ _ _⟩
    (fun g hg => ⟨Nat.lt_of_lt_of_le (hS g hg) (hb2 _ _).size, fun e => by
      have := hS g hg
      rcases e with e | ⟨sl, h1, h2, _⟩
      · omega
      · obtain rfl := slice_one (sl := ⟨none, 0, 0⟩) (hcell o1 T) h1
        simp [Value.ownBlock] at h2⟩) (hh.later (hb2 _ _))
  rw [walk_row v ⟨#[]⟩ 0 []] at hcall
  simp only [List.nil_append] at hcall
  have Hb := Lib.hid (And.intro hb2 hcell)
  clear hh hS hb2 hc hv hcell
  go_enter Tryd.func17, Tryd.ntmps17
  go_wp2_with fail
  refine (hcall _ _).mono ?_
  rintro e w1 ⟨rfl, hs1⟩
  obtain ⟨sl, h1, h2⟩ := hs1.inv
  have c0 : w1.cell? ⟨W.heap.size + 1, 0, none⟩ = some (.slice sl.a sl.n sl.c) := by rw [blk_cell h1]; rfl
  have H2 := Lib.hid (And.intro hs1 h2)
  clear hs1 h1 h2 hcall
  go_wp2
  go_ret
  refine ⟨sl, rfl, own_mono H2.out.2 (by omega), (Hb.out.1 _ _).trans (H2.out.1.keeps.below (fun k hk => ?_) (Hb.out.1 _ _).size)⟩
  rcases hk with rfl | ⟨sm, h3, h4, _⟩
  · omega
  · obtain rfl := slice_one (sl := ⟨none, 0, 0⟩) (Hb.out.2 _ _) h3
    simp [Value.ownBlock] at h4
end Go.Proofs.YtkecimhohmkkkaaDoor.tre
