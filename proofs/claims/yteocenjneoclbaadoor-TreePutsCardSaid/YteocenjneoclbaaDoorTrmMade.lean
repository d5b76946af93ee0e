/- Layer 4: the document's own made. Layer 4: the document's own made, walked. Layer 4: what read makes of a row, plain, and that it is what the document's made makes. Layer 4: the boxes that read's own function goes by. -/
import Derived.BigRegion
import Derived.Test.YteocenjneoclbaaDoorTrmBldPre
import Derived.Test.YteocenjneoclbaaDoorTrmCnt
namespace Go.Proofs.YteocenjneoclbaaDoor.tre
open Go.RowKit Go.Shelf

/-- A value that is being made: its two rows lie from block B on, and what is in them lies in other blocks from there on. -/
def MV (B : Nat) (w : World) (m : V) (p q : Sl) (xss zss : List (List Value)) : Prop :=
  RowC (fun g => B ≤ g) w 27 5 m.list.length p xss ∧ RowC (fun g => B ≤ g) w 31 6 m.fields.length q zss ∧ (∀ k, p.val.ownBlock = some k → q.val.ownBlock ≠ some k) ∧
  AllZ (Lies (fun k => B ≤ k ∧ p.val.ownBlock ≠ some k ∧ q.val.ownBlock ≠ some k) w) m.list xss ∧
  AllZ (fun (g : ByteArray × V) xs => ∃ ys, xs = .string g.1 :: ys ∧ Lies (fun k => B ≤ k ∧ p.val.ownBlock ≠ some k ∧ q.val.ownBlock ≠ some k) w g.2 ys) m.fields zss
theorem MV.hv {B : Nat} {w : World} {m : V} {p q : Sl} {xss zss : List (List Value)} (h : MV B w m p q xss zss) : HV (fun k => B ≤ k) w m p q := by
  obtain ⟨h1, h2, _, h3, h4⟩ := h
  refine ⟨⟨xss, h1, fun i x y hx hy => Lies.map (fun k hk _ => ⟨hk.1, rfl⟩) _ _ (h3 i x y hx hy)⟩, zss, h2, fun i x y hx hy => ?_⟩
  obtain ⟨ys, e, hl⟩ := h4 i x y hx hy
  exact ⟨ys, e, Lies.map (fun k hk _ => ⟨hk.1, rfl⟩) _ _ hl⟩
theorem MV.map {B : Nat} {w w' : World} {m : V} {p q : Sl} {xss zss : List (List Value)} (h : MV B w m p q xss zss) (hk : ∀ k, B ≤ k → k < w.heap.size → w'.heap[k]? = w.heap[k]?) : MV B w' m p q xss zss := by
  obtain ⟨h1, h2, h3, h4, h5⟩ := h
  refine ⟨h1.map (fun k hb hl => ⟨hb, hk k hb hl⟩), h2.map (fun k hb hl => ⟨hb, hk k hb hl⟩), h3, fun i x y hx hy => Lies.map (fun k hb hl => ⟨hb, hk k hb.1 hl⟩) _ _ (h4 i x y hx hy), fun i x y hx hy => ?_⟩
  obtain ⟨ys, e, hl⟩ := h5 i x y hx hy
  exact ⟨ys, e, Lies.map (fun k hb hl => ⟨hb, hk k hb.1 hl⟩) _ _ hl⟩
theorem MV.leaf (B : Nat) (w : World) (x : It) : MV B w (leafV x) ⟨none, 0, 0⟩ ⟨none, 0, 0⟩ [] [] :=
  ⟨⟨rfl, by simp, World.ownsRow_nil _ _ _ _, fun g h => by simp [Sl.val, Value.ownBlock] at h⟩, ⟨rfl, by simp, World.ownsRow_nil _ _ _ _, fun g h => by simp [Sl.val, Value.ownBlock] at h⟩, fun k h => by simp [Sl.val, Value.ownBlock] at h, fun i x y h => by simp [leafV, V.list] at h, fun i x y h => by simp [leafV, V.fields] at h⟩
/-- A value of which the two rows lie apart from what is in them, all from block B on. -/
def HM (B : Nat) (w : World) (v : V) (p q : Sl) : Prop := ∃ xss zss, MV B w v p q xss zss
theorem HM.hv {B : Nat} {w : World} {v : V} {p q : Sl} (h : HM B w v p q) : HV (fun k => B ≤ k) w v p q := by
  obtain ⟨xss, zss, h⟩ := h
  exact h.hv
theorem HM.map {B B' : Nat} {w w' : World} {v : V} {p q : Sl} (h : HM B w v p q) (hk : ∀ k, B ≤ k → k < w.heap.size → B' ≤ k ∧ w'.heap[k]? = w.heap[k]?) : HM B' w' v p q := by
  obtain ⟨xss, zss, h1, h2, h3, h4, h5⟩ := h
  refine ⟨xss, zss, h1.map hk, h2.map hk, h3, fun i x y hx hy => Lies.map (fun k hb hl => ⟨⟨(hk k hb.1 hl).1, hb.2⟩, (hk k hb.1 hl).2⟩) _ _ (h4 i x y hx hy), fun i x y hx hy => ?_⟩
  obtain ⟨ys, e, hl⟩ := h5 i x y hx hy
  exact ⟨ys, e, Lies.map (fun k hb hl => ⟨⟨(hk k hb.1 hl).1, hb.2⟩, (hk k hb.1 hl).2⟩) _ _ hl⟩
theorem HM.none (B : Nat) (w : World) (k i : Int) (t : ByteArray) : HM B w (.mk k i t [] []) ⟨.none, 0, 0⟩ ⟨.none, 0, 0⟩ :=
  ⟨[], [], MV.leaf B w ⟨0, k, i, t, t⟩⟩
theorem allZ_snoc {α β : Type _} {R : α → β → Prop} {l : List α} {m : List β} (hl : m.length = l.length) (h : AllZ R l m) {x : α} {y : β} (hxy : R x y) : AllZ R (l ++ [x]) (m ++ [y]) := by
  intro i a b ha hb
  by_cases hi : i < l.length
  · rw [List.getElem?_append_left hi] at ha
    rw [List.getElem?_append_left (by omega)] at hb
    exact h i a b ha hb
  · have hi2 : i < (l ++ [x]).length := (List.getElem?_eq_some_iff.1 ha).1
    rw [List.length_append, List.length_singleton] at hi2
    obtain rfl : i = l.length := by omega
    rw [List.getElem?_append_right (Nat.le_refl _), Nat.sub_self] at ha
    rw [List.getElem?_append_right (by omega), hl, Nat.sub_self] at hb
    simp only [List.getElem?_cons_zero, Option.some.injEq] at ha hb
    subst ha hb
    exact hxy
theorem own_base {w : World} {B : Nat} {e : TypeId} {size : Nat} {v : Value} {n : Nat} {xs : List Value} (h : w.ownsRow 0 e size v n xs) (hB : ∀ g, v.ownBlock = some g → B ≤ g) : w.ownsRow B e size v n xs := by
  obtain ⟨h1, h2⟩ := h
  refine ⟨h1, ?_⟩
  rcases h2 with h2 | ⟨g, cap, cur, hv, hg, r⟩
  · exact .inl h2
  · exact .inr ⟨g, cap, cur, hv, hB g (by rw [hv]; rfl), r⟩
theorem own_zero {w : World} {B : Nat} {e : TypeId} {size : Nat} {v : Value} {n : Nat} {xs : List Value} (h : w.ownsRow B e size v n xs) : w.ownsRow 0 e size v n xs := by
  obtain ⟨h1, h2⟩ := h
  refine ⟨h1, ?_⟩
  rcases h2 with h2 | ⟨g, cap, cur, hv, _, r⟩
  · exact .inl h2
  · exact .inr ⟨g, cap, cur, hv, Nat.zero_le _, r⟩
theorem RowC.keep {S : Nat → Prop} {w w' : World} {e : TypeId} {size n : Nat} {p : Sl} {xss : List (List Value)} (h : RowC S w e size n p xss) (hk : ∀ g, p.val.ownBlock = some g → g < w.heap.size → w'.heap[g]? = w.heap[g]?) : RowC S w' e size n p xss := by
  obtain ⟨h1, h2, h3, h4⟩ := h
  refine ⟨h1, h2, ⟨h3.1, ?_⟩, h4⟩
  rcases h3.2 with h0 | ⟨g, cap, cur, hv, hb, hg, r⟩
  · exact .inl h0
  · exact .inr ⟨g, cap, cur, hv, hb, (hk g (by rw [hv]; rfl) (h3.lt g (by rw [hv]; rfl)).2).trans hg, r⟩
/-- One more value behind the list. -/
theorem MV.list {B : Nat} {w w5 w6 w7 : World} {m x : V} {p q p' px qx : Sl} {xss zss : List (List Value)} (h : MV B w m p q xss zss) (hBw : B ≤ w.heap.size) (hb : Below w.heap.size w w5) (hx : HV (fun g => w.heap.size ≤ g ∧ g < w5.heap.size) w5 x px qx)
    (hown : w6.ownsRow B 27 5 p'.val (m.list.length + 1) (xss.flatten ++ cellsV x px qx)) (hg : w5.grownBy w6 p.val.ownBlock) (hat : p'.val.ownBlock = p.val.ownBlock ∨ p'.val.ownBlock = some w5.heap.size)
    (hfar : ∀ k, B ≤ k → w7.heap[k]? = w6.heap[k]?) : MV B w7 (addL m x) p' q (xss ++ [cellsV x px qx]) zss := by
  obtain ⟨h1, h2, h3, h4, h5⟩ := h
  have hpl : ∀ k, p.val.ownBlock = some k → k < w.heap.size := fun k e => (h1.2.2.1.lt k e).2
  have hql : ∀ k, q.val.ownBlock = some k → k < w.heap.size := fun k e => (h2.2.2.1.lt k e).2
  have hsz := hb.size
  have keep : ∀ k, B ≤ k → k < w.heap.size → p.val.ownBlock ≠ some k → w7.heap[k]? = w.heap[k]? := fun k hk hl hp =>
    (hfar k hk).trans ((hg.block k (by omega) (fun e => hp e.symm)).trans (hb.block k hl))
  have hne : ∀ k, B ≤ k → k < w5.heap.size → p.val.ownBlock ≠ some k → p'.val.ownBlock ≠ some k := fun k _ hl hp e => by
    rcases hat with a | a
    · exact hp (a.symm.trans e)
    · rw [a] at e; injection e with e; omega
  have hmap : ∀ k, (B ≤ k ∧ p.val.ownBlock ≠ some k ∧ q.val.ownBlock ≠ some k) → k < w.heap.size → (B ≤ k ∧ p'.val.ownBlock ≠ some k ∧ q.val.ownBlock ≠ some k) ∧ w7.heap[k]? = w.heap[k]? := fun k hk hl =>
    ⟨⟨hk.1, hne k hk.1 (by omega) hk.2.1, hk.2.2⟩, keep k hk.1 hl hk.2.1⟩
  refine ⟨⟨?_, ?_, ?_, ?_⟩, ?_, ?_, ?_, ?_⟩
  · show _ = (m.list ++ [x]).length; simp [h1.1]
  · intro xs hxs
    rcases List.mem_append.1 hxs with hxs | hxs
    · exact h1.2.1 xs hxs
    · rw [List.mem_singleton] at hxs; rw [hxs]; rfl
  · show World.ownsRow _ _ _ _ _ (m.list ++ [x]).length _
    rw [List.length_append, List.length_singleton, List.flatten_append, List.flatten_singleton]
    rcases hown.2 with e | ⟨g, cap, cur, hv, hbg, hgg, r⟩
    · exact ⟨hown.1, .inl e⟩
    · exact ⟨hown.1, .inr ⟨g, cap, cur, hv, Nat.zero_le _, (hfar g hbg).trans hgg, r⟩⟩
  · exact fun k e => (hown.lt k e).1
  · exact h2.keep (fun k hk hl => keep k (h2.2.2.2 k hk) hl (fun e => h3 k e hk))
  · intro k e e2
    rcases hat with a | a
    · exact h3 k (a.symm.trans e) e2
    · rw [a] at e; injection e with e; have := hql k e2; omega
  · refine allZ_snoc h1.1 (fun i y cs hy hc => Lies.map hmap y cs (h4 i y cs hy hc)) (Lies.map (fun k hk hl => ⟨⟨by omega, hne k (by omega) hk.2 (fun e => by have := hpl k e; omega), fun e => by have := hql k e; omega⟩, (hfar k (by omega)).trans (hg.block k hl (fun e => by have := hpl k e.symm; omega))⟩) x _ hx.lies)
  · intro i y cs hy hc
    obtain ⟨ys, e, hl⟩ := h5 i y cs hy hc
    exact ⟨ys, e, Lies.map hmap _ _ hl⟩
/-- One more field behind the others. -/
theorem MV.field {B : Nat} {w w5 w6 w7 : World} {m x : V} {ky : ByteArray} {p q q' px qx : Sl} {xss zss : List (List Value)} (h : MV B w m p q xss zss) (hBw : B ≤ w.heap.size) (hb : Below w.heap.size w w5) (hx : HV (fun g => w.heap.size ≤ g ∧ g < w5.heap.size) w5 x px qx)
    (hown : w6.ownsRow B 31 6 q'.val (m.fields.length + 1) (zss.flatten ++ cellsF (ky, x) px qx)) (hg : w5.grownBy w6 q.val.ownBlock) (hat : q'.val.ownBlock = q.val.ownBlock ∨ q'.val.ownBlock = some w5.heap.size)
    (hfar : ∀ k, B ≤ k → w7.heap[k]? = w6.heap[k]?) : MV B w7 (addF m ky x) p q' xss (zss ++ [cellsF (ky, x) px qx]) := by
  obtain ⟨h1, h2, h3, h4, h5⟩ := h
  have hpl : ∀ k, p.val.ownBlock = some k → k < w.heap.size := fun k e => (h1.2.2.1.lt k e).2
  have hql : ∀ k, q.val.ownBlock = some k → k < w.heap.size := fun k e => (h2.2.2.1.lt k e).2
  have hsz := hb.size
  have keep : ∀ k, B ≤ k → k < w.heap.size → q.val.ownBlock ≠ some k → w7.heap[k]? = w.heap[k]? := fun k hk hl hp =>
    (hfar k hk).trans ((hg.block k (by omega) (fun e => hp e.symm)).trans (hb.block k hl))
  have hne : ∀ k, B ≤ k → k < w5.heap.size → q.val.ownBlock ≠ some k → q'.val.ownBlock ≠ some k := fun k _ hl hp e => by
    rcases hat with a | a
    · exact hp (a.symm.trans e)
    · rw [a] at e; injection e with e; omega
  have hmap : ∀ k, (B ≤ k ∧ p.val.ownBlock ≠ some k ∧ q.val.ownBlock ≠ some k) → k < w.heap.size → (B ≤ k ∧ p.val.ownBlock ≠ some k ∧ q'.val.ownBlock ≠ some k) ∧ w7.heap[k]? = w.heap[k]? := fun k hk hl =>
    ⟨⟨hk.1, hk.2.1, hne k hk.1 (by omega) hk.2.2⟩, keep k hk.1 hl hk.2.2⟩
  refine ⟨?_, ⟨?_, ?_, ?_, ?_⟩, ?_, ?_, ?_⟩
  · exact h1.keep (fun k hk hl => keep k (h1.2.2.2 k hk) hl (fun e => h3 k hk e))
  · show _ = (m.fields ++ [(ky, x)]).length; simp [h2.1]
  · intro xs hxs
    rcases List.mem_append.1 hxs with hxs | hxs
    · exact h2.2.1 xs hxs
    · rw [List.mem_singleton] at hxs; rw [hxs]; rfl
  · show World.ownsRow _ _ _ _ _ (m.fields ++ [(ky, x)]).length _
    rw [List.length_append, List.length_singleton, List.flatten_append, List.flatten_singleton]
    rcases hown.2 with e | ⟨g, cap, cur, hv, hbg, hgg, r⟩
    · exact ⟨hown.1, .inl e⟩
    · exact ⟨hown.1, .inr ⟨g, cap, cur, hv, Nat.zero_le _, (hfar g hbg).trans hgg, r⟩⟩
  · exact fun k e => (hown.lt k e).1
  · intro k e e2
    rcases hat with a | a
    · exact h3 k e (a.symm.trans e2)
    · rw [a] at e2; injection e2 with e2; have := hpl k e; omega
  · exact fun i y cs hy hc => Lies.map hmap y cs (h4 i y cs hy hc)
  · refine allZ_snoc h2.1 (fun i y cs hy hc => ?_) ⟨cellsV x px qx, rfl, Lies.map (fun k hk hl => ⟨⟨by omega, fun e => by have := hpl k e; omega, hne k (by omega) hk.2 (fun e => by have := hql k e; omega)⟩, (hfar k (by omega)).trans (hg.block k hl (fun e => by have := hql k e.symm; omega))⟩) x _ hx.lies⟩
    obtain ⟨ys, e, hl⟩ := h5 i y cs hy hc
    exact ⟨ys, e, Lies.map hmap _ _ hl⟩
end Go.Proofs.YteocenjneoclbaaDoor.tre
namespace Go.Proofs.YteocenjneoclbaaDoor.tre
open Go.RowKit Go.Shelf

theorem size_M : (Tryd.prog.info? 76).map (·.size) = some 6 := by kernel_rfl
theorem set6 {w : World} {g : Nat} {T : TypeId} {a0 a1 a2 a3 a4 a5 : Value} (u0 u1 u2 u3 u4 u5 : Value) (h : w.heap[g]? = some (.cells #[a0, a1, a2, a3, a4, a5] T (0, 0))) :
    ((((((w.setCell ⟨g, 0, none⟩ u0).setCell ⟨g, 1, none⟩ u1).setCell ⟨g, 2, none⟩ u2).setCell ⟨g, 3, none⟩ u3).setCell ⟨g, 4, none⟩ u4).setCell ⟨g, 5, none⟩ u5).heap[g]? = some (.cells #[u0, u1, u2, u3, u4, u5] T (0, 0)) :=
  blk_set (blk_set (blk_set (blk_set (blk_set (blk_set h 0 u0) 1 u1) 2 u2) 3 u3) 4 u4) 5 u5
theorem far6 {w : World} {g a b c d e f : Nat} {u0 u1 u2 u3 u4 u5 : Value} {k : Nat} (hk : k ≠ g) :
    ((((((w.setCell ⟨g, a, none⟩ u0).setCell ⟨g, b, none⟩ u1).setCell ⟨g, c, none⟩ u2).setCell ⟨g, d, none⟩ u3).setCell ⟨g, e, none⟩ u4).setCell ⟨g, f, none⟩ u5).heap[k]? = w.heap[k]? := (blk_far hk).trans (far5 hk)
theorem below6 {B : Nat} {a w : World} {g : Nat} (h : Below B a w) (hg : B ≤ g) (c0 c1 c2 c3 c4 c5 : Nat) (u0 u1 u2 u3 u4 u5 : Value) :
    Below B a ((((((w.setCell ⟨g, c0, none⟩ u0).setCell ⟨g, c1, none⟩ u1).setCell ⟨g, c2, none⟩ u2).setCell ⟨g, c3, none⟩ u3).setCell ⟨g, c4, none⟩ u4).setCell ⟨g, c5, none⟩ u5) :=
  (((((h.setCell (p := ⟨g, c0, none⟩) hg u0).setCell (p := ⟨g, c1, none⟩) hg u1).setCell (p := ⟨g, c2, none⟩) hg u2).setCell (p := ⟨g, c3, none⟩) hg u3).setCell (p := ⟨g, c4, none⟩) hg u4).setCell (p := ⟨g, c5, none⟩) hg u5
theorem zret_block {w : World} {g : Nat} {T : TypeId} {a0 a1 a2 a3 a4 a5 : Value} (u0 u1 u2 u3 u4 u5 : Value) (o : Obj) (h : w.heap[g]? = some (.cells #[a0, a1, a2, a3, a4, a5] T (0, 0))) :
    (((((((w.setCell ⟨g, 0, none⟩ u0).setCell ⟨g, 1, none⟩ u1).setCell ⟨g, 2, none⟩ u2).setCell ⟨g, 3, none⟩ u3).setCell ⟨g, 4, none⟩ u4).setCell ⟨g, 5, none⟩ u5).alloc o).heap[g]? = some (.cells #[u0, u1, u2, u3, u4, u5] T (0, 0)) := by
  have h6 := set6 u0 u1 u2 u3 u4 u5 h
  rw [block_old (Array.getElem?_eq_some_iff.1 h6).1]
  exact h6
theorem zret_below {B : Nat} {a w : World} {g : Nat} (h : Below B a w) (hB : B ≤ a.heap.size) (hg : B ≤ g) (u0 u1 u2 u3 u4 u5 : Value) (o : Obj) :
    Below B a (((((((w.setCell ⟨g, 0, none⟩ u0).setCell ⟨g, 1, none⟩ u1).setCell ⟨g, 2, none⟩ u2).setCell ⟨g, 3, none⟩ u3).setCell ⟨g, 4, none⟩ u4).setCell ⟨g, 5, none⟩ u5).alloc o) :=
  (below6 h hg 0 1 2 3 4 5 u0 u1 u2 u3 u4 u5).alloc (Nat.le_trans hB (below6 h hg 0 1 2 3 4 5 u0 u1 u2 u3 u4 u5).size) o
/-- A value and how many items it has. -/
def madeR (l : List It) (d : Int) : V × Nat := match madeV l d with | some r => r | none => (nilM, 0)
where nilM : V := .mk 0 0 ⟨#[]⟩ [] []

theorem madeV_drop (l : List It) (N : Nat) (h : N < l.length) (d : Int) : madeV (l.drop N) d = if l[N].d = d then loopV (l.drop N) d (leafV l[N]) 1 else none := by
  rw [List.drop_eq_getElem_cons h]; rfl
theorem loop_in (l : List It) (d : Int) (m : V) (N : Nat) (h0 : 0 < N) (h : N < l.length) (hd : d < l[N].d) : loopV l d m N = match madeV (l.drop N) (d + 1) with
    | none => none
    | some (x, k) => if k = 0 then none else if m.kind = 4 then (if l[N].key.toList.isEmpty = true then loopV l d (addL m x) (N + k) else none) else if m.kind = 5 then loopV l d (addF m l[N].key x) (N + k) else none := by
  rw [madeV_drop l N h, loopV, dif_pos ⟨h0, h⟩, if_pos hd]
  split
  · rfl
  · rfl
theorem loop_out (l : List It) (d : Int) (m : V) (N : Nat) (h : ∀ (h : N < l.length), ¬ d < l[N].d) : loopV l d m N = some (m, N) := by
  rw [loopV]
  split
  · rename_i h2
    rw [if_neg (h h2.2)]
  · rfl
theorem made_pos {l : List It} {d : Int} {x : V} {k : Nat} (h : madeV l d = some (x, k)) : 0 < k := by
  unfold madeV at h
  split at h
  · cases h
  · split at h
    · exact (loopV_pos _ _ _ _ _ (Nat.le_refl _) Nat.one_pos _ _ h).1
    · cases h
def MadeAt (l : List It) : Prop := ∀ (bl o c : Nat) (d : Int) (W : World), l ≠ [] → l.length ≤ 2000 → l.length ≤ c → c ≤ maxLen → bl < W.heap.size → ItAt W bl o l → 0 ≤ d → d + l.length < 4611686018427387904 →
  Calls Tryd.prog 59 #[.slice (some ⟨bl, o * 5, none⟩) l.length c, .int .i64 d] W fun e w' => (madeR l d).2 ≤ l.length ∧ ∃ p q : Sl, e = .returned (.agg #[.int .i64 (madeR l d).1.kind, .int .i64 (madeR l d).1.int, .string (madeR l d).1.text, .slice p.a p.n p.c, .slice q.a q.n q.c, .int .i64 (madeR l d).2]) ∧
    HM W.heap.size w' (madeR l d).1 p q ∧ Below W.heap.size W w'

set_option maxRecDepth 100000 in
set_option maxHeartbeats 8000000 in
theorem made_any : ∀ (n : Nat) (l : List It), l.length ≤ n → MadeAt l := by
  intro n
  induction n with
  | zero => intro l hl bl o c d W hne; exact absurd (List.eq_nil_of_length_eq_zero (by omega)) hne
  | succ n ih =>
    intro l hln bl o c d W hne h2k hlc hcm hbl hit hd0 hd1
    have hpos : 0 < l.length := List.length_pos_iff.2 hne
    have hb2 : ∀ o1 o2, Below W.heap.size W ((W.alloc o1).alloc o2) := fun o1 o2 => ((Below.refl _ _).alloc (Nat.le_refl _) o1).alloc (by rw [size_alloc]; omega) o2
    have hn2 : ∀ o1 o2, ((W.alloc o1).alloc o2).heap[W.heap.size]? = some o1 ∧ ((W.alloc o1).alloc o2).heap[W.heap.size + 1]? = some o2 := fun o1 o2 =>
      ⟨by rw [block_old (by rw [size_alloc]; omega)]; exact block_new W o1, by have := block_new (W.alloc o1) o2; rwa [size_alloc] at this⟩
    have e0 : ((l.length : Int) == 0) = false := by have : ¬ (l.length : Int) = 0 := by omega
                                                    simpa using this
    have hx0 := hit.five 0 hpos
    simp only [Nat.zero_mul, Nat.add_zero] at hx0
    obtain ⟨x0, hxe⟩ : ∃ x0, l[0] = x0 := ⟨_, rfl⟩
    rw [hxe] at hx0
    have hm : madeV l d = if x0.d = d then loopV l d (leafV x0) 1 else none := by
      match l, hpos, hxe with
      | y :: l, _, hxe => rw [← hxe]; rfl
    obtain ⟨k0, k1, k2, k3, k4⟩ := hx0
    have lz : (0 : Int) < (l.length : Int) := by omega
    have Hb := Lib.hid (And.intro hb2 (And.intro hn2 (And.intro hit ih)))
    clear hb2 hn2 hit ih hxe hne
    by_cases hd : x0.d = d
    · have d1 : (x0.d != d) = false := by simp [hd]
      rw [if_pos hd] at hm
      have Hm := Lib.hid hm
      have Hd := Lib.hid hd
      clear hm hd
      go_enter Tryd.func59, Tryd.ntmps59
      go_wp2_with fail
      go_region
      generalize hw0 : ((W.alloc (.cells #[.int .i64 0, .int .i64 0, .string ⟨#[]⟩, .slice none 0 0, .slice none 0 0, .int .i64 0] 76)).alloc (.cells #[.int .i64 x0.kind, .int .i64 x0.int, .string x0.text, .slice none 0 0, .slice none 0 0, .int .i64 1] 76)).drew = w0
      have H0 : w0.heap[W.heap.size]? = some (.cells #[.int .i64 0, .int .i64 0, .string ⟨#[]⟩, .slice none 0 0, .slice none 0 0, .int .i64 0] 76 (0, 0)) ∧ w0.heap[W.heap.size + 1]? = some (.cells #[.int .i64 x0.kind, .int .i64 x0.int, .string x0.text, .slice none 0 0, .slice none 0 0, .int .i64 1] 76 (0, 0)) ∧ Below W.heap.size W w0 := by
        rw [← hw0]
        exact ⟨(Hb.out.2.1 _ _).1, (Hb.out.2.1 _ _).2, (Hb.out.1 _ _).drew⟩
      have Hw0 := Lib.hid H0
      clear hw0 H0 k2 k3 k4
      go_wp2
      go_loopg [6, 7] l.length (fun gg _ _ wr => ∃ (m : V) (N : Nat) (p q : Sl) (xss zss : List (List Value)), 1 ≤ N ∧ N ≤ l.length ∧ l.length - N ≤ gg ∧
        Hid (wr.heap[W.heap.size + 1]? = some (.cells #[.int .i64 m.kind, .int .i64 m.int, .string m.text, .slice p.a p.n p.c, .slice q.a q.n q.c, .int .i64 N] 76 (0, 0)) ∧ wr.heap[W.heap.size]? = some (.cells #[.int .i64 0, .int .i64 0, .string ⟨#[]⟩, .slice none 0 0, .slice none 0 0, .int .i64 0] 76 (0, 0)) ∧ MV (W.heap.size + 2) wr m p q xss zss ∧ Below W.heap.size W wr ∧ loopV l d m N = madeV l d ∧ m.kind = x0.kind ∧ m.list.length ≤ N ∧ m.fields.length ≤ N))
      case atStart => exact ⟨leafV x0, 1, ⟨none, 0, 0⟩, ⟨none, 0, 0⟩, [], [], Nat.le_refl _, hpos, by omega, Hw0.out.2.1, Hw0.out.1, MV.leaf _ _ _, Hw0.out.2.2, Hm.out.symm, rfl, Nat.zero_le _, Nat.zero_le _⟩
      case round =>
        obtain ⟨m, N, p, q, xss, zss, hN1, hNl, hgg, H⟩ := hrel
        have e1 := H.out.1
        have l1 := (Array.getElem?_eq_some_iff.1 e1).1
        have c0 : wr.cell? ⟨W.heap.size + 1, 0, none⟩ = some (.int .i64 m.kind) := by rw [blk_cell e1]; rfl
        have c1 : wr.cell? ⟨W.heap.size + 1, 1, none⟩ = some (.int .i64 m.int) := by rw [blk_cell e1]; rfl
        have c2 : wr.cell? ⟨W.heap.size + 1, 2, none⟩ = some (.string m.text) := by rw [blk_cell e1]; rfl
        have c3 : wr.cell? ⟨W.heap.size + 1, 3, none⟩ = some (.slice p.a p.n p.c) := by rw [blk_cell e1]; rfl
        have c4 : wr.cell? ⟨W.heap.size + 1, 4, none⟩ = some (.slice q.a q.n q.c) := by rw [blk_cell e1]; rfl
        have c5 : wr.cell? ⟨W.heap.size + 1, 5, none⟩ = some (.int .i64 N) := by rw [blk_cell e1]; rfl
        have r0 : wr.cell? ⟨W.heap.size, 0, none⟩ = some (.int .i64 0) := by rw [blk_cell H.out.2.1]; rfl
        have r1 : wr.cell? ⟨W.heap.size, 1, none⟩ = some (.int .i64 0) := by rw [blk_cell H.out.2.1]; rfl
        have r2 : wr.cell? ⟨W.heap.size, 2, none⟩ = some (.string ⟨#[]⟩) := by rw [blk_cell H.out.2.1]; rfl
        have r3 : wr.cell? ⟨W.heap.size, 3, none⟩ = some (.slice none 0 0) := by rw [blk_cell H.out.2.1]; rfl
        have r4 : wr.cell? ⟨W.heap.size, 4, none⟩ = some (.slice none 0 0) := by rw [blk_cell H.out.2.1]; rfl
        have r5 : wr.cell? ⟨W.heap.size, 5, none⟩ = some (.int .i64 0) := by rw [blk_cell H.out.2.1]; rfl
        have f0 := blk_frozen H.out.2.1 0
        have f1 := blk_frozen H.out.2.1 1
        have f2 := blk_frozen H.out.2.1 2
        have f3 := blk_frozen H.out.2.1 3
        have f4 := blk_frozen H.out.2.1 4
        have f5 := blk_frozen H.out.2.1 5
        have hBW := H.out.2.2.2.1
        have j0 := (hBW.cell (p := ⟨bl, o * 5, none⟩) (by exact hbl)).trans k0
        have j1 := (hBW.cell (p := ⟨bl, o * 5 + 1, none⟩) (by exact hbl)).trans k1
        clear e1
        by_cases hlt : N < l.length
        · have hltz : (N : Int) < (l.length : Int) := by omega
          have hfv := (Hb.out.2.2.1.later (hBW.mono (Nat.le_refl _)) hbl).five N hlt
          obtain ⟨it, hite⟩ : ∃ it, l[N] = it := ⟨_, rfl⟩
          rw [hite] at hfv
          obtain ⟨i0, _, _, i3, _⟩ := hfv
          by_cases hdi : d < it.d
          · have hstep := loop_in l d m N (by omega) hlt (by rw [hite]; exact hdi)
            rw [hite] at hstep
            have w1 : IntKind.i64.wrap (d + 1) = d + 1 := IntWalk.i64_in _ (by omega)
            have hNc : N < c := by omega
            have hcall := Hb.out.2.2.2 (l.drop N) (by rw [List.length_drop]; omega) bl (o + N) (c - N) (d + 1) wr (fun e => by have := congrArg List.length e; rw [List.length_drop] at this; simp at this; omega) (by rw [List.length_drop]; omega) (by rw [List.length_drop]; omega) (by omega) (Nat.lt_of_lt_of_le hbl hBW.size) ((Hb.out.2.2.1.later hBW hbl).drop N) (by omega) (by rw [List.length_drop]; omega)
            rw [List.length_drop, show (o + N) * 5 = o * 5 + N * 5 by omega] at hcall
            have Hs := Lib.hid (And.intro hstep (And.intro hite hBW))
            clear hstep hite hBW
            have lbl : bl < wr.heap.size := Nat.lt_of_lt_of_le hbl Hs.out.2.2.size
            have l0 : W.heap.size < wr.heap.size := by omega
            cases hy : madeV (l.drop N) (d + 1) with
            | none =>
              rw [hy] at Hs
              have hR : madeR (l.drop N) (d + 1) = (madeR.nilM, 0) := by unfold madeR; rw [hy]
              rw [hR] at hcall
              have Ho := Lib.hid (show madeR l d = (madeR.nilM, 0) by unfold madeR; rw [← H.out.2.2.2.2.1, Hs.out.1])
              clear hy hR
              go_wp2_with (go_at_call 59; refine hcall.mono ?_; rintro e w4 ⟨_, px, qx, rfl, _, hb4⟩; have l40 : W.heap.size < w4.heap.size := Nat.lt_of_lt_of_le l0 hb4.size; have z4 := (hb4.block W.heap.size (by omega)).trans H.out.2.1; have s0 : w4.cell? ⟨W.heap.size, 0, none⟩ = some (.int .i64 0) := (by rw [blk_cell z4]; rfl); have g0 := blk_frozen z4 0; have s1 : w4.cell? ⟨W.heap.size, 1, none⟩ = some (.int .i64 0) := (by rw [blk_cell z4]; rfl); have g1 := blk_frozen z4 1; have s2 : w4.cell? ⟨W.heap.size, 2, none⟩ = some (.string ⟨#[]⟩) := (by rw [blk_cell z4]; rfl); have g2 := blk_frozen z4 2; have s3 : w4.cell? ⟨W.heap.size, 3, none⟩ = some (.slice none 0 0) := (by rw [blk_cell z4]; rfl); have g3 := blk_frozen z4 3; have s4 : w4.cell? ⟨W.heap.size, 4, none⟩ = some (.slice none 0 0) := (by rw [blk_cell z4]; rfl); have g4 := blk_frozen z4 4; have s5 : w4.cell? ⟨W.heap.size, 5, none⟩ = some (.int .i64 0) := (by rw [blk_cell z4]; rfl); have g5 := blk_frozen z4 5; have H4 := Lib.hid (And.intro hb4 z4); clear hb4 z4)
              refine bodyPost_ret (results_cell_row rfl _ _ W.heap.size 76 _ (0, 0) _ rfl (zret_block _ _ _ _ _ _ _ H4.out.2) Tryd.underlying76 rfl size_M) rfl ?_
              rw [Ho.out]
              exact ⟨Nat.zero_le _, ⟨none, 0, 0⟩, ⟨none, 0, 0⟩, rfl, HM.none _ _ _ _ _, zret_below (Hs.out.2.2.trans (H4.out.1.mono Hs.out.2.2.size)) (Nat.le_refl _) (Nat.le_refl _) _ _ _ _ _ _ _⟩
            | some r =>
              obtain ⟨x, k⟩ := r
              rw [hy] at Hs
              have hR : madeR (l.drop N) (d + 1) = (x, k) := by unfold madeR; rw [hy]
              rw [hR] at hcall
              have hkp := made_pos hy
              have hkz : ((k : Int) == 0) = false := by have : ¬ (k : Int) = 0 := by omega
                                                        simpa using this
              clear hy hR
              simp only at hcall
              by_cases h4 : x0.kind = 4
              · have h4a : (x0.kind == 4) = true := by simp [h4]
                have h4m : m.kind = 4 := H.out.2.2.2.2.2.1.trans h4
                clear h4
                cases hke : it.key.toList.isEmpty with
                | true =>
                  have hkb : (!it.key.toList.isEmpty) = false := by rw [hke]; rfl
                  have hout : loopV l d (addL m x) (N + k) = madeV l d := by rw [← H.out.2.2.2.2.1, Hs.out.1]; simp only; rw [if_neg (by omega)]; rw [if_pos h4m, if_pos hke]
                  have Ho := Lib.hid hout
                  clear hout
                  obtain ⟨i0', hi0, hz0, hz1, hz2⟩ := info_of info_V
                  go_upto_region 14 with (go_at_call 59; refine hcall.mono ?_; rintro e w4 ⟨hkl, px, qx, rfl, hvx, hb4⟩; replace hvx := hvx.hv; have m4 := (hb4.block (W.heap.size + 1) (by omega)).trans H.out.1; have t3 : w4.cell? ⟨W.heap.size + 1, 3, none⟩ = some (.slice p.a p.n p.c) := (by rw [blk_cell m4]; rfl); have t4 : w4.cell? ⟨W.heap.size + 1, 4, none⟩ = some (.slice q.a q.n q.c) := (by rw [blk_cell m4]; rfl); have t5 : w4.cell? ⟨W.heap.size + 1, 5, none⟩ = some (.int .i64 N) := (by rw [blk_cell m4]; rfl); have lb4 : bl < w4.heap.size := Nat.lt_of_lt_of_le lbl hb4.size; have y3 := (hb4.cell (p := ⟨bl, o * 5 + N * 5 + 3, none⟩) (by exact lbl)).trans i3; have y1 := (hb4.cell (p := ⟨bl, o * 5 + 1, none⟩) (by exact lbl)).trans j1; have hrow4 := own_base (B := W.heap.size + 2) ((H.out.2.2.1.1.map (hkBelow hb4)).2.2.1) (H.out.2.2.1.1.2.2.2); have hownA := fun o1 o2 => (hrow4.alloc o1).alloc o2; have Hnews := Lib.hid (fun (o : Obj) => World.news_of_block (w := (w4.alloc o).alloc (.cells #[.int .i64 x.kind, .int .i64 x.int, .string x.text, .slice px.a px.n px.c, .slice qx.a qx.n qx.c] 27)) (B := w4.heap.size + 1) (by have := block_new (w4.alloc o) (.cells #[.int .i64 x.kind, .int .i64 x.int, .string x.text, .slice px.a px.n px.c, .slice qx.a qx.n qx.c] 27); rw [size_alloc] at this; exact this)); have hkl2 : k ≤ l.length - N := hkl; have wNk : IntKind.i64.wrap ((N : Int) + (k : Int)) = (N : Int) + (k : Int) := IntWalk.i64_in _ (by omega); have H4 := Lib.hid (And.intro hvx (And.intro hb4 m4)); have l4 : W.heap.size + 1 < w4.heap.size := Nat.lt_of_lt_of_le l1 hb4.size; clear hvx hb4 m4 hrow4)
                  go_wp2_with (first
                    | (at_builtin; go_loud (refine wpList_append_own_at _ rfl _ _ 24 rfl (W.heap.size + 2) 27 i0' _ 5 80 Tryd.underlying24 hi0 hz0 hz1 hz2 rfl (by decide) _ _ _ rfl (hownA _ _) _ 1 1 [.int .i64 x.kind, .int .i64 x.int, .string x.text, .slice px.a px.n px.c, .slice qx.a qx.n qx.c] rfl rfl (Hnews.out _) (by simp [Value.oneCell']) (by unfold maxLen; have := H.out.2.2.2.2.2.2.1; have := H.out.2.2.2.2.2.2.2; omega) (by have := H.out.2.2.2.2.2.2.1; have := H.out.2.2.2.2.2.2.2; omega) (by simp; omega) ?_); intro v' w6 hown6 hgrow6 _ hat6; obtain ⟨g', cap', rfl, _, _⟩ := hown6.form (by omega); have m6 := (hgrow6.block (W.heap.size + 1) (by simp; omega) (fun e => by have := H.out.2.2.1.1.2.2.2 _ e.symm; omega)).trans ((block_old (by simp; omega)).trans ((block_old (by omega)).trans H4.out.2.2)); have x6 := (hgrow6.block w4.heap.size (by simp; omega) (fun e => by have := (H.out.2.2.1.1.2.2.1.lt _ e.symm).2; have := H4.out.2.1.size; omega)).trans ((block_old (by simp)).trans (block_new w4 (.cells #[.int .i64 x.kind, .int .i64 x.int, .string x.text, .slice px.a px.n px.c, .slice qx.a qx.n qx.c, .int .i64 k] 76))); have v3 : w6.cell? ⟨W.heap.size + 1, 3, none⟩ = some (.slice p.a p.n p.c) := (by rw [blk_cell m6]; rfl); have v4 : w6.cell? ⟨W.heap.size + 1, 4, none⟩ = some (.slice q.a q.n q.c) := (by rw [blk_cell m6]; rfl); have v5 : w6.cell? ⟨W.heap.size + 1, 5, none⟩ = some (.int .i64 N) := (by rw [blk_cell m6]; rfl); have vx5 : w6.cell? ⟨w4.heap.size, 5, none⟩ = some (.int .i64 k) := (by rw [blk_cell x6]; rfl); have fr3 := blk_frozen m6 3; have fr4 := blk_frozen m6 4; have fr5 := blk_frozen m6 5; have H6 := Lib.hid (And.intro hown6 (And.intro hgrow6 (And.intro hat6 (And.intro m6 x6)))); clear hown6 hgrow6 hat6 m6 x6))
                  go_roundg (l.length - (N + k))
                  case measure => omega
                  case rel =>
                    have hz4 := H4.out.2.1.size
                    have hb5 : Below wr.heap.size wr ((w4.alloc (.cells #[.int .i64 x.kind, .int .i64 x.int, .string x.text, .slice px.a px.n px.c, .slice qx.a qx.n qx.c, .int .i64 k] 76)).alloc (.cells #[.int .i64 x.kind, .int .i64 x.int, .string x.text, .slice px.a px.n px.c, .slice qx.a qx.n qx.c] 27)) := (H4.out.2.1.alloc hz4 _).alloc (by rw [size_alloc]; omega) _
                    have hbo : ∀ j, j < w4.heap.size → ((w4.alloc (.cells #[.int .i64 x.kind, .int .i64 x.int, .string x.text, .slice px.a px.n px.c, .slice qx.a qx.n qx.c, .int .i64 k] 76)).alloc (.cells #[.int .i64 x.kind, .int .i64 x.int, .string x.text, .slice px.a px.n px.c, .slice qx.a qx.n qx.c] 27)).heap[j]? = w4.heap[j]? := fun j hj => (block_old (by rw [size_alloc]; omega)).trans (block_old hj)
                    have hx5 : HV (fun g => wr.heap.size ≤ g ∧ g < ((w4.alloc (.cells #[.int .i64 x.kind, .int .i64 x.int, .string x.text, .slice px.a px.n px.c, .slice qx.a qx.n qx.c, .int .i64 k] 76)).alloc (.cells #[.int .i64 x.kind, .int .i64 x.int, .string x.text, .slice px.a px.n px.c, .slice qx.a qx.n qx.c] 27)).heap.size) ((w4.alloc (.cells #[.int .i64 x.kind, .int .i64 x.int, .string x.text, .slice px.a px.n px.c, .slice qx.a qx.n qx.c, .int .i64 k] 76)).alloc (.cells #[.int .i64 x.kind, .int .i64 x.int, .string x.text, .slice px.a px.n px.c, .slice qx.a qx.n qx.c] 27)) x px qx := H4.out.1.map (fun j hj hl => ⟨⟨hj, by rw [size_alloc, size_alloc]; omega⟩, hbo j hl⟩)
                    have hrb : ∀ j, (⟨p.a, p.n, p.c⟩ : Sl).val.ownBlock = some j → W.heap.size + 2 ≤ j := H.out.2.2.1.1.2.2.2
                    have hmv := H.out.2.2.1.list (w7 := (w6.setCell ⟨W.heap.size + 1, 3, none⟩ (.slice (some ⟨g', 0, none⟩) (m.list.length + 1) cap')).setCell ⟨W.heap.size + 1, 5, none⟩ (.int .i64 ((N : Int) + (k : Int)))) (p' := ⟨some ⟨g', 0, none⟩, m.list.length + 1, cap'⟩) (by omega) hb5 hx5 H6.out.1 H6.out.2.1 H6.out.2.2.1 (fun j hj => (blk_far (show j ≠ W.heap.size + 1 by omega)).trans (blk_far (show j ≠ W.heap.size + 1 by omega)))
                    have hbx := (Hs.out.2.2.trans (hb5.mono Hs.out.2.2.size)).grown H6.out.2.1 (by rw [size_alloc, size_alloc]; omega) (fun j e => by have := hrb j e; omega)
                    refine ⟨addL m x, N + k, ⟨some ⟨g', 0, none⟩, m.list.length + 1, cap'⟩, q, _, _, by omega, by omega, by omega, ?_, ?_, hmv, (hbx.setCell (p := ⟨W.heap.size + 1, 3, none⟩) (Nat.le_succ _) _).setCell (p := ⟨W.heap.size + 1, 5, none⟩) (Nat.le_succ _) _, Ho.out, H.out.2.2.2.2.2.1, (by show (m.list ++ [x]).length ≤ _; rw [List.length_append, List.length_singleton]; have := H.out.2.2.2.2.2.2.1; omega), (by show m.fields.length ≤ _; have := H.out.2.2.2.2.2.2.2; omega)⟩
                    · have hbs := blk_set (blk_set H6.out.2.2.2.1 3 (.slice (some ⟨g', 0, none⟩) (m.list.length + 1) cap')) 5 (.int .i64 ((N : Int) + (k : Int)))
                      rw [Int.natCast_add]
                      exact hbs
                    · refine (blk_far (show W.heap.size ≠ W.heap.size + 1 by omega)).trans ((blk_far (show W.heap.size ≠ W.heap.size + 1 by omega)).trans ((H6.out.2.1.block W.heap.size (by rw [size_alloc, size_alloc]; omega) (fun e => by have := hrb _ e.symm; omega)).trans ((hbo _ (by omega)).trans ((H4.out.2.1.block _ l0).trans H.out.2.1))))
                | false =>
                  have hkb : (!it.key.toList.isEmpty) = true := by rw [hke]; rfl
                  have Ho := Lib.hid (show madeR l d = (madeR.nilM, 0) by
                    unfold madeR; rw [← H.out.2.2.2.2.1, Hs.out.1]; simp only
                    rw [if_neg (by omega), if_pos h4m, if_neg (by rw [hke]; simp)])
                  go_wp2_with (go_at_call 59; refine hcall.mono ?_; rintro e w4 ⟨_, px, qx, rfl, _, hb4⟩; have l40 : W.heap.size < w4.heap.size := Nat.lt_of_lt_of_le l0 hb4.size; have z4 := (hb4.block W.heap.size (by omega)).trans H.out.2.1; have s0 : w4.cell? ⟨W.heap.size, 0, none⟩ = some (.int .i64 0) := (by rw [blk_cell z4]; rfl); have g0 := blk_frozen z4 0; have s1 : w4.cell? ⟨W.heap.size, 1, none⟩ = some (.int .i64 0) := (by rw [blk_cell z4]; rfl); have g1 := blk_frozen z4 1; have s2 : w4.cell? ⟨W.heap.size, 2, none⟩ = some (.string ⟨#[]⟩) := (by rw [blk_cell z4]; rfl); have g2 := blk_frozen z4 2; have s3 : w4.cell? ⟨W.heap.size, 3, none⟩ = some (.slice none 0 0) := (by rw [blk_cell z4]; rfl); have g3 := blk_frozen z4 3; have s4 : w4.cell? ⟨W.heap.size, 4, none⟩ = some (.slice none 0 0) := (by rw [blk_cell z4]; rfl); have g4 := blk_frozen z4 4; have s5 : w4.cell? ⟨W.heap.size, 5, none⟩ = some (.int .i64 0) := (by rw [blk_cell z4]; rfl); have g5 := blk_frozen z4 5; have lb4 : bl < w4.heap.size := Nat.lt_of_lt_of_le lbl hb4.size; have y3 := (hb4.cell (p := ⟨bl, o * 5 + N * 5 + 3, none⟩) (by exact lbl)).trans i3; have y1 := (hb4.cell (p := ⟨bl, o * 5 + 1, none⟩) (by exact lbl)).trans j1; have m4 := (hb4.block (W.heap.size + 1) (by omega)).trans H.out.1; have t3 : w4.cell? ⟨W.heap.size + 1, 3, none⟩ = some (.slice p.a p.n p.c) := (by rw [blk_cell m4]; rfl); have t4 : w4.cell? ⟨W.heap.size + 1, 4, none⟩ = some (.slice q.a q.n q.c) := (by rw [blk_cell m4]; rfl); have t5 : w4.cell? ⟨W.heap.size + 1, 5, none⟩ = some (.int .i64 N) := (by rw [blk_cell m4]; rfl); have l41 : W.heap.size + 1 < w4.heap.size := Nat.lt_of_lt_of_le l1 hb4.size; clear m4; have H4 := Lib.hid (And.intro hb4 z4); clear hb4 z4)
                  refine bodyPost_ret (results_cell_row rfl _ _ W.heap.size 76 _ (0, 0) _ rfl (zret_block _ _ _ _ _ _ _ H4.out.2) Tryd.underlying76 rfl size_M) rfl ?_
                  rw [Ho.out]
                  exact ⟨Nat.zero_le _, ⟨none, 0, 0⟩, ⟨none, 0, 0⟩, rfl, HM.none _ _ _ _ _, zret_below (Hs.out.2.2.trans (H4.out.1.mono Hs.out.2.2.size)) (Nat.le_refl _) (Nat.le_refl _) _ _ _ _ _ _ _⟩
              · have h4a : (x0.kind == 4) = false := by simp [h4]
                have h4m : ¬ m.kind = 4 := fun e => h4 (H.out.2.2.2.2.2.1.symm.trans e)
                clear h4
                by_cases h5 : x0.kind = 5
                · have h5a : (x0.kind == 5) = true := by simp [h5]
                  have h5m : m.kind = 5 := H.out.2.2.2.2.2.1.trans h5
                  clear h5
                  have hout : loopV l d (addF m it.key x) (N + k) = madeV l d := by rw [← H.out.2.2.2.2.1, Hs.out.1]; simp only; rw [if_neg (by omega)]; rw [if_neg h4m, if_pos h5m]
                  have Ho := Lib.hid hout
                  clear hout
                  obtain ⟨i0', hi0, hz0, hz1, hz2⟩ := info_of info_F
                  go_upto_region 16 with (go_at_call 59; refine hcall.mono ?_; rintro e w4 ⟨hkl, px, qx, rfl, hvx, hb4⟩; replace hvx := hvx.hv; have m4 := (hb4.block (W.heap.size + 1) (by omega)).trans H.out.1; have t3 : w4.cell? ⟨W.heap.size + 1, 3, none⟩ = some (.slice p.a p.n p.c) := (by rw [blk_cell m4]; rfl); have t4 : w4.cell? ⟨W.heap.size + 1, 4, none⟩ = some (.slice q.a q.n q.c) := (by rw [blk_cell m4]; rfl); have t5 : w4.cell? ⟨W.heap.size + 1, 5, none⟩ = some (.int .i64 N) := (by rw [blk_cell m4]; rfl); have lb4 : bl < w4.heap.size := Nat.lt_of_lt_of_le lbl hb4.size; have y3 := (hb4.cell (p := ⟨bl, o * 5 + N * 5 + 3, none⟩) (by exact lbl)).trans i3; have y1 := (hb4.cell (p := ⟨bl, o * 5 + 1, none⟩) (by exact lbl)).trans j1; have hrow4 := own_base (B := W.heap.size + 2) ((H.out.2.2.1.2.1.map (hkBelow hb4)).2.2.1) (H.out.2.2.1.2.1.2.2.2); have hownA := fun o1 o2 => (hrow4.alloc o1).alloc o2; have Hnews := Lib.hid (fun (o : Obj) => World.news_of_block (w := (w4.alloc o).alloc (.cells #[.string it.key, .int .i64 x.kind, .int .i64 x.int, .string x.text, .slice px.a px.n px.c, .slice qx.a qx.n qx.c] 31)) (B := w4.heap.size + 1) (by have := block_new (w4.alloc o) (.cells #[.string it.key, .int .i64 x.kind, .int .i64 x.int, .string x.text, .slice px.a px.n px.c, .slice qx.a qx.n qx.c] 31); rw [size_alloc] at this; exact this)); have hkl2 : k ≤ l.length - N := hkl; have wNk : IntKind.i64.wrap ((N : Int) + (k : Int)) = (N : Int) + (k : Int) := IntWalk.i64_in _ (by omega); have H4 := Lib.hid (And.intro hvx (And.intro hb4 m4)); have l4 : W.heap.size + 1 < w4.heap.size := Nat.lt_of_lt_of_le l1 hb4.size; clear hvx hb4 m4 hrow4)
                  go_wp2_with (first
                    | (at_builtin; go_loud (refine wpList_append_own_at _ rfl _ _ 25 rfl (W.heap.size + 2) 31 i0' _ 6 96 Tryd.underlying25 hi0 hz0 hz1 hz2 rfl (by decide) _ _ _ rfl (hownA _ _) _ 1 1 [.string it.key, .int .i64 x.kind, .int .i64 x.int, .string x.text, .slice px.a px.n px.c, .slice qx.a qx.n qx.c] rfl rfl (Hnews.out _) (by simp [Value.oneCell']) (by unfold maxLen; have := H.out.2.2.2.2.2.2.1; have := H.out.2.2.2.2.2.2.2; omega) (by have := H.out.2.2.2.2.2.2.1; have := H.out.2.2.2.2.2.2.2; omega) (by simp; omega) ?_); intro v' w6 hown6 hgrow6 _ hat6; obtain ⟨g', cap', rfl, _, _⟩ := hown6.form (by omega); have m6 := (hgrow6.block (W.heap.size + 1) (by simp; omega) (fun e => by have := H.out.2.2.1.2.1.2.2.2 _ e.symm; omega)).trans ((block_old (by simp; omega)).trans ((block_old (by omega)).trans H4.out.2.2)); have x6 := (hgrow6.block w4.heap.size (by simp; omega) (fun e => by have := (H.out.2.2.1.2.1.2.2.1.lt _ e.symm).2; have := H4.out.2.1.size; omega)).trans ((block_old (by simp)).trans (block_new w4 (.cells #[.int .i64 x.kind, .int .i64 x.int, .string x.text, .slice px.a px.n px.c, .slice qx.a qx.n qx.c, .int .i64 k] 76))); have v3 : w6.cell? ⟨W.heap.size + 1, 3, none⟩ = some (.slice p.a p.n p.c) := (by rw [blk_cell m6]; rfl); have v4 : w6.cell? ⟨W.heap.size + 1, 4, none⟩ = some (.slice q.a q.n q.c) := (by rw [blk_cell m6]; rfl); have v5 : w6.cell? ⟨W.heap.size + 1, 5, none⟩ = some (.int .i64 N) := (by rw [blk_cell m6]; rfl); have vx5 : w6.cell? ⟨w4.heap.size, 5, none⟩ = some (.int .i64 k) := (by rw [blk_cell x6]; rfl); have fr3 := blk_frozen m6 3; have fr4 := blk_frozen m6 4; have fr5 := blk_frozen m6 5; have H6 := Lib.hid (And.intro hown6 (And.intro hgrow6 (And.intro hat6 (And.intro m6 x6)))); clear hown6 hgrow6 hat6 m6 x6))
                  go_roundg (l.length - (N + k))
                  case measure => omega
                  case rel =>
                    have hz4 := H4.out.2.1.size
                    have hb5 : Below wr.heap.size wr ((w4.alloc (.cells #[.int .i64 x.kind, .int .i64 x.int, .string x.text, .slice px.a px.n px.c, .slice qx.a qx.n qx.c, .int .i64 k] 76)).alloc (.cells #[.string it.key, .int .i64 x.kind, .int .i64 x.int, .string x.text, .slice px.a px.n px.c, .slice qx.a qx.n qx.c] 31)) := (H4.out.2.1.alloc hz4 _).alloc (by rw [size_alloc]; omega) _
                    have hbo : ∀ j, j < w4.heap.size → ((w4.alloc (.cells #[.int .i64 x.kind, .int .i64 x.int, .string x.text, .slice px.a px.n px.c, .slice qx.a qx.n qx.c, .int .i64 k] 76)).alloc (.cells #[.string it.key, .int .i64 x.kind, .int .i64 x.int, .string x.text, .slice px.a px.n px.c, .slice qx.a qx.n qx.c] 31)).heap[j]? = w4.heap[j]? := fun j hj => (block_old (by rw [size_alloc]; omega)).trans (block_old hj)
                    have hx5 : HV (fun g => wr.heap.size ≤ g ∧ g < ((w4.alloc (.cells #[.int .i64 x.kind, .int .i64 x.int, .string x.text, .slice px.a px.n px.c, .slice qx.a qx.n qx.c, .int .i64 k] 76)).alloc (.cells #[.string it.key, .int .i64 x.kind, .int .i64 x.int, .string x.text, .slice px.a px.n px.c, .slice qx.a qx.n qx.c] 31)).heap.size) ((w4.alloc (.cells #[.int .i64 x.kind, .int .i64 x.int, .string x.text, .slice px.a px.n px.c, .slice qx.a qx.n qx.c, .int .i64 k] 76)).alloc (.cells #[.string it.key, .int .i64 x.kind, .int .i64 x.int, .string x.text, .slice px.a px.n px.c, .slice qx.a qx.n qx.c] 31)) x px qx := H4.out.1.map (fun j hj hl => ⟨⟨hj, by rw [size_alloc, size_alloc]; omega⟩, hbo j hl⟩)
                    have hrb : ∀ j, (⟨q.a, q.n, q.c⟩ : Sl).val.ownBlock = some j → W.heap.size + 2 ≤ j := H.out.2.2.1.2.1.2.2.2
                    have hmv := H.out.2.2.1.field (w7 := (w6.setCell ⟨W.heap.size + 1, 4, none⟩ (.slice (some ⟨g', 0, none⟩) (m.fields.length + 1) cap')).setCell ⟨W.heap.size + 1, 5, none⟩ (.int .i64 ((N : Int) + (k : Int)))) (q' := ⟨some ⟨g', 0, none⟩, m.fields.length + 1, cap'⟩) (ky := it.key) (by omega) hb5 hx5 H6.out.1 H6.out.2.1 H6.out.2.2.1 (fun j hj => (blk_far (show j ≠ W.heap.size + 1 by omega)).trans (blk_far (show j ≠ W.heap.size + 1 by omega)))
                    have hbx := (Hs.out.2.2.trans (hb5.mono Hs.out.2.2.size)).grown H6.out.2.1 (by rw [size_alloc, size_alloc]; omega) (fun j e => by have := hrb j e; omega)
                    refine ⟨addF m it.key x, N + k, p, ⟨some ⟨g', 0, none⟩, m.fields.length + 1, cap'⟩, _, _, by omega, by omega, by omega, ?_, ?_, hmv, (hbx.setCell (p := ⟨W.heap.size + 1, 4, none⟩) (Nat.le_succ _) _).setCell (p := ⟨W.heap.size + 1, 5, none⟩) (Nat.le_succ _) _, Ho.out, H.out.2.2.2.2.2.1, (by show m.list.length ≤ _; have := H.out.2.2.2.2.2.2.1; omega), (by show (m.fields ++ [(it.key, x)]).length ≤ _; rw [List.length_append, List.length_singleton]; have := H.out.2.2.2.2.2.2.2; omega)⟩
                    · have hbs := blk_set (blk_set H6.out.2.2.2.1 4 (.slice (some ⟨g', 0, none⟩) (m.fields.length + 1) cap')) 5 (.int .i64 ((N : Int) + (k : Int)))
                      rw [Int.natCast_add]
                      exact hbs
                    · refine (blk_far (show W.heap.size ≠ W.heap.size + 1 by omega)).trans ((blk_far (show W.heap.size ≠ W.heap.size + 1 by omega)).trans ((H6.out.2.1.block W.heap.size (by rw [size_alloc, size_alloc]; omega) (fun e => by have := hrb _ e.symm; omega)).trans ((hbo _ (by omega)).trans ((H4.out.2.1.block _ l0).trans H.out.2.1))))
                · have h5a : (x0.kind == 5) = false := by simp [h5]
                  have h5m : ¬ m.kind = 5 := fun e => h5 (H.out.2.2.2.2.2.1.symm.trans e)
                  clear h5
                  have Ho := Lib.hid (show madeR l d = (madeR.nilM, 0) by
                    unfold madeR; rw [← H.out.2.2.2.2.1, Hs.out.1]; simp only
                    rw [if_neg (by omega), if_neg h4m, if_neg h5m])
                  go_wp2_with (go_at_call 59; refine hcall.mono ?_; rintro e w4 ⟨_, px, qx, rfl, _, hb4⟩; have l40 : W.heap.size < w4.heap.size := Nat.lt_of_lt_of_le l0 hb4.size; have z4 := (hb4.block W.heap.size (by omega)).trans H.out.2.1; have s0 : w4.cell? ⟨W.heap.size, 0, none⟩ = some (.int .i64 0) := (by rw [blk_cell z4]; rfl); have g0 := blk_frozen z4 0; have s1 : w4.cell? ⟨W.heap.size, 1, none⟩ = some (.int .i64 0) := (by rw [blk_cell z4]; rfl); have g1 := blk_frozen z4 1; have s2 : w4.cell? ⟨W.heap.size, 2, none⟩ = some (.string ⟨#[]⟩) := (by rw [blk_cell z4]; rfl); have g2 := blk_frozen z4 2; have s3 : w4.cell? ⟨W.heap.size, 3, none⟩ = some (.slice none 0 0) := (by rw [blk_cell z4]; rfl); have g3 := blk_frozen z4 3; have s4 : w4.cell? ⟨W.heap.size, 4, none⟩ = some (.slice none 0 0) := (by rw [blk_cell z4]; rfl); have g4 := blk_frozen z4 4; have s5 : w4.cell? ⟨W.heap.size, 5, none⟩ = some (.int .i64 0) := (by rw [blk_cell z4]; rfl); have g5 := blk_frozen z4 5; have lb4 : bl < w4.heap.size := Nat.lt_of_lt_of_le lbl hb4.size; have y3 := (hb4.cell (p := ⟨bl, o * 5 + N * 5 + 3, none⟩) (by exact lbl)).trans i3; have y1 := (hb4.cell (p := ⟨bl, o * 5 + 1, none⟩) (by exact lbl)).trans j1; have m4 := (hb4.block (W.heap.size + 1) (by omega)).trans H.out.1; have t3 : w4.cell? ⟨W.heap.size + 1, 3, none⟩ = some (.slice p.a p.n p.c) := (by rw [blk_cell m4]; rfl); have t4 : w4.cell? ⟨W.heap.size + 1, 4, none⟩ = some (.slice q.a q.n q.c) := (by rw [blk_cell m4]; rfl); have t5 : w4.cell? ⟨W.heap.size + 1, 5, none⟩ = some (.int .i64 N) := (by rw [blk_cell m4]; rfl); have l41 : W.heap.size + 1 < w4.heap.size := Nat.lt_of_lt_of_le l1 hb4.size; clear m4; have H4 := Lib.hid (And.intro hb4 z4); clear hb4 z4)
                  refine bodyPost_ret (results_cell_row rfl _ _ W.heap.size 76 _ (0, 0) _ rfl (zret_block _ _ _ _ _ _ _ H4.out.2) Tryd.underlying76 rfl size_M) rfl ?_
                  rw [Ho.out]
                  exact ⟨Nat.zero_le _, ⟨none, 0, 0⟩, ⟨none, 0, 0⟩, rfl, HM.none _ _ _ _ _, zret_below (Hs.out.2.2.trans (H4.out.1.mono Hs.out.2.2.size)) (Nat.le_refl _) (Nat.le_refl _) _ _ _ _ _ _ _⟩
          · have hout : madeV l d = some (m, N) := by rw [← H.out.2.2.2.2.1]; exact loop_out l d m N (fun h => by rw [hite]; exact hdi)
            have Ho := Lib.hid (show madeR l d = (m, N) by unfold madeR; rw [hout])
            have HB := Lib.hid hBW
            clear hout hite hBW
            go_wp2
            refine bodyPost_ret (results_cell_row rfl _ _ W.heap.size 76 _ (0, 0) _ rfl (set6 _ _ _ _ _ _ H.out.2.1) Tryd.underlying76 rfl size_M) rfl ?_
            rw [Ho.out]
            exact ⟨hNl, p, q, rfl, HM.map ⟨_, _, H.out.2.2.1⟩ (fun k hk hl => ⟨by omega, far6 (by omega)⟩), below6 HB.out (Nat.le_refl _) _ _ _ _ _ _ _ _ _ _ _ _⟩
        · have hout : madeV l d = some (m, N) := by rw [← H.out.2.2.2.2.1]; exact loop_out l d m N (fun h => absurd h hlt)
          have Ho := Lib.hid (show madeR l d = (m, N) by unfold madeR; rw [hout])
          have HB := Lib.hid hBW
          have hltz : ¬ (N : Int) < (l.length : Int) := by omega
          clear hout hBW
          go_wp2
          refine bodyPost_ret (results_cell_row rfl _ _ W.heap.size 76 _ (0, 0) _ rfl (set6 _ _ _ _ _ _ H.out.2.1) Tryd.underlying76 rfl size_M) rfl ?_
          rw [Ho.out]
          exact ⟨hNl, p, q, rfl, HM.map ⟨_, _, H.out.2.2.1⟩ (fun k hk hl => ⟨by omega, far6 (by omega)⟩), below6 HB.out (Nat.le_refl _) _ _ _ _ _ _ _ _ _ _ _ _⟩
    · have d1 : (x0.d != d) = true := by simp [hd]
      rw [if_neg hd] at hm
      have Hm := Lib.hid (show madeR l d = (madeR.nilM, 0) by unfold madeR; rw [hm])
      clear hm hd
      go_enter Tryd.func59, Tryd.ntmps59
      go_wp2
      refine bodyPost_ret (results_cell_row rfl _ _ W.heap.size 76 _ (0, 0) _ rfl (block_new W _) Tryd.underlying76 rfl size_M) rfl ?_
      rw [Hm.out]
      exact ⟨Nat.zero_le _, ⟨none, 0, 0⟩, ⟨none, 0, 0⟩, rfl, HM.none _ _ _ _ _, (Below.refl _ _).alloc (Nat.le_refl _) _⟩
end Go.Proofs.YteocenjneoclbaaDoor.tre
namespace Go.Proofs.YteocenjneoclbaaDoor.tre
open Go.RowKit Go.Shelf

/-- read's own function, from a place on: the value so far at a depth, and the place at which it stops; the first number is no less than the items that are left. -/
def loopR (l : List It) : Nat → Nat → Int → V → V × Nat
  | 0, p, _, m => (m, p)
  | n + 1, p, d, m =>
    if h : p < l.length then
      if (l[p]'h).d = d + 1 then
        if m.kind = 5 then loopR l n (loopR l n (p + 1) (d + 1) (leafV (l[p]'h))).2 d (addF m (l[p]'h).key (loopR l n (p + 1) (d + 1) (leafV (l[p]'h))).1)
        else if m.kind = 4 ∧ (l[p]'h).key.toList.isEmpty = true then loopR l n (loopR l n (p + 1) (d + 1) (leafV (l[p]'h))).2 d (addL m (loopR l n (p + 1) (d + 1) (leafV (l[p]'h))).1)
        else (m, p)
      else (m, p)
    else (m, p)
theorem loopR_out {l : List It} {p : Nat} {d : Int} {m : V} (h : ∀ h : p < l.length, ¬ l[p].d = d + 1) (n : Nat) : loopR l n p d m = (m, p) := by
  cases n with
  | zero => rfl
  | succ n =>
    rw [loopR]
    split
    · rename_i h2; rw [if_neg (h h2)]
    · rfl
theorem loopR_off {l : List It} {p : Nat} {d : Int} {m : V} (h : p < l.length) (h5 : ¬ m.kind = 5) (h4 : ¬ (m.kind = 4 ∧ l[p].key.toList.isEmpty = true)) (n : Nat) : loopR l n p d m = (m, p) := by
  cases n with
  | zero => rfl
  | succ n => rw [loopR, dif_pos h, if_neg h5, if_neg h4, ite_self]
theorem loopR_map {l : List It} {p n : Nat} {d : Int} {m : V} (h : p < l.length) (hd : l[p].d = d + 1) (h5 : m.kind = 5) :
    loopR l (n + 1) p d m = loopR l n (loopR l n (p + 1) (d + 1) (leafV l[p])).2 d (addF m l[p].key (loopR l n (p + 1) (d + 1) (leafV l[p])).1) := by
  rw [loopR, dif_pos h, if_pos hd, if_pos h5]
theorem loopR_list {l : List It} {p n : Nat} {d : Int} {m : V} (h : p < l.length) (hd : l[p].d = d + 1) (h4 : m.kind = 4) (hk : l[p].key.toList.isEmpty = true) :
    loopR l (n + 1) p d m = loopR l n (loopR l n (p + 1) (d + 1) (leafV l[p])).2 d (addL m (loopR l n (p + 1) (d + 1) (leafV l[p])).1) := by
  rw [loopR, dif_pos h, if_pos hd, if_neg (by rw [h4]; decide), if_pos ⟨h4, hk⟩]
theorem loopR_le (l : List It) : ∀ (n p : Nat) (d : Int) (m : V), p ≤ (loopR l n p d m).2
  | 0, _, _, _ => Nat.le_refl _
  | n + 1, p, d, m => by
    rw [loopR]
    split
    · rename_i h
      have h1 := loopR_le l n (p + 1) (d + 1) (leafV l[p])
      split
      · split
        · exact Nat.le_trans (Nat.le_of_succ_le h1) (loopR_le l n _ d _)
        · split
          · exact Nat.le_trans (Nat.le_of_succ_le h1) (loopR_le l n _ d _)
          · exact Nat.le_refl _
      · exact Nat.le_refl _
    · exact Nat.le_refl _
theorem loopR_top (l : List It) : ∀ (n p : Nat) (d : Int) (m : V), p ≤ l.length → (loopR l n p d m).2 ≤ l.length
  | 0, _, _, _, hp => hp
  | n + 1, p, d, m, hp => by
    rw [loopR]
    split
    · rename_i h
      have h1 := loopR_top l n (p + 1) (d + 1) (leafV l[p]) h
      split
      · split
        · exact loopR_top l n _ d _ h1
        · split
          · exact loopR_top l n _ d _ h1
          · exact hp
      · exact hp
    · exact hp
theorem loopR_is : ∀ (n : Nat) (l : List It) (a N : Nat) (d : Int) (m : V), l.length - (a + N) ≤ n → 0 < N →
    (∀ x k, loopV (l.drop a) d m N = some (x, k) → loopR l n (a + N) d m = (x, a + k)) ∧
    (loopV (l.drop a) d m N = none → ∃ h : (loopR l n (a + N) d m).2 < l.length, d < l[(loopR l n (a + N) d m).2].d)
  | n, l, a, N, d, m, hn, h0 => by
    by_cases hlt : a + N < l.length
    · have hN : N < (l.drop a).length := by rw [List.length_drop]; omega
      have hg : (l.drop a)[N] = l[a + N] := List.getElem_drop
      by_cases hd : d < l[a + N].d
      · have hin := loop_in (l.drop a) d m N h0 hN (by rw [hg]; exact hd)
        rw [List.drop_drop, hg, madeV_drop l (a + N) hlt] at hin
        by_cases he : l[a + N].d = d + 1
        · rw [if_pos he] at hin
          obtain ⟨n, rfl⟩ : ∃ n', n = n' + 1 := ⟨n - 1, by omega⟩
          have ih1 := loopR_is n l (a + N) 1 (d + 1) (leafV l[a + N]) (by omega) (by omega)
          cases hs : loopV (l.drop (a + N)) (d + 1) (leafV l[a + N]) 1 with
          | none =>
            rw [hs] at hin
            obtain ⟨he1, he2⟩ := ih1.2 hs
            have hq : ∀ m', loopR l n (loopR l n (a + N + 1) (d + 1) (leafV l[a + N])).2 d m' = (m', (loopR l n (a + N + 1) (d + 1) (leafV l[a + N])).2) := fun m' => loopR_out (fun h => by omega) n
            refine ⟨fun x k h => (by rw [hin] at h; cases h), fun _ => ?_⟩
            by_cases h5 : m.kind = 5
            · have e := loopR_map (n := n) hlt he h5
              rw [hq] at e
              simp only [e]
              exact ⟨he1, by omega⟩
            · by_cases h4 : m.kind = 4 ∧ l[a + N].key.toList.isEmpty = true
              · have e := loopR_list (n := n) hlt he h4.1 h4.2
                rw [hq] at e
                simp only [e]
                exact ⟨he1, by omega⟩
              · simp only [loopR_off hlt h5 h4 (n + 1)]
                exact ⟨hlt, hd⟩
          | some xk =>
            obtain ⟨x, k⟩ := xk
            rw [hs] at hin
            have hk1 := (loopV_pos _ _ _ _ _ (Nat.le_refl _) (by omega) x k hs).1
            have es := ih1.1 x k hs
            simp only at hin
            rw [if_neg (by omega)] at hin
            by_cases h5 : m.kind = 5
            · rw [if_neg (by rw [h5]; decide), if_pos h5] at hin
              have e := loopR_map (n := n) hlt he h5
              rw [es] at e
              have ih2 := loopR_is n l a (N + k) d (addF m l[a + N].key x) (by omega) (by omega)
              rw [show a + (N + k) = a + N + k by omega] at ih2
              rw [hin, e]
              exact ih2
            · by_cases h4 : m.kind = 4
              · rw [if_pos h4] at hin
                by_cases hk : l[a + N].key.toList.isEmpty = true
                · rw [if_pos hk] at hin
                  have e := loopR_list (n := n) hlt he h4 hk
                  rw [es] at e
                  have ih2 := loopR_is n l a (N + k) d (addL m x) (by omega) (by omega)
                  rw [show a + (N + k) = a + N + k by omega] at ih2
                  rw [hin, e]
                  exact ih2
                · rw [if_neg hk] at hin
                  refine ⟨fun x k h => (by rw [hin] at h; cases h), fun _ => ?_⟩
                  simp only [loopR_off hlt h5 (fun h => hk h.2) (n + 1)]
                  exact ⟨hlt, hd⟩
              · rw [if_neg h4, if_neg h5] at hin
                refine ⟨fun x k h => (by rw [hin] at h; cases h), fun _ => ?_⟩
                simp only [loopR_off hlt h5 (fun h => h4 h.1) (n + 1)]
                exact ⟨hlt, hd⟩
        · rw [if_neg he] at hin
          refine ⟨fun x k h => (by rw [hin] at h; cases h), fun _ => ?_⟩
          simp only [loopR_out (l := l) (p := a + N) (d := d) (m := m) (fun _ => he) n]
          exact ⟨hlt, hd⟩
      · have ho := loop_out (l.drop a) d m N (fun _ => by rw [hg]; exact hd)
        refine ⟨fun x k h => ?_, fun h => by rw [ho] at h; cases h⟩
        rw [ho] at h
        cases h
        exact loopR_out (fun _ => by omega) n
    · have ho := loop_out (l.drop a) d m N (fun h => by rw [List.length_drop] at h; omega)
      refine ⟨fun x k h => ?_, fun h => by rw [ho] at h; cases h⟩
      rw [ho] at h
      cases h
      exact loopR_out (fun h => absurd h hlt) n
/-- What read makes of a whole row at depth 0. -/
def readV (x : It) (l : List It) : V × Nat := loopR (x :: l) (x :: l).length 1 0 (leafV x)
/-- read comes to the end where the document's made does, and then with the same value. -/
theorem read_made (x : It) (l : List It) (hd : x.d = 0) : ((readV x l).2 < (x :: l).length ↔ ¬ (madeR (x :: l) 0).2 = (x :: l).length) ∧ (¬ (readV x l).2 < (x :: l).length → readV x l = madeR (x :: l) 0) := by
  have h := loopR_is (x :: l).length (x :: l) 0 1 0 (leafV x) (by omega) (by omega)
  rw [Nat.zero_add] at h
  have hm : madeV (x :: l) 0 = loopV (x :: l) 0 (leafV x) 1 := if_pos hd
  rw [List.drop_zero] at h
  cases hs : loopV (x :: l) 0 (leafV x) 1 with
  | none =>
    have hr : madeR (x :: l) 0 = (madeR.nilM, 0) := by unfold madeR; rw [hm, hs]
    obtain ⟨h1, _⟩ := h.2 hs
    rw [hr]
    refine ⟨⟨fun _ => by simp, fun _ => h1⟩, fun h2 => absurd h1 h2⟩
  | some xk =>
    obtain ⟨y, k⟩ := xk
    have hr : madeR (x :: l) 0 = (y, k) := by unfold madeR; rw [hm, hs]
    have h1 := h.1 y k hs
    have hk : k ≤ (x :: l).length := by
      have h3 := loopR_top (x :: l) (x :: l).length 1 0 (leafV x) (by simp)
      rw [h1] at h3
      simpa using h3
    have h2 : readV x l = (y, k) := by unfold readV; rw [h1, Nat.zero_add]
    rw [hr, h2]
    exact ⟨⟨fun h => by simp only at h; simp only; omega, fun h => by simp only at h; simp only; omega⟩, fun _ => rfl⟩
end Go.Proofs.YteocenjneoclbaaDoor.tre
namespace Go.Proofs.YteocenjneoclbaaDoor.tre
open Go.RowKit Go.Shelf

/-- The row, the place, and the function itself. -/
def RB (l : List It) (bl c bL bA bN : Nat) (TL TA TN : TypeId) (W : World) (P : Nat) : Prop :=
  W.heap[bL]? = some (.cells #[.slice (some ⟨bl, 0, none⟩) l.length c] TL (0, 0)) ∧ W.heap[bA]? = some (.cells #[.int .i64 P] TA (0, 0)) ∧
  W.heap[bN]? = some (.cells #[.func (.func 77) #[] #[.pointer (some ⟨bL, 0, none⟩), .pointer (some ⟨bA, 0, none⟩), .pointer (some ⟨bN, 0, none⟩)]] TN (0, 0)) ∧
  ItAt W bl 0 l ∧ bl < W.heap.size ∧ bL ≠ bA ∧ bN ≠ bA ∧ bl ≠ bA
theorem RB.later {l : List It} {bl c bL bA bN : Nat} {TL TA TN : TypeId} {W W' : World} {P : Nat} (h : RB l bl c bL bA bN TL TA TN W P) (hb : Below W.heap.size W W') : RB l bl c bL bA bN TL TA TN W' P := by
  obtain ⟨h1, h2, h3, h4, h5, h6⟩ := h
  exact ⟨(hb.block _ (Array.getElem?_eq_some_iff.1 h1).1).trans h1, (hb.block _ (Array.getElem?_eq_some_iff.1 h2).1).trans h2, (hb.block _ (Array.getElem?_eq_some_iff.1 h3).1).trans h3, h4.later hb h5, Nat.lt_of_lt_of_le h5 hb.size, h6⟩
theorem RB.set {l : List It} {bl c bL bA bN : Nat} {TL TA TN : TypeId} {W : World} {P : Nat} (h : RB l bl c bL bA bN TL TA TN W P) (P' : Nat) : RB l bl c bL bA bN TL TA TN (W.setCell ⟨bA, 0, none⟩ (.int .i64 P')) P' := by
  obtain ⟨h1, h2, h3, h4, h5, h6, h7, h8⟩ := h
  refine ⟨(blk_far h6).trans h1, blk_set h2 0 _, (blk_far h7).trans h3, fun i hi j u hu => ?_, by simpa [World.setCell] using h5, h6, h7, h8⟩
  exact (World.cell?_of_block (w := W) (blk_far h8)).trans (h4 i hi j u hu)
theorem below_both {B : Nat} {a w : World} (h : Below B a w) (p : Addr) (u : Value) : Below B (a.setCell p u) (w.setCell p u) := by
  refine ⟨h.os, h.tape, h.output, by simpa [World.setCell] using h.size, fun k hk => ?_⟩
  simp only [World.setCell, Array.getElem?_modify, h.block k hk]
theorem below_twice {W : World} {b : Nat} {x : Value} {T : TypeId} (h : W.heap[b]? = some (.cells #[x] T (0, 0))) (u u' : Value) :
    Below W.heap.size (W.setCell ⟨b, 0, none⟩ u') ((W.setCell ⟨b, 0, none⟩ u).setCell ⟨b, 0, none⟩ u') := by
  refine ⟨rfl, rfl, rfl, by simp [World.setCell], fun k hk => ?_⟩
  by_cases e : k = b
  · subst e
    have h1 := blk_set (blk_set h 0 u) 0 u'
    have h2 := blk_set h 0 u'
    exact h1.trans h2.symm
  · exact (blk_far e).trans ((blk_far e).trans (blk_far e).symm)
/-- The frame of what goes on behind what went on. -/
theorem below_on {W w1 w2 : World} {b : Nat} {x : Value} {T : TypeId} {u u' : Value} (h0 : W.heap[b]? = some (.cells #[x] T (0, 0))) (h1 : Below W.heap.size (W.setCell ⟨b, 0, none⟩ u) w1) (h2 : Below w1.heap.size (w1.setCell ⟨b, 0, none⟩ u') w2) :
    Below W.heap.size (W.setCell ⟨b, 0, none⟩ u') w2 := by
  have hs := h1.size
  simp only [World.setCell, Array.size_modify] at hs
  exact ((below_twice h0 u u').trans (below_both h1 _ u')).trans (h2.mono hs)
theorem size_set (W : World) (a : Addr) (u : Value) : (W.setCell a u).heap.size = W.heap.size := by simp [World.setCell]
end Go.Proofs.YteocenjneoclbaaDoor.tre
