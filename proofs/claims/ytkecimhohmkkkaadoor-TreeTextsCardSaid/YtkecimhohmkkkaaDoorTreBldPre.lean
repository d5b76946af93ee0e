/- Layer 4: rebuild: the same value in new memory, each list of fields arranged. -/
import Derived.Test.YtkecimhohmkkkaaDoorTreClone
import Derived.Test.YtkecimhohmkkkaaDoorTreCnt
import Derived.Deep.RegionHeld3
import Derived.Laws.ResultCell
import Derived.Deep.RegionWith
import Derived.Deep.DeepCutAuto
import Derived.Deep.CutRange
import Derived.Deep.LoopGhost
namespace Go.Proofs.YtkecimhohmkkkaaDoor.tre
open Go.RowKit Go.Shelf

/-- The same, each list of fields arranged. -/
def rebV (arr : List (ByteArray × V) → List (ByteArray × V)) : V → V := V.fold fun v a b => .mk v.kind v.int v.text a (arr b)
theorem rebV_eq (arr : List (ByteArray × V) → List (ByteArray × V)) (v : V) : rebV arr v = .mk v.kind v.int v.text (v.list.map (rebV arr)) (arr (v.fields.map fun g => (g.1, rebV arr g.2))) := by
  unfold rebV; rw [V.fold_eq]

/-- What is asked of arrange: the fields of a row of its own in another order, nothing else turned. -/
def Arr (okl : List (ByteArray × V) → Prop) (g : FuncId) (lb : Array Value) (arr : List (ByteArray × V) → List (ByteArray × V)) : Prop :=
  (∀ args w, (callFunc g args).run Tryd.prog w = .ok (.enter g args) w) ∧
  ∀ (Z : List ((ByteArray × V) × List Value)) (S : Nat → Prop) (w : World) (q : Sl), okl (Z.map (·.1)) → Z.length ≤ 100000 → (∀ z ∈ Z, ∃ r t, z.2 = cellsF z.1 r t) → RowC S w 36 6 Z.length q (Z.map (·.2)) →
    Calls Tryd.prog g (#[.slice q.a q.n q.c] ++ lb) w fun e w' => e = .returned (.tuple #[]) ∧ (∃ Z', List.Perm Z' Z ∧ Z'.map (·.1) = arr (Z.map (·.1)) ∧ RowC S w' 36 6 Z.length q (Z'.map (·.2))) ∧ Keeps (fun k => q.val.ownBlock = some k) w w'

/-- A value in memory of its own, from block B on: its fields' row is one of these, and nothing else of it lies there. -/
def Built (S : Nat → Prop) (B : Nat) (w : World) (v : V) (p q : Sl) : Prop :=
  RowV (fun k => (S k ∨ B ≤ k) ∧ q.val.ownBlock ≠ some k) w v.list p ∧
  ∃ xss, RowC (fun g => B ≤ g) w 36 6 v.fields.length q xss ∧ AllZ (fun (g : ByteArray × V) xs => ∃ ys, xs = .string g.1 :: ys ∧ Lies (fun k => (S k ∨ B ≤ k) ∧ q.val.ownBlock ≠ some k) w g.2 ys) v.fields xss
theorem Built.hv {S : Nat → Prop} {B : Nat} {w : World} {v : V} {p q : Sl} (h : Built S B w v p q) : HV (fun k => S k ∨ B ≤ k) w v p q := by
  obtain ⟨h1, xss, h2, h3⟩ := h
  refine ⟨h1.map (fun g hg _ => ⟨hg.1, rfl⟩), xss, h2.map (fun g hg _ => ⟨.inr hg, rfl⟩), fun i x y hx hy => ?_⟩
  obtain ⟨ys, e, hl⟩ := h3 i x y hx hy
  exact ⟨ys, e, Lies.map (fun g hg _ => ⟨hg.1, rfl⟩) _ _ hl⟩

theorem set_flat : ∀ (xss : List (List Value)) (size : Nat), (∀ xs ∈ xss, xs.length = size) → ∀ i, i < xss.length → ∀ j u, j < size → xss.flatten.set (i * size + j) u = (xss.set i ((xss.getD i []).set j u)).flatten
  | [], _, _, i, h, _, _, _ => by simp at h
  | ys :: xss, size, hs, 0, h, j, u, hj => by
    have hl := hs ys (by simp)
    simp only [Nat.zero_mul, Nat.zero_add, List.flatten_cons, List.set_cons_zero, List.getD_cons_zero]
    rw [List.set_append_left _ _ (by omega)]
  | ys :: xss, size, hs, i + 1, h, j, u, hj => by
    have hl := hs ys (by simp)
    simp only [List.flatten_cons, List.set_cons_succ, List.getD_cons_succ]
    rw [List.set_append_right _ _ (by rw [Nat.succ_mul]; omega), show (i + 1) * size + j - ys.length = i * size + j by rw [Nat.succ_mul]; omega]
    rw [set_flat xss size (fun x hx => hs x (by simp [hx])) i (by simpa using h) j u hj]
/-- A cell of a row is written. -/
theorem RowC.set1 {S : Nat → Prop} {w : World} {e : TypeId} {size n : Nat} {p : Sl} {xss : List (List Value)} (h : RowC S w e size n p xss) {i j : Nat} (hi : i < n) (hj : j < size) {g : Nat} (hg : p.a = some ⟨g, 0, none⟩) (u : Value) :
    RowC S (w.setCell ⟨g, i * size + j, none⟩ u) e size n p (xss.set i ((xss.getD i []).set j u)) := by
  have hf := h.form.1
  obtain ⟨h1, h2, h3, h4⟩ := h
  obtain ⟨pa, pn, pc⟩ := p
  simp only at hg hf
  subst hg hf
  refine ⟨by simpa using h1, fun xs hx => ?_, ?_, h4⟩
  · rcases List.mem_or_eq_of_mem_set hx with hx | rfl
    · exact h2 xs hx
    · rw [List.length_set, List.getD_eq_getElem?_getD, List.getElem?_eq_getElem (by omega)]
      exact h2 _ (List.getElem_mem _)
  · rw [← set_flat xss size h2 i (by omega) j u hj]
    exact (World.ownsRow.stored h3 (i * size + j) u).1

theorem getD_set {α : Type _} (l : List α) (i : Nat) (a d : α) (h : i < l.length) : (l.set i a).getD i d = a := by
  simp [List.getD_eq_getElem?_getD, h]
theorem RowC.put5 {S : Nat → Prop} {w : World} {e : TypeId} {n : Nat} {p : Sl} {xss : List (List Value)} (h : RowC S w e 5 n p xss) {i : Nat} (hi : i < n) {g : Nat} (hg : p.a = some ⟨g, 0, none⟩) (c0 c1 c2 c3 c4 : Value) :
    RowC S (((((w.setCell ⟨g, i * 5, none⟩ c0).setCell ⟨g, i * 5 + 1, none⟩ c1).setCell ⟨g, i * 5 + 2, none⟩ c2).setCell ⟨g, i * 5 + 3, none⟩ c3).setCell ⟨g, i * 5 + 4, none⟩ c4) e 5 n p (xss.set i [c0, c1, c2, c3, c4]) := by
  have hl : i < xss.length := by have := h.1; omega
  obtain ⟨a0, a1, a2, a3, a4, hxs⟩ : ∃ a0 a1 a2 a3 a4, xss.getD i [] = [a0, a1, a2, a3, a4] := by
    have := h.2.1 (xss.getD i []) (by rw [List.getD_eq_getElem?_getD, List.getElem?_eq_getElem hl]; exact List.getElem_mem _)
    match xss.getD i [], this with
    | [a0, a1, a2, a3, a4], _ => exact ⟨a0, a1, a2, a3, a4, rfl⟩
  have h0 := h.set1 hi (j := 0) (by omega) hg c0
  have h1 := h0.set1 hi (j := 1) (by omega) hg c1
  have h2 := h1.set1 hi (j := 2) (by omega) hg c2
  have h3 := h2.set1 hi (j := 3) (by omega) hg c3
  have h4 := h3.set1 hi (j := 4) (by omega) hg c4
  simp only [getD_set, hl, hxs, List.set_set, List.set_cons_zero, List.set_cons_succ] at h4
  exact h4
theorem RowC.put6 {S : Nat → Prop} {w : World} {e : TypeId} {n : Nat} {p : Sl} {xss : List (List Value)} (h : RowC S w e 6 n p xss) {i : Nat} (hi : i < n) {g : Nat} (hg : p.a = some ⟨g, 0, none⟩) {k : Value} {ys : List Value} (hk : xss[i]? = some (k :: ys)) (c0 c1 c2 c3 c4 : Value) :
    RowC S (((((w.setCell ⟨g, i * 6 + 1, none⟩ c0).setCell ⟨g, i * 6 + 2, none⟩ c1).setCell ⟨g, i * 6 + 3, none⟩ c2).setCell ⟨g, i * 6 + 4, none⟩ c3).setCell ⟨g, i * 6 + 5, none⟩ c4) e 6 n p (xss.set i [k, c0, c1, c2, c3, c4]) := by
  have hl : i < xss.length := by have := h.1; omega
  obtain ⟨a0, a1, a2, a3, a4, hxs⟩ : ∃ a0 a1 a2 a3 a4, xss.getD i [] = [k, a0, a1, a2, a3, a4] := by
    have := h.2.1 (k :: ys) (List.mem_of_getElem? hk)
    rw [List.getD_eq_getElem?_getD, hk]
    match ys, this with
    | [a0, a1, a2, a3, a4], _ => exact ⟨a0, a1, a2, a3, a4, rfl⟩
  have h0 := h.set1 hi (j := 1) (by omega) hg c0
  have h1 := h0.set1 hi (j := 2) (by omega) hg c1
  have h2 := h1.set1 hi (j := 3) (by omega) hg c2
  have h3 := h2.set1 hi (j := 4) (by omega) hg c3
  have h4 := h3.set1 hi (j := 5) (by omega) hg c4
  simp only [getD_set, hl, hxs, List.set_set, List.set_cons_zero, List.set_cons_succ] at h4
  exact h4
theorem AllZ.set {α β : Type _} {R : α → β → Prop} {l : List α} {m : List β} (h : AllZ R l m) (i : Nat) {x : α} {y : β} (hxy : R x y) : AllZ R (l.set i x) (m.set i y) := by
  intro j a b ha hb
  rw [List.getElem?_set] at ha hb
  by_cases e : i = j
  · subst e
    rw [if_pos rfl] at ha hb
    split at ha
    · split at hb
      · injection ha with ha; injection hb with hb; subst ha hb; exact hxy
      · cases hb
    · cases ha
  · rw [if_neg e] at ha hb
    exact h j a b ha hb
theorem mix_at {α β : Type _} (f : α → β) (l : List α) (i : Nat) (h : i < l.length) (g : α → β) : ((l.take i).map f ++ (l.drop i).map g)[i]? = some (g l[i]) := by
  rw [List.getElem?_append_right (by simp; omega)]
  simp [Nat.min_eq_left (Nat.le_of_lt h), h]
theorem mix_set {α β : Type _} (f : α → β) (l : List α) (i : Nat) (h : i < l.length) (g : α → β) : ((l.take i).map f ++ (l.drop i).map g).set i (f l[i]) = (l.take (i + 1)).map f ++ (l.drop (i + 1)).map g := by
  rw [List.set_append_right _ _ (by simp; omega)]
  rw [List.length_map, List.length_take, Nat.min_eq_left (Nat.le_of_lt h), Nat.sub_self, List.drop_eq_getElem_cons h, List.map_cons, List.set_cons_zero, List.take_succ_eq_append_getElem h, List.map_append]
  simp

theorem far5 {w : World} {g a b c d e : Nat} {u0 u1 u2 u3 u4 : Value} {k : Nat} (hk : k ≠ g) :
    (((((w.setCell ⟨g, a, none⟩ u0).setCell ⟨g, b, none⟩ u1).setCell ⟨g, c, none⟩ u2).setCell ⟨g, d, none⟩ u3).setCell ⟨g, e, none⟩ u4).heap[k]? = w.heap[k]? :=
  (blk_far hk).trans ((blk_far hk).trans ((blk_far hk).trans ((blk_far hk).trans (blk_far hk))))
theorem keeps5 {w w4 : World} {g a b c d e : Nat} {u0 u1 u2 u3 u4 : Value} {X : Nat → Prop} (h : Keeps X w w4) (hX : X g) :
    Keeps X w (((((w4.setCell ⟨g, a, none⟩ u0).setCell ⟨g, b, none⟩ u1).setCell ⟨g, c, none⟩ u2).setCell ⟨g, d, none⟩ u3).setCell ⟨g, e, none⟩ u4) :=
  ((((h.set (a := ⟨g, a, none⟩) hX u0).set (a := ⟨g, b, none⟩) hX u1).set (a := ⟨g, c, none⟩) hX u2).set (a := ⟨g, d, none⟩) hX u3).set (a := ⟨g, e, none⟩) hX u4
theorem put5_round {R SS : Nat → Prop} {wr w4 : World} {n i g pc : Nat} {zss : List (List Value)} {mix mix' : List V} {y : V} {p q : Sl} (hrow : RowC R wr 28 5 n ⟨some ⟨g, 0, none⟩, n, pc⟩ zss) (hi : i < n)
    (hall : AllZ (Lies SS wr) mix zss) (hSS : ∀ k, SS k → k ≠ g) (hb : Below wr.heap.size wr w4) (hv : HV SS w4 y p q) (hmix : mix.set i y = mix') :
    RowC R (((((w4.setCell ⟨g, i * 5, none⟩ (.int .i64 y.kind)).setCell ⟨g, i * 5 + 1, none⟩ (.int .i64 y.int)).setCell ⟨g, i * 5 + 2, none⟩ (.string y.text)).setCell ⟨g, i * 5 + 3, none⟩ (.slice p.a p.n p.c)).setCell ⟨g, i * 5 + 4, none⟩ (.slice q.a q.n q.c))
      28 5 n ⟨some ⟨g, 0, none⟩, n, pc⟩ (zss.set i (cellsV y p q)) ∧
    AllZ (Lies SS (((((w4.setCell ⟨g, i * 5, none⟩ (.int .i64 y.kind)).setCell ⟨g, i * 5 + 1, none⟩ (.int .i64 y.int)).setCell ⟨g, i * 5 + 2, none⟩ (.string y.text)).setCell ⟨g, i * 5 + 3, none⟩ (.slice p.a p.n p.c)).setCell ⟨g, i * 5 + 4, none⟩ (.slice q.a q.n q.c))) mix' (zss.set i (cellsV y p q)) := by
  refine ⟨(hrow.map (hkBelow hb)).put5 hi rfl _ _ _ _ _, ?_⟩
  rw [← hmix]
  refine AllZ.set ?_ i ?_
  · exact fun j x cs hx hy => Lies.map (fun k hk hl => ⟨hk, (far5 (hSS k hk)).trans (hb.block k hl)⟩) x cs (hall j x cs hx hy)
  · exact Lies.map (fun k hk _ => ⟨hk, far5 (hSS k hk)⟩) y _ hv.lies
theorem put6_round {R SS : Nat → Prop} {wr w4 : World} {n i gg pc : Nat} {zss : List (List Value)} {mix mix' : List (ByteArray × V)} {ky : ByteArray} {y : V} {ys : List Value} {p q : Sl} (hrow : RowC R wr 36 6 n ⟨some ⟨gg, 0, none⟩, n, pc⟩ zss) (hi : i < n)
    (hky : zss[i]? = some (.string ky :: ys)) (hall : AllZ (fun (g : ByteArray × V) xs => ∃ ys, xs = .string g.1 :: ys ∧ Lies SS wr g.2 ys) mix zss) (hSS : ∀ k, SS k → k ≠ gg) (hb : Below wr.heap.size wr w4) (hv : HV SS w4 y p q) (hmix : mix.set i (ky, y) = mix') :
    RowC R (((((w4.setCell ⟨gg, i * 6 + 1, none⟩ (.int .i64 y.kind)).setCell ⟨gg, i * 6 + 2, none⟩ (.int .i64 y.int)).setCell ⟨gg, i * 6 + 3, none⟩ (.string y.text)).setCell ⟨gg, i * 6 + 4, none⟩ (.slice p.a p.n p.c)).setCell ⟨gg, i * 6 + 5, none⟩ (.slice q.a q.n q.c))
      36 6 n ⟨some ⟨gg, 0, none⟩, n, pc⟩ (zss.set i (cellsF (ky, y) p q)) ∧
    AllZ (fun (g : ByteArray × V) xs => ∃ ys, xs = .string g.1 :: ys ∧ Lies SS (((((w4.setCell ⟨gg, i * 6 + 1, none⟩ (.int .i64 y.kind)).setCell ⟨gg, i * 6 + 2, none⟩ (.int .i64 y.int)).setCell ⟨gg, i * 6 + 3, none⟩ (.string y.text)).setCell ⟨gg, i * 6 + 4, none⟩ (.slice p.a p.n p.c)).setCell ⟨gg, i * 6 + 5, none⟩ (.slice q.a q.n q.c)) g.2 ys) mix' (zss.set i (cellsF (ky, y) p q)) := by
  refine ⟨(hrow.map (hkBelow hb)).put6 hi rfl hky _ _ _ _ _, ?_⟩
  rw [← hmix]
  refine AllZ.set ?_ i ⟨cellsV y p q, rfl, Lies.map (fun k hk _ => ⟨hk, far5 (hSS k hk)⟩) y _ hv.lies⟩
  intro j x cs hx hy
  obtain ⟨zs, e, hl⟩ := hall j x cs hx hy
  exact ⟨zs, e, Lies.map (fun k hk hl => ⟨hk, (far5 (hSS k hk)).trans (hb.block k hl)⟩) x.2 zs hl⟩

def bbox (b1 b2 g : Nat) (lb : Array Value) (T1 T2 : TypeId) : List (Nat × Obj) :=
  [(b1, .cells #[.func (.func 70) #[] #[.pointer (some ⟨b1, 0, none⟩), .pointer (some ⟨b2, 0, none⟩)]] T1 (0, 0)), (b2, .cells #[.func (.func g) #[] lb] T2 (0, 0))]
def Has (bs : List (Nat × Obj)) (W : World) : Prop := ∀ p ∈ bs, W.heap[p.1]? = some p.2
theorem has_cons {p : Nat × Obj} {bs : List (Nat × Obj)} {W : World} : Has (p :: bs) W ↔ W.heap[p.1]? = some p.2 ∧ Has bs W := by
  unfold Has; simp
theorem Has.later {bs : List (Nat × Obj)} {W W' : World} (h : Has bs W) (hb : Below W.heap.size W W') : Has bs W' := fun p hp => (hb.block p.1 (Array.getElem?_eq_some_iff.1 (h p hp)).1).trans (h p hp)

def BuildAt (arr : List (ByteArray × V) → List (ByteArray × V)) (b1 b2 g : Nat) (lb : Array Value) (T1 T2 : TypeId) (v : V) : Prop :=
  ∀ (S : Nat → Prop) (W : World) (r t : Sl), (∀ g, S g → g < W.heap.size) → HV S W v r t → Has (bbox b1 b2 g lb T1 T2) W →
    Calls Tryd.prog 70 #[.agg #[.int .i64 v.kind, .int .i64 v.int, .string v.text, .slice r.a r.n r.c, .slice t.a t.n t.c], .pointer (some ⟨b1, 0, none⟩), .pointer (some ⟨b2, 0, none⟩)] W
      fun e w' => ∃ p q : Sl, e = .returned (.agg #[.int .i64 v.kind, .int .i64 v.int, .string v.text, .slice p.a p.n p.c, .slice q.a q.n q.c]) ∧ Built S W.heap.size w' (rebV arr v) p q ∧ Below W.heap.size W w'

theorem size_V : (Tryd.prog.info? 28).map (·.size) = some 5 := by kernel_rfl
/-- Five cells of a block, written one by one. -/
theorem set5 {w : World} {g : Nat} {T : TypeId} {a0 a1 a2 a3 a4 : Value} (u0 u1 u2 u3 u4 : Value) (h : w.heap[g]? = some (.cells #[a0, a1, a2, a3, a4] T (0, 0))) :
    (((((w.setCell ⟨g, 0, none⟩ u0).setCell ⟨g, 1, none⟩ u1).setCell ⟨g, 2, none⟩ u2).setCell ⟨g, 3, none⟩ u3).setCell ⟨g, 4, none⟩ u4).heap[g]? = some (.cells #[u0, u1, u2, u3, u4] T (0, 0)) :=
  blk_set (blk_set (blk_set (blk_set (blk_set h 0 u0) 1 u1) 2 u2) 3 u3) 4 u4
/-- Pairs in another order: what holds of each still does. -/
theorem perm_all {α β : Type _} {R : α → β → Prop} {Z Z' : List (α × β)} (hP : List.Perm Z' Z) (h : ∀ z ∈ Z, R z.1 z.2) : AllZ R (Z'.map (·.1)) (Z'.map (·.2)) := by
  intro i x y hx hy
  rw [List.getElem?_map, Option.map_eq_some_iff] at hx hy
  obtain ⟨z, hz, rfl⟩ := hx
  obtain ⟨z', hz', rfl⟩ := hy
  rw [hz] at hz'
  injection hz' with e
  subst e
  exact h z (hP.mem_iff.1 (List.mem_of_getElem? hz))
end Go.Proofs.YtkecimhohmkkkaaDoor.tre
