/- Layer 4: rebuild: the same value in new memory, each list of fields arranged. Layer 4: rebuild: the closure that builds a value anew, by induction on it. -/
import Derived.Deep.CutRange
import Derived.Deep.DeepCutAuto
import Derived.Deep.LoopGhost
import Derived.Deep.RegionHeld3
import Derived.Deep.RegionWith
import Derived.Laws.ResultCell
import Derived.Test.YteocenjneoclbaaDoorTrmCnt
import Derived.Test.YteocenjneoclbaaDoorTrmWalk
namespace Go.Proofs.YteocenjneoclbaaDoor.tre
open Go.RowKit Go.Shelf

/-- The same, each list of fields arranged. -/
def rebV (arr : List (ByteArray × V) → List (ByteArray × V)) : V → V := V.fold fun v a b => .mk v.kind v.int v.text a (arr b)
theorem rebV_eq (arr : List (ByteArray × V) → List (ByteArray × V)) (v : V) : rebV arr v = .mk v.kind v.int v.text (v.list.map (rebV arr)) (arr (v.fields.map fun g => (g.1, rebV arr g.2))) := by
  unfold rebV; rw [V.fold_eq]

/-- What is asked of arrange: the fields of a row of its own in another order, nothing else turned. -/
def Arr (okl : List (ByteArray × V) → Prop) (g : FuncId) (lb : Array Value) (arr : List (ByteArray × V) → List (ByteArray × V)) : Prop :=
  (∀ args w, (callFunc g args).run Tryd.prog w = .ok (.enter g args) w) ∧
  ∀ (Z : List ((ByteArray × V) × List Value)) (S : Nat → Prop) (w : World) (q : Sl), okl (Z.map (·.1)) → Z.length ≤ 100000 → (∀ z ∈ Z, ∃ r t, z.2 = cellsF z.1 r t) → RowC S w 31 6 Z.length q (Z.map (·.2)) →
    Calls Tryd.prog g (#[.slice q.a q.n q.c] ++ lb) w fun e w' => e = .returned (.tuple #[]) ∧ (∃ Z', List.Perm Z' Z ∧ Z'.map (·.1) = arr (Z.map (·.1)) ∧ RowC S w' 31 6 Z.length q (Z'.map (·.2))) ∧ Keeps (fun k => q.val.ownBlock = some k) w w'

/-- A value in memory of its own, from block B on: its fields' row is one of these, and nothing else of it lies there. -/
def Built (S : Nat → Prop) (B : Nat) (w : World) (v : V) (p q : Sl) : Prop :=
  RowV (fun k => (S k ∨ B ≤ k) ∧ q.val.ownBlock ≠ some k) w v.list p ∧
  ∃ xss, RowC (fun g => B ≤ g) w 31 6 v.fields.length q xss ∧ AllZ (fun (g : ByteArray × V) xs => ∃ ys, xs = .string g.1 :: ys ∧ Lies (fun k => (S k ∨ B ≤ k) ∧ q.val.ownBlock ≠ some k) w g.2 ys) v.fields xss
theorem Built.hv {S : Nat → Prop} {B : Nat} {w : World} {v : V} {p q : Sl} (h : Built S B w v p q) : HV (fun k => S k ∨ B ≤ k) w v p q := by
  obtain ⟨h1, xss, h2, h3⟩ := h
  refine ⟨h1.map (fun g hg _ => ⟨hg.1, rfl⟩), xss, h2.map (fun g hg _ => ⟨.inr hg, rfl⟩), fun i x y hx hy => ?_⟩
  obtain ⟨ys, e, hl⟩ := h3 i x y hx hy
  exact ⟨ys, e, Lies.map (fun g hg _ => ⟨hg.1, rfl⟩) _ _ hl⟩

theorem set_flat : ∀ (xss : List (List Value)) (size : Nat), (∀ xs ∈ xss, xs.length = size) → ∀ i, i < xss.length → ∀ j u, j < size → xss.flatten.set (i * size + j) u = (xss.set i ((xss.getD i []).set j u)).flatten
  | [], _, _, i, h, _, _, _ => by simp at h
  | ys :: xss, size, hs, 0, h, j, u, hj => by
    have hl := hs ys (by simp)
    simp only [Nat.zero_mul, Nat.zero_add, List.flatten_cons, List.set_cons_zero, List.getD_cons_zero]
    rw [List.set_append_left _ _ (by omega)]
  | ys :: xss, size, hs, i + 1, h, j, u, hj => by
    have hl := hs ys (by simp)
    simp only [List.flatten_cons, List.set_cons_succ, List.getD_cons_succ]
    rw [List.set_append_right _ _ (by rw [Nat.succ_mul]; omega), show (i + 1) * size + j - ys.length = i * size + j by rw [Nat.succ_mul]; omega]
    rw [set_flat xss size (fun x hx => hs x (by simp [hx])) i (by simpa using h) j u hj]
/-- A cell of a row is written. -/
theorem RowC.set1 {S : Nat → Prop} {w : World} {e : TypeId} {size n : Nat} {p : Sl} {xss : List (List Value)} (h : RowC S w e size n p xss) {i j : Nat} (hi : i < n) (hj : j < size) {g : Nat} (hg : p.a = some ⟨g, 0, none⟩) (u : Value) :
    RowC S (w.setCell ⟨g, i * size + j, none⟩ u) e size n p (xss.set i ((xss.getD i []).set j u)) := by
  have hf := h.form.1
  obtain ⟨h1, h2, h3, h4⟩ := h
  obtain ⟨pa, pn, pc⟩ := p
  simp only at hg hf
  subst hg hf
  refine ⟨by simpa using h1, fun xs hx => ?_, ?_, h4⟩
  · rcases List.mem_or_eq_of_mem_set hx with hx | rfl
    · exact h2 xs hx
    · rw [List.length_set, List.getD_eq_getElem?_getD, List.getElem?_eq_getElem (by omega)]
      exact h2 _ (List.getElem_mem _)
  · rw [← set_flat xss size h2 i (by omega) j u hj]
    exact (World.ownsRow.stored h3 (i * size + j) u).1

theorem getD_set {α : Type _} (l : List α) (i : Nat) (a d : α) (h : i < l.length) : (l.set i a).getD i d = a := by
  simp [List.getD_eq_getElem?_getD, h]
theorem RowC.put5 {S : Nat → Prop} {w : World} {e : TypeId} {n : Nat} {p : Sl} {xss : List (List Value)} (h : RowC S w e 5 n p xss) {i : Nat} (hi : i < n) {g : Nat} (hg : p.a = some ⟨g, 0, none⟩) (c0 c1 c2 c3 c4 : Value) :
    RowC S (((((w.setCell ⟨g, i * 5, none⟩ c0).setCell ⟨g, i * 5 + 1, none⟩ c1).setCell ⟨g, i * 5 + 2, none⟩ c2).setCell ⟨g, i * 5 + 3, none⟩ c3).setCell ⟨g, i * 5 + 4, none⟩ c4) e 5 n p (xss.set i [c0, c1, c2, c3, c4]) := by
  have hl : i < xss.length := by have := h.1; omega
  obtain ⟨a0, a1, a2, a3, a4, hxs⟩ : ∃ a0 a1 a2 a3 a4, xss.getD i [] = [a0, a1, a2, a3, a4] := by
    have := h.2.1 (xss.getD i []) (by rw [List.getD_eq_getElem?_getD, List.getElem?_eq_getElem hl]; exact List.getElem_mem _)
    match xss.getD i [], this with
    | [a0, a1, a2, a3, a4], _ => exact ⟨a0, a1, a2, a3, a4, rfl⟩
  have h0 := h.set1 hi (j := 0) (by omega) hg c0
  have h1 := h0.set1 hi (j := 1) (by omega) hg c1
  have h2 := h1.set1 hi (j := 2) (by omega) hg c2
  have h3 := h2.set1 hi (j := 3) (by omega) hg c3
  have h4 := h3.set1 hi (j := 4) (by omega) hg c4
  simp only [getD_set, hl, hxs, List.set_set, List.set_cons_zero, List.set_cons_succ] at h4
  exact h4
theorem RowC.put6 {S : Nat → Prop} {w : World} {e : TypeId} {n : Nat} {p : Sl} {xss : List (List Value)} (h : RowC S w e 6 n p xss) {i : Nat} (hi : i < n) {g : Nat} (hg : p.a = some ⟨g, 0, none⟩) {k : Value} {ys : List Value} (hk : xss[i]? = some (k :: ys)) (c0 c1 c2 c3 c4 : Value) :
    RowC S (((((w.setCell ⟨g, i * 6 + 1, none⟩ c0).setCell ⟨g, i * 6 + 2, none⟩ c1).setCell ⟨g, i * 6 + 3, none⟩ c2).setCell ⟨g, i * 6 + 4, none⟩ c3).setCell ⟨g, i * 6 + 5, none⟩ c4) e 6 n p (xss.set i [k, c0, c1, c2, c3, c4]) := by
  have hl : i < xss.length := by have := h.1; omega
  obtain ⟨a0, a1, a2, a3, a4, hxs⟩ : ∃ a0 a1 a2 a3 a4, xss.getD i [] = [k, a0, a1, a2, a3, a4] := by
    have := h.2.1 (k :: ys) (List.mem_of_getElem? hk)
    rw [List.getD_eq_getElem?_getD, hk]
    match ys, this with
    | [a0, a1, a2, a3, a4], _ => exact ⟨a0, a1, a2, a3, a4, rfl⟩
  have h0 := h.set1 hi (j := 1) (by omega) hg c0
  have h1 := h0.set1 hi (j := 2) (by omega) hg c1
  have h2 := h1.set1 hi (j := 3) (by omega) hg c2
  have h3 := h2.set1 hi (j := 4) (by omega) hg c3
  have h4 := h3.set1 hi (j := 5) (by omega) hg c4
  simp only [getD_set, hl, hxs, List.set_set, List.set_cons_zero, List.set_cons_succ] at h4
  exact h4
theorem AllZ.set {α β : Type _} {R : α → β → Prop} {l : List α} {m : List β} (h : AllZ R l m) (i : Nat) {x : α} {y : β} (hxy : R x y) : AllZ R (l.set i x) (m.set i y) := by
  intro j a b ha hb
  rw [List.getElem?_set] at ha hb
  by_cases e : i = j
  · subst e
    rw [if_pos rfl] at ha hb
    split at ha
    · split at hb
      · injection ha with ha; injection hb with hb; subst ha hb; exact hxy
      · cases hb
    · cases ha
  · rw [if_neg e] at ha hb
    exact h j a b ha hb
theorem mix_at {α β : Type _} (f : α → β) (l : List α) (i : Nat) (h : i < l.length) (g : α → β) : ((l.take i).map f ++ (l.drop i).map g)[i]? = some (g l[i]) := by
  rw [List.getElem?_append_right (by simp; omega)]
  simp [Nat.min_eq_left (Nat.le_of_lt h), h]
theorem mix_set {α β : Type _} (f : α → β) (l : List α) (i : Nat) (h : i < l.length) (g : α → β) : ((l.take i).map f ++ (l.drop i).map g).set i (f l[i]) = (l.take (i + 1)).map f ++ (l.drop (i + 1)).map g := by
  rw [List.set_append_right _ _ (by simp; omega)]
  rw [List.length_map, List.length_take, Nat.min_eq_left (Nat.le_of_lt h), Nat.sub_self, List.drop_eq_getElem_cons h, List.map_cons, List.set_cons_zero, List.take_succ_eq_append_getElem h, List.map_append]
  simp

theorem far5 {w : World} {g a b c d e : Nat} {u0 u1 u2 u3 u4 : Value} {k : Nat} (hk : k ≠ g) :
    (((((w.setCell ⟨g, a, none⟩ u0).setCell ⟨g, b, none⟩ u1).setCell ⟨g, c, none⟩ u2).setCell ⟨g, d, none⟩ u3).setCell ⟨g, e, none⟩ u4).heap[k]? = w.heap[k]? :=
  (blk_far hk).trans ((blk_far hk).trans ((blk_far hk).trans ((blk_far hk).trans (blk_far hk))))
theorem keeps5 {w w4 : World} {g a b c d e : Nat} {u0 u1 u2 u3 u4 : Value} {X : Nat → Prop} (h : Keeps X w w4) (hX : X g) :
    Keeps X w (((((w4.setCell ⟨g, a, none⟩ u0).setCell ⟨g, b, none⟩ u1).setCell ⟨g, c, none⟩ u2).setCell ⟨g, d, none⟩ u3).setCell ⟨g, e, none⟩ u4) :=
  ((((h.set (a := ⟨g, a, none⟩) hX u0).set (a := ⟨g, b, none⟩) hX u1).set (a := ⟨g, c, none⟩) hX u2).set (a := ⟨g, d, none⟩) hX u3).set (a := ⟨g, e, none⟩) hX u4
theorem put5_round {R SS : Nat → Prop} {wr w4 : World} {n i g pc : Nat} {zss : List (List Value)} {mix mix' : List V} {y : V} {p q : Sl} (hrow : RowC R wr 27 5 n ⟨some ⟨g, 0, none⟩, n, pc⟩ zss) (hi : i < n)
    (hall : AllZ (Lies SS wr) mix zss) (hSS : ∀ k, SS k → k ≠ g) (hb : Below wr.heap.size wr w4) (hv : HV SS w4 y p q) (hmix : mix.set i y = mix') :
    RowC R (((((w4.setCell ⟨g, i * 5, none⟩ (.int .i64 y.kind)).setCell ⟨g, i * 5 + 1, none⟩ (.int .i64 y.int)).setCell ⟨g, i * 5 + 2, none⟩ (.string y.text)).setCell ⟨g, i * 5 + 3, none⟩ (.slice p.a p.n p.c)).setCell ⟨g, i * 5 + 4, none⟩ (.slice q.a q.n q.c))
      27 5 n ⟨some ⟨g, 0, none⟩, n, pc⟩ (zss.set i (cellsV y p q)) ∧
    AllZ (Lies SS (((((w4.setCell ⟨g, i * 5, none⟩ (.int .i64 y.kind)).setCell ⟨g, i * 5 + 1, none⟩ (.int .i64 y.int)).setCell ⟨g, i * 5 + 2, none⟩ (.string y.text)).setCell ⟨g, i * 5 + 3, none⟩ (.slice p.a p.n p.c)).setCell ⟨g, i * 5 + 4, none⟩ (.slice q.a q.n q.c))) mix' (zss.set i (cellsV y p q)) := by
  refine ⟨(hrow.map (hkBelow hb)).put5 hi rfl _ _ _ _ _, ?_⟩
  rw [← hmix]
  refine AllZ.set ?_ i ?_
  · exact fun j x cs hx hy => Lies.map (fun k hk hl => ⟨hk, (far5 (hSS k hk)).trans (hb.block k hl)⟩) x cs (hall j x cs hx hy)
  · exact Lies.map (fun k hk _ => ⟨hk, far5 (hSS k hk)⟩) y _ hv.lies
theorem put6_round {R SS : Nat → Prop} {wr w4 : World} {n i gg pc : Nat} {zss : List (List Value)} {mix mix' : List (ByteArray × V)} {ky : ByteArray} {y : V} {ys : List Value} {p q : Sl} (hrow : RowC R wr 31 6 n ⟨some ⟨gg, 0, none⟩, n, pc⟩ zss) (hi : i < n)
    (hky : zss[i]? = some (.string ky :: ys)) (hall : AllZ (fun (g : ByteArray × V) xs => ∃ ys, xs = .string g.1 :: ys ∧ Lies SS wr g.2 ys) mix zss) (hSS : ∀ k, SS k → k ≠ gg) (hb : Below wr.heap.size wr w4) (hv : HV SS w4 y p q) (hmix : mix.set i (ky, y) = mix') :
    RowC R (((((w4.setCell ⟨gg, i * 6 + 1, none⟩ (.int .i64 y.kind)).setCell ⟨gg, i * 6 + 2, none⟩ (.int .i64 y.int)).setCell ⟨gg, i * 6 + 3, none⟩ (.string y.text)).setCell ⟨gg, i * 6 + 4, none⟩ (.slice p.a p.n p.c)).setCell ⟨gg, i * 6 + 5, none⟩ (.slice q.a q.n q.c))
      31 6 n ⟨some ⟨gg, 0, none⟩, n, pc⟩ (zss.set i (cellsF (ky, y) p q)) ∧
    AllZ (fun (g : ByteArray × V) xs => ∃ ys, xs = .string g.1 :: ys ∧ Lies SS (((((w4.setCell ⟨gg, i * 6 + 1, none⟩ (.int .i64 y.kind)).setCell ⟨gg, i * 6 + 2, none⟩ (.int .i64 y.int)).setCell ⟨gg, i * 6 + 3, none⟩ (.string y.text)).setCell ⟨gg, i * 6 + 4, none⟩ (.slice p.a p.n p.c)).setCell ⟨gg, i * 6 + 5, none⟩ (.slice q.a q.n q.c)) g.2 ys) mix' (zss.set i (cellsF (ky, y) p q)) := by
  refine ⟨(hrow.map (hkBelow hb)).put6 hi rfl hky _ _ _ _ _, ?_⟩
  rw [← hmix]
  refine AllZ.set ?_ i ⟨cellsV y p q, rfl, Lies.map (fun k hk _ => ⟨hk, far5 (hSS k hk)⟩) y _ hv.lies⟩
  intro j x cs hx hy
  obtain ⟨zs, e, hl⟩ := hall j x cs hx hy
  exact ⟨zs, e, Lies.map (fun k hk hl => ⟨hk, (far5 (hSS k hk)).trans (hb.block k hl)⟩) x.2 zs hl⟩

def bbox (b1 b2 g : Nat) (lb : Array Value) (T1 T2 : TypeId) : List (Nat × Obj) :=
  [(b1, .cells #[.func (.func 64) #[] #[.pointer (some ⟨b1, 0, none⟩), .pointer (some ⟨b2, 0, none⟩)]] T1 (0, 0)), (b2, .cells #[.func (.func g) #[] lb] T2 (0, 0))]
def Has (bs : List (Nat × Obj)) (W : World) : Prop := ∀ p ∈ bs, W.heap[p.1]? = some p.2
theorem has_cons {p : Nat × Obj} {bs : List (Nat × Obj)} {W : World} : Has (p :: bs) W ↔ W.heap[p.1]? = some p.2 ∧ Has bs W := by
  unfold Has; simp
theorem Has.later {bs : List (Nat × Obj)} {W W' : World} (h : Has bs W) (hb : Below W.heap.size W W') : Has bs W' := fun p hp => (hb.block p.1 (Array.getElem?_eq_some_iff.1 (h p hp)).1).trans (h p hp)

def BuildAt (arr : List (ByteArray × V) → List (ByteArray × V)) (b1 b2 g : Nat) (lb : Array Value) (T1 T2 : TypeId) (v : V) : Prop :=
  ∀ (S : Nat → Prop) (W : World) (r t : Sl), (∀ g, S g → g < W.heap.size) → HV S W v r t → Has (bbox b1 b2 g lb T1 T2) W →
    Calls Tryd.prog 64 #[.agg #[.int .i64 v.kind, .int .i64 v.int, .string v.text, .slice r.a r.n r.c, .slice t.a t.n t.c], .pointer (some ⟨b1, 0, none⟩), .pointer (some ⟨b2, 0, none⟩)] W
      fun e w' => ∃ p q : Sl, e = .returned (.agg #[.int .i64 v.kind, .int .i64 v.int, .string v.text, .slice p.a p.n p.c, .slice q.a q.n q.c]) ∧ Built S W.heap.size w' (rebV arr v) p q ∧ Below W.heap.size W w'

theorem size_V : (Tryd.prog.info? 27).map (·.size) = some 5 := by kernel_rfl
/-- Five cells of a block, written one by one. -/
theorem set5 {w : World} {g : Nat} {T : TypeId} {a0 a1 a2 a3 a4 : Value} (u0 u1 u2 u3 u4 : Value) (h : w.heap[g]? = some (.cells #[a0, a1, a2, a3, a4] T (0, 0))) :
    (((((w.setCell ⟨g, 0, none⟩ u0).setCell ⟨g, 1, none⟩ u1).setCell ⟨g, 2, none⟩ u2).setCell ⟨g, 3, none⟩ u3).setCell ⟨g, 4, none⟩ u4).heap[g]? = some (.cells #[u0, u1, u2, u3, u4] T (0, 0)) :=
  blk_set (blk_set (blk_set (blk_set (blk_set h 0 u0) 1 u1) 2 u2) 3 u3) 4 u4
/-- Pairs in another order: what holds of each still does. -/
theorem perm_all {α β : Type _} {R : α → β → Prop} {Z Z' : List (α × β)} (hP : List.Perm Z' Z) (h : ∀ z ∈ Z, R z.1 z.2) : AllZ R (Z'.map (·.1)) (Z'.map (·.2)) := by
  intro i x y hx hy
  rw [List.getElem?_map, Option.map_eq_some_iff] at hx hy
  obtain ⟨z, hz, rfl⟩ := hx
  obtain ⟨z', hz', rfl⟩ := hy
  rw [hz] at hz'
  injection hz' with e
  subst e
  exact h z (hP.mem_iff.1 (List.mem_of_getElem? hz))
end Go.Proofs.YteocenjneoclbaaDoor.tre
namespace Go.Proofs.YteocenjneoclbaaDoor.tre
open Go.RowKit Go.Shelf

set_option maxRecDepth 100000 in
set_option maxHeartbeats 4000000 in
theorem build_any {okl : List (ByteArray × V) → Prop} {g : FuncId} {lb : Array Value} {arr : List (ByteArray × V) → List (ByteArray × V)} (hg : Arr okl g lb arr) (b1 b2 : Nat) (T1 T2 : TypeId) (okv : V → Prop)
    (her : ∀ v, okv v → (∀ x ∈ v.list, okv x) ∧ (∀ g ∈ v.fields, okv g.2) ∧ v.list.length ≤ 100000 ∧ v.fields.length ≤ 100000 ∧ okl (v.fields.map fun g => (g.1, rebV arr g.2))) :
    ∀ v, okv v → BuildAt arr b1 b2 g lb T1 T2 v := V.ind fun v ihl ihf => by
  intro hok S W r t hS hh hbx
  obtain ⟨hk1, hk2, hk3, hk4, hk5⟩ := her v hok
  obtain ⟨xl, hL1, hL2⟩ := hh.1
  obtain ⟨xf, hF1, hF2⟩ := hh.2
  have hone1 := oneV hL1.1 hL2
  have hone2 := oneF hF1.1 hF2
  have hbelow : ∀ o1 o2, Below W.heap.size W ((W.alloc o1).alloc o2) := fun o1 o2 => ((Below.refl _ _).alloc (Nat.le_refl _) o1).alloc (by rw [size_alloc]; omega) o2
  go_enter Tryd.func64, Tryd.ntmps64
  go_upto_region 1 with fail
  have hLw : ∀ W1, Below W.heap.size W W1 → RowC S W1 27 5 v.list.length r xl := fun W1 hb => hL1.map (hkBelow hb)
  have hFw : ∀ W1, Below W.heap.size W W1 → RowC S W1 31 6 v.fields.length t xf := fun W1 hb => hF1.map (hkBelow hb)
  have HX := Lib.hid (And.intro hbelow (And.intro hLw (And.intro hFw (And.intro hL2 (And.intro hF2 (And.intro hbx (And.intro hh (And.intro hS (And.intro ihl (And.intro ihf (And.intro hg (And.intro hk1 (And.intro hk2 hk5)))))))))))))
  have h1 := Lib.hid hone1
  have h2 := Lib.hid hone2
  clear hbelow hLw hFw hL1 hF1 hL2 hF2 hbx hh hS ihl ihf hg hk1 hk2 hk5 hone1 hone2 her hok
  go_cut [] from 9 to 16 (fun wc => ∃ (M : Nat) (p q : Sl), wc.heap[W.heap.size]? = some (.cells #[.int .i64 v.kind, .int .i64 v.int, .string v.text, .slice p.a p.n p.c, .slice q.a q.n q.c] 27 (0, 0)) ∧
    Hid (RowC (fun g => W.heap.size + 2 ≤ g ∧ g < M) wc 27 5 v.list.length p xl ∧ RowC (fun g => M ≤ g ∧ W.heap.size + 2 ≤ g) wc 31 6 v.fields.length q xf ∧ Below W.heap.size W wc ∧ M ≤ wc.heap.size ∧ wc.heap[W.heap.size + 1]? = some (.cells #[.int .i64 0, .int .i64 0, .string ⟨#[]⟩, .slice none 0 0, .slice none 0 0] 27 (0, 0))))
  case first =>
    go_region_with (first
      | (go_at_call 65; refine (cloneV_any v.list.length hk3 r xl S _ (HX.out.2.1 _ (HX.out.1 _ _).drew) h1.out).mono ?_; rintro e w3 ⟨q1, rfl, hq1, hb3⟩; have e3 : w3.heap[W.heap.size]? = some (.cells #[.int .i64 v.kind, .int .i64 v.int, .string v.text, .slice r.a r.n r.c, .slice t.a t.n t.c] 27 (0, 0)) := (hb3.block W.heap.size (by simp; omega)).trans ((block_old (by simp)).trans (block_new W _)); have kw33 : w3.cell? ⟨W.heap.size, 3, none⟩ = some (.slice r.a r.n r.c) := (by rw [blk_cell e3]; rfl); have kw34 : w3.cell? ⟨W.heap.size, 4, none⟩ = some (.slice t.a t.n t.c) := (by rw [blk_cell e3]; rfl); have fw33 := blk_frozen e3 3; have fw34 := blk_frozen e3 4; have He3 := Lib.hid e3; clear e3; have Hq1 := Lib.hid (And.intro hq1 hb3); clear hq1 hb3)
      | (go_at_call 66; refine (cloneF_any v.fields.length hk4 t xf S _ (HX.out.2.2.1 _ ((HX.out.1 _ _).drew.trans (Hq1.out.2.mono (HX.out.1 _ _).size))) h2.out).mono ?_; rintro e w4 ⟨q2, rfl, hq2, hb4⟩; have e4 : w4.heap[W.heap.size]? = some (.cells #[.int .i64 v.kind, .int .i64 v.int, .string v.text, .slice r.a r.n r.c, .slice t.a t.n t.c] 27 (0, 0)) := (hb4.block W.heap.size (by have := (Array.getElem?_eq_some_iff.1 He3.out).1; omega)).trans He3.out; have kw43 : w4.cell? ⟨W.heap.size, 3, none⟩ = some (.slice r.a r.n r.c) := (by rw [blk_cell e4]; rfl); have kw44 : w4.cell? ⟨W.heap.size, 4, none⟩ = some (.slice t.a t.n t.c) := (by rw [blk_cell e4]; rfl); have fw43 := blk_frozen e4 3; have fw44 := blk_frozen e4 4; have He4 := Lib.hid e4; clear e4; have Hq2 := Lib.hid (And.intro hq2 hb4); clear hq2 hb4))
    all_goals (go_wp2_with fail; go_meet)
    all_goals
      have s1 := Hq1.out.2.size
      have s2 := Hq2.out.2.size
      simp only [World.drew, size_alloc] at s1
      have hfar : ∀ k u u', k ≠ W.heap.size → ((w4.setCell ⟨W.heap.size, 3, none⟩ u).setCell ⟨W.heap.size, 4, none⟩ u').heap[k]? = w4.heap[k]? := fun k u u' hk => (blk_far hk).trans (blk_far hk)
      refine ⟨w3.heap.size, q1, q2, blk_set (blk_set He4.out 3 _) 4 _, Hq1.out.1.map (fun k hk hl => ⟨⟨?_, hl⟩, ?_⟩), Hq2.out.1.map (fun k hk hl => ⟨⟨hk, ?_⟩, ?_⟩), ?_, ?_, ?_⟩
      · simp only [World.drew, size_alloc] at hk; omega
      · simp only [World.drew, size_alloc] at hk
        exact (hfar k _ _ (by omega)).trans (Hq2.out.2.block k hl)
      · omega
      · exact hfar k _ _ (by omega)
      · exact (((HX.out.1 _ _).drew.trans (Hq1.out.2.mono (by simp only [World.drew, size_alloc]; omega))).trans (Hq2.out.2.mono (by omega))).setCell (Nat.le_refl _) _ |>.setCell (Nat.le_refl _) _
      · simp only [World.setCell, Array.size_modify]; omega
      · refine (hfar _ _ _ (by omega)).trans ((Hq2.out.2.block _ (by omega)).trans ((Hq1.out.2.block _ (by simp only [World.drew, size_alloc]; omega)).trans ?_))
        have := block_new (W.alloc (.cells #[.int .i64 v.kind, .int .i64 v.int, .string v.text, .slice r.a r.n r.c, .slice t.a t.n t.c] 27)) (.cells #[.int .i64 0, .int .i64 0, .string ⟨#[]⟩, .slice none 0 0, .slice none 0 0] 27)
        rw [size_alloc] at this
        exact this
  case rest =>
    obtain ⟨M, p, q, e5, Hw⟩ := hcut
    have c53 : wc.cell? ⟨W.heap.size, 3, none⟩ = some (.slice p.a p.n p.c) := by rw [blk_cell e5]; rfl
    have l5 := (Array.getElem?_eq_some_iff.1 e5).1
    obtain ⟨pa, pn, pc⟩ := p
    obtain ⟨qa, qn, qc⟩ := q
    have hpn : pn = v.list.length := Hw.out.1.form.1
    have hqn : qn = v.fields.length := Hw.out.2.1.form.1
    simp only at c53 e5
    subst hpn hqn
    have He5 := Lib.hid e5
    clear e5
    go_wp2
    clear c53
    have HXo := HX.out
    obtain ⟨_, _, _, _, hF2, hbx, hh, hS, ihl, ihf, hg, hk1, hk2, hk5⟩ := HXo
    have hB1 : wc.heap[b1]? = _ := (Hw.out.2.2.1.block b1 (Array.getElem?_eq_some_iff.1 (has_cons.1 hbx).1).1).trans (has_cons.1 hbx).1
    have lb1 := (Array.getElem?_eq_some_iff.1 (has_cons.1 hbx).1).1
    have hB2 : wc.heap[b2]? = _ := (Hw.out.2.2.1.block b2 (Array.getElem?_eq_some_iff.1 (has_cons.1 (has_cons.1 hbx).2).1).1).trans (has_cons.1 (has_cons.1 hbx).2).1
    have lb2 := (Array.getElem?_eq_some_iff.1 (has_cons.1 (has_cons.1 hbx).2).1).1
    simp only at hB1 hB2 lb1 lb2
    have hszc := Hw.out.2.2.1.size
    have lM := Hw.out.2.2.2.1
    have l6 := (Array.getElem?_eq_some_iff.1 Hw.out.2.2.2.2).1
    have HY := Lib.hid (And.intro hF2 (And.intro hh (And.intro hS (And.intro ihl (And.intro ihf (And.intro hg (And.intro hk1 (And.intro hk2 (And.intro hk5 (And.intro hB1 (And.intro hB2 hbx)))))))))))
    clear hF2 hbx hh hS ihl ihf hg hk1 hk2 hk5 hB1 hB2
    go_loopg [5, 6, 20] v.list.length (fun gg _ _ s20 wr => ∃ (i : Nat) (zss : List (List Value)), i ≤ v.list.length ∧ v.list.length - i ≤ gg ∧ s20 = .int .i64 i ∧
      Hid (RowC (fun g => W.heap.size + 2 ≤ g ∧ g < M) wr 27 5 v.list.length ⟨pa, v.list.length, pc⟩ zss ∧ AllZ (Lies (fun k => S k ∨ wc.heap.size ≤ k) wr) ((v.list.take i).map (rebV arr) ++ (v.list.drop i).map id) zss ∧ Keeps (fun k => (Value.slice pa v.list.length pc).ownBlock = some k) wc wr))
    case atStart =>
      refine ⟨0, xl, Nat.zero_le _, by omega, rfl, Hw.out.1, ?_, Keeps.of_below (Below.refl _ _)⟩
      simp only [List.take_zero, List.map_nil, List.nil_append, List.drop_zero, List.map_id]
      exact fun i x y hx hy => Lies.map (fun g hs hl => ⟨.inl hs, Hw.out.2.2.1.block g hl⟩) _ _ (HX.out.2.2.2.1 i x y hx hy)
    case round =>
      obtain ⟨i, zss, hil, hgg, rfl, H⟩ := hrel
      by_cases hlt : i < v.list.length
      · have hltz : (i : Int) < (v.list.length : Int) := by omega
        obtain ⟨g1, xs, ha, _, _, hS1, hgl, hx, hc⟩ := H.out.1.at hlt
        simp only at ha
        subst ha
        obtain ⟨r', t', rfl, hxv⟩ := lies_iff.1 (H.out.2.1 i _ xs (mix_at (rebV arr) v.list i hlt id) hx)
        have hin := List.getElem_mem hlt
        have hixs := mix_set (rebV arr) v.list i hlt id
        obtain ⟨x, hxe⟩ : ∃ x, v.list[i] = x := ⟨_, rfl⟩
        simp only [id_eq, hxe] at hc hxv hx hin hixs
        have hk := H.out.2.2
        have hne : ∀ k, k < W.heap.size + 2 → ¬ (Value.slice (some ⟨g1, 0, none⟩) v.list.length pc).ownBlock = some k := fun k hk e => by injection e with e; simp only at e; omega
        have e5 : wr.heap[W.heap.size]? = some (.cells #[.int .i64 v.kind, .int .i64 v.int, .string v.text, .slice (some ⟨g1, 0, none⟩) v.list.length pc, .slice qa v.fields.length qc] 27 (0, 0)) := (hk.block _ (by omega) (hne _ (by omega))).trans He5.out
        have e1 := (hk.block b1 (by omega) (hne _ (by omega))).trans HY.out.2.2.2.2.2.2.2.2.2.1
        have e2 := (hk.block b2 (by omega) (hne _ (by omega))).trans HY.out.2.2.2.2.2.2.2.2.2.2.1
        have hszr := hk.size
        have hcall : ∀ W1, Below wr.heap.size wr W1 → Calls Tryd.prog 64 #[.agg #[.int .i64 x.kind, .int .i64 x.int, .string x.text, .slice r'.a r'.n r'.c, .slice t'.a t'.n t'.c], .pointer (some ⟨b1, 0, none⟩), .pointer (some ⟨b2, 0, none⟩)] W1
            fun e w' => ∃ p q : Sl, e = .returned (.agg #[.int .i64 x.kind, .int .i64 x.int, .string x.text, .slice p.a p.n p.c, .slice q.a q.n q.c]) ∧ Built (fun k => (S k ∨ wc.heap.size ≤ k) ∧ k < wr.heap.size) W1.heap.size w' (rebV arr x) p q ∧ Below W1.heap.size W1 w' := fun W1 hb =>
          HY.out.2.2.2.1 x hin (HY.out.2.2.2.2.2.2.1 x hin) _ W1 r' t' (fun g hg => Nat.lt_of_lt_of_le hg.2 hb.size) (HV.map (fun g hs hl => ⟨⟨hs, hl⟩, hb.block g hl⟩) hxv)
            (has_cons.2 ⟨(hb.block b1 (by omega)).trans e1, has_cons.2 ⟨(hb.block b2 (by omega)).trans e2, fun _ h => by simp at h⟩⟩)
        have c0 : wr.cell? ⟨g1, i * 5, none⟩ = some (.int .i64 x.kind) := hc 0 _ rfl
        have c1 : wr.cell? ⟨g1, i * 5 + 1, none⟩ = some (.int .i64 x.int) := hc 1 _ rfl
        have c2 : wr.cell? ⟨g1, i * 5 + 2, none⟩ = some (.string x.text) := hc 2 _ rfl
        have c3 : wr.cell? ⟨g1, i * 5 + 3, none⟩ = some (.slice r'.a r'.n r'.c) := hc 3 _ rfl
        have c4 : wr.cell? ⟨g1, i * 5 + 4, none⟩ = some (.slice t'.a t'.n t'.c) := hc 4 _ rfl
        have d3 : wr.cell? ⟨W.heap.size, 3, none⟩ = some (.slice (some ⟨g1, 0, none⟩) v.list.length pc) := by rw [blk_cell e5]; rfl
        have d1 : wr.cell? ⟨b1, 0, none⟩ = some (.func (.func 64) #[] #[.pointer (some ⟨b1, 0, none⟩), .pointer (some ⟨b2, 0, none⟩)]) := by rw [blk_cell e1]; rfl
        have n1 : ¬ g1 = W.heap.size := by omega
        have n2 : ¬ g1 = b1 := by omega
        have n3 : ¬ g1 = wr.heap.size := by omega
        have HR := Lib.hid (And.intro hx (And.intro hixs (And.intro e5 (And.intro e1 (And.intro e2 hc)))))
        clear hc hxv hx hin hixs hne e5 e1 e2 hk hxe
        have HF := Lib.hid (fun j => (show wr.frozen? ⟨g1, i * 5 + j, none⟩ = false from H.out.1.2.2.1.frozenAt (g := g1) (i * 5 + j)))
        go_wp2_with fail
        go_region_held3 (fun w' => w'.cell? ⟨W.heap.size, 3, none⟩ = some (.slice (some ⟨g1, 0, none⟩) v.list.length pc) ∧ w'.cell? ⟨b1, 0, none⟩ = some (.func (.func 64) #[] #[.pointer (some ⟨b1, 0, none⟩), .pointer (some ⟨b2, 0, none⟩)]) ∧
            w'.cell? ⟨wr.heap.size, 0, none⟩ = some (.int .i64 x.kind) ∧ w'.cell? ⟨wr.heap.size, 1, none⟩ = some (.int .i64 x.int) ∧ w'.cell? ⟨wr.heap.size, 2, none⟩ = some (.string x.text) ∧ w'.cell? ⟨wr.heap.size, 3, none⟩ = some (.slice r'.a r'.n r'.c) ∧ w'.cell? ⟨wr.heap.size, 4, none⟩ = some (.slice t'.a t'.n t'.c))
          (first | go_keep)
          (first
          | (go_at_call 64; refine (hcall _ ((Below.refl _ _).alloc (Nat.le_refl _) _).drew).mono ?_; rintro e w4 ⟨p', q', rfl, hB', hb4⟩; have hb0 := ((Below.refl wr.heap.size wr).alloc (Nat.le_refl _) (.cells #[.int .i64 x.kind, .int .i64 x.int, .string x.text, .slice r'.a r'.n r'.c, .slice t'.a t'.n t'.c] 27)).drew.trans (hb4.mono (by simp only [World.drew, size_alloc]; omega)); have d43 : w4.cell? ⟨W.heap.size, 3, none⟩ = some (.slice (some ⟨g1, 0, none⟩) v.list.length pc) := (hb0.cell (by show W.heap.size < _; omega)).trans d3; have d41 : w4.cell? ⟨b1, 0, none⟩ = some (.func (.func 64) #[] #[.pointer (some ⟨b1, 0, none⟩), .pointer (some ⟨b2, 0, none⟩)]) := (hb0.cell (by show b1 < _; omega)).trans d1; have e4 : w4.heap[wr.heap.size]? = some (.cells #[.int .i64 x.kind, .int .i64 x.int, .string x.text, .slice r'.a r'.n r'.c, .slice t'.a t'.n t'.c] 27 (0, 0)) := (hb4.block _ (by simp only [World.drew, size_alloc]; omega)).trans (block_new wr _); have x0 : w4.cell? ⟨wr.heap.size, 0, none⟩ = some (.int .i64 x.kind) := (by rw [blk_cell e4]; rfl); have x1 : w4.cell? ⟨wr.heap.size, 1, none⟩ = some (.int .i64 x.int) := (by rw [blk_cell e4]; rfl); have x2 : w4.cell? ⟨wr.heap.size, 2, none⟩ = some (.string x.text) := (by rw [blk_cell e4]; rfl); have x3 : w4.cell? ⟨wr.heap.size, 3, none⟩ = some (.slice r'.a r'.n r'.c) := (by rw [blk_cell e4]; rfl); have x4 : w4.cell? ⟨wr.heap.size, 4, none⟩ = some (.slice t'.a t'.n t'.c) := (by rw [blk_cell e4]; rfl); have y0 : w4.cell? ⟨g1, i * 5, none⟩ = some (.int .i64 x.kind) := (hb0.cell (by show g1 < _; omega)).trans c0; have y1 : w4.cell? ⟨g1, i * 5 + 1, none⟩ = some (.int .i64 x.int) := (hb0.cell (by show g1 < _; omega)).trans c1; have y2 : w4.cell? ⟨g1, i * 5 + 2, none⟩ = some (.string x.text) := (hb0.cell (by show g1 < _; omega)).trans c2; have y3 : w4.cell? ⟨g1, i * 5 + 3, none⟩ = some (.slice r'.a r'.n r'.c) := (hb0.cell (by show g1 < _; omega)).trans c3; have y4 : w4.cell? ⟨g1, i * 5 + 4, none⟩ = some (.slice t'.a t'.n t'.c) := (hb0.cell (by show g1 < _; omega)).trans c4; have z0 := (hb0.frozen (p := ⟨g1, i * 5, none⟩) (by show g1 < _; omega)).trans (HF.out 0); have z1 := (hb0.frozen (p := ⟨g1, i * 5 + 1, none⟩) (by show g1 < _; omega)).trans (HF.out 1); have z2 := (hb0.frozen (p := ⟨g1, i * 5 + 2, none⟩) (by show g1 < _; omega)).trans (HF.out 2); have z3 := (hb0.frozen (p := ⟨g1, i * 5 + 3, none⟩) (by show g1 < _; omega)).trans (HF.out 3); have z4 := (hb0.frozen (p := ⟨g1, i * 5 + 4, none⟩) (by show g1 < _; omega)).trans (HF.out 4); have HB4 := Lib.hid (And.intro hB' (And.intro hb0 hb4)); clear hB' hb0 hb4 e4))
        go_wp2
        go_roundg (v.list.length - (i + 1))
        case measure => omega
        case rel =>
          have hz := H.out.2.2.size
          have hSS : ∀ k, (S k ∨ wc.heap.size ≤ k) → k ≠ g1 := fun k hk => by
            rcases hk with hk | hk
            · have := HY.out.2.2.1 k hk; omega
            · omega
          have hy : HV (fun k => S k ∨ wc.heap.size ≤ k) w4 (rebV arr x) p' q' := (HB4.out.1.hv).map (fun k hk _ => ⟨by rcases hk with hk | hk; exact hk.1; exact .inr (by simp only [World.drew, size_alloc] at hk; omega), rfl⟩)
          have hreb := rebV_eq arr x
          have hfin := put5_round H.out.1 hlt H.out.2.1 hSS HB4.out.2.1 hy HR.out.2.1
          rw [show (rebV arr x).kind = x.kind by rw [hreb]; rfl, show (rebV arr x).int = x.int by rw [hreb]; rfl, show (rebV arr x).text = x.text by rw [hreb]; rfl] at hfin
          exact ⟨i + 1, _, by omega, by omega, by go_num, hfin.1, hfin.2, keeps5 (H.out.2.2.trans (Keeps.of_below (X := fun _ => False) HB4.out.2.1) (fun _ h => h.elim)) rfl⟩
      · obtain rfl : i = v.list.length := by omega
        obtain ⟨wd, rfl⟩ : ∃ w', w' = wr := ⟨wr, rfl⟩
        have hneP : ∀ k, k < W.heap.size + 2 → ¬ (Value.slice pa v.list.length pc).ownBlock = some k := fun k hk e => by have := (Hw.out.1.2.2.2 k e).1; omega
        have hk0 := H.out.2.2
        have hszd := hk0.size
        have e5 := (hk0.block _ (by omega) (hneP _ (by omega))).trans He5.out
        have e1 := (hk0.block b1 (by omega) (hneP _ (by omega))).trans HY.out.2.2.2.2.2.2.2.2.2.1
        have e2 := (hk0.block b2 (by omega) (hneP _ (by omega))).trans HY.out.2.2.2.2.2.2.2.2.2.2.1
        have e6 := (hk0.block (W.heap.size + 1) (by omega) (hneP _ (by omega))).trans Hw.out.2.2.2.2
        have c54 : wd.cell? ⟨W.heap.size, 4, none⟩ = some (.slice qa v.fields.length qc) := by rw [blk_cell e5]; rfl
        have hall1 : AllZ (Lies (fun k => S k ∨ wc.heap.size ≤ k) wd) (v.list.map (rebV arr)) zss := by
          have := H.out.2.1
          rwa [List.take_length, List.drop_length, List.map_nil, List.append_nil] at this
        have hqrow : RowC (fun g => M ≤ g ∧ W.heap.size + 2 ≤ g) wd 31 6 v.fields.length ⟨qa, v.fields.length, qc⟩ xf := Hw.out.2.1.map (fun g hg hl => ⟨hg, hk0.block g hl (fun e => by have := (Hw.out.1.2.2.2 g e).2; omega)⟩)
        have hqall : AllZ (fun (g : ByteArray × V) xs => ∃ ys, xs = .string g.1 :: ys ∧ Lies (fun k => S k ∨ wc.heap.size ≤ k) wd g.2 ys) v.fields xf := fun i x y hx hy => by
          obtain ⟨ys, e, hl⟩ := HY.out.1 i x y hx hy
          exact ⟨ys, e, Lies.map (fun k hk hl => ⟨.inl hk, (hk0.block k (by have := Hw.out.2.2.1.size; omega) (hneP k (by omega))).trans (Hw.out.2.2.1.block k hl)⟩) _ _ hl⟩
        have HD := Lib.hid (And.intro e5 (And.intro e1 (And.intro e2 (And.intro e6 (And.intro hall1 (And.intro hqrow (And.intro hqall (And.intro hneP H.out.1))))))))
        clear e5 e1 e2 e6 hall1 hqrow hqall hneP hk0
        go_wp2
        clear c54
        go_loopg [7, 8, 36] v.fields.length (fun gg _ _ s36 wr => ∃ (i : Nat) (zsf : List (List Value)), i ≤ v.fields.length ∧ v.fields.length - i ≤ gg ∧ s36 = .int .i64 i ∧
          Hid (RowC (fun g => M ≤ g ∧ W.heap.size + 2 ≤ g) wr 31 6 v.fields.length ⟨qa, v.fields.length, qc⟩ zsf ∧ AllZ (fun (g : ByteArray × V) xs => ∃ ys, xs = .string g.1 :: ys ∧ Lies (fun k => S k ∨ wc.heap.size ≤ k) wr g.2 ys) ((v.fields.take i).map (fun g => (g.1, rebV arr g.2)) ++ (v.fields.drop i).map id) zsf ∧ Keeps (fun k => (Value.slice qa v.fields.length qc).ownBlock = some k) wd wr))
        case atStart =>
          refine ⟨0, xf, Nat.zero_le _, by omega, rfl, HD.out.2.2.2.2.2.1, ?_, Keeps.of_below (Below.refl _ _)⟩
          simp only [List.take_zero, List.map_nil, List.nil_append, List.drop_zero, List.map_id]
          exact HD.out.2.2.2.2.2.2.1
        case round =>
          obtain ⟨i, zsf, hif, hgf, rfl, HG⟩ := hrel
          by_cases hlf : i < v.fields.length
          · have hlfz : (i : Int) < (v.fields.length : Int) := by omega
            obtain ⟨g2, xs, ha, _, _, hS2, hgl, hx, hc⟩ := HG.out.1.at hlf
            simp only at ha
            subst ha
            obtain ⟨ys, rfl, hly⟩ := HG.out.2.1 i _ xs (mix_at (fun g => (g.1, rebV arr g.2)) v.fields i hlf id) hx
            obtain ⟨r', t', rfl, hxv⟩ := lies_iff.1 hly
            have hin := List.getElem_mem hlf
            have hixs := mix_set (fun g => (g.1, rebV arr g.2)) v.fields i hlf id
            obtain ⟨f, hxe⟩ : ∃ f, v.fields[i] = f := ⟨_, rfl⟩
            simp only [id_eq, hxe] at hc hxv hx hin hixs
            have hk := HG.out.2.2
            have hne : ∀ k, k < W.heap.size + 2 → ¬ (Value.slice (some ⟨g2, 0, none⟩) v.fields.length qc).ownBlock = some k := fun k hk e => by injection e with e; simp only at e; omega
            have e5 : wr.heap[W.heap.size]? = some (.cells #[.int .i64 v.kind, .int .i64 v.int, .string v.text, .slice pa v.list.length pc, .slice (some ⟨g2, 0, none⟩) v.fields.length qc] 27 (0, 0)) := (hk.block _ (by omega) (hne _ (by omega))).trans HD.out.1
            have e1 := (hk.block b1 (by omega) (hne _ (by omega))).trans HD.out.2.1
            have e2 := (hk.block b2 (by omega) (hne _ (by omega))).trans HD.out.2.2.1
            have hszr := hk.size
            have hcall : ∀ W1, Below wr.heap.size wr W1 → Calls Tryd.prog 64 #[.agg #[.int .i64 f.2.kind, .int .i64 f.2.int, .string f.2.text, .slice r'.a r'.n r'.c, .slice t'.a t'.n t'.c], .pointer (some ⟨b1, 0, none⟩), .pointer (some ⟨b2, 0, none⟩)] W1
                fun e w' => ∃ p q : Sl, e = .returned (.agg #[.int .i64 f.2.kind, .int .i64 f.2.int, .string f.2.text, .slice p.a p.n p.c, .slice q.a q.n q.c]) ∧ Built (fun k => (S k ∨ wc.heap.size ≤ k) ∧ k < wr.heap.size) W1.heap.size w' (rebV arr f.2) p q ∧ Below W1.heap.size W1 w' := fun W1 hb =>
              HY.out.2.2.2.2.1 f hin (HY.out.2.2.2.2.2.2.2.1 f hin) _ W1 r' t' (fun g hg => Nat.lt_of_lt_of_le hg.2 hb.size) (HV.map (fun g hs hl => ⟨⟨hs, hl⟩, hb.block g hl⟩) hxv)
                (has_cons.2 ⟨(hb.block b1 (by omega)).trans e1, has_cons.2 ⟨(hb.block b2 (by omega)).trans e2, fun _ h => by simp at h⟩⟩)
            have c0 : wr.cell? ⟨g2, i * 6, none⟩ = some (.string f.1) := hc 0 _ rfl
            have c1 : wr.cell? ⟨g2, i * 6 + 1, none⟩ = some (.int .i64 f.2.kind) := hc 1 _ rfl
            have c2 : wr.cell? ⟨g2, i * 6 + 2, none⟩ = some (.int .i64 f.2.int) := hc 2 _ rfl
            have c3 : wr.cell? ⟨g2, i * 6 + 3, none⟩ = some (.string f.2.text) := hc 3 _ rfl
            have c4 : wr.cell? ⟨g2, i * 6 + 4, none⟩ = some (.slice r'.a r'.n r'.c) := hc 4 _ rfl
            have c5 : wr.cell? ⟨g2, i * 6 + 5, none⟩ = some (.slice t'.a t'.n t'.c) := hc 5 _ rfl
            have d3 : wr.cell? ⟨W.heap.size, 4, none⟩ = some (.slice (some ⟨g2, 0, none⟩) v.fields.length qc) := by rw [blk_cell e5]; rfl
            have d1 : wr.cell? ⟨b1, 0, none⟩ = some (.func (.func 64) #[] #[.pointer (some ⟨b1, 0, none⟩), .pointer (some ⟨b2, 0, none⟩)]) := by rw [blk_cell e1]; rfl
            have n1 : ¬ g2 = W.heap.size := by omega
            have n2 : ¬ g2 = b1 := by omega
            have n3 : ¬ g2 = wr.heap.size := by omega
            have HR := Lib.hid (And.intro hx (And.intro hixs (And.intro e5 (And.intro e1 (And.intro e2 hc)))))
            clear hc hxv hx hin hixs hne e5 e1 e2 hk hxe hly
            have HF := Lib.hid (fun j => (show wr.frozen? ⟨g2, i * 6 + j, none⟩ = false from HG.out.1.2.2.1.frozenAt (g := g2) (i * 6 + j)))
            go_wp2_with fail
            go_region_held3 (fun w' => w'.cell? ⟨W.heap.size, 4, none⟩ = some (.slice (some ⟨g2, 0, none⟩) v.fields.length qc) ∧ w'.cell? ⟨b1, 0, none⟩ = some (.func (.func 64) #[] #[.pointer (some ⟨b1, 0, none⟩), .pointer (some ⟨b2, 0, none⟩)]) ∧
              w'.cell? ⟨wr.heap.size, 1, none⟩ = some (.int .i64 f.2.kind) ∧ w'.cell? ⟨wr.heap.size, 2, none⟩ = some (.int .i64 f.2.int) ∧ w'.cell? ⟨wr.heap.size, 3, none⟩ = some (.string f.2.text) ∧ w'.cell? ⟨wr.heap.size, 4, none⟩ = some (.slice r'.a r'.n r'.c) ∧ w'.cell? ⟨wr.heap.size, 5, none⟩ = some (.slice t'.a t'.n t'.c))
              (first | go_keep)
              (first
            | (go_at_call 64; refine (hcall _ ((Below.refl _ _).alloc (Nat.le_refl _) _).drew).mono ?_; rintro e w4 ⟨p', q', rfl, hB', hb4⟩; have hb0 := ((Below.refl wr.heap.size wr).alloc (Nat.le_refl _) (.cells #[.string f.1, .int .i64 f.2.kind, .int .i64 f.2.int, .string f.2.text, .slice r'.a r'.n r'.c, .slice t'.a t'.n t'.c] 31)).drew.trans (hb4.mono (by simp only [World.drew, size_alloc]; omega)); have d43 : w4.cell? ⟨W.heap.size, 4, none⟩ = some (.slice (some ⟨g2, 0, none⟩) v.fields.length qc) := (hb0.cell (by show W.heap.size < _; omega)).trans d3; have d41 : w4.cell? ⟨b1, 0, none⟩ = some (.func (.func 64) #[] #[.pointer (some ⟨b1, 0, none⟩), .pointer (some ⟨b2, 0, none⟩)]) := (hb0.cell (by show b1 < _; omega)).trans d1; have e4 : w4.heap[wr.heap.size]? = some (.cells #[.string f.1, .int .i64 f.2.kind, .int .i64 f.2.int, .string f.2.text, .slice r'.a r'.n r'.c, .slice t'.a t'.n t'.c] 31 (0, 0)) := (hb4.block _ (by simp only [World.drew, size_alloc]; omega)).trans (block_new wr _); have x1 : w4.cell? ⟨wr.heap.size, 1, none⟩ = some (.int .i64 f.2.kind) := (by rw [blk_cell e4]; rfl); have x2 : w4.cell? ⟨wr.heap.size, 2, none⟩ = some (.int .i64 f.2.int) := (by rw [blk_cell e4]; rfl); have x3 : w4.cell? ⟨wr.heap.size, 3, none⟩ = some (.string f.2.text) := (by rw [blk_cell e4]; rfl); have x4 : w4.cell? ⟨wr.heap.size, 4, none⟩ = some (.slice r'.a r'.n r'.c) := (by rw [blk_cell e4]; rfl); have x5 : w4.cell? ⟨wr.heap.size, 5, none⟩ = some (.slice t'.a t'.n t'.c) := (by rw [blk_cell e4]; rfl); have y1 : w4.cell? ⟨g2, i * 6 + 1, none⟩ = some (.int .i64 f.2.kind) := (hb0.cell (by show g2 < _; omega)).trans c1; have y2 : w4.cell? ⟨g2, i * 6 + 2, none⟩ = some (.int .i64 f.2.int) := (hb0.cell (by show g2 < _; omega)).trans c2; have y3 : w4.cell? ⟨g2, i * 6 + 3, none⟩ = some (.string f.2.text) := (hb0.cell (by show g2 < _; omega)).trans c3; have y4 : w4.cell? ⟨g2, i * 6 + 4, none⟩ = some (.slice r'.a r'.n r'.c) := (hb0.cell (by show g2 < _; omega)).trans c4; have y5 : w4.cell? ⟨g2, i * 6 + 5, none⟩ = some (.slice t'.a t'.n t'.c) := (hb0.cell (by show g2 < _; omega)).trans c5; have z1 := (hb0.frozen (p := ⟨g2, i * 6 + 1, none⟩) (by show g2 < _; omega)).trans (HF.out 1); have z2 := (hb0.frozen (p := ⟨g2, i * 6 + 2, none⟩) (by show g2 < _; omega)).trans (HF.out 2); have z3 := (hb0.frozen (p := ⟨g2, i * 6 + 3, none⟩) (by show g2 < _; omega)).trans (HF.out 3); have z4 := (hb0.frozen (p := ⟨g2, i * 6 + 4, none⟩) (by show g2 < _; omega)).trans (HF.out 4); have z5 := (hb0.frozen (p := ⟨g2, i * 6 + 5, none⟩) (by show g2 < _; omega)).trans (HF.out 5); have HB4 := Lib.hid (And.intro hB' (And.intro hb0 hb4)); clear hB' hb0 hb4 e4))
            go_wp2
            go_roundg (v.fields.length - (i + 1))
            case measure => omega
            case rel =>
              have hz := HG.out.2.2.size
              have hSS : ∀ k, (S k ∨ wc.heap.size ≤ k) → k ≠ g2 := fun k hk => by
                rcases hk with hk | hk
                · have := HY.out.2.2.1 k hk; omega
                · have := (HG.out.1.2.2.1.lt g2 rfl).2
                  have := (Hw.out.2.1.2.2.1.lt g2 rfl).2
                  omega
              have hy : HV (fun k => S k ∨ wc.heap.size ≤ k) w4 (rebV arr f.2) p' q' := (HB4.out.1.hv).map (fun k hk _ => ⟨by rcases hk with hk | hk; exact hk.1; exact .inr (by simp only [World.drew, size_alloc] at hk; omega), rfl⟩)
              have hreb := rebV_eq arr f.2
              have hfin := put6_round HG.out.1 hlf HR.out.1 HG.out.2.1 hSS HB4.out.2.1 hy HR.out.2.1
              rw [show (rebV arr f.2).kind = f.2.kind by rw [hreb]; rfl, show (rebV arr f.2).int = f.2.int by rw [hreb]; rfl, show (rebV arr f.2).text = f.2.text by rw [hreb]; rfl] at hfin
              exact ⟨i + 1, _, by omega, by omega, by go_num, hfin.1, hfin.2, keeps5 (HG.out.2.2.trans (Keeps.of_below (X := fun _ => False) HB4.out.2.1) (fun _ h => h.elim)) rfl⟩
          · obtain rfl : i = v.fields.length := by omega
            obtain ⟨we, rfl⟩ : ∃ w', w' = wr := ⟨wr, rfl⟩
            have hneQ : ∀ k, (Value.slice qa v.fields.length qc).ownBlock = some k → M ≤ k ∧ W.heap.size + 2 ≤ k := fun k e => HG.out.1.2.2.2 k e
            have hltQ : ∀ k, (Value.slice qa v.fields.length qc).ownBlock = some k → k < wc.heap.size := fun k e => (Hw.out.2.1.2.2.1.lt k e).2
            have hk0 := HG.out.2.2
            have hsze := hk0.size
            have e5 := (hk0.block _ (by omega) (fun e => by have := hneQ _ e; omega)).trans HD.out.1
            have e2 := (hk0.block b2 (by omega) (fun e => by have := hneQ _ e; omega)).trans HD.out.2.2.1
            have e6 := (hk0.block (W.heap.size + 1) (by omega) (fun e => by have := hneQ _ e; omega)).trans HD.out.2.2.2.1
            have c54 : we.cell? ⟨W.heap.size, 4, none⟩ = some (.slice qa v.fields.length qc) := by rw [blk_cell e5]; rfl
            have c2 : we.cell? ⟨b2, 0, none⟩ = some (.func (.func g) #[] lb) := by rw [blk_cell e2]; rfl
            have hall2 : AllZ (fun (g : ByteArray × V) xs => ∃ ys, xs = .string g.1 :: ys ∧ Lies (fun k => S k ∨ wc.heap.size ≤ k) we g.2 ys) (v.fields.map fun g => (g.1, rebV arr g.2)) zsf := by
              have := HG.out.2.1
              rwa [List.take_length, List.drop_length, List.map_nil, List.append_nil] at this
            have hzl : zsf.length = v.fields.length := HG.out.1.1
            obtain ⟨Z, hZ1, hZ2⟩ : ∃ Z : List ((ByteArray × V) × List Value), Z.map (·.1) = (v.fields.map fun g => (g.1, rebV arr g.2)) ∧ Z.map (·.2) = zsf :=
              ⟨(v.fields.map fun g => (g.1, rebV arr g.2)).zip zsf, List.map_fst_zip (by simp; omega), List.map_snd_zip (by simp; omega)⟩
            have hZn : Z.length = v.fields.length := by rw [← List.length_map (f := (·.2)), hZ2]; exact hzl
            have hZa : ∀ z ∈ Z, ∃ ys, z.2 = .string z.1.1 :: ys ∧ Lies (fun k => S k ∨ wc.heap.size ≤ k) we z.1.2 ys := fun z hz => by
              obtain ⟨j, hj⟩ := List.getElem?_of_mem hz
              refine hall2 j z.1 z.2 ?_ ?_
              · rw [← hZ1, List.getElem?_map, hj]; rfl
              · rw [← hZ2, List.getElem?_map, hj]; rfl
            have hcall := HY.out.2.2.2.2.2.1.2 Z (fun g => M ≤ g ∧ W.heap.size + 2 ≤ g) we ⟨qa, v.fields.length, qc⟩ (by rw [hZ1]; exact HY.out.2.2.2.2.2.2.2.2.1) (by omega)
              (fun z hz => by obtain ⟨ys, h1, h2⟩ := hZa z hz; obtain ⟨r1, t1, rfl, _⟩ := lies_iff.1 h2; exact ⟨r1, t1, h1⟩) (by rw [hZn, hZ2]; exact HG.out.1)
            have eg := HY.out.2.2.2.2.2.1.1
            have HZ := Lib.hid (And.intro e5 (And.intro e6 (And.intro hZ1 (And.intro hZn (And.intro hZa (And.intro hneQ (And.intro hltQ hk0)))))))
            clear e5 e2 e6 hall2 hzl hZ1 hZ2 hZa hneQ hltQ hk0
            go_wp2_with (go_at_fn g; refine hcall.mono ?_; rintro e w7 ⟨rfl, ⟨Z', hP, hM, hR7⟩, hK7⟩; have q5 := (hK7.block W.heap.size (by omega) (fun e => by have := HZ.out.2.2.2.2.2.1 _ e; omega)).trans HZ.out.1; have q6 := (hK7.block (W.heap.size + 1) (by omega) (fun e => by have := HZ.out.2.2.2.2.2.1 _ e; omega)).trans HZ.out.2.1; have u0 : w7.cell? ⟨W.heap.size, 0, none⟩ = some (.int .i64 v.kind) := (by rw [blk_cell q5]; rfl); have u1 : w7.cell? ⟨W.heap.size, 1, none⟩ = some (.int .i64 v.int) := (by rw [blk_cell q5]; rfl); have u2 : w7.cell? ⟨W.heap.size, 2, none⟩ = some (.string v.text) := (by rw [blk_cell q5]; rfl); have u3 : w7.cell? ⟨W.heap.size, 3, none⟩ = some (.slice pa v.list.length pc) := (by rw [blk_cell q5]; rfl); have u4 : w7.cell? ⟨W.heap.size, 4, none⟩ = some (.slice qa v.fields.length qc) := (by rw [blk_cell q5]; rfl); have r0 : w7.cell? ⟨W.heap.size + 1, 0, none⟩ = some (.int .i64 0) := (by rw [blk_cell q6]; rfl); have r1 : w7.cell? ⟨W.heap.size + 1, 1, none⟩ = some (.int .i64 0) := (by rw [blk_cell q6]; rfl); have r2 : w7.cell? ⟨W.heap.size + 1, 2, none⟩ = some (.string ⟨#[]⟩) := (by rw [blk_cell q6]; rfl); have r3 : w7.cell? ⟨W.heap.size + 1, 3, none⟩ = some (.slice none 0 0) := (by rw [blk_cell q6]; rfl); have r4 : w7.cell? ⟨W.heap.size + 1, 4, none⟩ = some (.slice none 0 0) := (by rw [blk_cell q6]; rfl); have f0 := blk_frozen q6 0; have f1 := blk_frozen q6 1; have f2 := blk_frozen q6 2; have f3 := blk_frozen q6 3; have f4 := blk_frozen q6 4; have H7 := Lib.hid (And.intro q6 (And.intro hP (And.intro hM (And.intro hR7 hK7)))); clear q5 q6 hP hM hR7 hK7)
            refine bodyPost_ret (results_cell_row rfl _ _ (W.heap.size + 1) 27 _ (0, 0) _ rfl (set5 _ _ _ _ _ H7.out.1) Tryd.underlying27 rfl size_V) rfl ?_
            have hreb := rebV_eq arr v
            have hkQ := HZ.out.2.2.2.2.2.1
            have hltQ := HZ.out.2.2.2.2.2.2.1
            have hke := HZ.out.2.2.2.2.2.2.2
            have hz7 := H7.out.2.2.2.2.size
            have hzd := hke.size
            have hkd : ∀ k, k < wd.heap.size → k ≠ W.heap.size + 1 → ¬ (Value.slice qa v.fields.length qc).ownBlock = some k → ∀ u0 u1 u2 u3 u4, (((((w7.setCell ⟨W.heap.size + 1, 0, none⟩ u0).setCell ⟨W.heap.size + 1, 1, none⟩ u1).setCell ⟨W.heap.size + 1, 2, none⟩ u2).setCell ⟨W.heap.size + 1, 3, none⟩ u3).setCell ⟨W.heap.size + 1, 4, none⟩ u4).heap[k]? = wd.heap[k]? :=
              fun k hl hn hq u0 u1 u2 u3 u4 => (far5 hn).trans ((H7.out.2.2.2.2.block k (by omega) hq).trans (hke.block k hl hq))
            have hkE : ∀ k, k < we.heap.size → k ≠ W.heap.size + 1 → ¬ (Value.slice qa v.fields.length qc).ownBlock = some k → ∀ u0 u1 u2 u3 u4, (((((w7.setCell ⟨W.heap.size + 1, 0, none⟩ u0).setCell ⟨W.heap.size + 1, 1, none⟩ u1).setCell ⟨W.heap.size + 1, 2, none⟩ u2).setCell ⟨W.heap.size + 1, 3, none⟩ u3).setCell ⟨W.heap.size + 1, 4, none⟩ u4).heap[k]? = we.heap[k]? :=
              fun k hl hn hq u0 u1 u2 u3 u4 => (far5 hn).trans (H7.out.2.2.2.2.block k hl hq)
            have hSk : ∀ k, (S k ∨ wc.heap.size ≤ k) → k ≠ W.heap.size + 1 ∧ ¬ (Value.slice qa v.fields.length qc).ownBlock = some k := fun k hk => by
              rcases hk with hk | hk
              · have := HY.out.2.2.1 k hk
                exact ⟨by omega, fun e => by have := hkQ k e; omega⟩
              · exact ⟨by omega, fun e => by have := hltQ k e; omega⟩
            refine ⟨⟨pa, v.list.length, pc⟩, ⟨qa, v.fields.length, qc⟩, rfl, ⟨?_, ?_⟩, ?_⟩
            · rw [hreb]
              refine ⟨zss, ?_, ?_⟩
              · show RowC _ _ _ _ (v.list.map (rebV arr)).length _ _
                rw [List.length_map]
                refine RowC.map (fun k hk hl => ?_) HD.out.2.2.2.2.2.2.2.2
                have hq : ¬ (Value.slice qa v.fields.length qc).ownBlock = some k := fun e => by have := hkQ k e; omega
                exact ⟨⟨.inr (by omega), hq⟩, hkd k hl (by omega) hq _ _ _ _ _⟩
              · exact fun i x cs hx hy => Lies.map (fun k hk hl => ⟨⟨by rcases hk with hk | hk; exact .inl hk; exact .inr (by omega), (hSk k hk).2⟩, hkd k hl (hSk k hk).1 (hSk k hk).2 _ _ _ _ _⟩) x cs (HD.out.2.2.2.2.1 i x cs hx hy)
            · rw [hreb]
              refine ⟨Z'.map (·.2), ?_, ?_⟩
              · show RowC _ _ _ _ (arr (v.fields.map fun g => (g.1, rebV arr g.2))).length _ _
                rw [← HZ.out.2.2.1, ← H7.out.2.2.1, List.length_map, H7.out.2.1.length_eq, HZ.out.2.2.2.1]
                have := H7.out.2.2.2.1
                rw [HZ.out.2.2.2.1] at this
                exact this.map (fun k hk hl => ⟨by omega, far5 (by omega)⟩)
              · show AllZ _ (arr (v.fields.map fun g => (g.1, rebV arr g.2))) _
                rw [← HZ.out.2.2.1, ← H7.out.2.2.1]
                refine perm_all H7.out.2.1 (fun z hz => ?_)
                obtain ⟨ys, h1, h2⟩ := HZ.out.2.2.2.2.1 z hz
                exact ⟨ys, h1, Lies.map (fun k hk hl => ⟨⟨by rcases hk with hk | hk; exact .inl hk; exact .inr (by omega), (hSk k hk).2⟩, hkE k hl (hSk k hk).1 (hSk k hk).2 _ _ _ _ _⟩) _ _ h2⟩
            · have b1' := Hw.out.2.2.1.trans (H.out.2.2.below (fun k hk => by have := Hw.out.1.2.2.2 k hk; omega) hszc)
              have b2' := b1'.trans (hke.below (fun k hk => by have := hkQ k hk; omega) b1'.size)
              have b3' := b2'.trans (H7.out.2.2.2.2.below (fun k hk => by have := hkQ k hk; omega) b2'.size)
              exact ((((b3'.setCell (p := ⟨W.heap.size + 1, 0, none⟩) (Nat.le_succ _) _).setCell (p := ⟨W.heap.size + 1, 1, none⟩) (Nat.le_succ _) _).setCell (p := ⟨W.heap.size + 1, 2, none⟩) (Nat.le_succ _) _).setCell (p := ⟨W.heap.size + 1, 3, none⟩) (Nat.le_succ _) _).setCell (p := ⟨W.heap.size + 1, 4, none⟩) (Nat.le_succ _) _
end Go.Proofs.YteocenjneoclbaaDoor.tre
