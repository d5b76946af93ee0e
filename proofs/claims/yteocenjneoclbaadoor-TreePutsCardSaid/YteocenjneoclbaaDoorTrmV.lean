/- Layer 4: values as trees, plain; and how they lie in the heap. -/
import Derived.Below
import Derived.Deep.AppendLies
import Derived.IntWalk
import Derived.Laws.Cells
import Derived.Laws.OwnMore
import Derived.Lib.Hide
import Derived.Lib.SliceRun
import Derived.Maps.AppendAt
import Derived.Shelf.Abstract
import Derived.Test.YteocenjneoclbaaDoorRows
import Derived.WalkKit
import Derived.WalkLawsBesides
import Derived.WalkSpells
namespace Go.Proofs.YteocenjneoclbaaDoor.tre
open Go.RowKit Go.Shelf

/-- A value: a tree. -/
inductive V where
  | mk (kind int : Int) (text : ByteArray) (list : List V) (fields : List (ByteArray × V))

namespace V
def kind : V → Int | .mk k _ _ _ _ => k
def int : V → Int | .mk _ i _ _ _ => i
def text : V → ByteArray | .mk _ _ t _ _ => t
def list : V → List V | .mk _ _ _ l _ => l
def fields : V → List (ByteArray × V) | .mk _ _ _ _ f => f
theorem eta : ∀ v : V, V.mk v.kind v.int v.text v.list v.fields = v | .mk _ _ _ _ _ => rfl
theorem lt_list {v x : V} (h : x ∈ v.list) : SizeOf.sizeOf x < SizeOf.sizeOf v := by
  cases v with
  | mk k i t l f =>
    have := List.sizeOf_lt_of_mem (show x ∈ l from h)
    simp only [V.mk.sizeOf_spec]; omega
theorem lt_fields {v : V} {g : ByteArray × V} (h : g ∈ v.fields) : SizeOf.sizeOf g.2 < SizeOf.sizeOf v := by
  cases v with
  | mk k i t l f =>
    have := List.sizeOf_lt_of_mem (show g ∈ f from h)
    obtain ⟨a, b⟩ := g
    simp only [V.mk.sizeOf_spec, Prod.mk.sizeOf_spec] at *; omega
theorem ind {P : V → Prop} (h : ∀ v : V, (∀ x ∈ v.list, P x) → (∀ g ∈ v.fields, P g.2) → P v) (v : V) : P v := by
  suffices H : ∀ n (v : V), SizeOf.sizeOf v < n → P v from H (SizeOf.sizeOf v + 1) v (Nat.lt_succ_self _)
  intro n
  induction n with
  | zero => intro v hv; omega
  | succ n ih =>
    intro v hv
    exact h v (fun x hx => ih x (by have := lt_list hx; omega)) (fun g hg => ih g.2 (by have := lt_fields hg; omega))

/-- What is made of a value by what is made of those in it. -/
def fold {α : Type _} (f : V → List α → List (ByteArray × α) → α) (v : V) : α :=
  f v (v.list.attach.map fun x => fold f x.1) (v.fields.attach.map fun g => (g.1.1, fold f g.1.2))
termination_by SizeOf.sizeOf v
decreasing_by
  · exact lt_list x.2
  · exact lt_fields g.2
theorem fold_eq {α : Type _} (f : V → List α → List (ByteArray × α) → α) (v : V) :
    fold f v = f v (v.list.map (fold f)) (v.fields.map fun g => (g.1, fold f g.2)) := by
  rw [fold]
  congr 1
  · rw [List.map_attach_eq_pmap]; simp [List.pmap_eq_map]
  · rw [List.map_attach_eq_pmap]; simp [List.pmap_eq_map]
end V

/-- A slice, as a value of the model has it. -/
structure Sl where
  a : Option Addr
  n : Nat
  c : Nat
def Sl.val (p : Sl) : Value := .slice p.a p.n p.c

/-- The five cells of a value. -/
def cellsV (v : V) (p q : Sl) : List Value := [.int .i64 v.kind, .int .i64 v.int, .string v.text, .slice p.a p.n p.c, .slice q.a q.n q.c]
/-- The six cells of a field. -/
def cellsF (g : ByteArray × V) (p q : Sl) : List Value := [.string g.1, .int .i64 g.2.kind, .int .i64 g.2.int, .string g.2.text, .slice p.a p.n p.c, .slice q.a q.n q.c]
theorem cellsV_len (v : V) (p q : Sl) : (cellsV v p q).length = 5 := rfl
theorem cellsF_len (g : ByteArray × V) (p q : Sl) : (cellsF g p q).length = 6 := rfl

def tV : TypeId := 27
def tF : TypeId := 31

/-- A slice whose elements' cells are these; its block is one of S. -/
def RowC (S : Nat → Prop) (w : World) (e : TypeId) (size : Nat) (n : Nat) (p : Sl) (xss : List (List Value)) : Prop :=
  xss.length = n ∧ (∀ xs ∈ xss, xs.length = size) ∧ w.ownsRow 0 e size p.val n xss.flatten ∧ (∀ g, p.val.ownBlock = some g → S g)

theorem flatten_at : ∀ (xss : List (List Value)) (size : Nat), (∀ xs ∈ xss, xs.length = size) → ∀ i xs, xss[i]? = some xs → ∀ j, j < size → xss.flatten[i * size + j]? = xs[j]?
  | [], _, _, i, xs, h, _, _ => by simp at h
  | ys :: xss, size, hs, 0, xs, h, j, hj => by
    simp only [List.getElem?_cons_zero, Option.some.injEq] at h
    subst h
    rw [List.flatten_cons, List.getElem?_append_left (by rw [hs ys (by simp)]; omega)]
    simp
  | ys :: xss, size, hs, i + 1, xs, h, j, hj => by
    rw [List.flatten_cons, List.getElem?_append_right (by rw [hs ys (by simp), Nat.succ_mul]; omega), hs ys (by simp)]
    rw [show (i + 1) * size + j - size = i * size + j by rw [Nat.succ_mul]; omega]
    exact flatten_at xss size (fun x hx => hs x (by simp [hx])) i xs (by simpa using h) j hj

/-- Place by place. -/
def AllZ {α β : Type _} (R : α → β → Prop) (l : List α) (m : List β) : Prop := ∀ (i : Nat) (x : α) (y : β), l[i]? = some x → m[i]? = some y → R x y
theorem allZ_map {α β γ : Type _} {R : γ → β → Prop} {f : α → γ} {l : List α} {m : List β} : AllZ R (l.map f) m ↔ AllZ (fun x y => R (f x) y) l m := by
  constructor
  · intro h i x y hx hy
    exact h i (f x) y (by rw [List.getElem?_map, hx]; rfl) hy
  · intro h i z y hz hy
    rw [List.getElem?_map, Option.map_eq_some_iff] at hz
    obtain ⟨x, hx, rfl⟩ := hz
    exact h i x y hx hy

/-- A value lies in the world, in blocks of S: its cells are these. -/
def Lies (S : Nat → Prop) (w : World) (v : V) : List Value → Prop :=
  V.fold (fun v a b cs => ∃ p q : Sl, cs = cellsV v p q ∧
    (∃ xss, RowC S w tV 5 v.list.length p xss ∧ AllZ (fun h xs => h xs) a xss) ∧
    (∃ xss, RowC S w tF 6 v.fields.length q xss ∧ AllZ (fun (g : ByteArray × (List Value → Prop)) xs => ∃ ys, xs = .string g.1 :: ys ∧ g.2 ys) b xss)) v

def RowV (S : Nat → Prop) (w : World) (l : List V) (p : Sl) : Prop :=
  ∃ xss, RowC S w tV 5 l.length p xss ∧ AllZ (Lies S w) l xss
def RowF (S : Nat → Prop) (w : World) (l : List (ByteArray × V)) (q : Sl) : Prop :=
  ∃ xss, RowC S w tF 6 l.length q xss ∧ AllZ (fun (g : ByteArray × V) xs => ∃ ys, xs = .string g.1 :: ys ∧ Lies S w g.2 ys) l xss

theorem lies_iff {S : Nat → Prop} {w : World} {v : V} {cs : List Value} :
    Lies S w v cs ↔ ∃ p q : Sl, cs = cellsV v p q ∧ RowV S w v.list p ∧ RowF S w v.fields q := by
  unfold Lies
  rw [V.fold_eq]
  constructor
  · rintro ⟨p, q, h, ⟨xs, h1, h2⟩, ys, h3, h4⟩
    exact ⟨p, q, h, ⟨xs, h1, fun i x cs hx hy => allZ_map.1 h2 i x cs hx hy⟩, ys, h3, fun i x cs hx hy => allZ_map.1 h4 i x cs hx hy⟩
  · rintro ⟨p, q, h, ⟨xs, h1, h2⟩, ys, h3, h4⟩
    exact ⟨p, q, h, ⟨xs, h1, allZ_map.2 (fun i x cs hx hy => h2 i x cs hx hy)⟩, ys, h3, allZ_map.2 (fun i x cs hx hy => h4 i x cs hx hy)⟩
/-- The element at a place, its cells, and how they are loaded. -/
theorem RowC.at {S : Nat → Prop} {w : World} {e : TypeId} {size n : Nat} {p : Sl} {xss : List (List Value)} (h : RowC S w e size n p xss) {i : Nat} (hi : i < n) :
    ∃ g xs, p.a = some ⟨g, 0, none⟩ ∧ p.n = n ∧ n ≤ p.c ∧ S g ∧ g < w.heap.size ∧ xss[i]? = some xs ∧ ∀ j u, xs[j]? = some u → w.cell? ⟨g, i * size + j, none⟩ = some u := by
  obtain ⟨hl, hs, hr, hS⟩ := h
  obtain ⟨xs, hx⟩ : ∃ xs, xss[i]? = some xs := ⟨xss[i]'(by omega), List.getElem?_eq_getElem _⟩
  rcases hr.2 with ⟨hv, h0⟩ | ⟨g, cap, cur, hv, _, hg, hnc, _⟩
  · omega
  · have e1 : p.a = some ⟨g, 0, none⟩ ∧ p.n = n ∧ p.c = cap := by
      have := hv; unfold Sl.val at this; simpa using this
    refine ⟨g, xs, e1.1, e1.2.1, by omega, hS g (by rw [hv]; rfl), (Array.getElem?_eq_some_iff.1 hg).1, hx, fun j u hu => ?_⟩
    have hc := hr.cells (g := g) (by rw [hv]; rfl) (i * size + j) u (by
      rw [← hu]
      exact flatten_at xss size hs i xs hx j (by have := List.getElem?_eq_some_iff.1 hu; have h2 := hs xs (List.mem_of_getElem? hx); obtain ⟨h3, _⟩ := this; omega))
    rwa [Addr.add_lit, Nat.zero_add] at hc
theorem RowC.form {S : Nat → Prop} {w : World} {e : TypeId} {size n : Nat} {p : Sl} {xss : List (List Value)} (h : RowC S w e size n p xss) : p.n = n ∧ (n = 0 ∨ ∃ g, p.a = some ⟨g, 0, none⟩) := by
  obtain ⟨_, _, hr, _⟩ := h
  rcases hr.2 with ⟨hv, h0⟩ | ⟨g, cap, cur, hv, _⟩
  · have := hv; unfold Sl.val at this; simp at this; omega
  · have := hv; unfold Sl.val at this; simp at this; exact ⟨this.2.1, .inr ⟨g, this.1⟩⟩
/-- What lies in blocks that are as they were lies there still. -/
theorem RowC.map {S S' : Nat → Prop} {w w' : World} {e : TypeId} {size n : Nat} {p : Sl} {xss : List (List Value)} (hk : ∀ g, S g → g < w.heap.size → S' g ∧ w'.heap[g]? = w.heap[g]?) (h : RowC S w e size n p xss) : RowC S' w' e size n p xss := by
  obtain ⟨h1, h2, h3, h4⟩ := h
  refine ⟨h1, h2, ⟨h3.1, ?_⟩, fun g hg => (hk g (h4 g hg) (h3.lt g hg).2).1⟩
  rcases h3.2 with h0 | ⟨g, cap, cur, hv, hb, hg, r⟩
  · exact .inl h0
  · have hg' := hk g (h4 g (by rw [hv]; rfl)) (h3.lt g (by rw [hv]; rfl)).2
    exact .inr ⟨g, cap, cur, hv, hb, hg'.2.trans hg, r⟩
theorem Lies.map {S S' : Nat → Prop} {w w' : World} (hk : ∀ g, S g → g < w.heap.size → S' g ∧ w'.heap[g]? = w.heap[g]?) (v : V) : ∀ cs, Lies S w v cs → Lies S' w' v cs := by
  induction v using V.ind with
  | h v ihl ihf =>
    intro cs h
    obtain ⟨p, q, rfl, ⟨xs, h1, h2⟩, ys, h3, h4⟩ := lies_iff.1 h
    refine lies_iff.2 ⟨p, q, rfl, ⟨xs, h1.map hk, fun i x y hx hy => ihl x (List.mem_of_getElem? hx) y (h2 i x y hx hy)⟩, ys, h3.map hk, fun i x y hx hy => ?_⟩
    obtain ⟨zs, hz, hl⟩ := h4 i x y hx hy
    exact ⟨zs, hz, ihf x (List.mem_of_getElem? hx) zs hl⟩
theorem RowV.map {S S' : Nat → Prop} {w w' : World} (hk : ∀ g, S g → g < w.heap.size → S' g ∧ w'.heap[g]? = w.heap[g]?) {l : List V} {p : Sl} : RowV S w l p → RowV S' w' l p :=
  fun ⟨xs, h1, h2⟩ => ⟨xs, h1.map hk, fun i x y hx hy => Lies.map hk x y (h2 i x y hx hy)⟩
theorem RowF.map {S S' : Nat → Prop} {w w' : World} (hk : ∀ g, S g → g < w.heap.size → S' g ∧ w'.heap[g]? = w.heap[g]?) {l : List (ByteArray × V)} {p : Sl} : RowF S w l p → RowF S' w' l p :=
  fun ⟨xs, h1, h2⟩ => ⟨xs, h1.map hk, fun i x y hx hy => by obtain ⟨zs, hz, hl⟩ := h2 i x y hx hy; exact ⟨zs, hz, Lies.map hk x.2 zs hl⟩⟩
theorem hkBelow {S : Nat → Prop} {w w' : World} (hb : Below w.heap.size w w') : ∀ g, S g → g < w.heap.size → S g ∧ w'.heap[g]? = w.heap[g]? := fun g hs hg => ⟨hs, hb.block g hg⟩
theorem RowV.nil (S : Nat → Prop) (w : World) : RowV S w [] ⟨none, 0, 0⟩ := ⟨[], ⟨rfl, by simp, World.ownsRow_nil _ _ _ _, fun g h => by simp [Sl.val, Value.ownBlock] at h⟩, fun i x y h => by simp at h⟩
theorem RowF.nil (S : Nat → Prop) (w : World) : RowF S w [] ⟨none, 0, 0⟩ := ⟨[], ⟨rfl, by simp, World.ownsRow_nil _ _ _ _, fun g h => by simp [Sl.val, Value.ownBlock] at h⟩, fun i x y h => by simp at h⟩

/-- A value of which the two slices are these lies in the world. -/
def HV (S : Nat → Prop) (w : World) (v : V) (p q : Sl) : Prop := RowV S w v.list p ∧ RowF S w v.fields q
theorem HV.map {S S' : Nat → Prop} {w w' : World} (hk : ∀ g, S g → g < w.heap.size → S' g ∧ w'.heap[g]? = w.heap[g]?) {v : V} {p q : Sl} (h : HV S w v p q) : HV S' w' v p q := ⟨h.1.map hk, h.2.map hk⟩
theorem HV.later {S : Nat → Prop} {w w' : World} {v : V} {p q : Sl} (h : HV S w v p q) (hb : Below w.heap.size w w') : HV S w' v p q := h.map (hkBelow hb)
theorem RowV.later {S : Nat → Prop} {w w' : World} {l : List V} {p : Sl} (h : RowV S w l p) (hb : Below w.heap.size w w') : RowV S w' l p := h.map (hkBelow hb)
theorem RowF.later {S : Nat → Prop} {w w' : World} {l : List (ByteArray × V)} {p : Sl} (h : RowF S w l p) (hb : Below w.heap.size w w') : RowF S w' l p := h.map (hkBelow hb)
theorem HV.lies {S : Nat → Prop} {w : World} {v : V} {p q : Sl} (h : HV S w v p q) : Lies S w v (cellsV v p q) := lies_iff.2 ⟨p, q, rfl, h⟩

theorem RowV.len {S : Nat → Prop} {w : World} {l : List V} {p : Sl} : RowV S w l p → p.n = l.length := fun ⟨_, h1, _⟩ => h1.form.1
theorem RowF.len {S : Nat → Prop} {w : World} {l : List (ByteArray × V)} {p : Sl} : RowF S w l p → p.n = l.length := fun ⟨_, h1, _⟩ => h1.form.1
theorem RowV.at {S : Nat → Prop} {w : World} {l : List V} {p : Sl} (h : RowV S w l p) {i : Nat} (hi : i < l.length) :
    ∃ g r t, p.a = some ⟨g, 0, none⟩ ∧ g < w.heap.size ∧ S g ∧ (∀ j u, (cellsV l[i] r t)[j]? = some u → w.cell? ⟨g, i * 5 + j, none⟩ = some u) ∧ HV S w l[i] r t := by
  obtain ⟨xss, h1, h2⟩ := h
  obtain ⟨g, xs, ha, _, _, hs, hg, hx, hc⟩ := h1.at hi
  obtain ⟨r, t, rfl, hh⟩ := lies_iff.1 (h2 i l[i] xs (List.getElem?_eq_getElem hi) hx)
  exact ⟨g, r, t, ha, hg, hs, hc, hh⟩
theorem RowF.at {S : Nat → Prop} {w : World} {l : List (ByteArray × V)} {p : Sl} (h : RowF S w l p) {i : Nat} (hi : i < l.length) :
    ∃ g r t, p.a = some ⟨g, 0, none⟩ ∧ g < w.heap.size ∧ S g ∧ (∀ j u, (cellsF l[i] r t)[j]? = some u → w.cell? ⟨g, i * 6 + j, none⟩ = some u) ∧ HV S w l[i].2 r t := by
  obtain ⟨xss, h1, h2⟩ := h
  obtain ⟨g, xs, ha, _, _, hs, hg, hx, hc⟩ := h1.at hi
  obtain ⟨ys, rfl, hl⟩ := h2 i l[i] xs (List.getElem?_eq_getElem hi) hx
  obtain ⟨r, t, rfl, hh⟩ := lies_iff.1 hl
  exact ⟨g, r, t, ha, hg, hs, hc, hh⟩
theorem RowC.max {S : Nat → Prop} {w : World} {e : TypeId} {size n : Nat} {p : Sl} {xss : List (List Value)} (h : RowC S w e size n p xss) : n ≤ 9223372036854775807 := by
  obtain ⟨_, _, hr, _⟩ := h
  rcases hr.2 with ⟨_, h0⟩ | ⟨g, cap, cur, _, _, _, hn, hm, _⟩
  · omega
  · simp only [maxLen] at hm; omega
theorem RowV.max {S : Nat → Prop} {w : World} {l : List V} {p : Sl} : RowV S w l p → l.length ≤ 9223372036854775807 := fun ⟨_, h1, _⟩ => h1.max
theorem RowF.max {S : Nat → Prop} {w : World} {l : List (ByteArray × V)} {p : Sl} : RowF S w l p → l.length ≤ 9223372036854775807 := fun ⟨_, h1, _⟩ => h1.max

def maxN : List Nat → Nat
  | [] => 0
  | x :: l => max x (maxN l)
theorem le_maxN {x : Nat} : ∀ {l : List Nat}, x ∈ l → x ≤ maxN l
  | y :: l, h => by
    rcases List.mem_cons.1 h with rfl | h
    · exact Nat.le_max_left _ _
    · exact Nat.le_trans (le_maxN h) (Nat.le_max_right _ _)
/-- How deep a value is. -/
def depthV : V → Nat := V.fold fun _ a b => Nat.max (maxN a) (maxN (b.map (·.2))) + 1
theorem depthV_eq (v : V) : depthV v = max (maxN (v.list.map depthV)) (maxN (v.fields.map fun g => depthV g.2)) + 1 := by
  unfold depthV; rw [V.fold_eq, List.map_map]; rfl
theorem depth_list {v x : V} (h : x ∈ v.list) : depthV x + 1 ≤ depthV v := by
  rw [depthV_eq v]
  exact Nat.succ_le_succ (Nat.le_trans (le_maxN (List.mem_map_of_mem h)) (Nat.le_max_left _ _))
theorem depth_fields {v : V} {g : ByteArray × V} (h : g ∈ v.fields) : depthV g.2 + 1 ≤ depthV v := by
  rw [depthV_eq v]
  exact Nat.succ_le_succ (Nat.le_trans (le_maxN (List.mem_map_of_mem (f := fun g => depthV g.2) h)) (Nat.le_max_right _ _))
def sumN : List Nat → Nat
  | [] => 0
  | x :: l => x + sumN l
/-- How many values a value is. -/
def countV : V → Nat := V.fold fun _ a b => sumN a + sumN (b.map (·.2)) + 1
theorem countV_eq (v : V) : countV v = sumN (v.list.map countV) + sumN (v.fields.map fun g => countV g.2) + 1 := by
  unfold countV; rw [V.fold_eq, List.map_map]; rfl
theorem sum_take {α : Type _} (m : α → Nat) : ∀ (l : List α) (i : Nat) (x : α), l[i]? = some x → sumN ((l.take i).map m) + m x ≤ sumN (l.map m)
  | [], i, x, h => by simp at h
  | y :: l, 0, x, h => by
    simp only [List.getElem?_cons_zero, Option.some.injEq] at h
    subst h
    simp [sumN]
  | y :: l, i + 1, x, h => by
    have := sum_take m l i x (by simpa using h)
    simp only [List.take_succ_cons, List.map_cons, sumN]
    omega
end Go.Proofs.YteocenjneoclbaaDoor.tre
