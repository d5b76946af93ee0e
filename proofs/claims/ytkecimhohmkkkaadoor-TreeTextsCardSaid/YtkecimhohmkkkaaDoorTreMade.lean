/- Layer 4: the document's own made. -/
import Derived.Test.YtkecimhohmkkkaaDoorTreMadeP
import Derived.Test.YtkecimhohmkkkaaDoorTreBldPre
import Derived.BigRegion
namespace Go.Proofs.YtkecimhohmkkkaaDoor.tre
open Go.RowKit Go.Shelf

/-- A value that is being made: its two rows lie from block B on, and what is in them lies in other blocks from there on. -/
def MV (B : Nat) (w : World) (m : V) (p q : Sl) (xss zss : List (List Value)) : Prop :=
  RowC (fun g => B ≤ g) w 28 5 m.list.length p xss ∧ RowC (fun g => B ≤ g) w 36 6 m.fields.length q zss ∧ (∀ k, p.val.ownBlock = some k → q.val.ownBlock ≠ some k) ∧
  AllZ (Lies (fun k => B ≤ k ∧ p.val.ownBlock ≠ some k ∧ q.val.ownBlock ≠ some k) w) m.list xss ∧
  AllZ (fun (g : ByteArray × V) xs => ∃ ys, xs = .string g.1 :: ys ∧ Lies (fun k => B ≤ k ∧ p.val.ownBlock ≠ some k ∧ q.val.ownBlock ≠ some k) w g.2 ys) m.fields zss
theorem MV.hv {B : Nat} {w : World} {m : V} {p q : Sl} {xss zss : List (List Value)} (h : MV B w m p q xss zss) : HV (fun k => B ≤ k) w m p q := by
  obtain ⟨h1, h2, _, h3, h4⟩ := h
  refine ⟨⟨xss, h1, fun i x y hx hy => Lies.map (fun k hk _ => ⟨hk.1, rfl⟩) _ _ (h3 i x y hx hy)⟩, zss, h2, fun i x y hx hy => ?_⟩
  obtain ⟨ys, e, hl⟩ := h4 i x y hx hy
  exact ⟨ys, e, Lies.map (fun k hk _ => ⟨hk.1, rfl⟩) _ _ hl⟩
theorem MV.map {B : Nat} {w w' : World} {m : V} {p q : Sl} {xss zss : List (List Value)} (h : MV B w m p q xss zss) (hk : ∀ k, B ≤ k → k < w.heap.size → w'.heap[k]? = w.heap[k]?) : MV B w' m p q xss zss := by
  obtain ⟨h1, h2, h3, h4, h5⟩ := h
  refine ⟨h1.map (fun k hb hl => ⟨hb, hk k hb hl⟩), h2.map (fun k hb hl => ⟨hb, hk k hb hl⟩), h3, fun i x y hx hy => Lies.map (fun k hb hl => ⟨hb, hk k hb.1 hl⟩) _ _ (h4 i x y hx hy), fun i x y hx hy => ?_⟩
  obtain ⟨ys, e, hl⟩ := h5 i x y hx hy
  exact ⟨ys, e, Lies.map (fun k hb hl => ⟨hb, hk k hb.1 hl⟩) _ _ hl⟩
theorem MV.leaf (B : Nat) (w : World) (x : It) : MV B w (leafV x) ⟨none, 0, 0⟩ ⟨none, 0, 0⟩ [] [] :=
  ⟨⟨rfl, by simp, World.ownsRow_nil _ _ _ _, fun g h => by simp [Sl.val, Value.ownBlock] at h⟩, ⟨rfl, by simp, World.ownsRow_nil _ _ _ _, fun g h => by simp [Sl.val, Value.ownBlock] at h⟩, fun k h => by simp [Sl.val, Value.ownBlock] at h, fun i x y h => by simp [leafV, V.list] at h, fun i x y h => by simp [leafV, V.fields] at h⟩
theorem allZ_snoc {α β : Type _} {R : α → β → Prop} {l : List α} {m : List β} (hl : m.length = l.length) (h : AllZ R l m) {x : α} {y : β} (hxy : R x y) : AllZ R (l ++ [x]) (m ++ [y]) := by
  intro i a b ha hb
  by_cases hi : i < l.length
  · rw [List.getElem?_append_left hi] at ha
    rw [List.getElem?_append_left (by omega)] at hb
    exact h i a b ha hb
  · have hi2 : i < (l ++ [x]).length := (List.getElem?_eq_some_iff.1 ha).1
    rw [List.length_append, List.length_singleton] at hi2
    obtain rfl : i = l.length := by omega
    rw [List.getElem?_append_right (Nat.le_refl _), Nat.sub_self] at ha
    rw [List.getElem?_append_right (by omega), hl, Nat.sub_self] at hb
    simp only [List.getElem?_cons_zero, Option.some.injEq] at ha hb
    subst ha hb
    exact hxy
theorem own_base {w : World} {B : Nat} {e : TypeId} {size : Nat} {v : Value} {n : Nat} {xs : List Value} (h : w.ownsRow 0 e size v n xs) (hB : ∀ g, v.ownBlock = some g → B ≤ g) : w.ownsRow B e size v n xs := by
  obtain ⟨h1, h2⟩ := h
  refine ⟨h1, ?_⟩
  rcases h2 with h2 | ⟨g, cap, cur, hv, hg, r⟩
  · exact .inl h2
  · exact .inr ⟨g, cap, cur, hv, hB g (by rw [hv]; rfl), r⟩
theorem own_zero {w : World} {B : Nat} {e : TypeId} {size : Nat} {v : Value} {n : Nat} {xs : List Value} (h : w.ownsRow B e size v n xs) : w.ownsRow 0 e size v n xs := by
  obtain ⟨h1, h2⟩ := h
  refine ⟨h1, ?_⟩
  rcases h2 with h2 | ⟨g, cap, cur, hv, _, r⟩
  · exact .inl h2
  · exact .inr ⟨g, cap, cur, hv, Nat.zero_le _, r⟩
theorem RowC.keep {S : Nat → Prop} {w w' : World} {e : TypeId} {size n : Nat} {p : Sl} {xss : List (List Value)} (h : RowC S w e size n p xss) (hk : ∀ g, p.val.ownBlock = some g → g < w.heap.size → w'.heap[g]? = w.heap[g]?) : RowC S w' e size n p xss := by
  obtain ⟨h1, h2, h3, h4⟩ := h
  refine ⟨h1, h2, ⟨h3.1, ?_⟩, h4⟩
  rcases h3.2 with h0 | ⟨g, cap, cur, hv, hb, hg, r⟩
  · exact .inl h0
  · exact .inr ⟨g, cap, cur, hv, hb, (hk g (by rw [hv]; rfl) (h3.lt g (by rw [hv]; rfl)).2).trans hg, r⟩
/-- One more value behind the list. -/
theorem MV.list {B : Nat} {w w5 w6 w7 : World} {m x : V} {p q p' px qx : Sl} {xss zss : List (List Value)} (h : MV B w m p q xss zss) (hBw : B ≤ w.heap.size) (hb : Below w.heap.size w w5) (hx : HV (fun g => w.heap.size ≤ g ∧ g < w5.heap.size) w5 x px qx)
    (hown : w6.ownsRow B 28 5 p'.val (m.list.length + 1) (xss.flatten ++ cellsV x px qx)) (hg : w5.grownBy w6 p.val.ownBlock) (hat : p'.val.ownBlock = p.val.ownBlock ∨ p'.val.ownBlock = some w5.heap.size)
    (hfar : ∀ k, B ≤ k → w7.heap[k]? = w6.heap[k]?) : MV B w7 (addL m x) p' q (xss ++ [cellsV x px qx]) zss := by
  obtain ⟨h1, h2, h3, h4, h5⟩ := h
  have hpl : ∀ k, p.val.ownBlock = some k → k < w.heap.size := fun k e => (h1.2.2.1.lt k e).2
  have hql : ∀ k, q.val.ownBlock = some k → k < w.heap.size := fun k e => (h2.2.2.1.lt k e).2
  have hsz := hb.size
  have keep : ∀ k, B ≤ k → k < w.heap.size → p.val.ownBlock ≠ some k → w7.heap[k]? = w.heap[k]? := fun k hk hl hp =>
    (hfar k hk).trans ((hg.block k (by omega) (fun e => hp e.symm)).trans (hb.block k hl))
  have hne : ∀ k, B ≤ k → k < w5.heap.size → p.val.ownBlock ≠ some k → p'.val.ownBlock ≠ some k := fun k _ hl hp e => by
    rcases hat with a | a
    · exact hp (a.symm.trans e)
    · rw [a] at e; injection e with e; omega
  have hmap : ∀ k, (B ≤ k ∧ p.val.ownBlock ≠ some k ∧ q.val.ownBlock ≠ some k) → k < w.heap.size → (B ≤ k ∧ p'.val.ownBlock ≠ some k ∧ q.val.ownBlock ≠ some k) ∧ w7.heap[k]? = w.heap[k]? := fun k hk hl =>
    ⟨⟨hk.1, hne k hk.1 (by omega) hk.2.1, hk.2.2⟩, keep k hk.1 hl hk.2.1⟩
  refine ⟨⟨?_, ?_, ?_, ?_⟩, ?_, ?_, ?_, ?_⟩
  · show _ = (m.list ++ [x]).length; simp [h1.1]
  · intro xs hxs
    rcases List.mem_append.1 hxs with hxs | hxs
    · exact h1.2.1 xs hxs
    · rw [List.mem_singleton] at hxs; rw [hxs]; rfl
  · show World.ownsRow _ _ _ _ _ (m.list ++ [x]).length _
    rw [List.length_append, List.length_singleton, List.flatten_append, List.flatten_singleton]
    rcases hown.2 with e | ⟨g, cap, cur, hv, hbg, hgg, r⟩
    · exact ⟨hown.1, .inl e⟩
    · exact ⟨hown.1, .inr ⟨g, cap, cur, hv, Nat.zero_le _, (hfar g hbg).trans hgg, r⟩⟩
  · exact fun k e => (hown.lt k e).1
  · exact h2.keep (fun k hk hl => keep k (h2.2.2.2 k hk) hl (fun e => h3 k e hk))
  · intro k e e2
    rcases hat with a | a
    · exact h3 k (a.symm.trans e) e2
    · rw [a] at e; injection e with e; have := hql k e2; omega
  · refine allZ_snoc h1.1 (fun i y cs hy hc => Lies.map hmap y cs (h4 i y cs hy hc)) (Lies.map (fun k hk hl => ⟨⟨by omega, hne k (by omega) hk.2 (fun e => by have := hpl k e; omega), fun e => by have := hql k e; omega⟩, (hfar k (by omega)).trans (hg.block k hl (fun e => by have := hpl k e.symm; omega))⟩) x _ hx.lies)
  · intro i y cs hy hc
    obtain ⟨ys, e, hl⟩ := h5 i y cs hy hc
    exact ⟨ys, e, Lies.map hmap _ _ hl⟩
/-- One more field behind the others. -/
theorem MV.field {B : Nat} {w w5 w6 w7 : World} {m x : V} {ky : ByteArray} {p q q' px qx : Sl} {xss zss : List (List Value)} (h : MV B w m p q xss zss) (hBw : B ≤ w.heap.size) (hb : Below w.heap.size w w5) (hx : HV (fun g => w.heap.size ≤ g ∧ g < w5.heap.size) w5 x px qx)
    (hown : w6.ownsRow B 36 6 q'.val (m.fields.length + 1) (zss.flatten ++ cellsF (ky, x) px qx)) (hg : w5.grownBy w6 q.val.ownBlock) (hat : q'.val.ownBlock = q.val.ownBlock ∨ q'.val.ownBlock = some w5.heap.size)
    (hfar : ∀ k, B ≤ k → w7.heap[k]? = w6.heap[k]?) : MV B w7 (addF m ky x) p q' xss (zss ++ [cellsF (ky, x) px qx]) := by
  obtain ⟨h1, h2, h3, h4, h5⟩ := h
  have hpl : ∀ k, p.val.ownBlock = some k → k < w.heap.size := fun k e => (h1.2.2.1.lt k e).2
  have hql : ∀ k, q.val.ownBlock = some k → k < w.heap.size := fun k e => (h2.2.2.1.lt k e).2
  have hsz := hb.size
  have keep : ∀ k, B ≤ k → k < w.heap.size → q.val.ownBlock ≠ some k → w7.heap[k]? = w.heap[k]? := fun k hk hl hp =>
    (hfar k hk).trans ((hg.block k (by omega) (fun e => hp e.symm)).trans (hb.block k hl))
  have hne : ∀ k, B ≤ k → k < w5.heap.size → q.val.ownBlock ≠ some k → q'.val.ownBlock ≠ some k := fun k _ hl hp e => by
    rcases hat with a | a
    · exact hp (a.symm.trans e)
    · rw [a] at e; injection e with e; omega
  have hmap : ∀ k, (B ≤ k ∧ p.val.ownBlock ≠ some k ∧ q.val.ownBlock ≠ some k) → k < w.heap.size → (B ≤ k ∧ p.val.ownBlock ≠ some k ∧ q'.val.ownBlock ≠ some k) ∧ w7.heap[k]? = w.heap[k]? := fun k hk hl =>
    ⟨⟨hk.1, hk.2.1, hne k hk.1 (by omega) hk.2.2⟩, keep k hk.1 hl hk.2.2⟩
  refine ⟨?_, ⟨?_, ?_, ?_, ?_⟩, ?_, ?_, ?_⟩
  · exact h1.keep (fun k hk hl => keep k (h1.2.2.2 k hk) hl (fun e => h3 k hk e))
  · show _ = (m.fields ++ [(ky, x)]).length; simp [h2.1]
  · intro xs hxs
    rcases List.mem_append.1 hxs with hxs | hxs
    · exact h2.2.1 xs hxs
    · rw [List.mem_singleton] at hxs; rw [hxs]; rfl
  · show World.ownsRow _ _ _ _ _ (m.fields ++ [(ky, x)]).length _
    rw [List.length_append, List.length_singleton, List.flatten_append, List.flatten_singleton]
    rcases hown.2 with e | ⟨g, cap, cur, hv, hbg, hgg, r⟩
    · exact ⟨hown.1, .inl e⟩
    · exact ⟨hown.1, .inr ⟨g, cap, cur, hv, Nat.zero_le _, (hfar g hbg).trans hgg, r⟩⟩
  · exact fun k e => (hown.lt k e).1
  · intro k e e2
    rcases hat with a | a
    · exact h3 k e (a.symm.trans e2)
    · rw [a] at e2; injection e2 with e2; have := hpl k e; omega
  · exact fun i y cs hy hc => Lies.map hmap y cs (h4 i y cs hy hc)
  · refine allZ_snoc h2.1 (fun i y cs hy hc => ?_) ⟨cellsV x px qx, rfl, Lies.map (fun k hk hl => ⟨⟨by omega, fun e => by have := hpl k e; omega, hne k (by omega) hk.2 (fun e => by have := hql k e; omega)⟩, (hfar k (by omega)).trans (hg.block k hl (fun e => by have := hql k e.symm; omega))⟩) x _ hx.lies⟩
    obtain ⟨ys, e, hl⟩ := h5 i y cs hy hc
    exact ⟨ys, e, Lies.map hmap _ _ hl⟩
end Go.Proofs.YtkecimhohmkkkaaDoor.tre
