/- Layer 4: the boxes that read's own function goes by. -/
import Derived.Test.YtkecimhohmkkkaaDoorTreReadP
namespace Go.Proofs.YtkecimhohmkkkaaDoor.tre
open Go.RowKit Go.Shelf

/-- The row, the place, and the function itself. -/
def RB (l : List It) (bl c bL bA bN : Nat) (TL TA TN : TypeId) (W : World) (P : Nat) : Prop :=
  W.heap[bL]? = some (.cells #[.slice (some ⟨bl, 0, none⟩) l.length c] TL (0, 0)) ∧ W.heap[bA]? = some (.cells #[.int .i64 P] TA (0, 0)) ∧
  W.heap[bN]? = some (.cells #[.func (.func 65) #[] #[.pointer (some ⟨bL, 0, none⟩), .pointer (some ⟨bA, 0, none⟩), .pointer (some ⟨bN, 0, none⟩)]] TN (0, 0)) ∧
  ItAt W bl 0 l ∧ bl < W.heap.size ∧ bL ≠ bA ∧ bN ≠ bA ∧ bl ≠ bA
theorem RB.later {l : List It} {bl c bL bA bN : Nat} {TL TA TN : TypeId} {W W' : World} {P : Nat} (h : RB l bl c bL bA bN TL TA TN W P) (hb : Below W.heap.size W W') : RB l bl c bL bA bN TL TA TN W' P := by
  obtain ⟨h1, h2, h3, h4, h5, h6⟩ := h
  exact ⟨(hb.block _ (Array.getElem?_eq_some_iff.1 h1).1).trans h1, (hb.block _ (Array.getElem?_eq_some_iff.1 h2).1).trans h2, (hb.block _ (Array.getElem?_eq_some_iff.1 h3).1).trans h3, h4.later hb h5, Nat.lt_of_lt_of_le h5 hb.size, h6⟩
theorem RB.set {l : List It} {bl c bL bA bN : Nat} {TL TA TN : TypeId} {W : World} {P : Nat} (h : RB l bl c bL bA bN TL TA TN W P) (P' : Nat) : RB l bl c bL bA bN TL TA TN (W.setCell ⟨bA, 0, none⟩ (.int .i64 P')) P' := by
  obtain ⟨h1, h2, h3, h4, h5, h6, h7, h8⟩ := h
  refine ⟨(blk_far h6).trans h1, blk_set h2 0 _, (blk_far h7).trans h3, fun i hi j u hu => ?_, by simpa [World.setCell] using h5, h6, h7, h8⟩
  exact (World.cell?_of_block (w := W) (blk_far h8)).trans (h4 i hi j u hu)
theorem below_both {B : Nat} {a w : World} (h : Below B a w) (p : Addr) (u : Value) : Below B (a.setCell p u) (w.setCell p u) := by
  refine ⟨h.os, h.tape, h.output, by simpa [World.setCell] using h.size, fun k hk => ?_⟩
  simp only [World.setCell, Array.getElem?_modify, h.block k hk]
theorem below_twice {W : World} {b : Nat} {x : Value} {T : TypeId} (h : W.heap[b]? = some (.cells #[x] T (0, 0))) (u u' : Value) :
    Below W.heap.size (W.setCell ⟨b, 0, none⟩ u') ((W.setCell ⟨b, 0, none⟩ u).setCell ⟨b, 0, none⟩ u') := by
  refine ⟨rfl, rfl, rfl, by simp [World.setCell], fun k hk => ?_⟩
  by_cases e : k = b
  · subst e
    have h1 := blk_set (blk_set h 0 u) 0 u'
    have h2 := blk_set h 0 u'
    exact h1.trans h2.symm
  · exact (blk_far e).trans ((blk_far e).trans (blk_far e).symm)
/-- The frame of what goes on behind what went on. -/
theorem below_on {W w1 w2 : World} {b : Nat} {x : Value} {T : TypeId} {u u' : Value} (h0 : W.heap[b]? = some (.cells #[x] T (0, 0))) (h1 : Below W.heap.size (W.setCell ⟨b, 0, none⟩ u) w1) (h2 : Below w1.heap.size (w1.setCell ⟨b, 0, none⟩ u') w2) :
    Below W.heap.size (W.setCell ⟨b, 0, none⟩ u') w2 := by
  have hs := h1.size
  simp only [World.setCell, Array.size_modify] at hs
  exact ((below_twice h0 u u').trans (below_both h1 _ u')).trans (h2.mono hs)
theorem size_set (W : World) (a : Addr) (u : Value) : (W.setCell a u).heap.size = W.heap.size := by simp [World.setCell]
end Go.Proofs.YtkecimhohmkkkaaDoor.tre
