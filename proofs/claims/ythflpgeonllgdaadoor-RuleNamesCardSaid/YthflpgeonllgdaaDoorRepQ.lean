/- A region that draws its order, only reads, and whose callees lay blocks of their own and draw as often as they like: walked once. -/
import Derived.Test.YthflpgeonllgdaaDoorRepR
import Derived.Shelf.SlSortCmp.QuietGrown
import Derived.BigQuiet
namespace Go.Proofs.YthflpgeonllgdaaDoor.rep
open Go.RowKit
open Go.Sort

/-- The world, with its draws not counted. -/
def undrawn (w : World) : World := { w with drawn := 0 }
theorem below_undrawn (w : World) : Below w.heap.size (undrawn w) w := ⟨rfl, rfl, rfl, Nat.le_refl _, fun _ _ => rfl⟩
theorem undrawn_below {w w' : World} (h : Below w.heap.size w w') : Below w.heap.size (undrawn w) w' := ⟨h.os, h.tape, h.output, h.size, h.block⟩
theorem class_of_below {w w' : World} (h : Below w.heap.size w w') : ∃ p : GrownBy, w' = grow ((undrawn w).drewN p.n) p.os := by
  refine ⟨⟨w'.drawn, w'.heap.extract w.heap.size w'.heap.size⟩, ?_⟩
  have hh : w'.heap = w.heap ++ w'.heap.extract w.heap.size w'.heap.size := by
    apply Array.ext_getElem?
    intro i
    by_cases hi : i < w.heap.size
    · rw [Array.getElem?_append_left hi, h.block i hi]
    · rw [Array.getElem?_append_right (by omega), Array.getElem?_extract]
      have hs := h.size
      by_cases h2 : i < w'.heap.size
      · rw [if_pos (by omega), show w.heap.size + (i - w.heap.size) = i by omega]
      · rw [if_neg (by omega), Array.getElem?_eq_none (by omega)]
  obtain ⟨hp, tp, dr, os, ou⟩ := w'
  obtain ⟨hp0, tp0, dr0, os0, ou0⟩ := w
  have h1 := h.os
  have h2 := h.tape
  have h3 := h.output
  simp only at h1 h2 h3 hh
  subst h1 h2 h3
  show World.mk hp tp dr os ou = World.mk (hp0 ++ _) tp (0 + dr) os ou
  rw [Nat.zero_add]
  congr
theorem below_of_grown {w : World} (n : Nat) (os : Array Obj) : Below w.heap.size w (grow ((undrawn w).drewN n) os) :=
  ⟨rfl, rfl, rfl, by show w.heap.size ≤ (w.heap ++ os).size; simp, fun k hk => by show (w.heap ++ os)[k]? = _; rw [Array.getElem?_append_left hk]⟩
theorem cell_below {w : World} {a : Addr} {v : Value} (hb : a.block < w.heap.size) (h : w.cell? a = some v) (n : Nat) (os : Array Obj) : (grow ((undrawn w).drewN n) os).cell? a = some v :=
  ((below_of_grown n os).cell hb).trans h
/-- A callee's contract, met in a world of the class. -/
theorem calls_below {P : Program} {f : FuncId} {args : Array Value} {w : World} {n : Nat} {os : Array Obj} {v : Value}
    (h : Calls P f args (grow ((undrawn w).drewN n) os) fun e w' => e = .returned v ∧ Below (grow ((undrawn w).drewN n) os).heap.size (grow ((undrawn w).drewN n) os) w') :
    Calls P f args (grow ((undrawn w).drewN n) os) fun e w'' => e = .returned v ∧ ∃ p : GrownBy, w'' = grow ((undrawn w).drewN p.n) p.os :=
  h.mono fun _ _ ⟨he, hb⟩ => ⟨he, class_of_below ((below_of_grown n os).trans (hb.mono (below_of_grown n os).size))⟩

theorem wp_region_quiet_below {P : Program} {id : Nat} {Q : Exit → Act → World → Prop} {a : Act} {w : World} {l : List Oper} (hm : P.follows .mixedOrders = true) (hB : Region.lexB .any l.toArray = true)
    (h : wpQuiet P l.toArray (fun w' => ∃ p : GrownBy, w' = grow ((undrawn w).drewN p.n) p.os) (fun a' => ∀ w', (∃ p : GrownBy, w' = grow ((undrawn w).drewN p.n) p.os) → Q .normal a' w') l a) : (Code.region id l.toArray true).wp P Q a w :=
  wp_region_quiet (C := fun w' => ∃ p : GrownBy, w' = grow ((undrawn w).drewN p.n) p.os) hm hB (class_of_below ((Below.refl _ _).drew)) (by simpa using h)

end Go.Proofs.YthflpgeonllgdaaDoor.rep
