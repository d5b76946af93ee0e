/- Layer 4: two values in variables. -/
import Derived.Test.YteocenjneoclbaaDoorTrmShaped
namespace Go.Proofs.YteocenjneoclbaaDoor.tre
open Go.RowKit Go.Shelf

def St (W w : World) (bv bx : Nat) (v x : V) (pv qv px qx : Sl) : Prop := Below W.heap.size W w ∧ w.heap[bv]? = some (.cells #[.int .i64 v.kind, .int .i64 v.int, .string v.text, .slice pv.a pv.n pv.c, .slice qv.a qv.n qv.c] 27 (0, 0)) ∧ w.heap[bx]? = some (.cells #[.int .i64 x.kind, .int .i64 x.int, .string x.text, .slice px.a px.n px.c, .slice qx.a qx.n qx.c] 27 (0, 0)) ∧
  HV (fun g => g < w.heap.size) w v pv qv ∧ HV (fun g => g < w.heap.size) w x px qx
theorem St.later {W w w' : World} {bv bx : Nat} {v x : V} {pv qv px qx : Sl} (h : St W w bv bx v x pv qv px qx) (hb : Below w.heap.size w w') : St W w' bv bx v x pv qv px qx :=
  ⟨h.1.trans (hb.mono h.1.size), (hb.block _ (Array.getElem?_eq_some_iff.1 h.2.1).1).trans h.2.1, (hb.block _ (Array.getElem?_eq_some_iff.1 h.2.2.1).1).trans h.2.2.1, h.2.2.2.1.map (fun k _ hl => ⟨Nat.lt_of_lt_of_le hl hb.size, hb.block k hl⟩), h.2.2.2.2.map (fun k _ hl => ⟨Nat.lt_of_lt_of_le hl hb.size, hb.block k hl⟩)⟩
end Go.Proofs.YteocenjneoclbaaDoor.tre
