/- Layer 4: the law TreeMakes over items that came in. -/
import Derived.Test.YtkecimhohmkkkaaDoorTreFrame
namespace Go.Proofs.YtkecimhohmkkkaaDoor.tre
open Go.RowKit Go.Shelf

theorem lawMakes (a : Option Addr) (c : Nat) (l : List It) {W : World} (h : ItemsIn W a l) (hT : utf.Tab W) :
    Calls Tryd.prog 3 #[.slice a l.length c] W fun e w' => e = .returned (.bool true) ∧ Below W.heap.size W w' :=
  treeMakes_any l h.2.1 a c W h.1 h.2.2 hT
end Go.Proofs.YtkecimhohmkkkaaDoor.tre
