/-
  DERIVED. GIVEN WITH THE SEED: THE CARDS: each row of YteocenjneoclbaaDoorRows.lean that lists a variable, with what it lists TIED to the program's text (the seventh form; the later family's looks); each row that meets fmt, with fmt's text TOLD by the authors' own Lean function (tested against real Go, not proved from fmt's source: count such statements apart). THE CARD IS WHAT COUNTS. Prove the row's statement (the work); the ties are given (YteocenjneoclbaaDoorTie.lean); close each card by the builder's one call (the guide's Derived/Test/ToyasCard.lean, 'card_holds'). Laid BY PROGRAM, IN A SANDBOX (cutbox-door.mjs). By AI agents, Wed Nov 11 2026. No macro, syntax, notation, axiom, sorry.
-/
import Derived.Test.YteocenjneoclbaaDoorRows
import GoSem.ClaimSeven
namespace Go.Proofs.YteocenjneoclbaaDoor
namespace Rows

/-- THE TIED CARD OF 'vestibulelaw04.TreeRows'. -/
def treeRowsCard : Claim7 := { stood := { row := treeRowsRow, standIns := [], harness := (true, "8394e7c27c9d3d018ff098159a9e8cadf414492e430687b85113fc206830ace7"), looks := false }, kinds := [], alts := [], laidByText := true, laidKinds := [.data], laidTests := true, laidLooks := .later }
def TreeRowsCardSaid : Prop := Claim7.holds Tryd.pinned (.plain (OpenSpec.ofChange treeRowsSpec)) treeRowsCard

/-- THE TIED CARD OF 'vestibulelaw04.TreeMaps'. -/
def treeMapsCard : Claim7 := { stood := { row := treeMapsRow, standIns := [], harness := (true, "8394e7c27c9d3d018ff098159a9e8cadf414492e430687b85113fc206830ace7"), looks := false }, kinds := [], alts := [], laidByText := true, laidKinds := [.data], laidTests := true, laidLooks := .later }
def TreeMapsCardSaid : Prop := Claim7.holds Tryd.pinned (.plain (OpenSpec.ofChange treeMapsSpec)) treeMapsCard

/-- THE TIED CARD OF 'vestibulelaw04.TreePuts'. -/
def treePutsCard : Claim7 := { stood := { row := treePutsRow, standIns := [], harness := (true, "8394e7c27c9d3d018ff098159a9e8cadf414492e430687b85113fc206830ace7"), looks := false }, kinds := [], alts := [], laidByText := true, laidKinds := [.data], laidTests := true, laidLooks := .later }
def TreePutsCardSaid : Prop := Claim7.holds Tryd.pinned (.plain (OpenSpec.ofChange treePutsSpec)) treePutsCard

/-- THE SECOND FORM's CARD OF 'vestibulelaw04.TreeRows'. -/
def treeRowsUptoCard : Claim7 := { stood := { row := treeRowsUptoRow, standIns := [], harness := (true, "8394e7c27c9d3d018ff098159a9e8cadf414492e430687b85113fc206830ace7"), looks := false }, kinds := [], alts := [], laidByText := true, laidKinds := [.data], laidTests := true, laidLooks := .later }
def TreeRowsUptoCardSaid : Prop := Claim7.holds Tryd.pinned (.plain (OpenSpec.upto treeRowsSpec)) treeRowsUptoCard

/-- THE SECOND FORM's CARD OF 'vestibulelaw04.TreeMaps'. -/
def treeMapsUptoCard : Claim7 := { stood := { row := treeMapsUptoRow, standIns := [], harness := (true, "8394e7c27c9d3d018ff098159a9e8cadf414492e430687b85113fc206830ace7"), looks := false }, kinds := [], alts := [], laidByText := true, laidKinds := [.data], laidTests := true, laidLooks := .later }
def TreeMapsUptoCardSaid : Prop := Claim7.holds Tryd.pinned (.plain (OpenSpec.upto treeMapsSpec)) treeMapsUptoCard

/-- THE SECOND FORM's CARD OF 'vestibulelaw04.TreePuts'. -/
def treePutsUptoCard : Claim7 := { stood := { row := treePutsUptoRow, standIns := [], harness := (true, "8394e7c27c9d3d018ff098159a9e8cadf414492e430687b85113fc206830ace7"), looks := false }, kinds := [], alts := [], laidByText := true, laidKinds := [.data], laidTests := true, laidLooks := .later }
def TreePutsUptoCardSaid : Prop := Claim7.holds Tryd.pinned (.plain (OpenSpec.upto treePutsSpec)) treePutsUptoCard
end Rows
end Go.Proofs.YteocenjneoclbaaDoor
