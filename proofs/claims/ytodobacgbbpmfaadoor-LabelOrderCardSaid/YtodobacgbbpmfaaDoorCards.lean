/-
  DERIVED. GIVEN WITH THE SEED: THE CARDS: each row of YtodobacgbbpmfaaDoorRows.lean that lists a variable, with what it lists TIED to the program's text (the seventh form; the later family's looks); each row that meets fmt, with fmt's text TOLD by the authors' own Lean function (tested against real Go, not proved from fmt's source: count such statements apart). THE CARD IS WHAT COUNTS. Prove the row's statement (the work); the ties are given (YtodobacgbbpmfaaDoorTie.lean); close each card by the builder's one call (the guide's Derived/Test/ToyasCard.lean, 'card_holds'). Laid BY PROGRAM, IN A SANDBOX (cutbox-door.mjs). By AI agents, Wed Nov 11 2026. No macro, syntax, notation, axiom, sorry.
-/
import Derived.Test.YtodobacgbbpmfaaDoorRows
import GoSem.ClaimSeven
namespace Go.Proofs.YtodobacgbbpmfaaDoor
namespace Rows

/-- THE TIED CARD OF 'vestibulelaw07.LabelTells'. -/
def labelTellsCard : Claim7 := { stood := { row := labelTellsRow, standIns := [], harness := (true, "35ee1a6280c474c2516dc7b50ffa36e8f9d523219d567c50e8b9e930361e56ef"), looks := false }, kinds := [], alts := [], laidByText := true, laidKinds := [.data, .pinned], laidTests := true, laidLooks := .later }
def LabelTellsCardSaid : Prop := Claim7.holds Tryd.pinned (.plain (OpenSpec.ofChange labelTellsSpec)) labelTellsCard

/-- THE TIED CARD OF 'vestibulelaw07.LabelLess'. -/
def labelLessCard : Claim7 := { stood := { row := labelLessRow, standIns := [], harness := (true, "35ee1a6280c474c2516dc7b50ffa36e8f9d523219d567c50e8b9e930361e56ef"), looks := false }, kinds := [], alts := [], laidByText := true, laidKinds := [.data, .pinned], laidTests := true, laidLooks := .later }
def LabelLessCardSaid : Prop := Claim7.holds Tryd.pinned (.plain (OpenSpec.ofChange labelLessSpec)) labelLessCard

/-- THE TIED CARD OF 'vestibulelaw07.LabelOther'. -/
def labelOtherCard : Claim7 := { stood := { row := labelOtherRow, standIns := [], harness := (true, "35ee1a6280c474c2516dc7b50ffa36e8f9d523219d567c50e8b9e930361e56ef"), looks := false }, kinds := [], alts := [], laidByText := true, laidKinds := [.data, .pinned], laidTests := true, laidLooks := .later }
def LabelOtherCardSaid : Prop := Claim7.holds Tryd.pinned (.plain (OpenSpec.ofChange labelOtherSpec)) labelOtherCard

/-- THE TIED CARD OF 'vestibulelaw07.LabelOrder'. -/
def labelOrderCard : Claim7 := { stood := { row := labelOrderRow, standIns := [], harness := (true, "35ee1a6280c474c2516dc7b50ffa36e8f9d523219d567c50e8b9e930361e56ef"), looks := false }, kinds := [], alts := [], laidByText := true, laidKinds := [.data, .pinned], laidTests := true, laidLooks := .later }
def LabelOrderCardSaid : Prop := Claim7.holds Tryd.pinned (.plain (OpenSpec.ofChange labelOrderSpec)) labelOrderCard

/-- THE TIED CARD OF 'vestibulelaw07.LabelPairs'. -/
def labelPairsCard : Claim7 := { stood := { row := labelPairsRow, standIns := [], harness := (true, "35ee1a6280c474c2516dc7b50ffa36e8f9d523219d567c50e8b9e930361e56ef"), looks := false }, kinds := [], alts := [], laidByText := true, laidKinds := [.data, .pinned], laidTests := true, laidLooks := .later }
def LabelPairsCardSaid : Prop := Claim7.holds Tryd.pinned (.plain (OpenSpec.ofChange labelPairsSpec)) labelPairsCard

/-- THE TIED CARD OF 'vestibulelaw07.LabelHas'. -/
def labelHasCard : Claim7 := { stood := { row := labelHasRow, standIns := [], harness := (true, "35ee1a6280c474c2516dc7b50ffa36e8f9d523219d567c50e8b9e930361e56ef"), looks := false }, kinds := [], alts := [], laidByText := true, laidKinds := [.data, .pinned], laidTests := true, laidLooks := .later }
def LabelHasCardSaid : Prop := Claim7.holds Tryd.pinned (.plain (OpenSpec.ofChange labelHasSpec)) labelHasCard

/-- THE SECOND FORM's CARD OF 'vestibulelaw07.LabelTells'. -/
def labelTellsUptoCard : Claim7 := { stood := { row := labelTellsUptoRow, standIns := [], harness := (true, "35ee1a6280c474c2516dc7b50ffa36e8f9d523219d567c50e8b9e930361e56ef"), looks := false }, kinds := [], alts := [], laidByText := true, laidKinds := [.data, .pinned], laidTests := true, laidLooks := .later }
def LabelTellsUptoCardSaid : Prop := Claim7.holds Tryd.pinned (.plain (OpenSpec.upto labelTellsSpec)) labelTellsUptoCard

/-- THE SECOND FORM's CARD OF 'vestibulelaw07.LabelLess'. -/
def labelLessUptoCard : Claim7 := { stood := { row := labelLessUptoRow, standIns := [], harness := (true, "35ee1a6280c474c2516dc7b50ffa36e8f9d523219d567c50e8b9e930361e56ef"), looks := false }, kinds := [], alts := [], laidByText := true, laidKinds := [.data, .pinned], laidTests := true, laidLooks := .later }
def LabelLessUptoCardSaid : Prop := Claim7.holds Tryd.pinned (.plain (OpenSpec.upto labelLessSpec)) labelLessUptoCard

/-- THE SECOND FORM's CARD OF 'vestibulelaw07.LabelOther'. -/
def labelOtherUptoCard : Claim7 := { stood := { row := labelOtherUptoRow, standIns := [], harness := (true, "35ee1a6280c474c2516dc7b50ffa36e8f9d523219d567c50e8b9e930361e56ef"), looks := false }, kinds := [], alts := [], laidByText := true, laidKinds := [.data, .pinned], laidTests := true, laidLooks := .later }
def LabelOtherUptoCardSaid : Prop := Claim7.holds Tryd.pinned (.plain (OpenSpec.upto labelOtherSpec)) labelOtherUptoCard

/-- THE SECOND FORM's CARD OF 'vestibulelaw07.LabelOrder'. -/
def labelOrderUptoCard : Claim7 := { stood := { row := labelOrderUptoRow, standIns := [], harness := (true, "35ee1a6280c474c2516dc7b50ffa36e8f9d523219d567c50e8b9e930361e56ef"), looks := false }, kinds := [], alts := [], laidByText := true, laidKinds := [.data, .pinned], laidTests := true, laidLooks := .later }
def LabelOrderUptoCardSaid : Prop := Claim7.holds Tryd.pinned (.plain (OpenSpec.upto labelOrderSpec)) labelOrderUptoCard

/-- THE SECOND FORM's CARD OF 'vestibulelaw07.LabelPairs'. -/
def labelPairsUptoCard : Claim7 := { stood := { row := labelPairsUptoRow, standIns := [], harness := (true, "35ee1a6280c474c2516dc7b50ffa36e8f9d523219d567c50e8b9e930361e56ef"), looks := false }, kinds := [], alts := [], laidByText := true, laidKinds := [.data, .pinned], laidTests := true, laidLooks := .later }
def LabelPairsUptoCardSaid : Prop := Claim7.holds Tryd.pinned (.plain (OpenSpec.upto labelPairsSpec)) labelPairsUptoCard

/-- THE SECOND FORM's CARD OF 'vestibulelaw07.LabelHas'. -/
def labelHasUptoCard : Claim7 := { stood := { row := labelHasUptoRow, standIns := [], harness := (true, "35ee1a6280c474c2516dc7b50ffa36e8f9d523219d567c50e8b9e930361e56ef"), looks := false }, kinds := [], alts := [], laidByText := true, laidKinds := [.data, .pinned], laidTests := true, laidLooks := .later }
def LabelHasUptoCardSaid : Prop := Claim7.holds Tryd.pinned (.plain (OpenSpec.upto labelHasSpec)) labelHasUptoCard
end Rows
end Go.Proofs.YtodobacgbbpmfaaDoor
