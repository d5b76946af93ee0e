/-
  DERIVED. GIVEN WITH THE SEED: THE CARDS: each row of YtdiighgnlckllaaDoorRows.lean that lists a variable, with what it lists TIED to the program's text (the seventh form; the later family's looks); each row that meets fmt, with fmt's text TOLD by the authors' own Lean function (tested against real Go, not proved from fmt's source: count such statements apart). THE CARD IS WHAT COUNTS. Prove the row's statement (the work); the ties are given (YtdiighgnlckllaaDoorTie.lean); close each card by the builder's one call (the guide's Derived/Test/ToyasCard.lean, 'card_holds'). Laid BY PROGRAM, IN A SANDBOX (cutbox-door.mjs). By AI agents, Wed Nov 11 2026. No macro, syntax, notation, axiom, sorry.
-/
import Derived.Test.YtdiighgnlckllaaDoorRows
import GoSem.ClaimSeven
namespace Go.Proofs.YtdiighgnlckllaaDoor
namespace Rows

/-- THE TIED CARD OF 'vestibulelaw03.NamesLabels'. -/
def namesLabelsCard : Claim7 := { stood := { row := namesLabelsRow, standIns := [], harness := (true, "a73fc680636850b15fba44214b660db97e3db2a17765b1a22bd535226cb1474d"), looks := false }, kinds := [], alts := [], laidByText := true, laidKinds := [.data, .pinned], laidTests := true, laidLooks := .later }
def NamesLabelsCardSaid : Prop := Claim7.holds Tryd.pinned (.plain (OpenSpec.ofChange namesLabelsSpec)) namesLabelsCard

/-- THE TIED CARD OF 'vestibulelaw03.NamesOthers'. -/
def namesOthersCard : Claim7 := { stood := { row := namesOthersRow, standIns := [], harness := (true, "a73fc680636850b15fba44214b660db97e3db2a17765b1a22bd535226cb1474d"), looks := false }, kinds := [], alts := [], laidByText := true, laidKinds := [.data, .pinned], laidTests := true, laidLooks := .later }
def NamesOthersCardSaid : Prop := Claim7.holds Tryd.pinned (.plain (OpenSpec.ofChange namesOthersSpec)) namesOthersCard

/-- THE TIED CARD OF 'vestibulelaw03.NamesWithin'. -/
def namesWithinCard : Claim7 := { stood := { row := namesWithinRow, standIns := [], harness := (true, "a73fc680636850b15fba44214b660db97e3db2a17765b1a22bd535226cb1474d"), looks := false }, kinds := [], alts := [], laidByText := true, laidKinds := [.data, .pinned], laidTests := true, laidLooks := .later }
def NamesWithinCardSaid : Prop := Claim7.holds Tryd.pinned (.plain (OpenSpec.ofChange namesWithinSpec)) namesWithinCard

/-- THE TIED CARD OF 'vestibulelaw03.NamesJoins'. -/
def namesJoinsCard : Claim7 := { stood := { row := namesJoinsRow, standIns := [], harness := (true, "a73fc680636850b15fba44214b660db97e3db2a17765b1a22bd535226cb1474d"), looks := false }, kinds := [], alts := [], laidByText := true, laidKinds := [.data, .pinned], laidTests := true, laidLooks := .later }
def NamesJoinsCardSaid : Prop := Claim7.holds Tryd.pinned (.plain (OpenSpec.ofChange namesJoinsSpec)) namesJoinsCard

/-- THE TIED CARD OF 'vestibulelaw03.NamesBytes'. -/
def namesBytesCard : Claim7 := { stood := { row := namesBytesRow, standIns := [], harness := (true, "a73fc680636850b15fba44214b660db97e3db2a17765b1a22bd535226cb1474d"), looks := false }, kinds := [], alts := [], laidByText := true, laidKinds := [.data, .pinned], laidTests := true, laidLooks := .later }
def NamesBytesCardSaid : Prop := Claim7.holds Tryd.pinned (.plain (OpenSpec.ofChange namesBytesSpec)) namesBytesCard

/-- THE TIED CARD OF 'vestibulelaw03.NamesLong'. -/
def namesLongCard : Claim7 := { stood := { row := namesLongRow, standIns := [], harness := (true, "a73fc680636850b15fba44214b660db97e3db2a17765b1a22bd535226cb1474d"), looks := false }, kinds := [], alts := [], laidByText := true, laidKinds := [.data, .pinned], laidTests := true, laidLooks := .later }
def NamesLongCardSaid : Prop := Claim7.holds Tryd.pinned (.plain (OpenSpec.ofChange namesLongSpec)) namesLongCard

/-- THE SECOND FORM's CARD OF 'vestibulelaw03.NamesLabels'. -/
def namesLabelsUptoCard : Claim7 := { stood := { row := namesLabelsUptoRow, standIns := [], harness := (true, "a73fc680636850b15fba44214b660db97e3db2a17765b1a22bd535226cb1474d"), looks := false }, kinds := [], alts := [], laidByText := true, laidKinds := [.data, .pinned], laidTests := true, laidLooks := .later }
def NamesLabelsUptoCardSaid : Prop := Claim7.holds Tryd.pinned (.plain (OpenSpec.upto namesLabelsSpec)) namesLabelsUptoCard

/-- THE SECOND FORM's CARD OF 'vestibulelaw03.NamesOthers'. -/
def namesOthersUptoCard : Claim7 := { stood := { row := namesOthersUptoRow, standIns := [], harness := (true, "a73fc680636850b15fba44214b660db97e3db2a17765b1a22bd535226cb1474d"), looks := false }, kinds := [], alts := [], laidByText := true, laidKinds := [.data, .pinned], laidTests := true, laidLooks := .later }
def NamesOthersUptoCardSaid : Prop := Claim7.holds Tryd.pinned (.plain (OpenSpec.upto namesOthersSpec)) namesOthersUptoCard

/-- THE SECOND FORM's CARD OF 'vestibulelaw03.NamesWithin'. -/
def namesWithinUptoCard : Claim7 := { stood := { row := namesWithinUptoRow, standIns := [], harness := (true, "a73fc680636850b15fba44214b660db97e3db2a17765b1a22bd535226cb1474d"), looks := false }, kinds := [], alts := [], laidByText := true, laidKinds := [.data, .pinned], laidTests := true, laidLooks := .later }
def NamesWithinUptoCardSaid : Prop := Claim7.holds Tryd.pinned (.plain (OpenSpec.upto namesWithinSpec)) namesWithinUptoCard

/-- THE SECOND FORM's CARD OF 'vestibulelaw03.NamesJoins'. -/
def namesJoinsUptoCard : Claim7 := { stood := { row := namesJoinsUptoRow, standIns := [], harness := (true, "a73fc680636850b15fba44214b660db97e3db2a17765b1a22bd535226cb1474d"), looks := false }, kinds := [], alts := [], laidByText := true, laidKinds := [.data, .pinned], laidTests := true, laidLooks := .later }
def NamesJoinsUptoCardSaid : Prop := Claim7.holds Tryd.pinned (.plain (OpenSpec.upto namesJoinsSpec)) namesJoinsUptoCard

/-- THE SECOND FORM's CARD OF 'vestibulelaw03.NamesBytes'. -/
def namesBytesUptoCard : Claim7 := { stood := { row := namesBytesUptoRow, standIns := [], harness := (true, "a73fc680636850b15fba44214b660db97e3db2a17765b1a22bd535226cb1474d"), looks := false }, kinds := [], alts := [], laidByText := true, laidKinds := [.data, .pinned], laidTests := true, laidLooks := .later }
def NamesBytesUptoCardSaid : Prop := Claim7.holds Tryd.pinned (.plain (OpenSpec.upto namesBytesSpec)) namesBytesUptoCard

/-- THE SECOND FORM's CARD OF 'vestibulelaw03.NamesLong'. -/
def namesLongUptoCard : Claim7 := { stood := { row := namesLongUptoRow, standIns := [], harness := (true, "a73fc680636850b15fba44214b660db97e3db2a17765b1a22bd535226cb1474d"), looks := false }, kinds := [], alts := [], laidByText := true, laidKinds := [.data, .pinned], laidTests := true, laidLooks := .later }
def NamesLongUptoCardSaid : Prop := Claim7.holds Tryd.pinned (.plain (OpenSpec.upto namesLongSpec)) namesLongUptoCard
end Rows
end Go.Proofs.YtdiighgnlckllaaDoor
