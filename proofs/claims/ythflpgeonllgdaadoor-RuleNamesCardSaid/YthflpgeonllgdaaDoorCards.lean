/-
  DERIVED. GIVEN WITH THE SEED: THE CARDS: each row of YthflpgeonllgdaaDoorRows.lean that lists a variable, with what it lists TIED to the program's text (the seventh form; the later family's looks); each row that meets fmt, with fmt's text TOLD by the authors' own Lean function (tested against real Go, not proved from fmt's source: count such statements apart). THE CARD IS WHAT COUNTS. Prove the row's statement (the work); the ties are given (YthflpgeonllgdaaDoorTie.lean); close each card by the builder's one call (the guide's Derived/Test/ToyasCard.lean, 'card_holds'). Laid BY PROGRAM, IN A SANDBOX (cutbox-door.mjs). By AI agents, Wed Nov 11 2026. No macro, syntax, notation, axiom, sorry.
-/
import Derived.Test.YthflpgeonllgdaaDoorRows
import GoSem.ClaimSeven
namespace Go.Proofs.YthflpgeonllgdaaDoor
namespace Rows

/-- THE TIED CARD OF 'vestibulelaw08.RuleTells'. -/
def ruleTellsCard : Claim7 := { stood := { row := ruleTellsRow, standIns := [], harness := (true, "181574cde0b3fddd6b57c0f9f8ca5fc48c694bd889df6e6190a770ead86088a5"), looks := false }, kinds := [], alts := [], laidByText := true, laidKinds := [.data, .pinned], laidTests := true, laidLooks := .later }
def RuleTellsCardSaid : Prop := Claim7.holds Tryd.pinned (.plain (OpenSpec.ofChange ruleTellsSpec)) ruleTellsCard

/-- THE TIED CARD OF 'vestibulelaw08.RuleAllows'. -/
def ruleAllowsCard : Claim7 := { stood := { row := ruleAllowsRow, standIns := [], harness := (true, "181574cde0b3fddd6b57c0f9f8ca5fc48c694bd889df6e6190a770ead86088a5"), looks := false }, kinds := [], alts := [], laidByText := true, laidKinds := [.data, .pinned], laidTests := true, laidLooks := .later }
def RuleAllowsCardSaid : Prop := Claim7.holds Tryd.pinned (.plain (OpenSpec.ofChange ruleAllowsSpec)) ruleAllowsCard

/-- THE TIED CARD OF 'vestibulelaw08.RuleMore'. -/
def ruleMoreCard : Claim7 := { stood := { row := ruleMoreRow, standIns := [], harness := (true, "181574cde0b3fddd6b57c0f9f8ca5fc48c694bd889df6e6190a770ead86088a5"), looks := false }, kinds := [], alts := [], laidByText := true, laidKinds := [.data, .pinned], laidTests := true, laidLooks := .later }
def RuleMoreCardSaid : Prop := Claim7.holds Tryd.pinned (.plain (OpenSpec.ofChange ruleMoreSpec)) ruleMoreCard

/-- THE TIED CARD OF 'vestibulelaw08.RuleStars'. -/
def ruleStarsCard : Claim7 := { stood := { row := ruleStarsRow, standIns := [], harness := (true, "181574cde0b3fddd6b57c0f9f8ca5fc48c694bd889df6e6190a770ead86088a5"), looks := false }, kinds := [], alts := [], laidByText := true, laidKinds := [.data, .pinned], laidTests := true, laidLooks := .later }
def RuleStarsCardSaid : Prop := Claim7.holds Tryd.pinned (.plain (OpenSpec.ofChange ruleStarsSpec)) ruleStarsCard

/-- THE TIED CARD OF 'vestibulelaw08.RuleParts'. -/
def rulePartsCard : Claim7 := { stood := { row := rulePartsRow, standIns := [], harness := (true, "181574cde0b3fddd6b57c0f9f8ca5fc48c694bd889df6e6190a770ead86088a5"), looks := false }, kinds := [], alts := [], laidByText := true, laidKinds := [.data, .pinned], laidTests := true, laidLooks := .later }
def RulePartsCardSaid : Prop := Claim7.holds Tryd.pinned (.plain (OpenSpec.ofChange rulePartsSpec)) rulePartsCard

/-- THE TIED CARD OF 'vestibulelaw08.RulePaths'. -/
def rulePathsCard : Claim7 := { stood := { row := rulePathsRow, standIns := [], harness := (true, "181574cde0b3fddd6b57c0f9f8ca5fc48c694bd889df6e6190a770ead86088a5"), looks := false }, kinds := [], alts := [], laidByText := true, laidKinds := [.data, .pinned], laidTests := true, laidLooks := .later }
def RulePathsCardSaid : Prop := Claim7.holds Tryd.pinned (.plain (OpenSpec.ofChange rulePathsSpec)) rulePathsCard

/-- THE TIED CARD OF 'vestibulelaw08.RuleNames'. -/
def ruleNamesCard : Claim7 := { stood := { row := ruleNamesRow, standIns := [], harness := (true, "181574cde0b3fddd6b57c0f9f8ca5fc48c694bd889df6e6190a770ead86088a5"), looks := false }, kinds := [], alts := [], laidByText := true, laidKinds := [.data, .pinned], laidTests := true, laidLooks := .later }
def RuleNamesCardSaid : Prop := Claim7.holds Tryd.pinned (.plain (OpenSpec.ofChange ruleNamesSpec)) ruleNamesCard

/-- THE SECOND FORM's CARD OF 'vestibulelaw08.RuleTells'. -/
def ruleTellsUptoCard : Claim7 := { stood := { row := ruleTellsUptoRow, standIns := [], harness := (true, "181574cde0b3fddd6b57c0f9f8ca5fc48c694bd889df6e6190a770ead86088a5"), looks := false }, kinds := [], alts := [], laidByText := true, laidKinds := [.data, .pinned], laidTests := true, laidLooks := .later }
def RuleTellsUptoCardSaid : Prop := Claim7.holds Tryd.pinned (.plain (OpenSpec.upto ruleTellsSpec)) ruleTellsUptoCard

/-- THE SECOND FORM's CARD OF 'vestibulelaw08.RuleAllows'. -/
def ruleAllowsUptoCard : Claim7 := { stood := { row := ruleAllowsUptoRow, standIns := [], harness := (true, "181574cde0b3fddd6b57c0f9f8ca5fc48c694bd889df6e6190a770ead86088a5"), looks := false }, kinds := [], alts := [], laidByText := true, laidKinds := [.data, .pinned], laidTests := true, laidLooks := .later }
def RuleAllowsUptoCardSaid : Prop := Claim7.holds Tryd.pinned (.plain (OpenSpec.upto ruleAllowsSpec)) ruleAllowsUptoCard

/-- THE SECOND FORM's CARD OF 'vestibulelaw08.RuleMore'. -/
def ruleMoreUptoCard : Claim7 := { stood := { row := ruleMoreUptoRow, standIns := [], harness := (true, "181574cde0b3fddd6b57c0f9f8ca5fc48c694bd889df6e6190a770ead86088a5"), looks := false }, kinds := [], alts := [], laidByText := true, laidKinds := [.data, .pinned], laidTests := true, laidLooks := .later }
def RuleMoreUptoCardSaid : Prop := Claim7.holds Tryd.pinned (.plain (OpenSpec.upto ruleMoreSpec)) ruleMoreUptoCard

/-- THE SECOND FORM's CARD OF 'vestibulelaw08.RuleStars'. -/
def ruleStarsUptoCard : Claim7 := { stood := { row := ruleStarsUptoRow, standIns := [], harness := (true, "181574cde0b3fddd6b57c0f9f8ca5fc48c694bd889df6e6190a770ead86088a5"), looks := false }, kinds := [], alts := [], laidByText := true, laidKinds := [.data, .pinned], laidTests := true, laidLooks := .later }
def RuleStarsUptoCardSaid : Prop := Claim7.holds Tryd.pinned (.plain (OpenSpec.upto ruleStarsSpec)) ruleStarsUptoCard

/-- THE SECOND FORM's CARD OF 'vestibulelaw08.RuleParts'. -/
def rulePartsUptoCard : Claim7 := { stood := { row := rulePartsUptoRow, standIns := [], harness := (true, "181574cde0b3fddd6b57c0f9f8ca5fc48c694bd889df6e6190a770ead86088a5"), looks := false }, kinds := [], alts := [], laidByText := true, laidKinds := [.data, .pinned], laidTests := true, laidLooks := .later }
def RulePartsUptoCardSaid : Prop := Claim7.holds Tryd.pinned (.plain (OpenSpec.upto rulePartsSpec)) rulePartsUptoCard

/-- THE SECOND FORM's CARD OF 'vestibulelaw08.RulePaths'. -/
def rulePathsUptoCard : Claim7 := { stood := { row := rulePathsUptoRow, standIns := [], harness := (true, "181574cde0b3fddd6b57c0f9f8ca5fc48c694bd889df6e6190a770ead86088a5"), looks := false }, kinds := [], alts := [], laidByText := true, laidKinds := [.data, .pinned], laidTests := true, laidLooks := .later }
def RulePathsUptoCardSaid : Prop := Claim7.holds Tryd.pinned (.plain (OpenSpec.upto rulePathsSpec)) rulePathsUptoCard

/-- THE SECOND FORM's CARD OF 'vestibulelaw08.RuleNames'. -/
def ruleNamesUptoCard : Claim7 := { stood := { row := ruleNamesUptoRow, standIns := [], harness := (true, "181574cde0b3fddd6b57c0f9f8ca5fc48c694bd889df6e6190a770ead86088a5"), looks := false }, kinds := [], alts := [], laidByText := true, laidKinds := [.data, .pinned], laidTests := true, laidLooks := .later }
def RuleNamesUptoCardSaid : Prop := Claim7.holds Tryd.pinned (.plain (OpenSpec.upto ruleNamesSpec)) ruleNamesUptoCard
end Rows
end Go.Proofs.YthflpgeonllgdaaDoor
