/-
  No cell of these rows narrows 'for every input' (looked for: loops, veiled, ifaces, maps, wideKeys, modest, calm, conditions, laid).
  DERIVED. THE GIVEN ROWS OF THIS SEAT. 7 by the template 'for every input the law returns true; each argument reads behind the call as it read before'; 0 by the template 'total and deterministic' (their statements: YthnafenkpcnlbaaTotals.lean).
  GIVEN WITH THE SEED: the statements are not yours to turn. If you find one false, say at which input.
  Laid BY PROGRAM, IN A SANDBOX (cutbox-rows.mjs): the forced cells as the released guide's own fill.sh prints them over the translation df4a8db20c113720… (all of the seat's roots in one cut). By AI agents, Wed Nov 11 2026. No macro, syntax, notation, axiom, sorry.
-/
import Derived.Test.YthnafenkpcnlbaaChecked
import GoSem.Claim
import GoSem.ClaimJoined
import GoSem.ClaimMapViews
import Derived.JoinedTies
import Derived.KernelRfl
namespace Go.Proofs.Ythnafenkpcnlbaa
/- THE CELL 'sum', in the pinned program and in every row, IS THE sha256 OF THE DUMP (.gsa) THAT YthnafenkpcnlbaaProg.lean LOADS. Nothing in Lean hashes anything: it is a label: what it is worth is what the hold of that sum in a sandbox is worth. -/
noncomputable def Try.pinned : Pinned := { name := "ythnafenkpcnlbaa", sum := "df4a8db20c113720c64ef4df7ebf961bdbba7fe5380af4bd29afc94c60c4bf6b", checked := Try.checked }
namespace Rows
def none {H : Type} : Left H := { results := [], args := [] }

/-- 'vestibulelaw02.DigitsTexts': WHATEVER THE INPUT: true; the input reads as it did. -/
def digitsTextsSpec : ChangeSpec := { name := "digitsTexts", fn := fun _ => fun
  | [d1, d2] => { results := [.lit (.bool true)], args := [d1, d2] }
  | _ => none }
def digitsTextsRow : OpenClaim := { program := "ythnafenkpcnlbaa", sum := "df4a8db20c113720c64ef4df7ebf961bdbba7fe5380af4bd29afc94c60c4bf6b", func := "vestibule/vestibulelaw02.DigitsTexts", spec := "digitsTexts", unfollowed := true, recurses := true, apart := false }
def DigitsTextsSaid : Prop := digitsTextsRow.holds Try.pinned (OpenSpec.ofChange digitsTextsSpec)

/-- ITS FALSE NEIGHBOUR: 'it returns false'. Refute it at one input. -/
def digitsTextsWrong : ChangeSpec := { name := "digitsTexts", fn := fun _ => fun
  | [d1, d2] => { results := [.lit (.bool false)], args := [d1, d2] }
  | _ => none }
def DigitsTextsWrongFalsely : Prop := digitsTextsRow.holds Try.pinned (OpenSpec.ofChange digitsTextsWrong)

/-- 'vestibulelaw02.DigitsSums': WHATEVER THE INPUT: true; the input reads as it did. -/
def digitsSumsSpec : ChangeSpec := { name := "digitsSums", fn := fun _ => fun
  | [d1, d2] => { results := [.lit (.bool true)], args := [d1, d2] }
  | _ => none }
def digitsSumsRow : OpenClaim := { program := "ythnafenkpcnlbaa", sum := "df4a8db20c113720c64ef4df7ebf961bdbba7fe5380af4bd29afc94c60c4bf6b", func := "vestibule/vestibulelaw02.DigitsSums", spec := "digitsSums", apart := false }
def DigitsSumsSaid : Prop := digitsSumsRow.holds Try.pinned (OpenSpec.ofChange digitsSumsSpec)

/-- ITS FALSE NEIGHBOUR: 'it returns false'. Refute it at one input. -/
def digitsSumsWrong : ChangeSpec := { name := "digitsSums", fn := fun _ => fun
  | [d1, d2] => { results := [.lit (.bool false)], args := [d1, d2] }
  | _ => none }
def DigitsSumsWrongFalsely : Prop := digitsSumsRow.holds Try.pinned (OpenSpec.ofChange digitsSumsWrong)

/-- 'vestibulelaw02.DigitsParts': WHATEVER THE INPUT: true; the input reads as it did. -/
def digitsPartsSpec : ChangeSpec := { name := "digitsParts", fn := fun _ => fun
  | [d1, d2] => { results := [.lit (.bool true)], args := [d1, d2] }
  | _ => none }
def digitsPartsRow : OpenClaim := { program := "ythnafenkpcnlbaa", sum := "df4a8db20c113720c64ef4df7ebf961bdbba7fe5380af4bd29afc94c60c4bf6b", func := "vestibule/vestibulelaw02.DigitsParts", spec := "digitsParts", apart := false }
def DigitsPartsSaid : Prop := digitsPartsRow.holds Try.pinned (OpenSpec.ofChange digitsPartsSpec)

/-- ITS FALSE NEIGHBOUR: 'it returns false'. Refute it at one input. -/
def digitsPartsWrong : ChangeSpec := { name := "digitsParts", fn := fun _ => fun
  | [d1, d2] => { results := [.lit (.bool false)], args := [d1, d2] }
  | _ => none }
def DigitsPartsWrongFalsely : Prop := digitsPartsRow.holds Try.pinned (OpenSpec.ofChange digitsPartsWrong)

/-- 'vestibulelaw02.DigitsBack': WHATEVER THE INPUT: true; the input reads as it did. -/
def digitsBackSpec : ChangeSpec := { name := "digitsBack", fn := fun _ => fun
  | [d1, d2] => { results := [.lit (.bool true)], args := [d1, d2] }
  | _ => none }
def digitsBackRow : OpenClaim := { program := "ythnafenkpcnlbaa", sum := "df4a8db20c113720c64ef4df7ebf961bdbba7fe5380af4bd29afc94c60c4bf6b", func := "vestibule/vestibulelaw02.DigitsBack", spec := "digitsBack", unfollowed := true, recurses := true, apart := false }
def DigitsBackSaid : Prop := digitsBackRow.holds Try.pinned (OpenSpec.ofChange digitsBackSpec)

/-- ITS FALSE NEIGHBOUR: 'it returns false'. Refute it at one input. -/
def digitsBackWrong : ChangeSpec := { name := "digitsBack", fn := fun _ => fun
  | [d1, d2] => { results := [.lit (.bool false)], args := [d1, d2] }
  | _ => none }
def DigitsBackWrongFalsely : Prop := digitsBackRow.holds Try.pinned (OpenSpec.ofChange digitsBackWrong)

/-- 'vestibulelaw02.DigitsTurns': WHATEVER THE INPUT: true; the input reads as it did. -/
def digitsTurnsSpec : ChangeSpec := { name := "digitsTurns", fn := fun _ => fun
  | [d1, d2] => { results := [.lit (.bool true)], args := [d1, d2] }
  | _ => none }
def digitsTurnsRow : OpenClaim := { program := "ythnafenkpcnlbaa", sum := "df4a8db20c113720c64ef4df7ebf961bdbba7fe5380af4bd29afc94c60c4bf6b", func := "vestibule/vestibulelaw02.DigitsTurns", spec := "digitsTurns", apart := false }
def DigitsTurnsSaid : Prop := digitsTurnsRow.holds Try.pinned (OpenSpec.ofChange digitsTurnsSpec)

/-- ITS FALSE NEIGHBOUR: 'it returns false'. Refute it at one input. -/
def digitsTurnsWrong : ChangeSpec := { name := "digitsTurns", fn := fun _ => fun
  | [d1, d2] => { results := [.lit (.bool false)], args := [d1, d2] }
  | _ => none }
def DigitsTurnsWrongFalsely : Prop := digitsTurnsRow.holds Try.pinned (OpenSpec.ofChange digitsTurnsWrong)

/-- 'vestibulelaw02.DigitsSmall': WHATEVER THE INPUT: true; the input reads as it did. -/
def digitsSmallSpec : ChangeSpec := { name := "digitsSmall", fn := fun _ => fun
  | [d1, d2] => { results := [.lit (.bool true)], args := [d1, d2] }
  | _ => none }
def digitsSmallRow : OpenClaim := { program := "ythnafenkpcnlbaa", sum := "df4a8db20c113720c64ef4df7ebf961bdbba7fe5380af4bd29afc94c60c4bf6b", func := "vestibule/vestibulelaw02.DigitsSmall", spec := "digitsSmall", apart := false }
def DigitsSmallSaid : Prop := digitsSmallRow.holds Try.pinned (OpenSpec.ofChange digitsSmallSpec)

/-- ITS FALSE NEIGHBOUR: 'it returns false'. Refute it at one input. -/
def digitsSmallWrong : ChangeSpec := { name := "digitsSmall", fn := fun _ => fun
  | [d1, d2] => { results := [.lit (.bool false)], args := [d1, d2] }
  | _ => none }
def DigitsSmallWrongFalsely : Prop := digitsSmallRow.holds Try.pinned (OpenSpec.ofChange digitsSmallWrong)

/-- 'vestibulelaw02.DigitsLong': WHATEVER THE INPUT: true; the input reads as it did. -/
def digitsLongSpec : ChangeSpec := { name := "digitsLong", fn := fun _ => fun
  | [d1, d2, d3] => { results := [.lit (.bool true)], args := [d1, d2, d3] }
  | _ => none }
def digitsLongRow : OpenClaim := { program := "ythnafenkpcnlbaa", sum := "df4a8db20c113720c64ef4df7ebf961bdbba7fe5380af4bd29afc94c60c4bf6b", func := "vestibule/vestibulelaw02.DigitsLong", spec := "digitsLong", unfollowed := true, recurses := true, apart := false }
def DigitsLongSaid : Prop := digitsLongRow.holds Try.pinned (OpenSpec.ofChange digitsLongSpec)

/-- ITS FALSE NEIGHBOUR: 'it returns false'. Refute it at one input. -/
def digitsLongWrong : ChangeSpec := { name := "digitsLong", fn := fun _ => fun
  | [d1, d2, d3] => { results := [.lit (.bool false)], args := [d1, d2, d3] }
  | _ => none }
def DigitsLongWrongFalsely : Prop := digitsLongRow.holds Try.pinned (OpenSpec.ofChange digitsLongWrong)

/- THE SECOND FORM. 'bulk': how many values and letters a reading holds, each counted each time it is reached (what is shared counts as often as it is met; a slice's spare places count too). A statement '..UptoSaid' is the law's where the arguments, and the package variables that the reading takes, are together of bulk at most 1048576: NARROWER than '..Said'. Prove '..Said' where nothing that the law and all that it calls make is longer than what came in: it says more and counts as full. Else prove '..UptoSaid'. A law counts once. -/
mutual
def uptoBulk {H : Type} : DataW H → Nat
  | .lit (.string bytes) => bytes.length + 1
  | .lit _ => 1
  | .nil => 1
  | .ptr d => uptoBulk d + 1
  | .slice elems spare => uptoBulkAll elems + uptoBulkAll spare + 1
  | .agg parts => uptoBulkAll parts + 1
  | .iface _ d => uptoBulk d + 1
  | .map entries => uptoBulkEntries entries + 1
  | .held _ => 1
def uptoBulkAll {H : Type} : List (DataW H) → Nat
  | [] => 0
  | d :: r => uptoBulk d + uptoBulkAll r
def uptoBulkEntries {H : Type} : List (Lit × DataW H) → Nat
  | [] => 0
  | x :: r => uptoBulkEntry x + uptoBulkEntries r
def uptoBulkEntry {H : Type} : Lit × DataW H → Nat
  | (.string bytes, d) => bytes.length + uptoBulk d + 1
  | (_, d) => uptoBulk d + 1
 end
def uptoSmall : (H : Type) → List (DataW H) → Bool := fun _ ds => decide (uptoBulkAll ds ≤ 1048576)
def OpenSpec.upto (s : _root_.Go.ChangeSpec) : _root_.Go.OpenSpec := { _root_.Go.OpenSpec.ofChange s with cond := some uptoSmall }

/-- 'vestibulelaw02.DigitsTexts', WHERE WHAT IT READS IS OF BULK AT MOST 1048576: true; the input reads as it did. -/
def digitsTextsUptoRow : OpenClaim := { program := "ythnafenkpcnlbaa", sum := "df4a8db20c113720c64ef4df7ebf961bdbba7fe5380af4bd29afc94c60c4bf6b", func := "vestibule/vestibulelaw02.DigitsTexts", spec := "digitsTexts", unfollowed := true, recurses := true, apart := false, narrowed := true }
def DigitsTextsUptoSaid : Prop := digitsTextsUptoRow.holds Try.pinned (OpenSpec.upto digitsTextsSpec)

/-- 'vestibulelaw02.DigitsSums', WHERE WHAT IT READS IS OF BULK AT MOST 1048576: true; the input reads as it did. -/
def digitsSumsUptoRow : OpenClaim := { program := "ythnafenkpcnlbaa", sum := "df4a8db20c113720c64ef4df7ebf961bdbba7fe5380af4bd29afc94c60c4bf6b", func := "vestibule/vestibulelaw02.DigitsSums", spec := "digitsSums", apart := false, narrowed := true }
def DigitsSumsUptoSaid : Prop := digitsSumsUptoRow.holds Try.pinned (OpenSpec.upto digitsSumsSpec)

/-- 'vestibulelaw02.DigitsParts', WHERE WHAT IT READS IS OF BULK AT MOST 1048576: true; the input reads as it did. -/
def digitsPartsUptoRow : OpenClaim := { program := "ythnafenkpcnlbaa", sum := "df4a8db20c113720c64ef4df7ebf961bdbba7fe5380af4bd29afc94c60c4bf6b", func := "vestibule/vestibulelaw02.DigitsParts", spec := "digitsParts", apart := false, narrowed := true }
def DigitsPartsUptoSaid : Prop := digitsPartsUptoRow.holds Try.pinned (OpenSpec.upto digitsPartsSpec)

/-- 'vestibulelaw02.DigitsBack', WHERE WHAT IT READS IS OF BULK AT MOST 1048576: true; the input reads as it did. -/
def digitsBackUptoRow : OpenClaim := { program := "ythnafenkpcnlbaa", sum := "df4a8db20c113720c64ef4df7ebf961bdbba7fe5380af4bd29afc94c60c4bf6b", func := "vestibule/vestibulelaw02.DigitsBack", spec := "digitsBack", unfollowed := true, recurses := true, apart := false, narrowed := true }
def DigitsBackUptoSaid : Prop := digitsBackUptoRow.holds Try.pinned (OpenSpec.upto digitsBackSpec)

/-- 'vestibulelaw02.DigitsTurns', WHERE WHAT IT READS IS OF BULK AT MOST 1048576: true; the input reads as it did. -/
def digitsTurnsUptoRow : OpenClaim := { program := "ythnafenkpcnlbaa", sum := "df4a8db20c113720c64ef4df7ebf961bdbba7fe5380af4bd29afc94c60c4bf6b", func := "vestibule/vestibulelaw02.DigitsTurns", spec := "digitsTurns", apart := false, narrowed := true }
def DigitsTurnsUptoSaid : Prop := digitsTurnsUptoRow.holds Try.pinned (OpenSpec.upto digitsTurnsSpec)

/-- 'vestibulelaw02.DigitsSmall', WHERE WHAT IT READS IS OF BULK AT MOST 1048576: true; the input reads as it did. -/
def digitsSmallUptoRow : OpenClaim := { program := "ythnafenkpcnlbaa", sum := "df4a8db20c113720c64ef4df7ebf961bdbba7fe5380af4bd29afc94c60c4bf6b", func := "vestibule/vestibulelaw02.DigitsSmall", spec := "digitsSmall", apart := false, narrowed := true }
def DigitsSmallUptoSaid : Prop := digitsSmallUptoRow.holds Try.pinned (OpenSpec.upto digitsSmallSpec)

/-- 'vestibulelaw02.DigitsLong', WHERE WHAT IT READS IS OF BULK AT MOST 1048576: true; the input reads as it did. -/
def digitsLongUptoRow : OpenClaim := { program := "ythnafenkpcnlbaa", sum := "df4a8db20c113720c64ef4df7ebf961bdbba7fe5380af4bd29afc94c60c4bf6b", func := "vestibule/vestibulelaw02.DigitsLong", spec := "digitsLong", unfollowed := true, recurses := true, apart := false, narrowed := true }
def DigitsLongUptoSaid : Prop := digitsLongUptoRow.holds Try.pinned (OpenSpec.upto digitsLongSpec)

end Rows
end Go.Proofs.Ythnafenkpcnlbaa
