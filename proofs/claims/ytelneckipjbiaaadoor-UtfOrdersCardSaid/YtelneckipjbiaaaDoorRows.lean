/-
  NARROWER THAN 'FOR EVERY INPUT', by the rows' own cells (each row's printed sentence says how): UtfNext: laid · UtfTexts: laid · UtfBack: laid · UtfSteps: laid · UtfCuts: laid · UtfOrders: laid · UtfWide: laid.
  DERIVED. THE GIVEN ROWS OF THIS SEAT. 7 by the template 'for every input the law returns true; each argument reads behind the call as it read before'; 0 by the template 'total and deterministic' (their statements: YtelneckipjbiaaaDoorTotals.lean).
  GIVEN WITH THE SEED: the statements are not yours to turn. If you find one false, say at which input.
  Laid BY PROGRAM, IN A SANDBOX (cutbox-rows.mjs): the forced cells as the released guide's own fill.sh prints them over the translation 97691ceec25044ad… (all of the seat's roots in one cut). By AI agents, Wed Nov 11 2026. No macro, syntax, notation, axiom, sorry.
-/
import Derived.Test.YtelneckipjbiaaaDoorChecked
import GoSem.Claim
import GoSem.ClaimJoined
import GoSem.ClaimMapViews
import Derived.JoinedTies
import Derived.KernelRfl
namespace Go.Proofs.YtelneckipjbiaaaDoor
/- THE CELL 'sum', in the pinned program and in every row, IS THE sha256 OF THE DUMP (.gsa) THAT YtelneckipjbiaaaDoorProg.lean LOADS. Nothing in Lean hashes anything: it is a label: what it is worth is what the hold of that sum in a sandbox is worth. -/
noncomputable def Tryd.pinned : Pinned := { name := "ytelneckipjbiaaadoor", sum := "97691ceec25044adcadcc2b1238d5aa7f161a6f933e9dd5668d2b335984734d9", checked := Tryd.checked }
namespace Rows
def none {H : Type} : Left H := { results := [], args := [] }

/- WHAT THE LISTED PACKAGE-LEVEL VARIABLES READ AS WHEN THE CALL BEGINS. Each datum BY PROGRAM (the guide's laid-datum.mjs) off the statement by which the dump's own 'gosem.cut.vars' lays the variable. In a bare row this is a premise. The card (YtelneckipjbiaaaDoorCards.lean) ties it to the program's text. -/
def laid_vestibule_utf_leads {H : Type} : DataW H := .agg [.agg [.lit (.int .u8 128), .lit (.int .u8 0), .lit (.int .i64 127)], .agg [.lit (.int .u8 224), .lit (.int .u8 192), .lit (.int .i64 2047)], .agg [.lit (.int .u8 240), .lit (.int .u8 224), .lit (.int .i64 65535)], .agg [.lit (.int .u8 248), .lit (.int .u8 240), .lit (.int .i64 1114111)]]

/-- 'vestibulelaw01.UtfNext': WHATEVER THE INPUT: true; the input reads as it did. -/
def utfNextSpec : ChangeSpec := { name := "utfNext", fn := fun _ => fun
  | [d1, d2, d3] => { results := [.lit (.bool true)], args := [d1, d2, d3] }
  | _ => none }
def utfNextRow : OpenClaim := { program := "ytelneckipjbiaaadoor", sum := "97691ceec25044adcadcc2b1238d5aa7f161a6f933e9dd5668d2b335984734d9", func := "vestibule/vestibulelaw01.UtfNext", spec := "utfNext", unfollowed := true, recurses := true, named := ["vestibule/utf.leads"], apart := false, laid := [("vestibule/utf.leads", laid_vestibule_utf_leads)] }
def UtfNextSaid : Prop := utfNextRow.holds Tryd.pinned (OpenSpec.ofChange utfNextSpec)

/-- ITS FALSE NEIGHBOUR: 'it returns false'. Refute it at one input. -/
def utfNextWrong : ChangeSpec := { name := "utfNext", fn := fun _ => fun
  | [d1, d2, d3] => { results := [.lit (.bool false)], args := [d1, d2, d3] }
  | _ => none }
def UtfNextWrongFalsely : Prop := utfNextRow.holds Tryd.pinned (OpenSpec.ofChange utfNextWrong)

/-- 'vestibulelaw01.UtfTexts': WHATEVER THE INPUT: true; the input reads as it did. -/
def utfTextsSpec : ChangeSpec := { name := "utfTexts", fn := fun _ => fun
  | [d1, d2] => { results := [.lit (.bool true)], args := [d1, d2] }
  | _ => none }
def utfTextsRow : OpenClaim := { program := "ytelneckipjbiaaadoor", sum := "97691ceec25044adcadcc2b1238d5aa7f161a6f933e9dd5668d2b335984734d9", func := "vestibule/vestibulelaw01.UtfTexts", spec := "utfTexts", unfollowed := true, recurses := true, named := ["vestibule/utf.leads"], apart := false, laid := [("vestibule/utf.leads", laid_vestibule_utf_leads)] }
def UtfTextsSaid : Prop := utfTextsRow.holds Tryd.pinned (OpenSpec.ofChange utfTextsSpec)

/-- ITS FALSE NEIGHBOUR: 'it returns false'. Refute it at one input. -/
def utfTextsWrong : ChangeSpec := { name := "utfTexts", fn := fun _ => fun
  | [d1, d2] => { results := [.lit (.bool false)], args := [d1, d2] }
  | _ => none }
def UtfTextsWrongFalsely : Prop := utfTextsRow.holds Tryd.pinned (OpenSpec.ofChange utfTextsWrong)

/-- 'vestibulelaw01.UtfBack': WHATEVER THE INPUT: true; the input reads as it did. -/
def utfBackSpec : ChangeSpec := { name := "utfBack", fn := fun _ => fun
  | [d] => { results := [.lit (.bool true)], args := [d] }
  | _ => none }
def utfBackRow : OpenClaim := { program := "ytelneckipjbiaaadoor", sum := "97691ceec25044adcadcc2b1238d5aa7f161a6f933e9dd5668d2b335984734d9", func := "vestibule/vestibulelaw01.UtfBack", spec := "utfBack", unfollowed := true, recurses := true, named := ["vestibule/utf.leads"], apart := false, laid := [("vestibule/utf.leads", laid_vestibule_utf_leads)] }
def UtfBackSaid : Prop := utfBackRow.holds Tryd.pinned (OpenSpec.ofChange utfBackSpec)

/-- ITS FALSE NEIGHBOUR: 'it returns false'. Refute it at one input. -/
def utfBackWrong : ChangeSpec := { name := "utfBack", fn := fun _ => fun
  | [d] => { results := [.lit (.bool false)], args := [d] }
  | _ => none }
def UtfBackWrongFalsely : Prop := utfBackRow.holds Tryd.pinned (OpenSpec.ofChange utfBackWrong)

/-- 'vestibulelaw01.UtfSteps': WHATEVER THE INPUT: true; the input reads as it did. -/
def utfStepsSpec : ChangeSpec := { name := "utfSteps", fn := fun _ => fun
  | [d] => { results := [.lit (.bool true)], args := [d] }
  | _ => none }
def utfStepsRow : OpenClaim := { program := "ytelneckipjbiaaadoor", sum := "97691ceec25044adcadcc2b1238d5aa7f161a6f933e9dd5668d2b335984734d9", func := "vestibule/vestibulelaw01.UtfSteps", spec := "utfSteps", unfollowed := true, recurses := true, named := ["vestibule/utf.leads"], apart := false, laid := [("vestibule/utf.leads", laid_vestibule_utf_leads)] }
def UtfStepsSaid : Prop := utfStepsRow.holds Tryd.pinned (OpenSpec.ofChange utfStepsSpec)

/-- ITS FALSE NEIGHBOUR: 'it returns false'. Refute it at one input. -/
def utfStepsWrong : ChangeSpec := { name := "utfSteps", fn := fun _ => fun
  | [d] => { results := [.lit (.bool false)], args := [d] }
  | _ => none }
def UtfStepsWrongFalsely : Prop := utfStepsRow.holds Tryd.pinned (OpenSpec.ofChange utfStepsWrong)

/-- 'vestibulelaw01.UtfCuts': WHATEVER THE INPUT: true; the input reads as it did. -/
def utfCutsSpec : ChangeSpec := { name := "utfCuts", fn := fun _ => fun
  | [d1, d2, d3] => { results := [.lit (.bool true)], args := [d1, d2, d3] }
  | _ => none }
def utfCutsRow : OpenClaim := { program := "ytelneckipjbiaaadoor", sum := "97691ceec25044adcadcc2b1238d5aa7f161a6f933e9dd5668d2b335984734d9", func := "vestibule/vestibulelaw01.UtfCuts", spec := "utfCuts", unfollowed := true, recurses := true, named := ["vestibule/utf.leads"], apart := false, laid := [("vestibule/utf.leads", laid_vestibule_utf_leads)] }
def UtfCutsSaid : Prop := utfCutsRow.holds Tryd.pinned (OpenSpec.ofChange utfCutsSpec)

/-- ITS FALSE NEIGHBOUR: 'it returns false'. Refute it at one input. -/
def utfCutsWrong : ChangeSpec := { name := "utfCuts", fn := fun _ => fun
  | [d1, d2, d3] => { results := [.lit (.bool false)], args := [d1, d2, d3] }
  | _ => none }
def UtfCutsWrongFalsely : Prop := utfCutsRow.holds Tryd.pinned (OpenSpec.ofChange utfCutsWrong)

/-- 'vestibulelaw01.UtfOrders': WHATEVER THE INPUT: true; the input reads as it did. -/
def utfOrdersSpec : ChangeSpec := { name := "utfOrders", fn := fun _ => fun
  | [d1, d2] => { results := [.lit (.bool true)], args := [d1, d2] }
  | _ => none }
def utfOrdersRow : OpenClaim := { program := "ytelneckipjbiaaadoor", sum := "97691ceec25044adcadcc2b1238d5aa7f161a6f933e9dd5668d2b335984734d9", func := "vestibule/vestibulelaw01.UtfOrders", spec := "utfOrders", unfollowed := true, recurses := true, named := ["vestibule/utf.leads"], apart := false, laid := [("vestibule/utf.leads", laid_vestibule_utf_leads)] }
def UtfOrdersSaid : Prop := utfOrdersRow.holds Tryd.pinned (OpenSpec.ofChange utfOrdersSpec)

/-- ITS FALSE NEIGHBOUR: 'it returns false'. Refute it at one input. -/
def utfOrdersWrong : ChangeSpec := { name := "utfOrders", fn := fun _ => fun
  | [d1, d2] => { results := [.lit (.bool false)], args := [d1, d2] }
  | _ => none }
def UtfOrdersWrongFalsely : Prop := utfOrdersRow.holds Tryd.pinned (OpenSpec.ofChange utfOrdersWrong)

/-- 'vestibulelaw01.UtfWide': WHATEVER THE INPUT: true; the input reads as it did. -/
def utfWideSpec : ChangeSpec := { name := "utfWide", fn := fun _ => fun
  | [d1, d2] => { results := [.lit (.bool true)], args := [d1, d2] }
  | _ => none }
def utfWideRow : OpenClaim := { program := "ytelneckipjbiaaadoor", sum := "97691ceec25044adcadcc2b1238d5aa7f161a6f933e9dd5668d2b335984734d9", func := "vestibule/vestibulelaw01.UtfWide", spec := "utfWide", unfollowed := true, recurses := true, named := ["vestibule/utf.leads"], apart := false, laid := [("vestibule/utf.leads", laid_vestibule_utf_leads)] }
def UtfWideSaid : Prop := utfWideRow.holds Tryd.pinned (OpenSpec.ofChange utfWideSpec)

/-- ITS FALSE NEIGHBOUR: 'it returns false'. Refute it at one input. -/
def utfWideWrong : ChangeSpec := { name := "utfWide", fn := fun _ => fun
  | [d1, d2] => { results := [.lit (.bool false)], args := [d1, d2] }
  | _ => none }
def UtfWideWrongFalsely : Prop := utfWideRow.holds Tryd.pinned (OpenSpec.ofChange utfWideWrong)

/- THE SECOND FORM. 'bulk': how many values and letters a reading holds, each counted each time it is reached (what is shared counts as often as it is met; a slice's spare places count too). A statement '..UptoSaid' is the law's where the arguments, and the package variables that the reading takes, are together of bulk at most 1048576: NARROWER than '..Said'. Prove '..Said' where nothing that the law and all that it calls make is longer than what came in: it says more and counts as full. Else prove '..UptoSaid'. A law counts once. -/
mutual
def uptoBulk {H : Type} : DataW H → Nat
  | .lit (.string bytes) => bytes.length + 1
  | .lit _ => 1
  | .nil => 1
  | .ptr d => uptoBulk d + 1
  | .slice elems spare => uptoBulkAll elems + uptoBulkAll spare + 1
  | .agg parts => uptoBulkAll parts + 1
  | .iface _ d => uptoBulk d + 1
  | .map entries => uptoBulkEntries entries + 1
  | .held _ => 1
def uptoBulkAll {H : Type} : List (DataW H) → Nat
  | [] => 0
  | d :: r => uptoBulk d + uptoBulkAll r
def uptoBulkEntries {H : Type} : List (Lit × DataW H) → Nat
  | [] => 0
  | x :: r => uptoBulkEntry x + uptoBulkEntries r
def uptoBulkEntry {H : Type} : Lit × DataW H → Nat
  | (.string bytes, d) => bytes.length + uptoBulk d + 1
  | (_, d) => uptoBulk d + 1
 end
def uptoSmall : (H : Type) → List (DataW H) → Bool := fun _ ds => decide (uptoBulkAll ds ≤ 1048576)
def OpenSpec.upto (s : _root_.Go.ChangeSpec) : _root_.Go.OpenSpec := { _root_.Go.OpenSpec.ofChange s with cond := some uptoSmall }

/-- 'vestibulelaw01.UtfNext', WHERE WHAT IT READS IS OF BULK AT MOST 1048576: true; the input reads as it did. -/
def utfNextUptoRow : OpenClaim := { program := "ytelneckipjbiaaadoor", sum := "97691ceec25044adcadcc2b1238d5aa7f161a6f933e9dd5668d2b335984734d9", func := "vestibule/vestibulelaw01.UtfNext", spec := "utfNext", unfollowed := true, recurses := true, named := ["vestibule/utf.leads"], apart := false, laid := [("vestibule/utf.leads", laid_vestibule_utf_leads)], narrowed := true }
def UtfNextUptoSaid : Prop := utfNextUptoRow.holds Tryd.pinned (OpenSpec.upto utfNextSpec)

/-- 'vestibulelaw01.UtfTexts', WHERE WHAT IT READS IS OF BULK AT MOST 1048576: true; the input reads as it did. -/
def utfTextsUptoRow : OpenClaim := { program := "ytelneckipjbiaaadoor", sum := "97691ceec25044adcadcc2b1238d5aa7f161a6f933e9dd5668d2b335984734d9", func := "vestibule/vestibulelaw01.UtfTexts", spec := "utfTexts", unfollowed := true, recurses := true, named := ["vestibule/utf.leads"], apart := false, laid := [("vestibule/utf.leads", laid_vestibule_utf_leads)], narrowed := true }
def UtfTextsUptoSaid : Prop := utfTextsUptoRow.holds Tryd.pinned (OpenSpec.upto utfTextsSpec)

/-- 'vestibulelaw01.UtfBack', WHERE WHAT IT READS IS OF BULK AT MOST 1048576: true; the input reads as it did. -/
def utfBackUptoRow : OpenClaim := { program := "ytelneckipjbiaaadoor", sum := "97691ceec25044adcadcc2b1238d5aa7f161a6f933e9dd5668d2b335984734d9", func := "vestibule/vestibulelaw01.UtfBack", spec := "utfBack", unfollowed := true, recurses := true, named := ["vestibule/utf.leads"], apart := false, laid := [("vestibule/utf.leads", laid_vestibule_utf_leads)], narrowed := true }
def UtfBackUptoSaid : Prop := utfBackUptoRow.holds Tryd.pinned (OpenSpec.upto utfBackSpec)

/-- 'vestibulelaw01.UtfSteps', WHERE WHAT IT READS IS OF BULK AT MOST 1048576: true; the input reads as it did. -/
def utfStepsUptoRow : OpenClaim := { program := "ytelneckipjbiaaadoor", sum := "97691ceec25044adcadcc2b1238d5aa7f161a6f933e9dd5668d2b335984734d9", func := "vestibule/vestibulelaw01.UtfSteps", spec := "utfSteps", unfollowed := true, recurses := true, named := ["vestibule/utf.leads"], apart := false, laid := [("vestibule/utf.leads", laid_vestibule_utf_leads)], narrowed := true }
def UtfStepsUptoSaid : Prop := utfStepsUptoRow.holds Tryd.pinned (OpenSpec.upto utfStepsSpec)

/-- 'vestibulelaw01.UtfCuts', WHERE WHAT IT READS IS OF BULK AT MOST 1048576: true; the input reads as it did. -/
def utfCutsUptoRow : OpenClaim := { program := "ytelneckipjbiaaadoor", sum := "97691ceec25044adcadcc2b1238d5aa7f161a6f933e9dd5668d2b335984734d9", func := "vestibule/vestibulelaw01.UtfCuts", spec := "utfCuts", unfollowed := true, recurses := true, named := ["vestibule/utf.leads"], apart := false, laid := [("vestibule/utf.leads", laid_vestibule_utf_leads)], narrowed := true }
def UtfCutsUptoSaid : Prop := utfCutsUptoRow.holds Tryd.pinned (OpenSpec.upto utfCutsSpec)

/-- 'vestibulelaw01.UtfOrders', WHERE WHAT IT READS IS OF BULK AT MOST 1048576: true; the input reads as it did. -/
def utfOrdersUptoRow : OpenClaim := { program := "ytelneckipjbiaaadoor", sum := "97691ceec25044adcadcc2b1238d5aa7f161a6f933e9dd5668d2b335984734d9", func := "vestibule/vestibulelaw01.UtfOrders", spec := "utfOrders", unfollowed := true, recurses := true, named := ["vestibule/utf.leads"], apart := false, laid := [("vestibule/utf.leads", laid_vestibule_utf_leads)], narrowed := true }
def UtfOrdersUptoSaid : Prop := utfOrdersUptoRow.holds Tryd.pinned (OpenSpec.upto utfOrdersSpec)

/-- 'vestibulelaw01.UtfWide', WHERE WHAT IT READS IS OF BULK AT MOST 1048576: true; the input reads as it did. -/
def utfWideUptoRow : OpenClaim := { program := "ytelneckipjbiaaadoor", sum := "97691ceec25044adcadcc2b1238d5aa7f161a6f933e9dd5668d2b335984734d9", func := "vestibule/vestibulelaw01.UtfWide", spec := "utfWide", unfollowed := true, recurses := true, named := ["vestibule/utf.leads"], apart := false, laid := [("vestibule/utf.leads", laid_vestibule_utf_leads)], narrowed := true }
def UtfWideUptoSaid : Prop := utfWideUptoRow.holds Tryd.pinned (OpenSpec.upto utfWideSpec)

end Rows
end Go.Proofs.YtelneckipjbiaaaDoor
