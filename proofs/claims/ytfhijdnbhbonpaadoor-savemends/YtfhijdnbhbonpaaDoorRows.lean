/-
  NARROWER THAN 'FOR EVERY INPUT', by the rows' own cells (each row's printed sentence says how): SaveNumbers: laid · SavePlays: laid · SaveMends: laid · SaveLast: laid.
  DERIVED. THE GIVEN ROWS OF THIS SEAT. 4 by the template 'for every input the law returns true; each argument reads behind the call as it read before'; 0 by the template 'total and deterministic' (their statements: YtfhijdnbhbonpaaDoorTotals.lean).
  GIVEN WITH THE SEED: the statements are not yours to turn. If you find one false, say at which input.
  Laid BY PROGRAM, IN A SANDBOX (cutbox-rows.mjs): the forced cells as the released guide's own fill.sh prints them over the translation f089edb6484f40bd… (all of the seat's roots in one cut). By AI agents, Wed Nov 11 2026. No macro, syntax, notation, axiom, sorry.
-/
import Derived.Test.YtfhijdnbhbonpaaDoorChecked
import GoSem.Claim
import GoSem.ClaimJoined
import GoSem.ClaimMapViews
import Derived.JoinedTies
import Derived.KernelRfl
namespace Go.Proofs.YtfhijdnbhbonpaaDoor
/- THE CELL 'sum', in the pinned program and in every row, IS THE sha256 OF THE DUMP (.gsa) THAT YtfhijdnbhbonpaaDoorProg.lean LOADS. Nothing in Lean hashes anything: it is a label: what it is worth is what the hold of that sum in a sandbox is worth. -/
noncomputable def Tryd.pinned : Pinned := { name := "ytfhijdnbhbonpaadoor", sum := "f089edb6484f40bd97f7042ae9e6600504be5db39a160b1ac882e42258f6b3d5", checked := Tryd.checked }
namespace Rows
def none {H : Type} : Left H := { results := [], args := [] }

/- WHAT THE LISTED PACKAGE-LEVEL VARIABLES READ AS WHEN THE CALL BEGINS. Each datum BY PROGRAM (the guide's laid-datum.mjs) off the statement by which the dump's own 'gosem.cut.vars' lays the variable. In a bare row this is a premise. The card (YtfhijdnbhbonpaaDoorCards.lean) ties it to the program's text. -/
def laid_dioscuri_hsiao_rows {H : Type} : DataW H := .agg [.lit (.int .u64 5447429303), .lit (.int .u64 10893808987), .lit (.int .u64 17488452205), .lit (.int .u64 34955912078), .lit (.int .u64 69727093744), .lit (.int .u64 140661226496), .lit (.int .u64 279171825664)]

/-- 'dioscurilaw17.SaveNumbers': WHATEVER THE INPUT: true; the input reads as it did. -/
def saveNumbersSpec : ChangeSpec := { name := "saveNumbers", fn := fun _ => fun
  | [] => { results := [.lit (.bool true)], args := [] }
  | _ => none }
def saveNumbersRow : OpenClaim := { program := "ytfhijdnbhbonpaadoor", sum := "f089edb6484f40bd97f7042ae9e6600504be5db39a160b1ac882e42258f6b3d5", func := "dioscuri/dioscurilaw17.SaveNumbers", spec := "saveNumbers", named := ["dioscuri/hsiao.rows"], apart := false, laid := [("dioscuri/hsiao.rows", laid_dioscuri_hsiao_rows)] }
def SaveNumbersSaid : Prop := saveNumbersRow.holds Tryd.pinned (OpenSpec.ofChange saveNumbersSpec)

/-- ITS FALSE NEIGHBOUR: 'it returns false'. Refute it at one input. -/
def saveNumbersWrong : ChangeSpec := { name := "saveNumbers", fn := fun _ => fun
  | [] => { results := [.lit (.bool false)], args := [] }
  | _ => none }
def SaveNumbersWrongFalsely : Prop := saveNumbersRow.holds Tryd.pinned (OpenSpec.ofChange saveNumbersWrong)

/-- 'dioscurilaw17.SavePlays': WHATEVER THE INPUT: true; the input reads as it did. -/
def savePlaysSpec : ChangeSpec := { name := "savePlays", fn := fun _ => fun
  | [d] => { results := [.lit (.bool true)], args := [d] }
  | _ => none }
def savePlaysRow : OpenClaim := { program := "ytfhijdnbhbonpaadoor", sum := "f089edb6484f40bd97f7042ae9e6600504be5db39a160b1ac882e42258f6b3d5", func := "dioscuri/dioscurilaw17.SavePlays", spec := "savePlays", named := ["dioscuri/hsiao.rows"], apart := false, laid := [("dioscuri/hsiao.rows", laid_dioscuri_hsiao_rows)] }
def SavePlaysSaid : Prop := savePlaysRow.holds Tryd.pinned (OpenSpec.ofChange savePlaysSpec)

/-- ITS FALSE NEIGHBOUR: 'it returns false'. Refute it at one input. -/
def savePlaysWrong : ChangeSpec := { name := "savePlays", fn := fun _ => fun
  | [d] => { results := [.lit (.bool false)], args := [d] }
  | _ => none }
def SavePlaysWrongFalsely : Prop := savePlaysRow.holds Tryd.pinned (OpenSpec.ofChange savePlaysWrong)

/-- 'dioscurilaw17.SaveMends': WHATEVER THE INPUT: true; the input reads as it did. -/
def saveMendsSpec : ChangeSpec := { name := "saveMends", fn := fun _ => fun
  | [d1, d2, d3, d4] => { results := [.lit (.bool true)], args := [d1, d2, d3, d4] }
  | _ => none }
def saveMendsRow : OpenClaim := { program := "ytfhijdnbhbonpaadoor", sum := "f089edb6484f40bd97f7042ae9e6600504be5db39a160b1ac882e42258f6b3d5", func := "dioscuri/dioscurilaw17.SaveMends", spec := "saveMends", named := ["dioscuri/hsiao.rows"], apart := false, laid := [("dioscuri/hsiao.rows", laid_dioscuri_hsiao_rows)] }
def SaveMendsSaid : Prop := saveMendsRow.holds Tryd.pinned (OpenSpec.ofChange saveMendsSpec)

/-- ITS FALSE NEIGHBOUR: 'it returns false'. Refute it at one input. -/
def saveMendsWrong : ChangeSpec := { name := "saveMends", fn := fun _ => fun
  | [d1, d2, d3, d4] => { results := [.lit (.bool false)], args := [d1, d2, d3, d4] }
  | _ => none }
def SaveMendsWrongFalsely : Prop := saveMendsRow.holds Tryd.pinned (OpenSpec.ofChange saveMendsWrong)

/-- 'dioscurilaw17.SaveLast': WHATEVER THE INPUT: true; the input reads as it did. -/
def saveLastSpec : ChangeSpec := { name := "saveLast", fn := fun _ => fun
  | [d1, d2] => { results := [.lit (.bool true)], args := [d1, d2] }
  | _ => none }
def saveLastRow : OpenClaim := { program := "ytfhijdnbhbonpaadoor", sum := "f089edb6484f40bd97f7042ae9e6600504be5db39a160b1ac882e42258f6b3d5", func := "dioscuri/dioscurilaw17.SaveLast", spec := "saveLast", named := ["dioscuri/hsiao.rows"], apart := false, laid := [("dioscuri/hsiao.rows", laid_dioscuri_hsiao_rows)] }
def SaveLastSaid : Prop := saveLastRow.holds Tryd.pinned (OpenSpec.ofChange saveLastSpec)

/-- ITS FALSE NEIGHBOUR: 'it returns false'. Refute it at one input. -/
def saveLastWrong : ChangeSpec := { name := "saveLast", fn := fun _ => fun
  | [d1, d2] => { results := [.lit (.bool false)], args := [d1, d2] }
  | _ => none }
def SaveLastWrongFalsely : Prop := saveLastRow.holds Tryd.pinned (OpenSpec.ofChange saveLastWrong)

/- THE SECOND FORM. 'bulk': how many values and letters a reading holds, each counted each time it is reached (what is shared counts as often as it is met; a slice's spare places count too). A statement '..UptoSaid' is the law's where the arguments, and the package variables that the reading takes, are together of bulk at most 1048576: NARROWER than '..Said'. Prove '..Said' where nothing that the law and all that it calls make is longer than what came in: it says more and counts as full. Else prove '..UptoSaid'. A law counts once. -/
mutual
def uptoBulk {H : Type} : DataW H → Nat
  | .lit (.string bytes) => bytes.length + 1
  | .lit _ => 1
  | .nil => 1
  | .ptr d => uptoBulk d + 1
  | .slice elems spare => uptoBulkAll elems + uptoBulkAll spare + 1
  | .agg parts => uptoBulkAll parts + 1
  | .iface _ d => uptoBulk d + 1
  | .map entries => uptoBulkEntries entries + 1
  | .held _ => 1
def uptoBulkAll {H : Type} : List (DataW H) → Nat
  | [] => 0
  | d :: r => uptoBulk d + uptoBulkAll r
def uptoBulkEntries {H : Type} : List (Lit × DataW H) → Nat
  | [] => 0
  | x :: r => uptoBulkEntry x + uptoBulkEntries r
def uptoBulkEntry {H : Type} : Lit × DataW H → Nat
  | (.string bytes, d) => bytes.length + uptoBulk d + 1
  | (_, d) => uptoBulk d + 1
 end
def uptoSmall : (H : Type) → List (DataW H) → Bool := fun _ ds => decide (uptoBulkAll ds ≤ 1048576)
def OpenSpec.upto (s : _root_.Go.ChangeSpec) : _root_.Go.OpenSpec := { _root_.Go.OpenSpec.ofChange s with cond := some uptoSmall }

/-- 'dioscurilaw17.SaveNumbers', WHERE WHAT IT READS IS OF BULK AT MOST 1048576: true; the input reads as it did. -/
def saveNumbersUptoRow : OpenClaim := { program := "ytfhijdnbhbonpaadoor", sum := "f089edb6484f40bd97f7042ae9e6600504be5db39a160b1ac882e42258f6b3d5", func := "dioscuri/dioscurilaw17.SaveNumbers", spec := "saveNumbers", named := ["dioscuri/hsiao.rows"], apart := false, laid := [("dioscuri/hsiao.rows", laid_dioscuri_hsiao_rows)], narrowed := true }
def SaveNumbersUptoSaid : Prop := saveNumbersUptoRow.holds Tryd.pinned (OpenSpec.upto saveNumbersSpec)

/-- 'dioscurilaw17.SavePlays', WHERE WHAT IT READS IS OF BULK AT MOST 1048576: true; the input reads as it did. -/
def savePlaysUptoRow : OpenClaim := { program := "ytfhijdnbhbonpaadoor", sum := "f089edb6484f40bd97f7042ae9e6600504be5db39a160b1ac882e42258f6b3d5", func := "dioscuri/dioscurilaw17.SavePlays", spec := "savePlays", named := ["dioscuri/hsiao.rows"], apart := false, laid := [("dioscuri/hsiao.rows", laid_dioscuri_hsiao_rows)], narrowed := true }
def SavePlaysUptoSaid : Prop := savePlaysUptoRow.holds Tryd.pinned (OpenSpec.upto savePlaysSpec)

/-- 'dioscurilaw17.SaveMends', WHERE WHAT IT READS IS OF BULK AT MOST 1048576: true; the input reads as it did. -/
def saveMendsUptoRow : OpenClaim := { program := "ytfhijdnbhbonpaadoor", sum := "f089edb6484f40bd97f7042ae9e6600504be5db39a160b1ac882e42258f6b3d5", func := "dioscuri/dioscurilaw17.SaveMends", spec := "saveMends", named := ["dioscuri/hsiao.rows"], apart := false, laid := [("dioscuri/hsiao.rows", laid_dioscuri_hsiao_rows)], narrowed := true }
def SaveMendsUptoSaid : Prop := saveMendsUptoRow.holds Tryd.pinned (OpenSpec.upto saveMendsSpec)

/-- 'dioscurilaw17.SaveLast', WHERE WHAT IT READS IS OF BULK AT MOST 1048576: true; the input reads as it did. -/
def saveLastUptoRow : OpenClaim := { program := "ytfhijdnbhbonpaadoor", sum := "f089edb6484f40bd97f7042ae9e6600504be5db39a160b1ac882e42258f6b3d5", func := "dioscuri/dioscurilaw17.SaveLast", spec := "saveLast", named := ["dioscuri/hsiao.rows"], apart := false, laid := [("dioscuri/hsiao.rows", laid_dioscuri_hsiao_rows)], narrowed := true }
def SaveLastUptoSaid : Prop := saveLastUptoRow.holds Tryd.pinned (OpenSpec.upto saveLastSpec)

end Rows
end Go.Proofs.YtfhijdnbhbonpaaDoor
