/-
  NARROWER THAN 'FOR EVERY INPUT', by the rows' own cells (each row's printed sentence says how): FileNumbers: laid · FilePlays: laid · FileMends: laid · FileBads: laid.
  DERIVED. THE GIVEN ROWS OF THIS SEAT. 4 by the template 'for every input the law returns true; each argument reads behind the call as it read before'; 0 by the template 'total and deterministic' (their statements: YtgcpjlnncedcfaaDoorTotals.lean).
  GIVEN WITH THE SEED: the statements are not yours to turn. If you find one false, say at which input.
  Laid BY PROGRAM, IN A SANDBOX (cutbox-rows.mjs): the forced cells as the released guide's own fill.sh prints them over the translation 01113a308ee719bd… (all of the seat's roots in one cut). By AI agents, Wed Nov 11 2026. No macro, syntax, notation, axiom, sorry.
-/
import Derived.Test.YtgcpjlnncedcfaaDoorChecked
import GoSem.Claim
import GoSem.ClaimJoined
import GoSem.ClaimMapViews
import Derived.JoinedTies
import Derived.KernelRfl
namespace Go.Proofs.YtgcpjlnncedcfaaDoor
/- THE CELL 'sum', in the pinned program and in every row, IS THE sha256 OF THE DUMP (.gsa) THAT YtgcpjlnncedcfaaDoorProg.lean LOADS. Nothing in Lean hashes anything: it is a label: what it is worth is what the hold of that sum in a sandbox is worth. -/
noncomputable def Tryd.pinned : Pinned := { name := "ytgcpjlnncedcfaadoor", sum := "01113a308ee719bd6e44be6995df0591af9834342ae07ad21d78febe7f3572e4", checked := Tryd.checked }
namespace Rows
def none {H : Type} : Left H := { results := [], args := [] }

/- WHAT THE LISTED PACKAGE-LEVEL VARIABLES READ AS WHEN THE CALL BEGINS. Each datum BY PROGRAM (the guide's laid-datum.mjs) off the statement by which the dump's own 'gosem.cut.vars' lays the variable. In a bare row this is a premise. The card (YtgcpjlnncedcfaaDoorCards.lean) ties it to the program's text. -/
def laid_dioscuri_hsiao_rows {H : Type} : DataW H := .agg [.lit (.int .u64 5447429303), .lit (.int .u64 10893808987), .lit (.int .u64 17488452205), .lit (.int .u64 34955912078), .lit (.int .u64 69727093744), .lit (.int .u64 140661226496), .lit (.int .u64 279171825664)]

/-- 'dioscurilaw14.FileNumbers': WHATEVER THE INPUT: true; the input reads as it did. -/
def fileNumbersSpec : ChangeSpec := { name := "fileNumbers", fn := fun _ => fun
  | [] => { results := [.lit (.bool true)], args := [] }
  | _ => none }
def fileNumbersRow : OpenClaim := { program := "ytgcpjlnncedcfaadoor", sum := "01113a308ee719bd6e44be6995df0591af9834342ae07ad21d78febe7f3572e4", func := "dioscuri/dioscurilaw14.FileNumbers", spec := "fileNumbers", named := ["dioscuri/hsiao.rows"], apart := false, laid := [("dioscuri/hsiao.rows", laid_dioscuri_hsiao_rows)] }
def FileNumbersSaid : Prop := fileNumbersRow.holds Tryd.pinned (OpenSpec.ofChange fileNumbersSpec)

/-- ITS FALSE NEIGHBOUR: 'it returns false'. Refute it at one input. -/
def fileNumbersWrong : ChangeSpec := { name := "fileNumbers", fn := fun _ => fun
  | [] => { results := [.lit (.bool false)], args := [] }
  | _ => none }
def FileNumbersWrongFalsely : Prop := fileNumbersRow.holds Tryd.pinned (OpenSpec.ofChange fileNumbersWrong)

/-- 'dioscurilaw14.FilePlays': WHATEVER THE INPUT: true; the input reads as it did. -/
def filePlaysSpec : ChangeSpec := { name := "filePlays", fn := fun _ => fun
  | [d] => { results := [.lit (.bool true)], args := [d] }
  | _ => none }
def filePlaysRow : OpenClaim := { program := "ytgcpjlnncedcfaadoor", sum := "01113a308ee719bd6e44be6995df0591af9834342ae07ad21d78febe7f3572e4", func := "dioscuri/dioscurilaw14.FilePlays", spec := "filePlays", named := ["dioscuri/hsiao.rows"], apart := false, laid := [("dioscuri/hsiao.rows", laid_dioscuri_hsiao_rows)] }
def FilePlaysSaid : Prop := filePlaysRow.holds Tryd.pinned (OpenSpec.ofChange filePlaysSpec)

/-- ITS FALSE NEIGHBOUR: 'it returns false'. Refute it at one input. -/
def filePlaysWrong : ChangeSpec := { name := "filePlays", fn := fun _ => fun
  | [d] => { results := [.lit (.bool false)], args := [d] }
  | _ => none }
def FilePlaysWrongFalsely : Prop := filePlaysRow.holds Tryd.pinned (OpenSpec.ofChange filePlaysWrong)

/-- 'dioscurilaw14.FileMends': WHATEVER THE INPUT: true; the input reads as it did. -/
def fileMendsSpec : ChangeSpec := { name := "fileMends", fn := fun _ => fun
  | [d1, d2] => { results := [.lit (.bool true)], args := [d1, d2] }
  | _ => none }
def fileMendsRow : OpenClaim := { program := "ytgcpjlnncedcfaadoor", sum := "01113a308ee719bd6e44be6995df0591af9834342ae07ad21d78febe7f3572e4", func := "dioscuri/dioscurilaw14.FileMends", spec := "fileMends", named := ["dioscuri/hsiao.rows"], apart := false, laid := [("dioscuri/hsiao.rows", laid_dioscuri_hsiao_rows)] }
def FileMendsSaid : Prop := fileMendsRow.holds Tryd.pinned (OpenSpec.ofChange fileMendsSpec)

/-- ITS FALSE NEIGHBOUR: 'it returns false'. Refute it at one input. -/
def fileMendsWrong : ChangeSpec := { name := "fileMends", fn := fun _ => fun
  | [d1, d2] => { results := [.lit (.bool false)], args := [d1, d2] }
  | _ => none }
def FileMendsWrongFalsely : Prop := fileMendsRow.holds Tryd.pinned (OpenSpec.ofChange fileMendsWrong)

/-- 'dioscurilaw14.FileBads': WHATEVER THE INPUT: true; the input reads as it did. -/
def fileBadsSpec : ChangeSpec := { name := "fileBads", fn := fun _ => fun
  | [d1, d2, d3, d4, d5] => { results := [.lit (.bool true)], args := [d1, d2, d3, d4, d5] }
  | _ => none }
def fileBadsRow : OpenClaim := { program := "ytgcpjlnncedcfaadoor", sum := "01113a308ee719bd6e44be6995df0591af9834342ae07ad21d78febe7f3572e4", func := "dioscuri/dioscurilaw14.FileBads", spec := "fileBads", named := ["dioscuri/hsiao.rows"], apart := false, laid := [("dioscuri/hsiao.rows", laid_dioscuri_hsiao_rows)] }
def FileBadsSaid : Prop := fileBadsRow.holds Tryd.pinned (OpenSpec.ofChange fileBadsSpec)

/-- ITS FALSE NEIGHBOUR: 'it returns false'. Refute it at one input. -/
def fileBadsWrong : ChangeSpec := { name := "fileBads", fn := fun _ => fun
  | [d1, d2, d3, d4, d5] => { results := [.lit (.bool false)], args := [d1, d2, d3, d4, d5] }
  | _ => none }
def FileBadsWrongFalsely : Prop := fileBadsRow.holds Tryd.pinned (OpenSpec.ofChange fileBadsWrong)

/- THE SECOND FORM. 'bulk': how many values and letters a reading holds, each counted each time it is reached (what is shared counts as often as it is met; a slice's spare places count too). A statement '..UptoSaid' is the law's where the arguments, and the package variables that the reading takes, are together of bulk at most 1048576: NARROWER than '..Said'. Prove '..Said' where nothing that the law and all that it calls make is longer than what came in: it says more and counts as full. Else prove '..UptoSaid'. A law counts once. -/
mutual
def uptoBulk {H : Type} : DataW H → Nat
  | .lit (.string bytes) => bytes.length + 1
  | .lit _ => 1
  | .nil => 1
  | .ptr d => uptoBulk d + 1
  | .slice elems spare => uptoBulkAll elems + uptoBulkAll spare + 1
  | .agg parts => uptoBulkAll parts + 1
  | .iface _ d => uptoBulk d + 1
  | .map entries => uptoBulkEntries entries + 1
  | .held _ => 1
def uptoBulkAll {H : Type} : List (DataW H) → Nat
  | [] => 0
  | d :: r => uptoBulk d + uptoBulkAll r
def uptoBulkEntries {H : Type} : List (Lit × DataW H) → Nat
  | [] => 0
  | x :: r => uptoBulkEntry x + uptoBulkEntries r
def uptoBulkEntry {H : Type} : Lit × DataW H → Nat
  | (.string bytes, d) => bytes.length + uptoBulk d + 1
  | (_, d) => uptoBulk d + 1
 end
def uptoSmall : (H : Type) → List (DataW H) → Bool := fun _ ds => decide (uptoBulkAll ds ≤ 1048576)
def OpenSpec.upto (s : _root_.Go.ChangeSpec) : _root_.Go.OpenSpec := { _root_.Go.OpenSpec.ofChange s with cond := some uptoSmall }

/-- 'dioscurilaw14.FileNumbers', WHERE WHAT IT READS IS OF BULK AT MOST 1048576: true; the input reads as it did. -/
def fileNumbersUptoRow : OpenClaim := { program := "ytgcpjlnncedcfaadoor", sum := "01113a308ee719bd6e44be6995df0591af9834342ae07ad21d78febe7f3572e4", func := "dioscuri/dioscurilaw14.FileNumbers", spec := "fileNumbers", named := ["dioscuri/hsiao.rows"], apart := false, laid := [("dioscuri/hsiao.rows", laid_dioscuri_hsiao_rows)], narrowed := true }
def FileNumbersUptoSaid : Prop := fileNumbersUptoRow.holds Tryd.pinned (OpenSpec.upto fileNumbersSpec)

/-- 'dioscurilaw14.FilePlays', WHERE WHAT IT READS IS OF BULK AT MOST 1048576: true; the input reads as it did. -/
def filePlaysUptoRow : OpenClaim := { program := "ytgcpjlnncedcfaadoor", sum := "01113a308ee719bd6e44be6995df0591af9834342ae07ad21d78febe7f3572e4", func := "dioscuri/dioscurilaw14.FilePlays", spec := "filePlays", named := ["dioscuri/hsiao.rows"], apart := false, laid := [("dioscuri/hsiao.rows", laid_dioscuri_hsiao_rows)], narrowed := true }
def FilePlaysUptoSaid : Prop := filePlaysUptoRow.holds Tryd.pinned (OpenSpec.upto filePlaysSpec)

/-- 'dioscurilaw14.FileMends', WHERE WHAT IT READS IS OF BULK AT MOST 1048576: true; the input reads as it did. -/
def fileMendsUptoRow : OpenClaim := { program := "ytgcpjlnncedcfaadoor", sum := "01113a308ee719bd6e44be6995df0591af9834342ae07ad21d78febe7f3572e4", func := "dioscuri/dioscurilaw14.FileMends", spec := "fileMends", named := ["dioscuri/hsiao.rows"], apart := false, laid := [("dioscuri/hsiao.rows", laid_dioscuri_hsiao_rows)], narrowed := true }
def FileMendsUptoSaid : Prop := fileMendsUptoRow.holds Tryd.pinned (OpenSpec.upto fileMendsSpec)

/-- 'dioscurilaw14.FileBads', WHERE WHAT IT READS IS OF BULK AT MOST 1048576: true; the input reads as it did. -/
def fileBadsUptoRow : OpenClaim := { program := "ytgcpjlnncedcfaadoor", sum := "01113a308ee719bd6e44be6995df0591af9834342ae07ad21d78febe7f3572e4", func := "dioscuri/dioscurilaw14.FileBads", spec := "fileBads", named := ["dioscuri/hsiao.rows"], apart := false, laid := [("dioscuri/hsiao.rows", laid_dioscuri_hsiao_rows)], narrowed := true }
def FileBadsUptoSaid : Prop := fileBadsUptoRow.holds Tryd.pinned (OpenSpec.upto fileBadsSpec)

end Rows
end Go.Proofs.YtgcpjlnncedcfaaDoor
