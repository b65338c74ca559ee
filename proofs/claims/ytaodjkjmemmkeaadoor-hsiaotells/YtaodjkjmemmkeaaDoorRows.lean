/-
  NARROWER THAN 'FOR EVERY INPUT', by the rows' own cells (each row's printed sentence says how): HsiaoTells: laid · HsiaoMends: laid · HsiaoAdds: laid · HsiaoData: laid.
  DERIVED. THE GIVEN ROWS OF THIS SEAT. 4 by the template 'for every input the law returns true; each argument reads behind the call as it read before'; 0 by the template 'total and deterministic' (their statements: YtaodjkjmemmkeaaDoorTotals.lean).
  GIVEN WITH THE SEED: the statements are not yours to turn. If you find one false, say at which input.
  Laid BY PROGRAM, IN A SANDBOX (cutbox-rows.mjs): the forced cells as the released guide's own fill.sh prints them over the translation d3bde0f068d6d31d… (all of the seat's roots in one cut). By AI agents, Wed Nov 11 2026. No macro, syntax, notation, axiom, sorry.
-/
import Derived.Test.YtaodjkjmemmkeaaDoorChecked
import GoSem.Claim
import GoSem.ClaimJoined
import GoSem.ClaimMapViews
import Derived.JoinedTies
import Derived.KernelRfl
namespace Go.Proofs.YtaodjkjmemmkeaaDoor
/- THE CELL 'sum', in the pinned program and in every row, IS THE sha256 OF THE DUMP (.gsa) THAT YtaodjkjmemmkeaaDoorProg.lean LOADS. Nothing in Lean hashes anything: it is a label: what it is worth is what the hold of that sum in a sandbox is worth. -/
noncomputable def Tryd.pinned : Pinned := { name := "ytaodjkjmemmkeaadoor", sum := "d3bde0f068d6d31db6f35a27135c93defe59981c49fc6b0b3c74e8bd7a19a4ce", checked := Tryd.checked }
namespace Rows
def none {H : Type} : Left H := { results := [], args := [] }

/- WHAT THE LISTED PACKAGE-LEVEL VARIABLES READ AS WHEN THE CALL BEGINS. Each datum BY PROGRAM (the guide's laid-datum.mjs) off the statement by which the dump's own 'gosem.cut.vars' lays the variable. In a bare row this is a premise. The card (YtaodjkjmemmkeaaDoorCards.lean) ties it to the program's text. -/
def laid_dioscuri_hsiao_rows {H : Type} : DataW H := .agg [.lit (.int .u64 5447429303), .lit (.int .u64 10893808987), .lit (.int .u64 17488452205), .lit (.int .u64 34955912078), .lit (.int .u64 69727093744), .lit (.int .u64 140661226496), .lit (.int .u64 279171825664)]

/-- 'dioscurilaw2.HsiaoTells': WHATEVER THE INPUT: true; the input reads as it did. -/
def hsiaoTellsSpec : ChangeSpec := { name := "hsiaoTells", fn := fun _ => fun
  | [d1, d2, d3, d4, d5] => { results := [.lit (.bool true)], args := [d1, d2, d3, d4, d5] }
  | _ => none }
def hsiaoTellsRow : OpenClaim := { program := "ytaodjkjmemmkeaadoor", sum := "d3bde0f068d6d31db6f35a27135c93defe59981c49fc6b0b3c74e8bd7a19a4ce", func := "dioscuri/dioscurilaw2.HsiaoTells", spec := "hsiaoTells", named := ["dioscuri/hsiao.rows"], apart := false, laid := [("dioscuri/hsiao.rows", laid_dioscuri_hsiao_rows)] }
def HsiaoTellsSaid : Prop := hsiaoTellsRow.holds Tryd.pinned (OpenSpec.ofChange hsiaoTellsSpec)

/-- ITS FALSE NEIGHBOUR: 'it returns false'. Refute it at one input. -/
def hsiaoTellsWrong : ChangeSpec := { name := "hsiaoTells", fn := fun _ => fun
  | [d1, d2, d3, d4, d5] => { results := [.lit (.bool false)], args := [d1, d2, d3, d4, d5] }
  | _ => none }
def HsiaoTellsWrongFalsely : Prop := hsiaoTellsRow.holds Tryd.pinned (OpenSpec.ofChange hsiaoTellsWrong)

/-- 'dioscurilaw2.HsiaoMends': WHATEVER THE INPUT: true; the input reads as it did. -/
def hsiaoMendsSpec : ChangeSpec := { name := "hsiaoMends", fn := fun _ => fun
  | [d1, d2, d3] => { results := [.lit (.bool true)], args := [d1, d2, d3] }
  | _ => none }
def hsiaoMendsRow : OpenClaim := { program := "ytaodjkjmemmkeaadoor", sum := "d3bde0f068d6d31db6f35a27135c93defe59981c49fc6b0b3c74e8bd7a19a4ce", func := "dioscuri/dioscurilaw2.HsiaoMends", spec := "hsiaoMends", named := ["dioscuri/hsiao.rows"], apart := false, laid := [("dioscuri/hsiao.rows", laid_dioscuri_hsiao_rows)] }
def HsiaoMendsSaid : Prop := hsiaoMendsRow.holds Tryd.pinned (OpenSpec.ofChange hsiaoMendsSpec)

/-- ITS FALSE NEIGHBOUR: 'it returns false'. Refute it at one input. -/
def hsiaoMendsWrong : ChangeSpec := { name := "hsiaoMends", fn := fun _ => fun
  | [d1, d2, d3] => { results := [.lit (.bool false)], args := [d1, d2, d3] }
  | _ => none }
def HsiaoMendsWrongFalsely : Prop := hsiaoMendsRow.holds Tryd.pinned (OpenSpec.ofChange hsiaoMendsWrong)

/-- 'dioscurilaw2.HsiaoAdds': WHATEVER THE INPUT: true; the input reads as it did. -/
def hsiaoAddsSpec : ChangeSpec := { name := "hsiaoAdds", fn := fun _ => fun
  | [d1, d2, d3, d4] => { results := [.lit (.bool true)], args := [d1, d2, d3, d4] }
  | _ => none }
def hsiaoAddsRow : OpenClaim := { program := "ytaodjkjmemmkeaadoor", sum := "d3bde0f068d6d31db6f35a27135c93defe59981c49fc6b0b3c74e8bd7a19a4ce", func := "dioscuri/dioscurilaw2.HsiaoAdds", spec := "hsiaoAdds", named := ["dioscuri/hsiao.rows"], apart := false, laid := [("dioscuri/hsiao.rows", laid_dioscuri_hsiao_rows)] }
def HsiaoAddsSaid : Prop := hsiaoAddsRow.holds Tryd.pinned (OpenSpec.ofChange hsiaoAddsSpec)

/-- ITS FALSE NEIGHBOUR: 'it returns false'. Refute it at one input. -/
def hsiaoAddsWrong : ChangeSpec := { name := "hsiaoAdds", fn := fun _ => fun
  | [d1, d2, d3, d4] => { results := [.lit (.bool false)], args := [d1, d2, d3, d4] }
  | _ => none }
def HsiaoAddsWrongFalsely : Prop := hsiaoAddsRow.holds Tryd.pinned (OpenSpec.ofChange hsiaoAddsWrong)

/-- 'dioscurilaw2.HsiaoData': WHATEVER THE INPUT: true; the input reads as it did. -/
def hsiaoDataSpec : ChangeSpec := { name := "hsiaoData", fn := fun _ => fun
  | [d1, d2] => { results := [.lit (.bool true)], args := [d1, d2] }
  | _ => none }
def hsiaoDataRow : OpenClaim := { program := "ytaodjkjmemmkeaadoor", sum := "d3bde0f068d6d31db6f35a27135c93defe59981c49fc6b0b3c74e8bd7a19a4ce", func := "dioscuri/dioscurilaw2.HsiaoData", spec := "hsiaoData", named := ["dioscuri/hsiao.rows"], apart := false, laid := [("dioscuri/hsiao.rows", laid_dioscuri_hsiao_rows)] }
def HsiaoDataSaid : Prop := hsiaoDataRow.holds Tryd.pinned (OpenSpec.ofChange hsiaoDataSpec)

/-- ITS FALSE NEIGHBOUR: 'it returns false'. Refute it at one input. -/
def hsiaoDataWrong : ChangeSpec := { name := "hsiaoData", fn := fun _ => fun
  | [d1, d2] => { results := [.lit (.bool false)], args := [d1, d2] }
  | _ => none }
def HsiaoDataWrongFalsely : Prop := hsiaoDataRow.holds Tryd.pinned (OpenSpec.ofChange hsiaoDataWrong)

/- THE SECOND FORM. 'bulk': how many values and letters a reading holds, each counted each time it is reached (what is shared counts as often as it is met; a slice's spare places count too). A statement '..UptoSaid' is the law's where the arguments, and the package variables that the reading takes, are together of bulk at most 1048576: NARROWER than '..Said'. Prove '..Said' where nothing that the law and all that it calls make is longer than what came in: it says more and counts as full. Else prove '..UptoSaid'. A law counts once. -/
mutual
def uptoBulk {H : Type} : DataW H → Nat
  | .lit (.string bytes) => bytes.length + 1
  | .lit _ => 1
  | .nil => 1
  | .ptr d => uptoBulk d + 1
  | .slice elems spare => uptoBulkAll elems + uptoBulkAll spare + 1
  | .agg parts => uptoBulkAll parts + 1
  | .iface _ d => uptoBulk d + 1
  | .map entries => uptoBulkEntries entries + 1
  | .held _ => 1
def uptoBulkAll {H : Type} : List (DataW H) → Nat
  | [] => 0
  | d :: r => uptoBulk d + uptoBulkAll r
def uptoBulkEntries {H : Type} : List (Lit × DataW H) → Nat
  | [] => 0
  | x :: r => uptoBulkEntry x + uptoBulkEntries r
def uptoBulkEntry {H : Type} : Lit × DataW H → Nat
  | (.string bytes, d) => bytes.length + uptoBulk d + 1
  | (_, d) => uptoBulk d + 1
 end
def uptoSmall : (H : Type) → List (DataW H) → Bool := fun _ ds => decide (uptoBulkAll ds ≤ 1048576)
def OpenSpec.upto (s : _root_.Go.ChangeSpec) : _root_.Go.OpenSpec := { _root_.Go.OpenSpec.ofChange s with cond := some uptoSmall }

/-- 'dioscurilaw2.HsiaoTells', WHERE WHAT IT READS IS OF BULK AT MOST 1048576: true; the input reads as it did. -/
def hsiaoTellsUptoRow : OpenClaim := { program := "ytaodjkjmemmkeaadoor", sum := "d3bde0f068d6d31db6f35a27135c93defe59981c49fc6b0b3c74e8bd7a19a4ce", func := "dioscuri/dioscurilaw2.HsiaoTells", spec := "hsiaoTells", named := ["dioscuri/hsiao.rows"], apart := false, laid := [("dioscuri/hsiao.rows", laid_dioscuri_hsiao_rows)], narrowed := true }
def HsiaoTellsUptoSaid : Prop := hsiaoTellsUptoRow.holds Tryd.pinned (OpenSpec.upto hsiaoTellsSpec)

/-- 'dioscurilaw2.HsiaoMends', WHERE WHAT IT READS IS OF BULK AT MOST 1048576: true; the input reads as it did. -/
def hsiaoMendsUptoRow : OpenClaim := { program := "ytaodjkjmemmkeaadoor", sum := "d3bde0f068d6d31db6f35a27135c93defe59981c49fc6b0b3c74e8bd7a19a4ce", func := "dioscuri/dioscurilaw2.HsiaoMends", spec := "hsiaoMends", named := ["dioscuri/hsiao.rows"], apart := false, laid := [("dioscuri/hsiao.rows", laid_dioscuri_hsiao_rows)], narrowed := true }
def HsiaoMendsUptoSaid : Prop := hsiaoMendsUptoRow.holds Tryd.pinned (OpenSpec.upto hsiaoMendsSpec)

/-- 'dioscurilaw2.HsiaoAdds', WHERE WHAT IT READS IS OF BULK AT MOST 1048576: true; the input reads as it did. -/
def hsiaoAddsUptoRow : OpenClaim := { program := "ytaodjkjmemmkeaadoor", sum := "d3bde0f068d6d31db6f35a27135c93defe59981c49fc6b0b3c74e8bd7a19a4ce", func := "dioscuri/dioscurilaw2.HsiaoAdds", spec := "hsiaoAdds", named := ["dioscuri/hsiao.rows"], apart := false, laid := [("dioscuri/hsiao.rows", laid_dioscuri_hsiao_rows)], narrowed := true }
def HsiaoAddsUptoSaid : Prop := hsiaoAddsUptoRow.holds Tryd.pinned (OpenSpec.upto hsiaoAddsSpec)

/-- 'dioscurilaw2.HsiaoData', WHERE WHAT IT READS IS OF BULK AT MOST 1048576: true; the input reads as it did. -/
def hsiaoDataUptoRow : OpenClaim := { program := "ytaodjkjmemmkeaadoor", sum := "d3bde0f068d6d31db6f35a27135c93defe59981c49fc6b0b3c74e8bd7a19a4ce", func := "dioscuri/dioscurilaw2.HsiaoData", spec := "hsiaoData", named := ["dioscuri/hsiao.rows"], apart := false, laid := [("dioscuri/hsiao.rows", laid_dioscuri_hsiao_rows)], narrowed := true }
def HsiaoDataUptoSaid : Prop := hsiaoDataUptoRow.holds Tryd.pinned (OpenSpec.upto hsiaoDataSpec)

end Rows
end Go.Proofs.YtaodjkjmemmkeaaDoor
