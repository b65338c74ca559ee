/-
  NARROWER THAN 'FOR EVERY INPUT', by the rows' own cells (each row's printed sentence says how): WordNumbers: laid · WordPlays: laid · WordMends: laid · WordPeeks: laid.
  DERIVED. THE GIVEN ROWS OF THIS SEAT. 4 by the template 'for every input the law returns true; each argument reads behind the call as it read before'; 0 by the template 'total and deterministic' (their statements: YtijmoeljemoppaaDoorTotals.lean).
  GIVEN WITH THE SEED: the statements are not yours to turn. If you find one false, say at which input.
  Laid BY PROGRAM, IN A SANDBOX (cutbox-rows.mjs): the forced cells as the released guide's own fill.sh prints them over the translation a650bb0af2527b79… (all of the seat's roots in one cut). By AI agents, Wed Nov 11 2026. No macro, syntax, notation, axiom, sorry.
-/
import Derived.Test.YtijmoeljemoppaaDoorChecked
import GoSem.Claim
import GoSem.ClaimJoined
import GoSem.ClaimMapViews
import Derived.JoinedTies
import Derived.KernelRfl
namespace Go.Proofs.YtijmoeljemoppaaDoor
/- THE CELL 'sum', in the pinned program and in every row, IS THE sha256 OF THE DUMP (.gsa) THAT YtijmoeljemoppaaDoorProg.lean LOADS. Nothing in Lean hashes anything: it is a label: what it is worth is what the hold of that sum in a sandbox is worth. -/
noncomputable def Tryd.pinned : Pinned := { name := "ytijmoeljemoppaadoor", sum := "a650bb0af2527b794f1d92e38614dca48ff7c67b78ef41c5bffe0bbbb515f0fd", checked := Tryd.checked }
namespace Rows
def none {H : Type} : Left H := { results := [], args := [] }

/- WHAT THE LISTED PACKAGE-LEVEL VARIABLES READ AS WHEN THE CALL BEGINS. Each datum BY PROGRAM (the guide's laid-datum.mjs) off the statement by which the dump's own 'gosem.cut.vars' lays the variable. In a bare row this is a premise. The card (YtijmoeljemoppaaDoorCards.lean) ties it to the program's text. -/
def laid_dioscuri_hsiao_rows {H : Type} : DataW H := .agg [.lit (.int .u64 5447429303), .lit (.int .u64 10893808987), .lit (.int .u64 17488452205), .lit (.int .u64 34955912078), .lit (.int .u64 69727093744), .lit (.int .u64 140661226496), .lit (.int .u64 279171825664)]

/-- 'dioscurilaw3.WordNumbers': WHATEVER THE INPUT: true; the input reads as it did. -/
def wordNumbersSpec : ChangeSpec := { name := "wordNumbers", fn := fun _ => fun
  | [] => { results := [.lit (.bool true)], args := [] }
  | _ => none }
def wordNumbersRow : OpenClaim := { program := "ytijmoeljemoppaadoor", sum := "a650bb0af2527b794f1d92e38614dca48ff7c67b78ef41c5bffe0bbbb515f0fd", func := "dioscuri/dioscurilaw3.WordNumbers", spec := "wordNumbers", named := ["dioscuri/hsiao.rows"], apart := false, laid := [("dioscuri/hsiao.rows", laid_dioscuri_hsiao_rows)] }
def WordNumbersSaid : Prop := wordNumbersRow.holds Tryd.pinned (OpenSpec.ofChange wordNumbersSpec)

/-- ITS FALSE NEIGHBOUR: 'it returns false'. Refute it at one input. -/
def wordNumbersWrong : ChangeSpec := { name := "wordNumbers", fn := fun _ => fun
  | [] => { results := [.lit (.bool false)], args := [] }
  | _ => none }
def WordNumbersWrongFalsely : Prop := wordNumbersRow.holds Tryd.pinned (OpenSpec.ofChange wordNumbersWrong)

/-- 'dioscurilaw3.WordPlays': WHATEVER THE INPUT: true; the input reads as it did. -/
def wordPlaysSpec : ChangeSpec := { name := "wordPlays", fn := fun _ => fun
  | [d1, d2] => { results := [.lit (.bool true)], args := [d1, d2] }
  | _ => none }
def wordPlaysRow : OpenClaim := { program := "ytijmoeljemoppaadoor", sum := "a650bb0af2527b794f1d92e38614dca48ff7c67b78ef41c5bffe0bbbb515f0fd", func := "dioscuri/dioscurilaw3.WordPlays", spec := "wordPlays", named := ["dioscuri/hsiao.rows"], apart := false, laid := [("dioscuri/hsiao.rows", laid_dioscuri_hsiao_rows)] }
def WordPlaysSaid : Prop := wordPlaysRow.holds Tryd.pinned (OpenSpec.ofChange wordPlaysSpec)

/-- ITS FALSE NEIGHBOUR: 'it returns false'. Refute it at one input. -/
def wordPlaysWrong : ChangeSpec := { name := "wordPlays", fn := fun _ => fun
  | [d1, d2] => { results := [.lit (.bool false)], args := [d1, d2] }
  | _ => none }
def WordPlaysWrongFalsely : Prop := wordPlaysRow.holds Tryd.pinned (OpenSpec.ofChange wordPlaysWrong)

/-- 'dioscurilaw3.WordMends': WHATEVER THE INPUT: true; the input reads as it did. -/
def wordMendsSpec : ChangeSpec := { name := "wordMends", fn := fun _ => fun
  | [d1, d2] => { results := [.lit (.bool true)], args := [d1, d2] }
  | _ => none }
def wordMendsRow : OpenClaim := { program := "ytijmoeljemoppaadoor", sum := "a650bb0af2527b794f1d92e38614dca48ff7c67b78ef41c5bffe0bbbb515f0fd", func := "dioscuri/dioscurilaw3.WordMends", spec := "wordMends", named := ["dioscuri/hsiao.rows"], apart := false, laid := [("dioscuri/hsiao.rows", laid_dioscuri_hsiao_rows)] }
def WordMendsSaid : Prop := wordMendsRow.holds Tryd.pinned (OpenSpec.ofChange wordMendsSpec)

/-- ITS FALSE NEIGHBOUR: 'it returns false'. Refute it at one input. -/
def wordMendsWrong : ChangeSpec := { name := "wordMends", fn := fun _ => fun
  | [d1, d2] => { results := [.lit (.bool false)], args := [d1, d2] }
  | _ => none }
def WordMendsWrongFalsely : Prop := wordMendsRow.holds Tryd.pinned (OpenSpec.ofChange wordMendsWrong)

/-- 'dioscurilaw3.WordPeeks': WHATEVER THE INPUT: true; the input reads as it did. -/
def wordPeeksSpec : ChangeSpec := { name := "wordPeeks", fn := fun _ => fun
  | [d1, d2, d3, d4] => { results := [.lit (.bool true)], args := [d1, d2, d3, d4] }
  | _ => none }
def wordPeeksRow : OpenClaim := { program := "ytijmoeljemoppaadoor", sum := "a650bb0af2527b794f1d92e38614dca48ff7c67b78ef41c5bffe0bbbb515f0fd", func := "dioscuri/dioscurilaw3.WordPeeks", spec := "wordPeeks", named := ["dioscuri/hsiao.rows"], apart := false, laid := [("dioscuri/hsiao.rows", laid_dioscuri_hsiao_rows)] }
def WordPeeksSaid : Prop := wordPeeksRow.holds Tryd.pinned (OpenSpec.ofChange wordPeeksSpec)

/-- ITS FALSE NEIGHBOUR: 'it returns false'. Refute it at one input. -/
def wordPeeksWrong : ChangeSpec := { name := "wordPeeks", fn := fun _ => fun
  | [d1, d2, d3, d4] => { results := [.lit (.bool false)], args := [d1, d2, d3, d4] }
  | _ => none }
def WordPeeksWrongFalsely : Prop := wordPeeksRow.holds Tryd.pinned (OpenSpec.ofChange wordPeeksWrong)

/- THE SECOND FORM. 'bulk': how many values and letters a reading holds, each counted each time it is reached (what is shared counts as often as it is met; a slice's spare places count too). A statement '..UptoSaid' is the law's where the arguments, and the package variables that the reading takes, are together of bulk at most 1048576: NARROWER than '..Said'. Prove '..Said' where nothing that the law and all that it calls make is longer than what came in: it says more and counts as full. Else prove '..UptoSaid'. A law counts once. -/
mutual
def uptoBulk {H : Type} : DataW H → Nat
  | .lit (.string bytes) => bytes.length + 1
  | .lit _ => 1
  | .nil => 1
  | .ptr d => uptoBulk d + 1
  | .slice elems spare => uptoBulkAll elems + uptoBulkAll spare + 1
  | .agg parts => uptoBulkAll parts + 1
  | .iface _ d => uptoBulk d + 1
  | .map entries => uptoBulkEntries entries + 1
  | .held _ => 1
def uptoBulkAll {H : Type} : List (DataW H) → Nat
  | [] => 0
  | d :: r => uptoBulk d + uptoBulkAll r
def uptoBulkEntries {H : Type} : List (Lit × DataW H) → Nat
  | [] => 0
  | x :: r => uptoBulkEntry x + uptoBulkEntries r
def uptoBulkEntry {H : Type} : Lit × DataW H → Nat
  | (.string bytes, d) => bytes.length + uptoBulk d + 1
  | (_, d) => uptoBulk d + 1
 end
def uptoSmall : (H : Type) → List (DataW H) → Bool := fun _ ds => decide (uptoBulkAll ds ≤ 1048576)
def OpenSpec.upto (s : _root_.Go.ChangeSpec) : _root_.Go.OpenSpec := { _root_.Go.OpenSpec.ofChange s with cond := some uptoSmall }

/-- 'dioscurilaw3.WordNumbers', WHERE WHAT IT READS IS OF BULK AT MOST 1048576: true; the input reads as it did. -/
def wordNumbersUptoRow : OpenClaim := { program := "ytijmoeljemoppaadoor", sum := "a650bb0af2527b794f1d92e38614dca48ff7c67b78ef41c5bffe0bbbb515f0fd", func := "dioscuri/dioscurilaw3.WordNumbers", spec := "wordNumbers", named := ["dioscuri/hsiao.rows"], apart := false, laid := [("dioscuri/hsiao.rows", laid_dioscuri_hsiao_rows)], narrowed := true }
def WordNumbersUptoSaid : Prop := wordNumbersUptoRow.holds Tryd.pinned (OpenSpec.upto wordNumbersSpec)

/-- 'dioscurilaw3.WordPlays', WHERE WHAT IT READS IS OF BULK AT MOST 1048576: true; the input reads as it did. -/
def wordPlaysUptoRow : OpenClaim := { program := "ytijmoeljemoppaadoor", sum := "a650bb0af2527b794f1d92e38614dca48ff7c67b78ef41c5bffe0bbbb515f0fd", func := "dioscuri/dioscurilaw3.WordPlays", spec := "wordPlays", named := ["dioscuri/hsiao.rows"], apart := false, laid := [("dioscuri/hsiao.rows", laid_dioscuri_hsiao_rows)], narrowed := true }
def WordPlaysUptoSaid : Prop := wordPlaysUptoRow.holds Tryd.pinned (OpenSpec.upto wordPlaysSpec)

/-- 'dioscurilaw3.WordMends', WHERE WHAT IT READS IS OF BULK AT MOST 1048576: true; the input reads as it did. -/
def wordMendsUptoRow : OpenClaim := { program := "ytijmoeljemoppaadoor", sum := "a650bb0af2527b794f1d92e38614dca48ff7c67b78ef41c5bffe0bbbb515f0fd", func := "dioscuri/dioscurilaw3.WordMends", spec := "wordMends", named := ["dioscuri/hsiao.rows"], apart := false, laid := [("dioscuri/hsiao.rows", laid_dioscuri_hsiao_rows)], narrowed := true }
def WordMendsUptoSaid : Prop := wordMendsUptoRow.holds Tryd.pinned (OpenSpec.upto wordMendsSpec)

/-- 'dioscurilaw3.WordPeeks', WHERE WHAT IT READS IS OF BULK AT MOST 1048576: true; the input reads as it did. -/
def wordPeeksUptoRow : OpenClaim := { program := "ytijmoeljemoppaadoor", sum := "a650bb0af2527b794f1d92e38614dca48ff7c67b78ef41c5bffe0bbbb515f0fd", func := "dioscuri/dioscurilaw3.WordPeeks", spec := "wordPeeks", named := ["dioscuri/hsiao.rows"], apart := false, laid := [("dioscuri/hsiao.rows", laid_dioscuri_hsiao_rows)], narrowed := true }
def WordPeeksUptoSaid : Prop := wordPeeksUptoRow.holds Tryd.pinned (OpenSpec.upto wordPeeksSpec)

end Rows
end Go.Proofs.YtijmoeljemoppaaDoor
