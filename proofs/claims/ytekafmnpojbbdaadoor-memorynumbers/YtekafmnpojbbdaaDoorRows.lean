/-
  NARROWER THAN 'FOR EVERY INPUT', by the rows' own cells (each row's printed sentence says how): MemoryNumbers: laid · MemoryPlays: laid · MemoryMends: laid · MemoryStores: laid.
  DERIVED. THE GIVEN ROWS OF THIS SEAT. 4 by the template 'for every input the law returns true; each argument reads behind the call as it read before'; 0 by the template 'total and deterministic' (their statements: YtekafmnpojbbdaaDoorTotals.lean).
  GIVEN WITH THE SEED: the statements are not yours to turn. If you find one false, say at which input.
  Laid BY PROGRAM, IN A SANDBOX (cutbox-rows.mjs): the forced cells as the released guide's own fill.sh prints them over the translation 1e8dcb5d2ce714d3… (all of the seat's roots in one cut). By AI agents, Wed Nov 11 2026. No macro, syntax, notation, axiom, sorry.
-/
import Derived.Test.YtekafmnpojbbdaaDoorChecked
import GoSem.Claim
import GoSem.ClaimJoined
import GoSem.ClaimMapViews
import Derived.JoinedTies
import Derived.KernelRfl
namespace Go.Proofs.YtekafmnpojbbdaaDoor
/- THE CELL 'sum', in the pinned program and in every row, IS THE sha256 OF THE DUMP (.gsa) THAT YtekafmnpojbbdaaDoorProg.lean LOADS. Nothing in Lean hashes anything: it is a label: what it is worth is what the hold of that sum in a sandbox is worth. -/
noncomputable def Tryd.pinned : Pinned := { name := "ytekafmnpojbbdaadoor", sum := "1e8dcb5d2ce714d32ce2375774a5efe98aa7f52227b0a29de39fe516d4f33983", checked := Tryd.checked }
namespace Rows
def none {H : Type} : Left H := { results := [], args := [] }

/- WHAT THE LISTED PACKAGE-LEVEL VARIABLES READ AS WHEN THE CALL BEGINS. Each datum BY PROGRAM (the guide's laid-datum.mjs) off the statement by which the dump's own 'gosem.cut.vars' lays the variable. In a bare row this is a premise. The card (YtekafmnpojbbdaaDoorCards.lean) ties it to the program's text. -/
def laid_dioscuri_hsiao_rows {H : Type} : DataW H := .agg [.lit (.int .u64 5447429303), .lit (.int .u64 10893808987), .lit (.int .u64 17488452205), .lit (.int .u64 34955912078), .lit (.int .u64 69727093744), .lit (.int .u64 140661226496), .lit (.int .u64 279171825664)]

/-- 'dioscurilaw13.MemoryNumbers': WHATEVER THE INPUT: true; the input reads as it did. -/
def memoryNumbersSpec : ChangeSpec := { name := "memoryNumbers", fn := fun _ => fun
  | [] => { results := [.lit (.bool true)], args := [] }
  | _ => none }
def memoryNumbersRow : OpenClaim := { program := "ytekafmnpojbbdaadoor", sum := "1e8dcb5d2ce714d32ce2375774a5efe98aa7f52227b0a29de39fe516d4f33983", func := "dioscuri/dioscurilaw13.MemoryNumbers", spec := "memoryNumbers", named := ["dioscuri/hsiao.rows"], apart := false, laid := [("dioscuri/hsiao.rows", laid_dioscuri_hsiao_rows)] }
def MemoryNumbersSaid : Prop := memoryNumbersRow.holds Tryd.pinned (OpenSpec.ofChange memoryNumbersSpec)

/-- ITS FALSE NEIGHBOUR: 'it returns false'. Refute it at one input. -/
def memoryNumbersWrong : ChangeSpec := { name := "memoryNumbers", fn := fun _ => fun
  | [] => { results := [.lit (.bool false)], args := [] }
  | _ => none }
def MemoryNumbersWrongFalsely : Prop := memoryNumbersRow.holds Tryd.pinned (OpenSpec.ofChange memoryNumbersWrong)

/-- 'dioscurilaw13.MemoryPlays': WHATEVER THE INPUT: true; the input reads as it did. -/
def memoryPlaysSpec : ChangeSpec := { name := "memoryPlays", fn := fun _ => fun
  | [d1, d2] => { results := [.lit (.bool true)], args := [d1, d2] }
  | _ => none }
def memoryPlaysRow : OpenClaim := { program := "ytekafmnpojbbdaadoor", sum := "1e8dcb5d2ce714d32ce2375774a5efe98aa7f52227b0a29de39fe516d4f33983", func := "dioscuri/dioscurilaw13.MemoryPlays", spec := "memoryPlays", named := ["dioscuri/hsiao.rows"], apart := false, laid := [("dioscuri/hsiao.rows", laid_dioscuri_hsiao_rows)] }
def MemoryPlaysSaid : Prop := memoryPlaysRow.holds Tryd.pinned (OpenSpec.ofChange memoryPlaysSpec)

/-- ITS FALSE NEIGHBOUR: 'it returns false'. Refute it at one input. -/
def memoryPlaysWrong : ChangeSpec := { name := "memoryPlays", fn := fun _ => fun
  | [d1, d2] => { results := [.lit (.bool false)], args := [d1, d2] }
  | _ => none }
def MemoryPlaysWrongFalsely : Prop := memoryPlaysRow.holds Tryd.pinned (OpenSpec.ofChange memoryPlaysWrong)

/-- 'dioscurilaw13.MemoryMends': WHATEVER THE INPUT: true; the input reads as it did. -/
def memoryMendsSpec : ChangeSpec := { name := "memoryMends", fn := fun _ => fun
  | [d1, d2] => { results := [.lit (.bool true)], args := [d1, d2] }
  | _ => none }
def memoryMendsRow : OpenClaim := { program := "ytekafmnpojbbdaadoor", sum := "1e8dcb5d2ce714d32ce2375774a5efe98aa7f52227b0a29de39fe516d4f33983", func := "dioscuri/dioscurilaw13.MemoryMends", spec := "memoryMends", named := ["dioscuri/hsiao.rows"], apart := false, laid := [("dioscuri/hsiao.rows", laid_dioscuri_hsiao_rows)] }
def MemoryMendsSaid : Prop := memoryMendsRow.holds Tryd.pinned (OpenSpec.ofChange memoryMendsSpec)

/-- ITS FALSE NEIGHBOUR: 'it returns false'. Refute it at one input. -/
def memoryMendsWrong : ChangeSpec := { name := "memoryMends", fn := fun _ => fun
  | [d1, d2] => { results := [.lit (.bool false)], args := [d1, d2] }
  | _ => none }
def MemoryMendsWrongFalsely : Prop := memoryMendsRow.holds Tryd.pinned (OpenSpec.ofChange memoryMendsWrong)

/-- 'dioscurilaw13.MemoryStores': WHATEVER THE INPUT: true; the input reads as it did. -/
def memoryStoresSpec : ChangeSpec := { name := "memoryStores", fn := fun _ => fun
  | [d1, d2, d3] => { results := [.lit (.bool true)], args := [d1, d2, d3] }
  | _ => none }
def memoryStoresRow : OpenClaim := { program := "ytekafmnpojbbdaadoor", sum := "1e8dcb5d2ce714d32ce2375774a5efe98aa7f52227b0a29de39fe516d4f33983", func := "dioscuri/dioscurilaw13.MemoryStores", spec := "memoryStores", named := ["dioscuri/hsiao.rows"], apart := false, laid := [("dioscuri/hsiao.rows", laid_dioscuri_hsiao_rows)] }
def MemoryStoresSaid : Prop := memoryStoresRow.holds Tryd.pinned (OpenSpec.ofChange memoryStoresSpec)

/-- ITS FALSE NEIGHBOUR: 'it returns false'. Refute it at one input. -/
def memoryStoresWrong : ChangeSpec := { name := "memoryStores", fn := fun _ => fun
  | [d1, d2, d3] => { results := [.lit (.bool false)], args := [d1, d2, d3] }
  | _ => none }
def MemoryStoresWrongFalsely : Prop := memoryStoresRow.holds Tryd.pinned (OpenSpec.ofChange memoryStoresWrong)

/- THE SECOND FORM. 'bulk': how many values and letters a reading holds, each counted each time it is reached (what is shared counts as often as it is met; a slice's spare places count too). A statement '..UptoSaid' is the law's where the arguments, and the package variables that the reading takes, are together of bulk at most 1048576: NARROWER than '..Said'. Prove '..Said' where nothing that the law and all that it calls make is longer than what came in: it says more and counts as full. Else prove '..UptoSaid'. A law counts once. -/
mutual
def uptoBulk {H : Type} : DataW H → Nat
  | .lit (.string bytes) => bytes.length + 1
  | .lit _ => 1
  | .nil => 1
  | .ptr d => uptoBulk d + 1
  | .slice elems spare => uptoBulkAll elems + uptoBulkAll spare + 1
  | .agg parts => uptoBulkAll parts + 1
  | .iface _ d => uptoBulk d + 1
  | .map entries => uptoBulkEntries entries + 1
  | .held _ => 1
def uptoBulkAll {H : Type} : List (DataW H) → Nat
  | [] => 0
  | d :: r => uptoBulk d + uptoBulkAll r
def uptoBulkEntries {H : Type} : List (Lit × DataW H) → Nat
  | [] => 0
  | x :: r => uptoBulkEntry x + uptoBulkEntries r
def uptoBulkEntry {H : Type} : Lit × DataW H → Nat
  | (.string bytes, d) => bytes.length + uptoBulk d + 1
  | (_, d) => uptoBulk d + 1
 end
def uptoSmall : (H : Type) → List (DataW H) → Bool := fun _ ds => decide (uptoBulkAll ds ≤ 1048576)
def OpenSpec.upto (s : _root_.Go.ChangeSpec) : _root_.Go.OpenSpec := { _root_.Go.OpenSpec.ofChange s with cond := some uptoSmall }

/-- 'dioscurilaw13.MemoryNumbers', WHERE WHAT IT READS IS OF BULK AT MOST 1048576: true; the input reads as it did. -/
def memoryNumbersUptoRow : OpenClaim := { program := "ytekafmnpojbbdaadoor", sum := "1e8dcb5d2ce714d32ce2375774a5efe98aa7f52227b0a29de39fe516d4f33983", func := "dioscuri/dioscurilaw13.MemoryNumbers", spec := "memoryNumbers", named := ["dioscuri/hsiao.rows"], apart := false, laid := [("dioscuri/hsiao.rows", laid_dioscuri_hsiao_rows)], narrowed := true }
def MemoryNumbersUptoSaid : Prop := memoryNumbersUptoRow.holds Tryd.pinned (OpenSpec.upto memoryNumbersSpec)

/-- 'dioscurilaw13.MemoryPlays', WHERE WHAT IT READS IS OF BULK AT MOST 1048576: true; the input reads as it did. -/
def memoryPlaysUptoRow : OpenClaim := { program := "ytekafmnpojbbdaadoor", sum := "1e8dcb5d2ce714d32ce2375774a5efe98aa7f52227b0a29de39fe516d4f33983", func := "dioscuri/dioscurilaw13.MemoryPlays", spec := "memoryPlays", named := ["dioscuri/hsiao.rows"], apart := false, laid := [("dioscuri/hsiao.rows", laid_dioscuri_hsiao_rows)], narrowed := true }
def MemoryPlaysUptoSaid : Prop := memoryPlaysUptoRow.holds Tryd.pinned (OpenSpec.upto memoryPlaysSpec)

/-- 'dioscurilaw13.MemoryMends', WHERE WHAT IT READS IS OF BULK AT MOST 1048576: true; the input reads as it did. -/
def memoryMendsUptoRow : OpenClaim := { program := "ytekafmnpojbbdaadoor", sum := "1e8dcb5d2ce714d32ce2375774a5efe98aa7f52227b0a29de39fe516d4f33983", func := "dioscuri/dioscurilaw13.MemoryMends", spec := "memoryMends", named := ["dioscuri/hsiao.rows"], apart := false, laid := [("dioscuri/hsiao.rows", laid_dioscuri_hsiao_rows)], narrowed := true }
def MemoryMendsUptoSaid : Prop := memoryMendsUptoRow.holds Tryd.pinned (OpenSpec.upto memoryMendsSpec)

/-- 'dioscurilaw13.MemoryStores', WHERE WHAT IT READS IS OF BULK AT MOST 1048576: true; the input reads as it did. -/
def memoryStoresUptoRow : OpenClaim := { program := "ytekafmnpojbbdaadoor", sum := "1e8dcb5d2ce714d32ce2375774a5efe98aa7f52227b0a29de39fe516d4f33983", func := "dioscuri/dioscurilaw13.MemoryStores", spec := "memoryStores", named := ["dioscuri/hsiao.rows"], apart := false, laid := [("dioscuri/hsiao.rows", laid_dioscuri_hsiao_rows)], narrowed := true }
def MemoryStoresUptoSaid : Prop := memoryStoresUptoRow.holds Tryd.pinned (OpenSpec.upto memoryStoresSpec)

end Rows
end Go.Proofs.YtekafmnpojbbdaaDoor
