/- Contracts of Reads, Writes, Slow: the program's and the document's own; of the laws' own judged. -/
import Derived.Test.YtlnliiihcajboaaDoorFmt
namespace Go.Proofs.YtlnliiihcajboaaDoor.Num
def r1 (f : Int) : Bool := f = 2 || f = 5 || f = 6 || f = 3 || f = 4 || f = 9
def r2 (f : Int) : Bool := f = 2 || f = 5 || f = 6
def wf (f : Int) : Bool := !(f = 0 || f = 1 || f = 5 || f = 6)
def wr (f d : Int) : Bool := wf f && d != 0
def sl (o : Int) : Int := if o < 38 then 0 else if o ≤ 41 then 1 else if o ≤ 45 then 2 else 0
theorem fm_is (o : Int) : fm o = 0 ∨ fm o = 1 ∨ fm o = 2 ∨ fm o = 3 ∨ fm o = 4 ∨ fm o = 5 ∨ fm o = 6 ∨ fm o = 7 ∨ fm o = 8 ∨ (fm o = 9 ∧ o ≤ 52) ∨ (fm o = 10 ∧ 52 < o) := by
  have := fm_parts o
  omega
theorem sl_parts (o : Int) : (o < 38 ∧ sl o = 0) ∨ (o = 38 ∧ sl o = 1) ∨ (o = 39 ∧ sl o = 1) ∨ (o = 40 ∧ sl o = 1) ∨ (o = 41 ∧ sl o = 1) ∨ (o = 42 ∧ sl o = 2) ∨ (o = 43 ∧ sl o = 2) ∨ (o = 44 ∧ sl o = 2) ∨ (o = 45 ∧ sl o = 2) ∨ (45 < o ∧ sl o = 0) := by
  unfold sl
  omega
end Go.Proofs.YtlnliiihcajboaaDoor.Num
namespace Go.Proofs.YtlnliiihcajboaaDoor.Walks
open Go.ChangeShapes Go.WideShapes Go.ChangeAt Go.RowKit
set_option linter.unusedVariables false
theorem hideP {p : Prop} (h : p) : Hid p := h
abbrev cells (o d a b n : Int) : Array Value := #[.int .i64 o, .int .i64 d, .int .i64 a, .int .i64 b, .int .i32 n]
end Go.Proofs.YtlnliiihcajboaaDoor.Walks
