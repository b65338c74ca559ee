/- Contracts of the program's small functions, and of the document's own Size and Fits. -/
import Derived.Test.YtedcamljgnblmaaAlNums
namespace Go.Proofs.Ytedcamljgnblmaa.Al.Walks
open Go.ChangeShapes Go.WideShapes Go.ChangeAt Go.RowKit
set_option linter.unusedVariables false
theorem ret_int {k : IntKind} {a b : Int} (h : a = b) : Ending.returned (.int k a) = .returned (.int k b) := by rw [h]
theorem ret_bool {a b : Bool} (h : a = b) : Ending.returned (.bool a) = .returned (.bool b) := by rw [h]
end Go.Proofs.Ytedcamljgnblmaa.Al.Walks
