/- Small words; contract of the document's own bit. -/
import Derived.Test.YtbedgfobbnonjaaNums
namespace Go.Proofs.Ytbedgfobbnonjaa.Walks
open Go.ChangeShapes Go.WideShapes Go.ChangeAt Go.RowKit
theorem ret_int {k : IntKind} {a b : Int} (h : a = b) : Ending.returned (.int k a) = .returned (.int k b) := by rw [h]
theorem ret_bool {a b : Bool} (h : a = b) : Ending.returned (.bool a) = .returned (.bool b) := by rw [h]
theorem rbit_as (c : Bool) (w : World) : Calls Try.prog 23 #[.bool c] w fun e w' => e = .returned (.int .u32 (Num.one c)) ∧ w' = w := by
  cases c
  all_goals
    go_enter Try.func23, Try.ntmps23
    go_wp2
    go_ret
    exact ⟨rfl, rfl⟩
end Go.Proofs.Ytbedgfobbnonjaa.Walks
