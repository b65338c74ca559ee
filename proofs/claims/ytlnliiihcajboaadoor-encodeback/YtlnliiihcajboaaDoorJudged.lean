/- Contract of the laws' own judged: it returns true. -/
import Derived.Test.YtlnliiihcajboaaDoorJudge
import Derived.Test.YtlnliiihcajboaaDoorMem

namespace Go.Proofs.YtlnliiihcajboaaDoor.Walks
open Go.ChangeShapes Go.WideShapes Go.ChangeAt Go.RowKit
set_option linter.unusedVariables false
theorem box_cell (w w' : World) (c : Array Value) (t : TypeId) (F : Fr (w.alloc (.cells c t)) w') (k : Nat) : w'.cell? ⟨w.heap.size, k, none⟩ = c[k]? := by
  rw [F.cell _ _ (by simp), World.cell?_alloc_at _ _ _ _ rfl]
  try rfl
theorem box5 (w w' : World) (o d a b n : Int) (F : Fr (w.alloc (.cells (cells o d a b n) 27)) w') :
    w'.cell? ⟨w.heap.size, 0, none⟩ = some (.int .i64 o) ∧ w'.cell? ⟨w.heap.size, 1, none⟩ = some (.int .i64 d) ∧ w'.cell? ⟨w.heap.size, 2, none⟩ = some (.int .i64 a) ∧ w'.cell? ⟨w.heap.size, 3, none⟩ = some (.int .i64 b) ∧ w'.cell? ⟨w.heap.size, 4, none⟩ = some (.int .i32 n) :=
  ⟨box_cell w w' _ 27 F 0, box_cell w w' _ 27 F 1, box_cell w w' _ 27 F 2, box_cell w w' _ 27 F 3, box_cell w w' _ 27 F 4⟩
end Go.Proofs.YtlnliiihcajboaaDoor.Walks
