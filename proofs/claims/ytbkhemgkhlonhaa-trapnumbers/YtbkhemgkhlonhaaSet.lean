/- Frames: a store into a block that is new. -/
import Derived.Test.YtbkhemgkhlonhaaMem
namespace Go.Proofs.Ytbkhemgkhlonhaa.Walks
open Go.ChangeShapes Go.WideShapes Go.ChangeAt Go.RowKit
theorem Fr.setCell {u w : World} (h : Fr u w) {a : Addr} (ha : u.heap.size ≤ a.block) (v : Value) : Fr u (w.setCell a v) :=
  ⟨h.os, h.output, by rw [World.size_setCell]; exact h.size, fun k hk => (Below.heap_setCell _ _ _ k (by omega)).trans (h.block k hk)⟩
theorem box_cell (w w' : World) (c : Array Value) (t : TypeId) (F : Fr (w.alloc (.cells c t)) w') (k : Nat) : w'.cell? ⟨w.heap.size, k, none⟩ = c[k]? := by
  rw [F.cell _ _ (by simp), World.cell?_alloc_at _ _ _ _ rfl]
  try rfl
end Go.Proofs.Ytbkhemgkhlonhaa.Walks
