/- Frames: a store into a block that is new. -/
import Derived.Test.YtedcamljgnblmaaMem
namespace Go.Proofs.Ytedcamljgnblmaa.Walks
open Go.ChangeShapes Go.WideShapes Go.ChangeAt Go.RowKit
theorem Fr.setCell {u w : World} (h : Fr u w) {a : Addr} (ha : u.heap.size ≤ a.block) (v : Value) : Fr u (w.setCell a v) :=
  ⟨h.os, h.output, by rw [World.size_setCell]; exact h.size, fun k hk => (Below.heap_setCell _ _ _ k (by omega)).trans (h.block k hk)⟩
end Go.Proofs.Ytedcamljgnblmaa.Walks
