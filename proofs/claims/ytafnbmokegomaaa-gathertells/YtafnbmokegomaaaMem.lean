/-
  Frames: what a call that makes memory alone leaves as it was.
-/
import Derived.Test.YtafnbmokegomaaaRows
import Derived.WalkKit
import Derived.ProofKit
import Derived.Below
import Derived.Carry
import Derived.Laws.NewBlocks
namespace Go.Proofs.Ytafnbmokegomaaa.Walks
open Go.ChangeShapes Go.WideShapes Go.ChangeAt Go.RowKit
/-- no block that was there has turned -/
structure Fr (w w' : World) : Prop where
  os : w'.os = w.os
  output : w'.output = w.output
  size : w.heap.size ≤ w'.heap.size
  block : ∀ k, k < w.heap.size → w'.heap[k]? = w.heap[k]?
theorem Fr.refl (w : World) : Fr w w := ⟨rfl, rfl, Nat.le_refl _, fun _ _ => rfl⟩
theorem Fr.trans {u v w : World} (h : Fr u v) (k : Fr v w) : Fr u w :=
  ⟨k.os.trans h.os, k.output.trans h.output, Nat.le_trans h.size k.size, fun i hi => (k.block i (Nat.lt_of_lt_of_le hi h.size)).trans (h.block i hi)⟩
theorem Fr.alloc {u w : World} (h : Fr u w) (o : Obj) : Fr u (w.alloc o) := h.trans ⟨rfl, rfl, by simp, fun k hk => Below.heap_alloc _ _ _ hk⟩
theorem Fr.drew {u w : World} (h : Fr u w) : Fr u w.drew := ⟨h.os, h.output, h.size, h.block⟩
theorem Fr.alike {u w w' : World} (h : Fr u w) (k : w'.Alike w) : Fr u w' := ⟨k.2.1.trans h.os, k.2.2.trans h.output, by rw [k.1]; exact h.size, fun i hi => by rw [k.1]; exact h.block i hi⟩
theorem Fr.cell {w w' : World} (h : Fr w w') (k o : Nat) (hk : k < w.heap.size) : w'.cell? ⟨k, o, none⟩ = w.cell? ⟨k, o, none⟩ := World.cell?_of_block (w := w) (h.block k hk)
theorem Fr.frozen {w w' : World} (h : Fr w w') (k o : Nat) (hk : k < w.heap.size) : w'.frozen? ⟨k, o, none⟩ = w.frozen? ⟨k, o, none⟩ := World.frozen?_of_block (w := w) (h.block k hk)
theorem Fr.kept {W W' : World} (h : Fr W W') (may : MemPlace → Prop) : W.keptBut W' may := by
  refine ⟨h.os, h.output, fun i hi => ?_⟩
  rw [h.block i hi]
  split <;> simp_all
theorem Fr.same {W w' : World} (h : Fr W w') {p : MemPlace} (hp : p.block < W.heap.size) : W.sameAt w' p := by
  cases p with
  | cell b o => exact World.cell?_of_block (w := W) (h.block b hp)
  | map b => exact h.block b hp
theorem Fr.trod {H : Type} {enc : TypeId × Value → H} {P : Program} {t : TypeId} (hl : laidOutB P = true) (hr : P.readableRec t = true) (hrow : t < P.types.size) {W W' : World} {v : Value} {d : DataW H} {ps : List MemPlace}
    (h : DataW.Trod enc P W 0 (fun _ => true) true t v d ps) (hb : Fr W W') (hlt : ∀ x ∈ ps, x.block < W.heap.size) :
    DataW.Trod enc P W' 0 (fun b => decide (b < W.heap.size)) true t v d ps :=
  WideElems.Trod_stays hl hr hrow h (fun x hx => hb.same (hlt x hx)) (fun x hx => by simpa using hlt x hx)
end Go.Proofs.Ytafnbmokegomaaa.Walks
