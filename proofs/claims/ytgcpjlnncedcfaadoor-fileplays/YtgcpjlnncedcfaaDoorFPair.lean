/- The program's file and the document's row side by side; both behind one call each. -/
import Derived.Test.YtgcpjlnncedcfaaDoorAll
import Derived.Test.YtgcpjlnncedcfaaDoorPair
namespace Go.Proofs.YtgcpjlnncedcfaaDoor.Walks
open Go.ChangeShapes Go.WideShapes Go.ChangeAt Go.RowKit
set_option linter.unusedVariables false
/-- the program's file lies from B to C on, the document's row from C on -/
structure FPair (B C M b d b' d' : Nat) (ws : Nat → Nat) (f nx : Nat) (ws' : Nat → Nat) (f' : Nat) (w wr : World) : Prop where
  r1 : MemAt M b d ws f nx wr
  r2 : RowAt b' d' 31 ws' f' wr
  fr : FrB B w wr
  l1 : B ≤ M ∧ B ≤ b ∧ B ≤ d
  l2 : M < C ∧ b < C ∧ d < C
  l3 : C ≤ b' ∧ C ≤ d'
  l4 : b' < wr.heap.size ∧ d' < wr.heap.size
section
variable {B C M b d b' d' f nx f' g gx : Nat} {ws ws' vs : Nat → Nat} {w wr w2 : World}
theorem FPair.lay {w1 : World} (h : MFresh B M b d ws f nx w w1) (k : Fresh w1.heap.size b' d' 31 ws' f' w1 w2) (hB : B ≤ w1.heap.size) : FPair B w1.heap.size M b d b' d' ws f nx ws' f' w w2 := by
  obtain ⟨a1, a2, a3, a4, a5, a6⟩ := h
  obtain ⟨c1, c2, c3, c4, c5, c6⟩ := k
  exact ⟨a1.frb c2 a4 a5 a6, c1, a2.trans (c2.mono hB), a3, ⟨a4, a5, a6⟩, ⟨c3, c4⟩, c5, c6⟩
theorem FPair.now1 (h : FPair B C M b d b' d' ws f nx ws' f' w wr) (k : MNow M b d vs g gx wr w2) : FPair B C M b d b' d' vs g gx ws' f' w w2 := by
  obtain ⟨r1, r2, fr, l1, l2, l3, l4⟩ := h
  have s := k.2.size
  exact ⟨k.1, r2.of_blocks (k.2.block _ (by omega) (by omega) (by omega)) (k.2.block _ (by omega) (by omega) (by omega)), fr.trans (FrB.tou k.2 l1.1 l1.2.1 l1.2.2), l1, l2, l3, by rw [s]; exact l4⟩
theorem FPair.now2 (h : FPair B C M b d b' d' ws f nx ws' f' w wr) (k : Now b' d' 31 vs g wr w2) : FPair B C M b d b' d' ws f nx vs g w w2 := by
  obtain ⟨r1, r2, fr, l1, l2, l3, l4⟩ := h
  have s := k.2.size
  exact ⟨r1.of_blocks (k.2.block _ (by omega) (by omega)) (k.2.block _ (by omega) (by omega)) (k.2.block _ (by omega) (by omega)), k.1, fr.trans (FrB.touch k.2 (by omega) (by omega)), l1, l2, l3, by rw [s]; exact l4⟩
theorem FPair.alike (h : FPair B C M b d b' d' ws f nx ws' f' w wr) (k : w2.Alike wr) : FPair B C M b d b' d' ws f nx ws' f' w w2 := h.now1 (h.r1.alike k)
theorem FPair.past (h : FPair B C M b d b' d' ws f nx ws' f' w wr) (t : FrB wr.heap.size wr w2) (hB : B ≤ wr.heap.size) : FPair B C M b d b' d' ws f nx ws' f' w w2 := by
  obtain ⟨r1, r2, fr, l1, l2, l3, l4⟩ := h
  have s := t.size
  exact ⟨r1.frb t (by omega) (by omega) (by omega), r2.frb t l4.1 l4.2, fr.trans (t.mono hB), l1, l2, l3, by omega⟩
theorem FPair.alloc (h : FPair B C M b d b' d' ws f nx ws' f' w wr) (o : Obj) (hB : B ≤ wr.heap.size) : FPair B C M b d b' d' ws f nx ws' f' w (wr.alloc o) := h.past (FrB.alloc wr o) hB
theorem FPair.laid (h : FPair B C M b d b' d' ws f nx ws' f' w wr) (hL : Laid w) (hB : 0 < B) : Laid wr := h.fr.laid hL hB
theorem FPair.old (h : FPair B C M b d b' d' ws f nx ws' f' w wr) : (M < wr.heap.size ∧ b < wr.heap.size ∧ d < wr.heap.size) ∧ b' < wr.heap.size ∧ d' < wr.heap.size := by
  obtain ⟨r1, r2, fr, l1, l2, l3, l4⟩ := h
  exact ⟨by omega, l4⟩
/-- a block A of its own, behind all: what is turned in it turns neither -/
theorem FPair.arr {A : Nat} (h : FPair B C M b d b' d' ws f nx ws' f' w wr) (t : TouA A wr w2) (hA : B ≤ A ∧ A ≠ M ∧ A ≠ b ∧ A ≠ d ∧ A ≠ b' ∧ A ≠ d') : FPair B C M b d b' d' ws f nx ws' f' w w2 := by
  obtain ⟨r1, r2, fr, l1, l2, l3, l4⟩ := h
  obtain ⟨h0, h1, h2, h3, h4, h5⟩ := hA
  exact ⟨r1.of_blocks (t.block _ h1.symm) (t.block _ h2.symm) (t.block _ h3.symm), r2.of_blocks (t.block _ h4.symm) (t.block _ h5.symm), fr.trans (FrB.toua t h0), l1, l2, l3, by rw [t.size]; exact l4⟩
theorem FPair.off (h : FPair B C M b d b' d' ws f nx ws' f' w wr) : wr.heap.size ≠ M ∧ wr.heap.size ≠ b ∧ wr.heap.size ≠ d ∧ wr.heap.size ≠ b' ∧ wr.heap.size ≠ d' := by
  have := h.old
  omega
/-- a cell of a block that is none of a file's is as it was -/
theorem MNow.cell {x : Nat} (k : MNow M b d vs g gx wr w2) (o : Nat) (h : x ≠ M ∧ x ≠ b ∧ x ≠ d) : w2.cell? ⟨x, o, none⟩ = wr.cell? ⟨x, o, none⟩ := k.2.cell x o h.1 h.2.1 h.2.2
theorem MNow.celld {x : Nat} (k : MNow M b d vs g gx wr.drew w2) (o : Nat) (h : x ≠ M ∧ x ≠ b ∧ x ≠ d) : w2.cell? ⟨x, o, none⟩ = wr.cell? ⟨x, o, none⟩ := k.2.cell x o h.1 h.2.1 h.2.2
theorem FPair.now1d (h : FPair B C M b d b' d' ws f nx ws' f' w wr) (k : MNow M b d vs g gx wr.drew w2) : FPair B C M b d b' d' vs g gx ws' f' w w2 := h.now1 k.drew
end
end Go.Proofs.YtgcpjlnncedcfaaDoor.Walks
