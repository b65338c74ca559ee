/- Two rows side by side: the program's and the document's. -/
import Derived.Test.YtfhijdnbhbonpaaDoorRefAs
namespace Go.Proofs.YtfhijdnbhbonpaaDoor.Walks
open Go.ChangeShapes Go.WideShapes Go.ChangeAt Go.RowKit
set_option linter.unusedVariables false
structure Pair (B b d b' d' n : Nat) (ws : Nat → Nat) (f : Nat) (ws' : Nat → Nat) (f' : Nat) (w wr : World) : Prop where
  r1 : RowAt b d n ws f wr
  r2 : RowAt b' d' n ws' f' wr
  fr : FrB B w wr
  l1 : B ≤ b
  l2 : B ≤ d
  l3 : B ≤ b'
  l4 : B ≤ d'
  u1 : b < wr.heap.size
  u2 : d < wr.heap.size
  u3 : b' < wr.heap.size
  u4 : d' < wr.heap.size
  n1 : b ≠ b'
  n2 : b ≠ d'
  n3 : d ≠ b'
  n4 : d ≠ d'
section
variable {B b d b' d' n f f' g : Nat} {ws ws' vs : Nat → Nat} {w wr w2 : World}
theorem Pair.now1 (h : Pair B b d b' d' n ws f ws' f' w wr) (k : Now b d n vs g wr w2) : Pair B b d b' d' n vs g ws' f' w w2 :=
  ⟨k.1, h.r2.far k.2 h.n1.symm h.n3.symm h.n2.symm h.n4.symm, h.fr.trans (FrB.touch k.2 h.l1 h.l2), h.l1, h.l2, h.l3, h.l4, by rw [k.2.size]; exact h.u1, by rw [k.2.size]; exact h.u2, by rw [k.2.size]; exact h.u3, by rw [k.2.size]; exact h.u4, h.n1, h.n2, h.n3, h.n4⟩
theorem Pair.now2 (h : Pair B b d b' d' n ws f ws' f' w wr) (k : Now b' d' n vs g wr w2) : Pair B b d b' d' n ws f vs g w w2 :=
  ⟨h.r1.far k.2 h.n1 h.n2 h.n3 h.n4, k.1, h.fr.trans (FrB.touch k.2 h.l3 h.l4), h.l1, h.l2, h.l3, h.l4, by rw [k.2.size]; exact h.u1, by rw [k.2.size]; exact h.u2, by rw [k.2.size]; exact h.u3, by rw [k.2.size]; exact h.u4, h.n1, h.n2, h.n3, h.n4⟩
theorem Pair.alike (h : Pair B b d b' d' n ws f ws' f' w wr) (k : w2.Alike wr) : Pair B b d b' d' n ws f ws' f' w w2 := h.now1 (Now.alike h.r1 k)
theorem Pair.alloc (h : Pair B b d b' d' n ws f ws' f' w wr) (o : Obj) (hB : B ≤ wr.heap.size) : Pair B b d b' d' n ws f ws' f' w (wr.alloc o) := by
  have s : (wr.alloc o).heap.size = wr.heap.size + 1 := by simp
  have := h.u1; have := h.u2; have := h.u3; have := h.u4
  exact ⟨h.r1.frb (FrB.alloc wr o) h.u1 h.u2, h.r2.frb (FrB.alloc wr o) h.u3 h.u4, h.fr.trans ((FrB.alloc wr o).mono hB), h.l1, h.l2, h.l3, h.l4, by omega, by omega, by omega, by omega, h.n1, h.n2, h.n3, h.n4⟩
theorem Pair.laid (h : Pair B b d b' d' n ws f ws' f' w wr) (hL : Laid w) (hB : 0 < B) : Laid wr := h.fr.laid hL hB
theorem Pair.mk2 {w1 w2 : World} (h : Fresh B b d n ws f w w1) (k : Fresh w1.heap.size b' d' n ws' f' w1 w2) (hB : B ≤ w1.heap.size) : Pair B b d b' d' n ws f ws' f' w w2 := by
  obtain ⟨a1, a2, a3, a4, a5, a6⟩ := h
  obtain ⟨c1, c2, c3, c4, c5, c6⟩ := k
  have := c2.size
  exact ⟨a1.frb c2 a5 a6, c1, a2.trans (c2.mono hB), a3, a4, by omega, by omega, by omega, by omega, c5, c6, by omega, by omega, by omega, by omega⟩
theorem Pair.now1d (h : Pair B b d b' d' n ws f ws' f' w wr) (k : Now b d n vs g wr.drew w2) : Pair B b d b' d' n vs g ws' f' w w2 := (h.alike (w2 := wr.drew) ⟨rfl, rfl, rfl⟩).now1 k
theorem Now.celld {x : Nat} (k : Now b d n vs g wr.drew w2) (o : Nat) (h1 : x ≠ b) (h2 : x ≠ d) : w2.cell? ⟨x, o, none⟩ = wr.cell? ⟨x, o, none⟩ := k.2.cell x o h1 h2
/-- a cell of a block that is none of the rows' is as it was -/
theorem Now.cell {x : Nat} (k : Now b d n vs g wr w2) (o : Nat) (h1 : x ≠ b) (h2 : x ≠ d) : w2.cell? ⟨x, o, none⟩ = wr.cell? ⟨x, o, none⟩ := k.2.cell x o h1 h2
theorem cell_alike (k : w2.Alike wr) (x o : Nat) : w2.cell? ⟨x, o, none⟩ = wr.cell? ⟨x, o, none⟩ := World.cell?_of_block (w := wr) (by rw [k.1])
end
/-- a number of 64 bits -/
def In64 (z : Int) : Prop := -9223372036854775808 ≤ z ∧ z ≤ 9223372036854775807
/-- the asks lie in memory -/
def AsksIn (w : World) (A : Option Addr) (len : Nat) (kd ix : Nat → Int) (nn : Nat → Int) : Prop :=
  ∀ j, j < len → ∃ b o, A = some ⟨b, o, none⟩ ∧ b < w.heap.size ∧ w.cell? ⟨b, o + j * 3, none⟩ = some (.int .i64 (kd j)) ∧ w.cell? ⟨b, o + j * 3 + 1, none⟩ = some (.int .i64 (ix j)) ∧ w.cell? ⟨b, o + j * 3 + 2, none⟩ = some (.int .u32 (nn j)) ∧ 0 ≤ nn j ∧ nn j < 4294967296 ∧ In64 (ix j)
end Go.Proofs.YtfhijdnbhbonpaaDoor.Walks
