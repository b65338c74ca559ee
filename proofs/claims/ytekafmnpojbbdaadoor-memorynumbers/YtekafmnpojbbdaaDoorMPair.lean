/- Two memories side by side: the program's and the document's. Asks that lie in memory. -/
import Derived.Test.YtekafmnpojbbdaaDoorMNums
namespace Go.Proofs.YtekafmnpojbbdaaDoor.Walks
open Go.ChangeShapes Go.WideShapes Go.ChangeAt Go.RowKit
set_option linter.unusedVariables false
/-- the program's memory lies from B to C on, the document's from C on -/
structure MPair (B C M b d M' b' d' : Nat) (ws : Nat → Nat) (f nx : Nat) (ws' : Nat → Nat) (f' nx' : Nat) (w wr : World) : Prop where
  r1 : MemAt M b d ws f nx wr
  r2 : MemAt M' b' d' ws' f' nx' wr
  fr : FrB B w wr
  l1 : B ≤ M ∧ B ≤ b ∧ B ≤ d
  l2 : M < C ∧ b < C ∧ d < C
  l3 : C ≤ M' ∧ C ≤ b' ∧ C ≤ d'
  l4 : M' < wr.heap.size ∧ b' < wr.heap.size ∧ d' < wr.heap.size
section
variable {B C M b d M' b' d' f nx f' nx' g gx : Nat} {ws ws' vs : Nat → Nat} {w wr w2 : World}
theorem MPair.lay {w1 : World} (h : MFresh B M b d ws f nx w w1) (k : MFresh w1.heap.size M' b' d' ws' f' nx' w1 w2) (hB : B ≤ w1.heap.size) : MPair B w1.heap.size M b d M' b' d' ws f nx ws' f' nx' w w2 := by
  obtain ⟨a1, a2, a3, a4, a5, a6⟩ := h
  obtain ⟨c1, c2, c3, c4, c5, c6⟩ := k
  exact ⟨a1.frb c2 a4 a5 a6, c1, a2.trans (c2.mono hB), a3, ⟨a4, a5, a6⟩, c3, ⟨c4, c5, c6⟩⟩
theorem MPair.now1 (h : MPair B C M b d M' b' d' ws f nx ws' f' nx' w wr) (k : MNow M b d vs g gx wr w2) : MPair B C M b d M' b' d' vs g gx ws' f' nx' w w2 := by
  obtain ⟨r1, r2, fr, l1, l2, l3, l4⟩ := h
  have s := k.2.size
  refine ⟨k.1, r2.far k.2 ?_ ?_ ?_ ?_ ?_ ?_ ?_ ?_ ?_, fr.trans (FrB.tou k.2 l1.1 l1.2.1 l1.2.2), l1, l2, l3, by rw [s]; exact l4⟩ <;> omega
theorem MPair.now2 (h : MPair B C M b d M' b' d' ws f nx ws' f' nx' w wr) (k : MNow M' b' d' vs g gx wr w2) : MPair B C M b d M' b' d' ws f nx vs g gx w w2 := by
  obtain ⟨r1, r2, fr, l1, l2, l3, l4⟩ := h
  have s := k.2.size
  refine ⟨r1.far k.2 ?_ ?_ ?_ ?_ ?_ ?_ ?_ ?_ ?_, k.1, fr.trans (FrB.tou k.2 (by omega) (by omega) (by omega)), l1, l2, l3, by rw [s]; exact l4⟩ <;> omega
theorem MPair.alike (h : MPair B C M b d M' b' d' ws f nx ws' f' nx' w wr) (k : w2.Alike wr) : MPair B C M b d M' b' d' ws f nx ws' f' nx' w w2 := h.now1 (h.r1.alike k)
theorem MPair.past (h : MPair B C M b d M' b' d' ws f nx ws' f' nx' w wr) (t : FrB wr.heap.size wr w2) (hB : B ≤ wr.heap.size) : MPair B C M b d M' b' d' ws f nx ws' f' nx' w w2 := by
  obtain ⟨r1, r2, fr, l1, l2, l3, l4⟩ := h
  have s := t.size
  exact ⟨r1.frb t (by omega) (by omega) (by omega), r2.frb t l4.1 l4.2.1 l4.2.2, fr.trans (t.mono hB), l1, l2, l3, by omega⟩
theorem MPair.alloc (h : MPair B C M b d M' b' d' ws f nx ws' f' nx' w wr) (o : Obj) (hB : B ≤ wr.heap.size) : MPair B C M b d M' b' d' ws f nx ws' f' nx' w (wr.alloc o) := h.past (FrB.alloc wr o) hB
theorem MPair.laid (h : MPair B C M b d M' b' d' ws f nx ws' f' nx' w wr) (hL : Laid w) (hB : 0 < B) : Laid wr := h.fr.laid hL hB
theorem MPair.old (h : MPair B C M b d M' b' d' ws f nx ws' f' nx' w wr) : (M < wr.heap.size ∧ b < wr.heap.size ∧ d < wr.heap.size) ∧ M' < wr.heap.size ∧ b' < wr.heap.size ∧ d' < wr.heap.size := by
  obtain ⟨r1, r2, fr, l1, l2, l3, l4⟩ := h
  exact ⟨by omega, l4⟩
/-- a cell of a block that is none of a memory's is as it was -/
theorem MNow.cell {x : Nat} (k : MNow M b d vs g gx wr w2) (o : Nat) (h : x ≠ M ∧ x ≠ b ∧ x ≠ d) : w2.cell? ⟨x, o, none⟩ = wr.cell? ⟨x, o, none⟩ := k.2.cell x o h.1 h.2.1 h.2.2
theorem MNow.celld {x : Nat} (k : MNow M b d vs g gx wr.drew w2) (o : Nat) (h : x ≠ M ∧ x ≠ b ∧ x ≠ d) : w2.cell? ⟨x, o, none⟩ = wr.cell? ⟨x, o, none⟩ := k.2.cell x o h.1 h.2.1 h.2.2
theorem MPair.now1d (h : MPair B C M b d M' b' d' ws f nx ws' f' nx' w wr) (k : MNow M b d vs g gx wr.drew w2) : MPair B C M b d M' b' d' vs g gx ws' f' nx' w w2 := h.now1 k.drew
end
/-- the asks lie in memory -/
def AsksIn (w : World) (A : Option Addr) (len : Nat) (kd nn : Nat → Int) (aa dd : Nat → Int) : Prop :=
  ∀ j, j < len → ∃ b o, A = some ⟨b, o, none⟩ ∧ b < w.heap.size ∧ w.cell? ⟨b, o + j * 4, none⟩ = some (.int .i64 (kd j)) ∧ w.cell? ⟨b, o + j * 4 + 1, none⟩ = some (.int .i64 (nn j)) ∧
    w.cell? ⟨b, o + j * 4 + 2, none⟩ = some (.int .u32 (aa j)) ∧ w.cell? ⟨b, o + j * 4 + 3, none⟩ = some (.int .u32 (dd j)) ∧ 0 ≤ aa j ∧ aa j < 4294967296 ∧ 0 ≤ dd j ∧ dd j < 4294967296
theorem AsksIn.frb {w w' : World} {A : Option Addr} {len : Nat} {kd nn aa dd : Nat → Int} (h : AsksIn w A len kd nn aa dd) (f : FrB w.heap.size w w') : AsksIn w' A len kd nn aa dd := by
  intro j hj
  obtain ⟨b, o, e, hb, c0, c1, c2, c3, r⟩ := h j hj
  exact ⟨b, o, e, Nat.lt_of_lt_of_le hb f.size, by rw [f.cell _ _ hb]; exact c0, by rw [f.cell _ _ hb]; exact c1, by rw [f.cell _ _ hb]; exact c2, by rw [f.cell _ _ hb]; exact c3, r⟩
end Go.Proofs.YtekafmnpojbbdaaDoor.Walks
