/- What a memory is in a world (the program's and the document's have one form), and frames. -/
import Derived.Test.YtfhijdnbhbonpaaDoorKnown
import Derived.Test.YtfhijdnbhbonpaaDoorRefAs
namespace Go.Proofs.YtfhijdnbhbonpaaDoor.Walks
open Go.ChangeShapes Go.WideShapes Go.ChangeAt Go.RowKit
set_option linter.unusedVariables false
/-- a memory lies at M: its row's pointer, where the next scrub begins; the row at b, its words at d -/
structure MemAt (M b d : Nat) (ws : Nat → Nat) (f nx : Nat) (w : World) : Prop where
  hr : w.cell? ⟨M, 0, none⟩ = some (.pointer (some ⟨b, 0, none⟩))
  hx : w.cell? ⟨M, 1, none⟩ = some (.int .i64 nx)
  zx : w.frozen? ⟨M, 1, none⟩ = false
  row : RowAt b d 79 ws f w
  nb : M ≠ b
  nd : M ≠ d
  lt : nx < 1024
/-- nothing but the blocks M, b and d has turned -/
structure Tou (M b d : Nat) (w w' : World) : Prop where
  os : w'.os = w.os
  output : w'.output = w.output
  size : w'.heap.size = w.heap.size
  block : ∀ k, k ≠ M → k ≠ b → k ≠ d → w'.heap[k]? = w.heap[k]?
theorem Tou.refl (M b d : Nat) (w : World) : Tou M b d w w := ⟨rfl, rfl, rfl, fun _ _ _ _ => rfl⟩
theorem Tou.of {b d : Nat} {w w' : World} (M : Nat) (h : Touch b d w w') : Tou M b d w w' := ⟨h.os, h.output, h.size, fun k _ h1 h2 => h.block k h1 h2⟩
theorem Tou.alike {M b d : Nat} {w w' : World} (h : w'.Alike w) : Tou M b d w w' := ⟨h.2.1, h.2.2, by rw [h.1], fun _ _ _ _ => by rw [h.1]⟩
theorem Tou.trans {M b d : Nat} {u v w : World} (h : Tou M b d u v) (k : Tou M b d v w) : Tou M b d u w :=
  ⟨k.os.trans h.os, k.output.trans h.output, k.size.trans h.size, fun i h0 h1 h2 => (k.block i h0 h1 h2).trans (h.block i h0 h1 h2)⟩
theorem Tou.cell {M b d : Nat} {w w' : World} (h : Tou M b d w w') (k o : Nat) (h0 : k ≠ M) (h1 : k ≠ b) (h2 : k ≠ d) : w'.cell? ⟨k, o, none⟩ = w.cell? ⟨k, o, none⟩ := World.cell?_of_block (w := w) (h.block k h0 h1 h2)
theorem Tou.frozen {M b d : Nat} {w w' : World} (h : Tou M b d w w') (k o : Nat) (h0 : k ≠ M) (h1 : k ≠ b) (h2 : k ≠ d) : w'.frozen? ⟨k, o, none⟩ = w.frozen? ⟨k, o, none⟩ := World.frozen?_of_block (w := w) (h.block k h0 h1 h2)
theorem Tou.set (M b d : Nat) (w : World) (o : Nat) (v : Value) : Tou M b d w (w.setCell ⟨M, o, none⟩ v) :=
  ⟨rfl, rfl, by simp [World.setCell], fun k h _ _ => Below.heap_setCell _ _ _ _ h⟩
theorem FrB.tou {B M b d : Nat} {w w' : World} (h : Tou M b d w w') (hM : B ≤ M) (hb : B ≤ b) (hd : B ≤ d) : FrB B w w' := ⟨h.os, h.output, by rw [h.size]; exact Nat.le_refl _, fun k hk => h.block k (by omega) (by omega) (by omega)⟩
theorem Tou.laid {M b d : Nat} {w w' : World} (h : Tou M b d w w') (hL : Laid w) (h0 : 0 ≠ M) (h1 : 0 ≠ b) (h2 : 0 ≠ d) : Laid w' := by
  obtain ⟨t, fr, hg⟩ := hL
  exact ⟨t, fr, by rw [h.block 0 h0 h1 h2]; exact hg⟩
section
variable {M b d f nx f' nx' B : Nat} {ws ws' : Nat → Nat} {w v w' : World}
theorem MemAt.frb (h : MemAt M b d ws f nx w) (t : FrB B w w') (h0 : M < B) (h1 : b < B) (h2 : d < B) : MemAt M b d ws f nx w' :=
  ⟨by rw [t.cell _ _ h0]; exact h.hr, by rw [t.cell _ _ h0]; exact h.hx, by rw [t.frozen _ _ h0]; exact h.zx, h.row.frb t h1 h2, h.nb, h.nd, h.lt⟩
theorem MemAt.far {M' b' d' : Nat} (h : MemAt M b d ws f nx w) (t : Tou M' b' d' w w') (a0 : M ≠ M') (a1 : M ≠ b') (a2 : M ≠ d') (c0 : b ≠ M') (c1 : b ≠ b') (c2 : b ≠ d') (e0 : d ≠ M') (e1 : d ≠ b') (e2 : d ≠ d') : MemAt M b d ws f nx w' :=
  ⟨by rw [t.cell _ _ a0 a1 a2]; exact h.hr, by rw [t.cell _ _ a0 a1 a2]; exact h.hx, by rw [t.frozen _ _ a0 a1 a2]; exact h.zx,
   ⟨by rw [t.cell _ _ c0 c1 c2]; exact h.row.hs, by rw [t.cell _ _ c0 c1 c2]; exact h.row.hf, fun i hi => by rw [t.cell _ _ e0 e1 e2]; exact h.row.hw i hi,
    by rw [t.frozen _ _ c0 c1 c2]; exact h.row.z1, fun i hi => by rw [t.frozen _ _ e0 e1 e2]; exact h.row.zw i hi, h.row.ne, h.row.lt⟩, h.nb, h.nd, h.lt⟩
/-- a memory that was told of is as it says, and nothing else has turned -/
def MNow (M b d : Nat) (ws : Nat → Nat) (f nx : Nat) (w w' : World) : Prop := MemAt M b d ws f nx w' ∧ Tou M b d w w'
theorem MemAt.row_now (h : MemAt M b d ws f nx w) (k : Now b d 79 ws' f' w w') : MNow M b d ws' f' nx w w' :=
  ⟨⟨by rw [k.2.cell _ _ h.nb h.nd]; exact h.hr, by rw [k.2.cell _ _ h.nb h.nd]; exact h.hx, by rw [k.2.frozen _ _ h.nb h.nd]; exact h.zx, k.1, h.nb, h.nd, h.lt⟩, Tou.of M k.2⟩
theorem MemAt.alike (h : MemAt M b d ws f nx w) (k : w'.Alike w) : MNow M b d ws f nx w w' := h.row_now (Now.alike h.row k)
theorem MNow.refl (h : MemAt M b d ws f nx w) : MNow M b d ws f nx w w := ⟨h, Tou.refl _ _ _ _⟩
theorem MNow.trans (h : MNow M b d ws f nx w v) (k : MNow M b d ws' f' nx' v w') : MNow M b d ws' f' nx' w w' := ⟨k.1, h.2.trans k.2⟩
theorem MemAt.go (h : MemAt M b d ws f nx w) (g : Nat) (hg : g < 1024) : MNow M b d ws f g w (w.setCell ⟨M, 1, none⟩ (.int .i64 (g : Int))) := by
  have t := Tou.set M b d w 1 (.int .i64 (g : Int))
  have nb : ∀ o, (⟨M, 1, none⟩ : Addr) ≠ ⟨b, o, none⟩ := fun o e => h.nb (by injection e)
  have nd : ∀ o, (⟨M, 1, none⟩ : Addr) ≠ ⟨d, o, none⟩ := fun o e => h.nd (by injection e)
  refine ⟨⟨by rw [set_other (by intro e; injection e with _ e; exact absurd e (by decide))]; exact h.hr, set_same h.hx, by simpa using h.zx,
    ⟨by rw [set_other (nb 0)]; exact h.row.hs, by rw [set_other (nb 1)]; exact h.row.hf, fun k hk => by rw [set_other (nd k)]; exact h.row.hw k hk, by simpa using h.row.z1, fun k hk => by simpa using h.row.zw k hk, h.row.ne, h.row.lt⟩, h.nb, h.nd, hg⟩, t⟩
theorem MemAt.congr (h : MemAt M b d ws f nx w) (e : ∀ i, i < 79 → ws i = ws' i) (ef : f = f') (en : nx = nx') : MemAt M b d ws' f' nx' w := by
  subst ef en
  exact ⟨h.hr, h.hx, h.zx, ⟨h.row.hs, h.row.hf, fun i hi => by rw [← e i hi]; exact h.row.hw i hi, h.row.z1, h.row.zw, h.row.ne, fun i hi => by rw [← e i hi]; exact h.row.lt i hi⟩, h.nb, h.nd, h.lt⟩
theorem Now.drew {n : Nat} (k : Now b d n ws f w.drew w') : Now b d n ws f w w' := ⟨k.1, (Touch.of_alike (w := w) (w' := w.drew) ⟨rfl, rfl, rfl⟩).trans k.2⟩
theorem MNow.drew (k : MNow M b d ws f nx w.drew w') : MNow M b d ws f nx w w' := ⟨k.1, (Tou.alike (w := w) (w' := w.drew) ⟨rfl, rfl, rfl⟩).trans k.2⟩
/-- a new memory lies at M, b, d, from B on -/
def MFresh (B M b d : Nat) (ws : Nat → Nat) (f nx : Nat) (w w' : World) : Prop := MemAt M b d ws f nx w' ∧ FrB B w w' ∧ (B ≤ M ∧ B ≤ b ∧ B ≤ d) ∧ M < w'.heap.size ∧ b < w'.heap.size ∧ d < w'.heap.size
theorem MFresh.now (h : MFresh B M b d ws f nx w v) (k : MNow M b d ws' f' nx' v w') : MFresh B M b d ws' f' nx' w w' := by
  obtain ⟨h1, h2, ⟨h3, h4, h5⟩, h6, h7, h8⟩ := h
  have s := k.2.size
  exact ⟨k.1, h2.trans (FrB.tou k.2 h3 h4 h5), ⟨h3, h4, h5⟩, by omega, by omega, by omega⟩
theorem MFresh.alike (h : MFresh B M b d ws f nx w v) (k : w'.Alike v) : MFresh B M b d ws f nx w w' := h.now (h.1.alike k)
theorem MFresh.laid (h : MFresh B M b d ws f nx w w') (hL : Laid w) (hB : 0 < B) : Laid w' := h.2.1.laid hL hB
theorem MFresh.congr (h : MFresh B M b d ws f nx w w') (e : ∀ i, i < 79 → ws i = ws' i) (ef : f = f') (en : nx = nx') : MFresh B M b d ws' f' nx' w w' := ⟨h.1.congr e ef en, h.2⟩
/-- what is made behind it leaves it as it is -/
theorem MFresh.past (h : MFresh B M b d ws f nx w v) (t : FrB v.heap.size v w') (hB : B ≤ v.heap.size) : MFresh B M b d ws f nx w w' := by
  obtain ⟨h1, h2, h3, h6, h7, h8⟩ := h
  have s := t.size
  exact ⟨h1.frb t h6 h7 h8, h2.trans (t.mono hB), h3, by omega, by omega, by omega⟩
theorem MFresh.alloc (h : MFresh B M b d ws f nx w v) (o : Obj) (hB : B ≤ v.heap.size) : MFresh B M b d ws f nx w (v.alloc o) := h.past (FrB.alloc v o) hB
end
end Go.Proofs.YtfhijdnbhbonpaaDoor.Walks
