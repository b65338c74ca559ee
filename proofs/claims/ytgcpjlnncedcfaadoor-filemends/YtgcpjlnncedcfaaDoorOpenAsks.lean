/- Opening a slice of asks. -/
import Derived.Test.YtgcpjlnncedcfaaDoorOpen
import Derived.Test.YtgcpjlnncedcfaaDoorAsks
import Derived.Deep.SlicePairs
namespace Go.Proofs.YtgcpjlnncedcfaaDoor.Walks
open Go.ChangeShapes Go.WideShapes Go.ChangeAt Go.RowKit
theorem cells25 : Tryd.prog.cellsOf 25 = 3 := by kernel_rfl
theorem cells3 : Tryd.prog.cellsOf 3 = 1 := by kernel_rfl
theorem cells23 : Tryd.prog.cellsOf 23 = 1 := by kernel_rfl
theorem bytes25 : Tryd.prog.bytesOf 25 = 24 := by kernel_rfl
theorem asks_open {H : Type} {enc : TypeId × Value → H} {W : World} {A : Option Addr} {len cap : Nat} {d : DataW H} {ps : List MemPlace}
    (h : DataW.Trod enc Tryd.prog W 0 (fun _ => true) true 22 (.slice A len cap) d ps) (hlt : ∀ x ∈ ps, x.block < W.heap.size) :
    ∃ z : (Nat → Int) × (Nat → Int) × (Nat → Int), AsksIn W A len z.1 z.2.1 z.2.2 ∧ (len = 0 ∨ ∃ el sp, d = .slice el sp ∧ len = el.length) := by
  obtain ⟨fuel, hf⟩ := h
  rcases Deep.open_slice Tryd.underlying22 hf with ⟨hcs, hx⟩ | ⟨a, len', cap', m, n, D, Pl, hcs, hb, hl, hm, hmm, hx, hel⟩
  · simp [Value.cells] at hcs
    obtain ⟨rfl, rfl, rfl⟩ := hcs
    exact ⟨(fun _ => 0, fun _ => 0, fun _ => 0), fun j hj => absurd hj (Nat.not_lt_zero _), Or.inl rfl⟩
  · simp [Value.cells] at hcs
    obtain ⟨rfl, rfl, rfl⟩ := hcs
    simp only [Prod.mk.injEq] at hx
    obtain ⟨rfl, rfl⟩ := hx
    simp only [if_true] at hmm
    subst hmm
    have each : ∀ i, i < m → ∃ q : Int × Int × Int, W.cell? (a.add (i * 3)) = some (.int .i64 q.1) ∧ W.cell? (a.add (i * 3 + 1)) = some (.int .i64 q.2.1) ∧ W.cell? (a.add (i * 3 + 2)) = some (.int .u32 q.2.2) ∧ (Lit.int .u32 q.2.2).wf = true ∧ (Lit.int .i64 q.2.1).wf = true := by
      intro i hi
      obtain ⟨cs', h1, h2⟩ := hel i hi
      rw [cells25] at h1
      obtain ⟨_, hlen, hcell⟩ := World.cells?_some h1
      obtain ⟨xs, k, hk, hxy, _, hxl, hfs⟩ := DataW.trod_struct Tryd.underlying25 h2
      match xs, hxl, cs', hlen with
      | [y0, y1, y2], _, [v0, v1, v2], _ =>
        have g0 := hfs 0 _ rfl
        have g1 := hfs 1 _ rfl
        have g2 := hfs 2 _ rfl
        simp [cells3, cells23] at g0 g1 g2
        have e0 := hcell 0 (by omega)
        have e1 := hcell 1 (by omega)
        have e2 := hcell 2 (by omega)
        rw [Deep.add_add] at e0 e1 e2
        obtain ⟨n0, hn0, _, _⟩ := DataW.trod_int Tryd.underlying3 g0
        obtain ⟨n1, hn1, _, hwf1⟩ := DataW.trod_int Tryd.underlying3 g1
        obtain ⟨n2, hn2, _, hwf⟩ := DataW.trod_int Tryd.underlying23 g2
        simp only [List.cons.injEq, and_true] at hn0 hn1 hn2
        subst hn0 hn1 hn2
        exact ⟨(n0, n1, n2), by simpa using e0, by simpa using e1, by simpa using e2, hwf, hwf1⟩
    obtain ⟨q, hq⟩ := Deep.choose_lt each
    refine ⟨(fun j => (q j).1, fun j => (q j).2.1, fun j => (q j).2.2), fun j hj => ?_, Or.inr ⟨_, _, rfl, by simp⟩⟩
    obtain ⟨b, off, spot⟩ := a
    have hspot : spot = none := by simpa [Addr.add] using World.cell?_spot (hq 0 (by omega)).1
    subst hspot
    have hj' := hq j (by omega)
    obtain ⟨l, u⟩ := bounds_u32 hj'.2.2.2.1
    refine ⟨b, off, rfl, hlt (.cell b off) ?_, ?_, ?_, ?_, l, Int.lt_of_le_of_lt u (by decide), bounds_i64 hj'.2.2.2.2⟩
    · rw [cells25]
      exact List.mem_append_left _ (MemPlace.mem_row.2 ⟨0, by omega, by simp⟩)
    · have := hj'.1
      rw [add_plain] at this
      exact this
    · have := hj'.2.1
      rw [add_plain] at this
      exact this
    · have := hj'.2.2.1
      rw [add_plain] at this
      exact this
end Go.Proofs.YtgcpjlnncedcfaaDoor.Walks
