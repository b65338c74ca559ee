/- Opening the arguments: a slice of integers, an instruction by value. -/
import Derived.Test.YtlnliiihcajboaaDoorJudged
import Derived.ProofKit
import Derived.OpenShut
import Derived.SizedLaws
namespace Go.Proofs.YtlnliiihcajboaaDoor.Walks
open Go.ChangeShapes Go.WideShapes Go.ChangeAt Go.RowKit
theorem laidOut : laidOutB Tryd.prog = true := by kernel_rfl
/-- the slice's numbers lie in memory -/
def IntsIn (k : IntKind) (w : World) (A : Option Addr) (len : Nat) (zs : Nat → Int) : Prop :=
  ∀ j, j < len → ∃ b o, A = some ⟨b, o, none⟩ ∧ b < w.heap.size ∧ w.cell? ⟨b, o + j, none⟩ = some (.int k (zs j)) ∧ (Lit.int k (zs j)).wf = true
theorem ints_open {H : Type} {enc : TypeId × Value → H} {W : World} {t e : TypeId} {k : IntKind} {A : Option Addr} {len cap : Nat} {d : DataW H} {ps : List MemPlace}
    (ht : Tryd.prog.underlying t = some (.slice e)) (he : Tryd.prog.underlying e = some (.int k)) (hc : Tryd.prog.cellsOf e = 1)
    (h : DataW.Trod enc Tryd.prog W 0 (fun _ => true) true t (.slice A len cap) d ps) (hlt : ∀ x ∈ ps, x.block < W.heap.size) : ∃ zs, IntsIn k W A len zs := by
  obtain ⟨fuel, hf⟩ := h
  rcases open_ints ht he hc hf with ⟨hcs, hx⟩ | ⟨a, len', cap', zs, hcs, _, hl, hm, hz, hx, hcell, hwz⟩
  · simp [Value.cells] at hcs
    obtain ⟨rfl, rfl, rfl⟩ := hcs
    exact ⟨fun _ => 0, fun j hj => absurd hj (Nat.not_lt_zero _)⟩
  · simp [Value.cells] at hcs
    obtain ⟨rfl, rfl, rfl⟩ := hcs
    simp only [Prod.mk.injEq] at hx
    obtain ⟨rfl, rfl⟩ := hx
    simp only [if_true] at hz
    refine ⟨fun j => zs.getD j 0, fun j hj => ?_⟩
    obtain ⟨b, off, spot⟩ := a
    have hspot : spot = none := by simpa [Addr.add] using World.cell?_spot (hcell 0 (by omega))
    subst hspot
    refine ⟨b, off, rfl, hlt (.cell b off) (MemPlace.mem_row.2 ⟨0, by omega, by simp⟩), ?_, ?_⟩
    · rw [← add_plain]; exact hcell j (by omega)
    · have hj' : j < zs.length := by omega
      have e : zs.getD j 0 = zs[j] := by simp [List.getD, List.getElem?_eq_getElem hj']
      show (Lit.int k (zs.getD j 0)).wf = true
      rw [e]
      exact hwz _ (List.getElem_mem hj')
theorem cells28 : Tryd.prog.cellsOf 27 = 5 := by kernel_rfl
theorem cells3 : Tryd.prog.cellsOf 3 = 1 := by kernel_rfl
theorem cells21 : Tryd.prog.cellsOf 21 = 1 := by kernel_rfl
theorem inst_open {H : Type} {enc : TypeId × Value → H} {W : World} {cs : Array Value} {d : DataW H} {ps : List MemPlace} (hs : cs.size = Tryd.prog.cellsOf 27)
    (h : DataW.Trod enc Tryd.prog W 0 (fun _ => true) true 27 (.agg cs) d ps) : ∃ o d a b n, cs = cells o d a b n := by
  obtain ⟨fuel, hf⟩ := h
  rw [cells28] at hs
  obtain ⟨l⟩ := cs
  match l, hs with
  | [v0, v1, v2, v3, v4], _ =>
    obtain ⟨xs, k, hk, hxy, _, hxl, hfs⟩ := DataW.trod_struct Tryd.underlying27 hf
    match xs, hxl with
    | [y0, y1, y2, y3, y4], _ =>
      have g0 := hfs 0 _ rfl
      have g1 := hfs 1 _ rfl
      have g2 := hfs 2 _ rfl
      have g3 := hfs 3 _ rfl
      have g4 := hfs 4 _ rfl
      simp [cells3, cells21, Value.cells] at g0 g1 g2 g3 g4
      obtain ⟨n0, hn0, _, _⟩ := DataW.trod_int Tryd.underlying3 g0
      obtain ⟨n1, hn1, _, _⟩ := DataW.trod_int Tryd.underlying3 g1
      obtain ⟨n2, hn2, _, _⟩ := DataW.trod_int Tryd.underlying3 g2
      obtain ⟨n3, hn3, _, _⟩ := DataW.trod_int Tryd.underlying3 g3
      obtain ⟨n4, hn4, _, _⟩ := DataW.trod_int Tryd.underlying21 g4
      simp only [List.cons.injEq, and_true] at hn0 hn1 hn2 hn3 hn4
      subst hn0 hn1 hn2 hn3 hn4
      exact ⟨n0, n1, n2, n3, n4, rfl⟩
end Go.Proofs.YtlnliiihcajboaaDoor.Walks
