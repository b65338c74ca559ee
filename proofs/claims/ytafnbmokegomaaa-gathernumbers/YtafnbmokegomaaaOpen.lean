/-
  A law's arguments: a row of instructions that were done, opened.
-/
import Derived.Test.YtafnbmokegomaaaTwo
import Derived.OpenShut
import Derived.SizedLaws
import Derived.Deep.SlicePairs
set_option linter.unusedSimpArgs false
set_option linter.unusedVariables false
namespace Go.Proofs.Ytafnbmokegomaaa
open Go.Conc Go.RowKit Go.ChangeShapes Go.WideShapes
theorem cells25 : Try.prog.cellsOf 25 = 7 := by kernel_rfl
theorem cells3' : Try.prog.cellsOf 3 = 1 := by kernel_rfl
theorem cells4 : Try.prog.cellsOf 4 = 1 := by kernel_rfl
theorem cells23 : Try.prog.cellsOf 23 = 1 := by kernel_rfl
theorem choose_rt {p : Nat → Rt → Prop} {m : Nat} (h : ∀ i, i < m → ∃ r, p i r) : ∃ q : Nat → Rt, ∀ i, i < m → p i (q i) := by
  classical
  refine ⟨fun i => if hi : i < m then (h i hi).choose else ⟨0, 0, 0, false, 0, 0, 0⟩, fun i hi => ?_⟩
  simp only [dif_pos hi]
  exact (h i hi).choose_spec
theorem rows_open {H : Type} {enc : TypeId × Value → H} {W : World} {A : Option Addr} {len cap : Nat} {d : DataW H} {ps : List MemPlace}
    (h : DataW.Trod enc Try.prog W 0 (fun _ => true) true 22 (.slice A len cap) d ps) :
    len ≤ cap ∧ ∃ f : Nat → Rt, RowP (fun β => W.heap[β]?) (.slice A len cap) len f := by
  obtain ⟨fuel, hf⟩ := h
  rcases Deep.open_slice Try.underlying22 hf with ⟨hcs, hx⟩ | ⟨a, len', cap', m, n, D, Pl, hcs, hb, hl, hm, hmm, hx, hel⟩
  · simp [Value.cells] at hcs
    obtain ⟨rfl, rfl, rfl⟩ := hcs
    exact ⟨Nat.le_refl _, fun _ => ⟨0, 0, 0, false, 0, 0, 0⟩, ⟨_, _, rfl⟩, fun h => absurd h (Nat.lt_irrefl _)⟩
  · simp [Value.cells] at hcs
    obtain ⟨rfl, rfl, rfl⟩ := hcs
    simp only [Prod.mk.injEq] at hx
    obtain ⟨rfl, rfl⟩ := hx
    simp only [if_true] at hmm
    subst hmm
    have each : ∀ i, i < m → ∃ r : Rt, ∀ k u, r.cs[k]? = some u → W.cell? (a.add (i * 7 + k)) = some u := by
      intro i hi
      obtain ⟨cs', h1, h2⟩ := hel i hi
      rw [cells25] at h1
      obtain ⟨_, hlen, hcell⟩ := World.cells?_some h1
      obtain ⟨xs, k, hk, hxy, _, hxl, hfs⟩ := DataW.trod_struct Try.underlying25 h2
      match xs, hxl, cs', hlen with
      | [y0, y1, y2, y3, y4, y5, y6], _, [v0, v1, v2, v3, v4, v5, v6], _ =>
        have g0 := hfs 0 _ rfl
        have g1 := hfs 1 _ rfl
        have g2 := hfs 2 _ rfl
        have g3 := hfs 3 _ rfl
        have g4 := hfs 4 _ rfl
        have g5 := hfs 5 _ rfl
        have g6 := hfs 6 _ rfl
        simp [cells23, cells3', cells4] at g0 g1 g2 g3 g4 g5 g6
        obtain ⟨n0, hn0, _, _⟩ := DataW.trod_int Try.underlying23 g0
        obtain ⟨n1, hn1, _, _⟩ := DataW.trod_int Try.underlying23 g1
        obtain ⟨n2, hn2, _, _⟩ := DataW.trod_int Try.underlying3 g2
        obtain ⟨b3, hn3, _⟩ := DataW.trod_bool Try.underlying4 g3
        obtain ⟨n4, hn4, _, _⟩ := DataW.trod_int Try.underlying23 g4
        obtain ⟨n5, hn5, _, _⟩ := DataW.trod_int Try.underlying23 g5
        obtain ⟨n6, hn6, _, _⟩ := DataW.trod_int Try.underlying3 g6
        simp only [List.cons.injEq, and_true] at hn0 hn1 hn2 hn3 hn4 hn5 hn6
        subst hn0 hn1 hn2 hn3 hn4 hn5 hn6
        refine ⟨⟨n0, n1, n2, b3, n4, n5, n6⟩, fun k u hu => ?_⟩
        have hk : k < 7 := (List.getElem?_eq_some_iff.1 hu).1
        have e := hcell k hk
        rw [Deep.add_add] at e
        rw [e]
        exact hu
    obtain ⟨q, hq⟩ := choose_rt each
    refine ⟨by omega, q, ⟨_, _, rfl⟩, fun h0 => ?_⟩
    obtain ⟨b, off, spot⟩ := a
    have h00 := hq 0 (by omega) 0 _ rfl
    have hspot : spot = none := by simpa [Addr.add] using World.cell?_spot h00
    subst hspot
    rw [Addr.add_mid] at h00
    have hblk : ∃ C ety fr, W.heap[b]? = some (.cells C ety fr) := by
      cases e : W.heap[b]? with
      | none => simp [World.cell?, e] at h00
      | some o => cases o <;> first | exact ⟨_, _, _, rfl⟩ | simp [World.cell?, e] at h00
    obtain ⟨C, ety, fr, hC⟩ := hblk
    refine ⟨b, off, C, ety, fr, _, rfl, hC, fun i hi k u hu => ?_⟩
    have := hq i (by omega) k u hu
    rw [Addr.add_mid] at this
    simp only [World.cell?, hC] at this
    rw [Nat.add_assoc]
    simpa using this
end Go.Proofs.Ytafnbmokegomaaa
