/- A law's arguments, opened: rows of asks, rows of instructions that were done. -/
import Derived.Test.YtedcamljgnblmaaAsks
import Derived.OpenShut
import Derived.SizedLaws
import Derived.Deep.SlicePairs
namespace Go.Proofs.Ytedcamljgnblmaa.M
open Go.ChangeShapes Go.WideShapes Go.ChangeAt Go.RowKit Go.Proofs.Ytedcamljgnblmaa.Walks
set_option linter.unusedVariables false
theorem laidOut : laidOutB Try.prog = true := by kernel_rfl
theorem cells27 : Try.prog.cellsOf 27 = 8 := by kernel_rfl
theorem bytes27 : Try.prog.bytesOf 27 = 48 := by kernel_rfl
theorem cells3' : Try.prog.cellsOf 3 = 1 := by kernel_rfl
theorem cells4 : Try.prog.cellsOf 4 = 1 := by kernel_rfl
theorem cells23 : Try.prog.cellsOf 23 = 1 := by kernel_rfl
theorem add_add (a : Addr) (i j : Nat) : (a.add i).add j = a.add (i + j) := Deep.add_add a i j
theorem choose_rt {p : Nat → Rt → Prop} {m : Nat} (h : ∀ i, i < m → ∃ r, p i r) : ∃ q : Nat → Rt, ∀ i, i < m → p i (q i) := by
  classical
  refine ⟨fun i => if hi : i < m then (h i hi).choose else ⟨0, 0, 0, false, 0, 0, 0⟩, fun i hi => ?_⟩
  simp only [dif_pos hi]
  exact (h i hi).choose_spec
theorem rows_open {H : Type} {enc : TypeId × Value → H} {W : World} {A : Option Addr} {len cap : Nat} {d : DataW H} {ps : List MemPlace}
    (h : DataW.Trod enc Try.prog W 0 (fun _ => true) true 31 (.slice A len cap) d ps) (hlt : ∀ x ∈ ps, x.block < W.heap.size) :
    ∃ f : Nat → Rt, RIn W A len f ∧ ∀ j, j < len → (f j).In := by
  obtain ⟨fuel, hf⟩ := h
  rcases Deep.open_slice Try.underlying31 hf with ⟨hcs, hx⟩ | ⟨a, len', cap', m, n, D, Pl, hcs, hb, hl, hm, hmm, hx, hel⟩
  · simp [Value.cells] at hcs
    obtain ⟨rfl, rfl, rfl⟩ := hcs
    exact ⟨fun _ => ⟨0, 0, 0, false, 0, 0, 0⟩, fun j hj => absurd hj (Nat.not_lt_zero _), fun j hj => absurd hj (Nat.not_lt_zero _)⟩
  · simp [Value.cells] at hcs
    obtain ⟨rfl, rfl, rfl⟩ := hcs
    simp only [Prod.mk.injEq] at hx
    obtain ⟨rfl, rfl⟩ := hx
    simp only [if_true] at hmm
    subst hmm
    have each : ∀ i, i < m → ∃ r : Rt, (∀ k u, r.cs[k]? = some u → W.cell? (a.add (i * 7 + k)) = some u) ∧ r.In := by
      intro i hi
      obtain ⟨cs', h1, h2⟩ := hel i hi
      rw [cells25] at h1
      obtain ⟨_, hlen, hcell⟩ := World.cells?_some h1
      obtain ⟨xs, k, hk, hxy, _, hxl, hfs⟩ := DataW.trod_struct Try.underlying25 h2
      match xs, hxl, cs', hlen with
      | [y0, y1, y2, y3, y4, y5, y6], _, [v0, v1, v2, v3, v4, v5, v6], _ =>
        have g0 := hfs 0 _ rfl
        have g1 := hfs 1 _ rfl
        have g2 := hfs 2 _ rfl
        have g3 := hfs 3 _ rfl
        have g4 := hfs 4 _ rfl
        have g5 := hfs 5 _ rfl
        have g6 := hfs 6 _ rfl
        simp [cells23, cells3', cells4] at g0 g1 g2 g3 g4 g5 g6
        obtain ⟨n0, hn0, _, _⟩ := DataW.trod_int Try.underlying23 g0
        obtain ⟨n1, hn1, _, _⟩ := DataW.trod_int Try.underlying23 g1
        obtain ⟨n2, hn2, _, _⟩ := DataW.trod_int Try.underlying3 g2
        obtain ⟨b3, hn3, _⟩ := DataW.trod_bool Try.underlying4 g3
        obtain ⟨n4, hn4, _, _⟩ := DataW.trod_int Try.underlying23 g4
        obtain ⟨n5, hn5, _, hwf⟩ := DataW.trod_int Try.underlying23 g5
        obtain ⟨n6, hn6, _, _⟩ := DataW.trod_int Try.underlying3 g6
        simp only [List.cons.injEq, and_true] at hn0 hn1 hn2 hn3 hn4 hn5 hn6
        subst hn0 hn1 hn2 hn3 hn4 hn5 hn6
        refine ⟨⟨n0, n1, n2, b3, n4, n5, n6⟩, fun k u hu => ?_, bounds_u32 hwf⟩
        have hk : k < 7 := (List.getElem?_eq_some_iff.1 hu).1
        have e := hcell k hk
        rw [add_add] at e
        rw [e]
        exact hu
    obtain ⟨q, hq⟩ := choose_rt each
    refine ⟨q, fun j hj => ?_, fun j hj => (hq j (by omega)).2⟩
    obtain ⟨b, off, spot⟩ := a
    have h0 := (hq 0 (by omega)).1 0 _ rfl
    have hspot : spot = none := by simpa [Addr.add] using World.cell?_spot h0
    subst hspot
    refine ⟨b, off, rfl, hlt (.cell b off) ?_, fun k u hu => ?_⟩
    · rw [cells25]
      exact List.mem_append_left _ (MemPlace.mem_row.2 ⟨0, by omega, by simp⟩)
    · have := (hq j (by omega)).1 k u hu
      rw [Addr.add_mid] at this
      rwa [Nat.add_assoc]
theorem asks_open {H : Type} {enc : TypeId × Value → H} {W : World} {A : Option Addr} {len cap : Nat} {d : DataW H} {ps : List MemPlace}
    (h : DataW.Trod enc Try.prog W 0 (fun _ => true) true 22 (.slice A len cap) d ps) (hlt : ∀ x ∈ ps, x.block < W.heap.size) :
    ∃ (kd : Nat → Int) (rs : Nat → Rt), AsksIn W A len kd rs ∧ (len = 0 ∨ ∃ el sp, d = .slice el sp ∧ len = el.length) := by
  obtain ⟨fuel, hf⟩ := h
  rcases Deep.open_slice Try.underlying22 hf with ⟨hcs, hx⟩ | ⟨a, len', cap', m, n, D, Pl, hcs, hb, hl, hm, hmm, hx, hel⟩
  · simp [Value.cells] at hcs
    obtain ⟨rfl, rfl, rfl⟩ := hcs
    exact ⟨fun _ => 0, fun _ => zR, fun j hj => absurd hj (Nat.not_lt_zero _), Or.inl rfl⟩
  · simp [Value.cells] at hcs
    obtain ⟨rfl, rfl, rfl⟩ := hcs
    simp only [Prod.mk.injEq] at hx
    obtain ⟨rfl, rfl⟩ := hx
    simp only [if_true] at hmm
    subst hmm
    have each : ∀ i, i < m → ∃ q : Int × Rt, (∀ k u, (ak q.1 q.2)[k]? = some u → W.cell? (a.add (i * 8 + k)) = some u) ∧ q.2.In := by
      intro i hi
      obtain ⟨cs', h1, h2⟩ := hel i hi
      rw [cells27] at h1
      obtain ⟨_, hlen, hcell⟩ := World.cells?_some h1
      obtain ⟨xs, k, hk, hxy, _, hxl, hfs⟩ := DataW.trod_struct Try.underlying27 h2
      match xs, hxl, cs', hlen with
      | [y0, y1], _, [v, v0, v1, v2, v3, v4, v5, v6], _ =>
        have g := hfs 0 _ rfl
        have gr := hfs 1 _ rfl
        simp [cells3', cells25] at g gr
        obtain ⟨n, hn, _, _⟩ := DataW.trod_int Try.underlying3 g
        obtain ⟨xs, k, hk, hxy, _, hxl, hfs⟩ := DataW.trod_struct Try.underlying25 gr
        match xs, hxl with
        | [y0, y1, y2, y3, y4, y5, y6], _ =>
          have g0 := hfs 0 _ rfl
          have g1 := hfs 1 _ rfl
          have g2 := hfs 2 _ rfl
          have g3 := hfs 3 _ rfl
          have g4 := hfs 4 _ rfl
          have g5 := hfs 5 _ rfl
          have g6 := hfs 6 _ rfl
          simp [cells23, cells3', cells4] at g0 g1 g2 g3 g4 g5 g6
          obtain ⟨n0, hn0, _, _⟩ := DataW.trod_int Try.underlying23 g0
          obtain ⟨n1, hn1, _, _⟩ := DataW.trod_int Try.underlying23 g1
          obtain ⟨n2, hn2, _, _⟩ := DataW.trod_int Try.underlying3 g2
          obtain ⟨b3, hn3, _⟩ := DataW.trod_bool Try.underlying4 g3
          obtain ⟨n4, hn4, _, _⟩ := DataW.trod_int Try.underlying23 g4
          obtain ⟨n5, hn5, _, hwf⟩ := DataW.trod_int Try.underlying23 g5
          obtain ⟨n6, hn6, _, _⟩ := DataW.trod_int Try.underlying3 g6
          simp only [List.cons.injEq, and_true] at hn hn0 hn1 hn2 hn3 hn4 hn5 hn6
          subst hn hn0 hn1 hn2 hn3 hn4 hn5 hn6
          refine ⟨(n, ⟨n0, n1, n2, b3, n4, n5, n6⟩), fun k u hu => ?_, bounds_u32 hwf⟩
          have hk : k < 8 := (List.getElem?_eq_some_iff.1 hu).1
          have e := hcell k hk
          rw [add_add] at e
          rw [e]
          exact hu
    classical
    let q : Nat → Int × Rt := fun i => if hi : i < m then (each i hi).choose else (0, zR)
    have hq : ∀ i (hi : i < m), (∀ k u, (ak (q i).1 (q i).2)[k]? = some u → W.cell? (a.add (i * 8 + k)) = some u) ∧ (q i).2.In := fun i hi => by
      have e : q i = (each i hi).choose := dif_pos hi
      rw [e]
      exact (each i hi).choose_spec
    refine ⟨fun j => (q j).1, fun j => (q j).2, fun j hj => ?_, Or.inr ⟨_, _, rfl, by simp⟩⟩
    obtain ⟨b, off, spot⟩ := a
    have h0 := (hq 0 (by omega)).1 0 _ rfl
    have hspot : spot = none := by simpa [Addr.add] using World.cell?_spot h0
    subst hspot
    refine ⟨b, off, rfl, hlt (.cell b off) ?_, ?_, fun k u hu => ?_, (hq j (by omega)).2⟩
    · rw [cells27]
      exact List.mem_append_left _ (MemPlace.mem_row.2 ⟨0, by omega, by simp⟩)
    · have := (hq j (by omega)).1 0 _ rfl
      rwa [Addr.add_mid] at this
    · have := (hq j (by omega)).1 (k + 1) u hu
      rw [Addr.add_mid] at this
      rwa [show off + j * 8 + 1 + k = off + (j * 8 + (k + 1)) by omega]
end Go.Proofs.Ytedcamljgnblmaa.M
