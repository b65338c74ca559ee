/- A law's arguments, opened: rows of words, rows of instructions that were done, states; how much they hold. -/
import Derived.Test.YtkchpegpmpijcaaApps
import Derived.OpenShut
import Derived.Deep.SlicePairs
namespace Go.Proofs.Ytkchpegpmpijcaa.M
open Go.ChangeShapes Go.WideShapes Go.ChangeAt Go.RowKit Go.Proofs.Ytkchpegpmpijcaa.Walks
set_option linter.unusedVariables false
theorem laidOut : laidOutB Try.prog = true := by kernel_rfl
theorem bulk_pos {H : Type} (d : DataW H) : 1 ≤ Rows.uptoBulk d := by
  cases d with
  | lit l => cases l <;> simp [Rows.uptoBulk]
  | _ => simp [Rows.uptoBulk]
theorem bulk_all {H : Type} (l : List (DataW H)) : l.length ≤ Rows.uptoBulkAll l := by
  induction l with
  | nil => simp
  | cons x r ih =>
    have h := bulk_pos x
    simp only [Rows.uptoBulkAll, List.length_cons]
    omega
theorem bulk_slice {H : Type} (a b : List (DataW H)) : a.length + 1 ≤ Rows.uptoBulk (.slice a b) := by
  have h := bulk_all a
  simp only [Rows.uptoBulk]
  omega
theorem words_open {H : Type} {enc : TypeId × Value → H} {W : World} {A : Option Addr} {len cap : Nat} {d : DataW H} {ps : List MemPlace}
    (h : DataW.Trod enc Try.prog W 0 (fun _ => true) true 28 (.slice A len cap) d ps) (hlt : ∀ x ∈ ps, x.block < W.heap.size) :
    ∃ f : Nat → Int, WIn W A len f ∧ (A = none → len = 0 ∧ cap = 0) ∧ len ≤ cap ∧ cap ≤ maxLen ∧ len + 1 ≤ Rows.uptoBulk d := by
  obtain ⟨fuel, hf⟩ := h
  rcases open_ints Try.underlying28 Try.underlying22 cells22 hf with ⟨hcs, hx⟩ | ⟨a, len', cap', zs, hcs, _, hl, hm, hz, hx, hcell, hwz⟩
  · simp [Value.cells] at hcs
    obtain ⟨rfl, rfl, rfl⟩ := hcs
    exact ⟨fun _ => 0, fun j hj => absurd hj (Nat.not_lt_zero _), fun _ => ⟨rfl, rfl⟩, Nat.le_refl _, Nat.zero_le _, by rw [Nat.zero_add]; exact bulk_pos d⟩
  · simp [Value.cells] at hcs
    obtain ⟨rfl, rfl, rfl⟩ := hcs
    simp only [Prod.mk.injEq] at hx
    obtain ⟨rfl, rfl⟩ := hx
    simp only [if_true] at hz
    refine ⟨fun j => zs.getD j 0, fun j hj => ?_, fun e => (by cases e), hl, hm, ?_⟩
    · obtain ⟨b, off, spot⟩ := a
      have hspot : spot = none := by simpa [Addr.add] using World.cell?_spot (hcell 0 (by omega))
      subst hspot
      refine ⟨b, off, rfl, hlt (.cell b off) (MemPlace.mem_row.2 ⟨0, by omega, by simp⟩), ?_⟩
      rw [← Addr.add_mid]; exact hcell j (by omega)
    · have := bulk_slice (lits (H := H) .u32 (zs.take len)) (lits .u32 (zs.drop len))
      have e : (lits (H := H) .u32 (zs.take len)).length = len := by simp [lits]; omega
      omega
theorem cells3' : Try.prog.cellsOf 3 = 1 := by kernel_rfl
theorem cells4 : Try.prog.cellsOf 4 = 1 := by kernel_rfl
theorem add_add (a : Addr) (i j : Nat) : (a.add i).add j = a.add (i + j) := Deep.add_add a i j
theorem choose_rt {p : Nat → Rt → Prop} {m : Nat} (h : ∀ i, i < m → ∃ r, p i r) : ∃ q : Nat → Rt, ∀ i, i < m → p i (q i) := by
  classical
  refine ⟨fun i => if hi : i < m then (h i hi).choose else ⟨0, 0, 0, false, 0, 0, 0⟩, fun i hi => ?_⟩
  simp only [dif_pos hi]
  exact (h i hi).choose_spec
theorem rows_open {H : Type} {enc : TypeId × Value → H} {W : World} {A : Option Addr} {len cap : Nat} {d : DataW H} {ps : List MemPlace}
    (h : DataW.Trod enc Try.prog W 0 (fun _ => true) true 26 (.slice A len cap) d ps) (hlt : ∀ x ∈ ps, x.block < W.heap.size) :
    ∃ f : Nat → Rt, RIn W A len f ∧ (A = none → len = 0 ∧ cap = 0) ∧ len ≤ cap ∧ cap ≤ maxLen ∧ len + 1 ≤ Rows.uptoBulk d := by
  obtain ⟨fuel, hf⟩ := h
  rcases Deep.open_slice Try.underlying26 hf with ⟨hcs, hx⟩ | ⟨a, len', cap', m, n, D, Pl, hcs, hb, hl, hm, hmm, hx, hel⟩
  · simp [Value.cells] at hcs
    obtain ⟨rfl, rfl, rfl⟩ := hcs
    exact ⟨fun _ => ⟨0, 0, 0, false, 0, 0, 0⟩, fun j hj => absurd hj (Nat.not_lt_zero _), fun _ => ⟨rfl, rfl⟩, Nat.le_refl _, Nat.zero_le _, by rw [Nat.zero_add]; exact bulk_pos d⟩
  · simp [Value.cells] at hcs
    obtain ⟨rfl, rfl, rfl⟩ := hcs
    simp only [Prod.mk.injEq] at hx
    obtain ⟨rfl, rfl⟩ := hx
    simp only [if_true] at hmm
    subst hmm
    have each : ∀ i, i < m → ∃ r : Rt, ∀ k u, r.cs[k]? = some u → W.cell? (a.add (i * 7 + k)) = some u := by
      intro i hi
      obtain ⟨cs', h1, h2⟩ := hel i hi
      rw [cells24] at h1
      obtain ⟨_, hlen, hcell⟩ := World.cells?_some h1
      obtain ⟨xs, k, hk, hxy, _, hxl, hfs⟩ := DataW.trod_struct Try.underlying24 h2
      match xs, hxl, cs', hlen with
      | [y0, y1, y2, y3, y4, y5, y6], _, [v0, v1, v2, v3, v4, v5, v6], _ =>
        have g0 := hfs 0 _ rfl
        have g1 := hfs 1 _ rfl
        have g2 := hfs 2 _ rfl
        have g3 := hfs 3 _ rfl
        have g4 := hfs 4 _ rfl
        have g5 := hfs 5 _ rfl
        have g6 := hfs 6 _ rfl
        simp [cells22, cells3', cells4] at g0 g1 g2 g3 g4 g5 g6
        obtain ⟨n0, hn0, _, _⟩ := DataW.trod_int Try.underlying22 g0
        obtain ⟨n1, hn1, _, _⟩ := DataW.trod_int Try.underlying22 g1
        obtain ⟨n2, hn2, _, _⟩ := DataW.trod_int Try.underlying3 g2
        obtain ⟨b3, hn3, _⟩ := DataW.trod_bool Try.underlying4 g3
        obtain ⟨n4, hn4, _, _⟩ := DataW.trod_int Try.underlying22 g4
        obtain ⟨n5, hn5, _, _⟩ := DataW.trod_int Try.underlying22 g5
        obtain ⟨n6, hn6, _, _⟩ := DataW.trod_int Try.underlying3 g6
        simp only [List.cons.injEq, and_true] at hn0 hn1 hn2 hn3 hn4 hn5 hn6
        subst hn0 hn1 hn2 hn3 hn4 hn5 hn6
        refine ⟨⟨n0, n1, n2, b3, n4, n5, n6⟩, fun k u hu => ?_⟩
        have hk : k < 7 := (List.getElem?_eq_some_iff.1 hu).1
        have e := hcell k hk
        rw [add_add] at e
        rw [e]
        exact hu
    obtain ⟨q, hq⟩ := choose_rt each
    refine ⟨q, fun j hj => ?_, fun e => (by cases e), hl, hm, ?_⟩
    · obtain ⟨b, off, spot⟩ := a
      have h0 := hq 0 (by omega) 0 _ rfl
      have hspot : spot = none := by simpa [Addr.add] using World.cell?_spot h0
      subst hspot
      refine ⟨b, off, rfl, hlt (.cell b off) ?_, fun k u hu => ?_⟩
      · rw [cells24]
        exact List.mem_append_left _ (MemPlace.mem_row.2 ⟨0, by omega, by simp⟩)
      · have := hq j (by omega) k u hu
        rw [Addr.add_mid] at this
        rwa [Nat.add_assoc]
    · have := bulk_slice ((List.range len).map D) ((List.range (m - len)).map fun j => D (len + j))
      simpa using this
theorem arr_open {H : Type} {enc : TypeId × Value → H} {W : World} {sp : Nat → Bool} {hd : Bool} {fuel t n : Nat} (hu : Try.prog.underlying t = some (.array n 22)) {cs : List Value} {x : DataW H × List MemPlace} (h : DataW.trod enc Try.prog W 0 sp hd fuel t cs = some x) (hl : cs.length = n) : ∃ f, cs = wl f n := by
  obtain ⟨xs, m, _, _, _, hxl, hel⟩ := DataW.trod_array hu h
  have each : ∀ i, i < n → ∃ k : Int, cs[i]? = some (.int .u32 k) := by
    intro i hi
    have e := hel i hi
    rw [cells22, Nat.mul_one, List.getElem?_eq_getElem (by rw [hxl]; exact hi)] at e
    obtain ⟨k, hk, _, _⟩ := DataW.trod_int Try.underlying22 e
    refine ⟨k, ?_⟩
    have := congrArg (fun l => l[0]?) hk
    simpa [List.getElem?_take, List.getElem?_drop] using this
  obtain ⟨f, hf⟩ := Deep.choose_lt each
  refine ⟨f, List.ext_getElem? fun j => ?_⟩
  by_cases hj : j < n
  · rw [hf j hj, wl_at f n j hj]
  · rw [List.getElem?_eq_none (by omega), List.getElem?_eq_none (by rw [wl_len]; omega)]
theorem cells29 : Try.prog.cellsOf 29 = 32 := by kernel_rfl
theorem cells30 : Try.prog.cellsOf 30 = 5 := by kernel_rfl
theorem cells28 : Try.prog.cellsOf 28 = 1 := by kernel_rfl
theorem cells32 : Try.prog.cellsOf 32 = 39 := by kernel_rfl
theorem state_open {H : Type} {enc : TypeId × Value → H} {W : World} {cs : Array Value} {d : DataW H} {ps : List MemPlace} (hs : cs.size = Try.prog.cellsOf 32)
    (h : DataW.Trod enc Try.prog W 0 (fun _ => true) true 32 (.agg cs) d ps) (hlt : ∀ x ∈ ps, x.block < W.heap.size) : ∃ s : Ss, cs = s.cs.toArray ∧ WIn W s.A s.n s.m ∧ s.n + 1 ≤ Rows.uptoBulk d := by
  obtain ⟨fuel, hf⟩ := h
  rw [cells32] at hs
  obtain ⟨l⟩ := cs
  have hl : l.length = 39 := hs
  obtain ⟨xs, k, hk, hxy, _, hxl, hfs⟩ := DataW.trod_struct Try.underlying32 hf
  match xs, hxl with
  | [y0, y1, y2, y3], _ =>
    have g0 : DataW.trod enc Try.prog W 0 (fun _ => true) true k 22 ((l.drop 0).take (Try.prog.cellsOf 22)) = some y0 := hfs 0 _ rfl
    have g1 : DataW.trod enc Try.prog W 0 (fun _ => true) true k 29 ((l.drop 1).take (Try.prog.cellsOf 29)) = some y1 := hfs 1 _ rfl
    have g2 : DataW.trod enc Try.prog W 0 (fun _ => true) true k 30 ((l.drop 33).take (Try.prog.cellsOf 30)) = some y2 := hfs 2 _ rfl
    have g3 : DataW.trod enc Try.prog W 0 (fun _ => true) true k 28 ((l.drop 38).take (Try.prog.cellsOf 28)) = some y3 := hfs 3 _ rfl
    rw [cells22] at g0
    rw [cells29] at g1
    rw [cells30] at g2
    rw [cells28] at g3
    obtain ⟨pc, hpc, _, _⟩ := DataW.trod_int Try.underlying22 g0
    obtain ⟨r, hr⟩ := arr_open Try.underlying29 g1 (by simp; omega)
    obtain ⟨c, hc⟩ := arr_open Try.underlying30 g2 (by simp; omega)
    obtain ⟨e0, e1⟩ : d = .agg [y0.1, y1.1, y2.1, y3.1] ∧ ps = y0.2 ++ (y1.2 ++ (y2.2 ++ y3.2)) := by simpa using hxy
    have lt3 : ∀ x ∈ y3.2, x.block < W.heap.size := fun x hx => hlt x (by rw [e1]; simp [hx])
    have hv : ∃ A n cap, (l.drop 38).take 1 = [.slice A n cap] := by
      rcases Deep.open_slice Try.underlying28 g3 with ⟨hcs, _⟩ | ⟨a, len', cap', m, n, D, Pl, hcs, _⟩
      · exact ⟨_, _, _, hcs⟩
      · exact ⟨_, _, _, hcs⟩
    obtain ⟨A, n, cap, hv⟩ := hv
    rw [hv] at g3
    obtain ⟨f, h1, _, _, _, h5⟩ := words_open (W := W) (A := A) (len := n) (cap := cap) (d := y3.1) (ps := y3.2) (enc := enc) ⟨k, by simpa [Value.cells] using g3⟩ lt3
    refine ⟨⟨pc, r, c, A, n, cap, f⟩, ?_, h1, ?_⟩
    · congr 1
      have p0 : l = l.take 1 ++ ((l.drop 1).take 32 ++ ((l.drop 33).take 5 ++ (l.drop 38).take 1)) := by
        have q1 : l.drop 1 = (l.drop 1).take 32 ++ l.drop 33 := by rw [show 33 = 1 + 32 from rfl, ← List.drop_drop, List.take_append_drop]
        have q2 : l.drop 33 = (l.drop 33).take 5 ++ l.drop 38 := by rw [show 38 = 33 + 5 from rfl, ← List.drop_drop, List.take_append_drop]
        have q3 : (l.drop 38).take 1 = l.drop 38 := List.take_of_length_le (by simp; omega)
        rw [q3, ← q2, ← q1, List.take_append_drop]
      rw [p0, hr, hc, hv]
      rw [show l.take 1 = [.int .u32 pc] from hpc]
      rfl
    · rw [e0]
      simp only [Rows.uptoBulk, Rows.uptoBulkAll]
      omega
end Go.Proofs.Ytkchpegpmpijcaa.M
