/- The walk of SaveNumbers. -/
import Derived.Test.YtfhijdnbhbonpaaDoorAskK
import Derived.Test.YtfhijdnbhbonpaaDoorPlay
import Derived.Great.FillDense
namespace Go.Proofs.YtfhijdnbhbonpaaDoor.Walks
open Go.ChangeShapes Go.WideShapes Go.ChangeAt Go.RowKit
set_option linter.unusedVariables false
/-- the values of asks -/
def vals (l : List Ak) : List Value := l.map fun c => .agg c.l.toArray
theorem vals_cells (l : List Ak) : ∀ v ∈ vals l, v.cells.size = 40 := by
  intro v hv
  obtain ⟨c, _, rfl⟩ := List.mem_map.1 hv
  show c.l.toArray.size = 40
  rw [List.size_toArray, c.len]
theorem asks_lit (W : World) (l : List Ak) (hl : ∀ c ∈ l, c.In) : AksIn (W.alloc (.cells ((vals l).flatMap fun v => v.cells.toList).toArray 30)) (some ⟨W.heap.size, 0, none⟩) l.length (fun j => l.getD j zAk) := by
  intro j hj
  refine ⟨W.heap.size, 0, rfl, by simp, fun k u hu => ?_, ?_⟩
  · have e : l.getD j zAk = l[j] := by simp [List.getD, List.getElem?_eq_getElem hj]
    replace hu : (l.getD j zAk).l[k]? = some u := hu
    rw [e] at hu
    have hk : k < 40 := by have := (List.getElem?_eq_some_iff.1 hu).1; rwa [Ak.len] at this
    rw [World.cell?_alloc_at _ _ _ _ rfl, List.getElem?_toArray, Great.flat_get (s := 40) (by decide) (vals l) (vals_cells l)]
    have e1 : (0 + j * 40 + k) / 40 = j := by omega
    have e2 : (0 + j * 40 + k) % 40 = k := by omega
    rw [e1, e2]
    unfold vals
    rw [List.getElem?_map, List.getElem?_eq_getElem hj]
    show (l[j].l.toArray)[k]? = _
    rw [List.getElem?_toArray]; exact hu
  · have e : l.getD j zAk = l[j] := by simp [List.getD, List.getElem?_eq_getElem hj]
    show (l.getD j zAk).In
    rw [e]; exact hl _ (List.getElem_mem hj)
theorem wpList_lit {ops : Array Oper} {rest : List Oper} {op : Oper} {a : Act} {Q : Exit → Act → World → Prop} (W : World) (n : Nat) (l : List Ak) (hl : ∀ c ∈ l, c.In) (hn : l.length = n) (h0 : 0 < n) (h1 : n ≤ 100) (hgd : op.guard = none) (parts : Array (Nat × Operand)) (ho : op.op = .buildSlice 23 n parts)
    (hp : (parts.map fun (i, x) => (i, a.eval x)).toList = ((vals l).zipIdx 0).map fun x => (x.2, x.1))
    (h : ∀ W', Hid (AksIn W' (some ⟨W.heap.size, 0, none⟩) n (fun j => l.getD j zAk)) → Hid (FrB W.heap.size W W') → wpList Tryd.prog ops Q rest (a.put op.dst (.slice (some ⟨W.heap.size, 0, none⟩) n n)) W') : wpList Tryd.prog ops Q (op :: rest) a W := by
  obtain ⟨ie, hie, hz, e1, e2⟩ := info_parts info30
  refine wpList_buildSlice hgd 23 30 n _ ho _ ie (.agg z40) Tryd.underlying23 hie hz (by rw [e1]; omega) (by rw [e1]; omega) ?_ (h _ (by rw [← hn]; exact asks_lit W l hl) (FrB.alloc W _))
  rw [hp, e1]
  exact Great.fill_whole (by decide) (vals l) _ (vals_cells l) (by simp [vals, hn])
/-- eight ints lie at X -/
def LitIn (X : Nat) (w : World) : Prop := ∀ j : Nat, j < 8 → ∃ v : Int, In64 v ∧ w.cell? ⟨X, j, none⟩ = some (.int .i64 v)
abbrev lit8 : Array Value := #[.int .i64 (-9223372036854775808), .int .i64 (-1), .int .i64 0, .int .i64 65535, .int .i64 65536, .int .i64 2147483647, .int .i64 2147483648, .int .i64 9223372036854775807]
theorem LitIn.new (w : World) : LitIn w.heap.size (w.alloc (.cells lit8 3)) := by
  intro j hj
  have h : ∀ j : Nat, j < 8 → ∃ v : Int, In64 v ∧ lit8[j]? = some (.int .i64 v) := by
    intro j hj
    match j, hj with
    | 0, _ => exact ⟨_, by unfold In64; decide, rfl⟩
    | 1, _ => exact ⟨_, by unfold In64; decide, rfl⟩
    | 2, _ => exact ⟨_, by unfold In64; decide, rfl⟩
    | 3, _ => exact ⟨_, by unfold In64; decide, rfl⟩
    | 4, _ => exact ⟨_, by unfold In64; decide, rfl⟩
    | 5, _ => exact ⟨_, by unfold In64; decide, rfl⟩
    | 6, _ => exact ⟨_, by unfold In64; decide, rfl⟩
    | 7, _ => exact ⟨_, by unfold In64; decide, rfl⟩
  obtain ⟨v, a, b⟩ := h j hj
  exact ⟨v, a, by rw [World.cell?_alloc_at _ _ _ _ rfl]; exact b⟩
theorem LitIn.frb {X B : Nat} {w w' : World} (h : LitIn X w) (t : FrB B w w') (hX : X < B) : LitIn X w' := fun j hj => by
  obtain ⟨v, a, b⟩ := h j hj
  exact ⟨v, a, by rw [t.cell _ _ hX]; exact b⟩
def ak (kd n : Int) (pc : Nat) : Ak := ⟨kd, n, pc, w0, w0⟩
theorem ak_in {kd n : Int} {pc : Nat} (h1 : In64 kd) (h2 : In64 n) (h3 : pc < 4294967296) : (ak kd n pc).In := ⟨h1, h2, h3, w0_wd _, w0_wd _⟩
def five (v : Int) : List Ak := [ak 0 v 8, ak 3 0 0, ak 5 5 0, ak 5 6 0, ak 3 0 0, ak 5 1522 0, ak 5 1523 0, ak 3 0 0, ak 0 3 0, ak 3 0 0, ak 5 3042 0, ak 5 3043 0, ak 3 0 0, ak 0 4 0, ak 3 0 0]
theorem five_in {v : Int} (hv : In64 v) : ∀ c ∈ five v, c.In := by
  intro c hc
  unfold five at hc
  simp only [List.mem_cons, List.not_mem_nil, or_false] at hc
  rcases hc with rfl | rfl | rfl | rfl | rfl | rfl | rfl | rfl | rfl | rfl | rfl | rfl | rfl | rfl | rfl
  · exact ak_in (by unfold In64; decide) hv (by decide)
  all_goals exact ak_in (by unfold In64; decide) (by unfold In64; decide) (by decide)
set_option maxRecDepth 100000 in
set_option maxHeartbeats 4000000 in
theorem numbers (w : World) (hL : Hid (Laid w)) :
    Calls Tryd.prog 3 #[] w fun e w' => e = .returned (.bool true) ∧ FrB w.heap.size w w' := by
  have B0 := hideP hL.out.pos
  go_enter Tryd.func3, Tryd.ntmps3
  go_wp2_with fail
  go_loopw [1] (fun t wr => ∃ p : Nat, (p : Int) ≤ 40 ∧ t = .int .i64 p ∧ Hid (FrB w.heap.size w wr)) (fun t _ => 40 - (intOf t).toNat)
  case atStart => exact ⟨0, by decide, rfl, FrB.refl _ _⟩
  case round =>
    obtain ⟨p, hp, rfl, HP⟩ := hrel
    rename_i wr
    by_cases hpl : (p : Int) < 40
    · go_wp2_with fail
      refine (asks_as p hpl _).mono ?_; rintro e w1 ⟨⟨A, cap, qs, rfl, hQ⟩, hF⟩
      have HQ := hideP hQ
      have F1 := hideP (HP.out.trans (hF.mono HP.out.size))
      have L1 := hideP (F1.out.laid hL.out B0.out)
      clear hF hQ
      go_wp2_with fail
      refine (play A 50 cap qs _ L1 HQ).mono ?_; rintro e w2 ⟨rfl, hF⟩
      have F2 := hideP (F1.out.trans (hF.mono F1.out.size))
      clear hF
      go_wp2_with fail
      exact ⟨⟨p + 1, by omega, by rw [Int.natCast_add]; rfl, F2⟩, by simp [intOf]; omega⟩
    · have N1 := hideP (LitIn.new wr)
      have F1 := hideP (HP.out.trans ((FrB.alloc wr (.cells lit8 3)).mono HP.out.size))
      have X1 : Hid (w.heap.size ≤ wr.heap.size ∧ wr.heap.size < (wr.alloc (.cells lit8 3)).heap.size) := ⟨HP.out.size, by simp⟩
      go_wp2_with fail
      clear hpl hp
      generalize (wr.alloc (.cells lit8 3)) = w1 at *
      generalize wr.heap.size = X at *
      go_loopw [14] (fun t wr => ∃ k : Nat, (k : Int) ≤ 8 ∧ t = .int .i64 k ∧ Hid (FrB w.heap.size w wr) ∧ Hid (LitIn X wr) ∧ Hid (w.heap.size ≤ X ∧ X < wr.heap.size)) (fun t _ => 8 - (intOf t).toNat)
      case atStart => exact ⟨0, by decide, rfl, F1, N1, X1⟩
      case round =>
        obtain ⟨k, hk, rfl, HF, HN, HX⟩ := hrel
        rename_i wr2
        clear F1 N1 X1 HP
        by_cases hkl : (k : Int) < 8
        · obtain ⟨v, hv, cv⟩ := HN.out k (by omega)
          have VI := hideP hv
          clear hv
          go_wp2_with (first
            | (refine wpList_lit _ 15 (five v) (five_in VI.out) rfl (by decide) (by decide) (by rfl) _ rfl (by kernel_rfl) ?_; intro W1 hA hF; have A1 := hideP hA.out; have G1 := hideP (HF.out.trans (hF.out.mono HF.out.size)); have N2 := hideP (HN.out.frb hF.out HX.out.2); have X2 : Hid (w.heap.size ≤ X ∧ X < W1.heap.size) := ⟨HX.out.1, Nat.lt_of_lt_of_le HX.out.2 hF.out.size⟩; clear hA hF))
          have L1 := hideP (G1.out.laid hL.out B0.out)
          refine (play _ 15 15 _ _ L1 A1).mono ?_; rintro e w2 ⟨rfl, hF⟩
          have G2 := hideP (G1.out.trans (hF.mono G1.out.size))
          have N3 := hideP (N2.out.frb hF X2.out.2)
          have X3 : Hid (w.heap.size ≤ X ∧ X < w2.heap.size) := ⟨X2.out.1, Nat.lt_of_lt_of_le X2.out.2 hF.size⟩
          clear hF
          go_wp2_with fail
          exact ⟨⟨k + 1, by omega, by rw [Int.natCast_add]; rfl, G2, N3, X3⟩, by simp [intOf]; omega⟩
        · have L4 := hideP (HF.out.laid hL.out B0.out)
          go_wp2_with fail
          refine (known _ L4).mono ?_; rintro e w6 ⟨rfl, hF⟩
          have F6 := hideP (HF.out.trans (hF.mono HF.out.size))
          clear hF
          go_wp2_with fail
          go_ret
          exact ⟨rfl, F6.out⟩
end Go.Proofs.YtfhijdnbhbonpaaDoor.Walks
