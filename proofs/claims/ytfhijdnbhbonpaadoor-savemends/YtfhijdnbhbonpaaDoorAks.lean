/- Asks in boxes: one cell is stored; rows of asks that a law makes by append; the book's Within. -/
import Derived.Test.YtfhijdnbhbonpaaDoorSv
import Derived.Great.BuildSlice
import Derived.OwnWalk
namespace Go.Proofs.YtfhijdnbhbonpaaDoor.Walks
open Go.ChangeShapes Go.WideShapes Go.ChangeAt Go.RowKit
set_option linter.unusedVariables false
theorem wn_set (f : Nat → Nat) (n k v : Nat) (hk : k < n) : (wn f n).set k (.int .u32 ((v : Nat) : Int)) = wn (upd f k v) n := by
  apply List.ext_getElem?
  intro j
  by_cases e : k = j
  · subst e
    rw [List.getElem?_set_self (by rw [wn_len]; exact hk), wn_at _ _ _ hk, upd_at]
  · rw [List.getElem?_set_ne e]
    by_cases h : j < n
    · rw [wn_at _ _ _ h, wn_at _ _ _ h, upd_off _ _ _ _ (fun x => e x.symm)]
    · rw [List.getElem?_eq_none (by rw [wn_len]; omega), List.getElem?_eq_none (by rw [wn_len]; omega)]
theorem Ak.setR (a : Ak) (i v : Nat) (hi : i < 32) : a.l.set (3 + i) (.int .u32 ((v : Nat) : Int)) = Ak.l { a with rs := upd a.rs i v } := by
  unfold Ak.l
  rw [show 3 + i = i + 3 by omega]
  show _ :: _ :: _ :: (wn a.rs 32 ++ wn a.cs 5).set i _ = _
  rw [List.set_append_left _ _ (by rw [wn_len]; exact hi), wn_set _ _ _ _ hi]
theorem Ak.setC (a : Ak) (i v : Nat) (hi : i < 5) : a.l.set (35 + i) (.int .u32 ((v : Nat) : Int)) = Ak.l { a with cs := upd a.cs i v } := by
  unfold Ak.l
  rw [show 35 + i = (32 + i) + 3 by omega]
  show _ :: _ :: _ :: (wn a.rs 32 ++ wn a.cs 5).set (32 + i) _ = _
  rw [List.set_append_right _ _ (by rw [wn_len]; omega), wn_len, show 32 + i - 32 = i by omega, wn_set _ _ _ _ hi]
section
variable {ops : Array Oper} {rest : List Oper} {op : Oper} {a : Act} {Q : Exit → Act → World → Prop}
theorem wpList_cell26 (W : World) (A k : Nat) (c e : Ak) (H : BxAt A c.l W) (hk : k < 40) (v : Nat) (hs : c.l.set k (.int .u32 ((v : Nat) : Int)) = e.l) (hgd : op.guard = none) (x y : Operand) (ho : op.op = .store 26 x y)
    (hx : a.eval x = .pointer (some ⟨A, k, none⟩)) (u : Int) (hu : u = (v : Int)) (hy : a.eval y = .int .u32 u)
    (h : ∀ W', Hid (BxAt A e.l W') → Hid (TouA A W W') → wpList Tryd.prog ops Q rest (a.put op.dst undef) W') : wpList Tryd.prog ops Q (op :: rest) a W := by
  subst hu
  have hk' : k < c.l.length := by rw [c.len]; exact hk
  have cc : W.cell? ⟨A, k, none⟩ = some (c.l[k]) := H.cell (List.getElem?_eq_getElem hk')
  have z := H.fz hk'
  generalize c.l[k] = old at cc
  have g := h (W.setCell ⟨A, k, none⟩ (.int .u32 (v : Int))) (by unfold Hid; rw [← hs]; exact H.put k _ hk') (TouA.set A k W _)
  refine wpList_plain hgd fun K hK => ?_
  unfold Oper.wp execOp
  simp only [ho, hx, hy]
  go_simp
  exact hK _ _ g
theorem wpList_cell3 (W : World) (A k : Nat) (c e : Ak) (H : BxAt A c.l W) (hk : k < 40) (v : Int) (hs : c.l.set k (.int .i64 v) = e.l) (hgd : op.guard = none) (x y : Operand) (ho : op.op = .store 3 x y)
    (hx : a.eval x = .pointer (some ⟨A, k, none⟩)) (hy : a.eval y = .int .i64 v)
    (h : ∀ W', Hid (BxAt A e.l W') → Hid (TouA A W W') → wpList Tryd.prog ops Q rest (a.put op.dst undef) W') : wpList Tryd.prog ops Q (op :: rest) a W := by
  have hk' : k < c.l.length := by rw [c.len]; exact hk
  have cc : W.cell? ⟨A, k, none⟩ = some (c.l[k]) := H.cell (List.getElem?_eq_getElem hk')
  have z := H.fz hk'
  generalize c.l[k] = old at cc
  have g := h (W.setCell ⟨A, k, none⟩ (.int .i64 v)) (by unfold Hid; rw [← hs]; exact H.put k _ hk') (TouA.set A k W _)
  refine wpList_plain hgd fun K hK => ?_
  unfold Oper.wp execOp
  simp only [ho, hx, hy]
  go_simp
  exact hK _ _ g
theorem info30 : (Tryd.prog.info? 30).map (fun i => (i.zero, i.size, i.bytes)) = some (some (.agg z40), 40, 168) := by kernel_rfl
theorem built (c : Ak) : Instr.fill (fun i => some (i * 40, 40)) ((Array.range (1 * 40)).map ((Value.agg z40).cells[· % (Value.agg z40).cells.size]!)) [(0, .agg c.l.toArray)] = some c.l.toArray := by kernel_rfl
theorem wpList_bs (W : World) (hgd : op.guard = none) (x : Operand) (ho : op.op = .buildSlice 23 1 #[(0, x)]) (c : Ak) (hx : a.eval x = .agg c.l.toArray)
    (h : ∀ W', Hid (BxAt W.heap.size c.l W') → Hid (FrB W.heap.size W W') → Hid (W'.heap.size = W.heap.size + 1) → wpList Tryd.prog ops Q rest (a.put op.dst (.slice (some ⟨W.heap.size, 0, none⟩) 1 1)) W') : wpList Tryd.prog ops Q (op :: rest) a W := by
  obtain ⟨ie, hie, hz, h1, h2⟩ := info_parts info30
  refine wpList_buildSlice hgd 23 30 1 _ ho c.l.toArray ie (.agg z40) Tryd.underlying23 hie hz (by rw [h1]; decide) (by rw [h1]; decide) ?_ (h _ (BxAt.new W c.l 30) (FrB.alloc W _) (by unfold Hid; simp))
  rw [h1]
  have e : (Array.map (fun (p : Nat × Operand) => (p.1, a.eval p.2)) #[(0, x)]).toList = [(0, .agg c.l.toArray)] := by simp [hx]
  exact (congrArg _ e).trans (built c)
end
theorem owns_frb {w w' : World} {B n e s : Nat} {v : Value} {xs : List Value} (h : w.ownsRow B e s v n xs) (t : FrB w.heap.size w w') : w'.ownsRow B e s v n xs := by
  refine ⟨h.1, ?_⟩
  rcases h.2 with h' | ⟨g, cap, cur, e1, e2, e3, e4⟩
  · exact .inl h'
  · exact .inr ⟨g, cap, cur, e1, e2, by rw [t.block g (h.lt g (by rw [e1]; rfl)).2]; exact e3, e4⟩
/-- what has been appended: k asks -/
def OkAk (xs : List Value) (k : Nat) : Prop := ∀ j, j < k → ∃ c : Ak, c.In ∧ ∀ i, i < 40 → xs[j * 40 + i]? = c.l[i]?
theorem OkAk.nil : OkAk [] 0 := fun j hj => absurd hj (Nat.not_lt_zero _)
theorem OkAk.snoc {xs : List Value} {k : Nat} (h : OkAk xs k) (hl : xs.length = k * 40) (c : Ak) (hc : c.In) : OkAk (xs ++ c.l) (k + 1) := by
  intro j hj
  by_cases e : j < k
  · obtain ⟨c', a, b⟩ := h j e
    refine ⟨c', a, fun i hi => ?_⟩
    rw [List.getElem?_append_left (by omega)]; exact b i hi
  · have ej : j = k := by omega
    subst ej
    refine ⟨c, hc, fun i hi => ?_⟩
    rw [List.getElem?_append_right (by omega), hl, show j * 40 + i - j * 40 = i by omega]
/-- what was appended can be played -/
theorem own_aks {w : World} {base k : Nat} {v : Value} {xs : List Value} (h : w.ownsRow base 30 40 v k xs) (ok : OkAk xs k) : ∃ A cap qs, v = .slice A k cap ∧ AksIn w A k qs := by
  have h0 := h
  rcases h.2 with ⟨rfl, rfl⟩ | ⟨g, cap, cur, rfl, hb, hg, _⟩
  · exact ⟨none, 0, fun _ => zAk, rfl, fun j hj => absurd hj (Nat.not_lt_zero _)⟩
  · have hgl : g < w.heap.size := by
      by_cases e : g < w.heap.size
      · exact e
      · rw [Array.getElem?_eq_none (by omega)] at hg; cases hg
    classical
    let P : Nat → Ak := fun j => if hj : j < k then (ok j hj).choose else zAk
    refine ⟨_, cap, P, rfl, fun j hj => ⟨g, 0, rfl, hgl, ?_, ?_⟩⟩
    all_goals
      have s := (ok j hj).choose_spec
      have eP : P j = (ok j hj).choose := dif_pos hj
      rw [eP]
    · intro i u hu
      have hi : i < 40 := by have := (List.getElem?_eq_some_iff.1 hu).1; rwa [Ak.len] at this
      have := h0.cells (g := g) rfl (j * 40 + i) u (by rw [s.2 i hi]; exact hu)
      rw [add_mid] at this
      simpa using this
    · exact s.1
set_option maxHeartbeats 1000000 in
theorem within_kind (n : Int) (w : World) : Calls Tryd.prog 10 #[.int .i64 n, .int .i64 0, .int .i64 6] w fun e w' => (∃ r, e = .returned (.int .i64 r) ∧ 0 ≤ r ∧ r ≤ 6) ∧ w' = w := by
  obtain ⟨q, Q, q0, q1⟩ : ∃ q, n.tmod 7 = q ∧ -7 < q ∧ q < 7 := ⟨_, rfl, by have := Int.lt_tmod_of_pos n (b := 7) (by decide); omega, Int.tmod_lt_of_pos n (by decide)⟩
  go_enter Tryd.func10, Tryd.ntmps10
  go_wp2
  all_goals
    go_ret
    exact ⟨⟨_, rfl, by omega, by omega⟩, rfl⟩
set_option maxHeartbeats 1000000 in
theorem within_bit (n : Int) (w : World) : Calls Tryd.prog 10 #[.int .i64 n, .int .i64 0, .int .i64 3081] w fun e w' => (∃ r, e = .returned (.int .i64 r) ∧ 0 ≤ r ∧ r ≤ 3081) ∧ w' = w := by
  obtain ⟨q, Q, q0, q1⟩ : ∃ q, n.tmod 3082 = q ∧ -3082 < q ∧ q < 3082 := ⟨_, rfl, by have := Int.lt_tmod_of_pos n (b := 3082) (by decide); omega, Int.tmod_lt_of_pos n (by decide)⟩
  go_enter Tryd.func10, Tryd.ntmps10
  go_wp2
  all_goals
    go_ret
    exact ⟨⟨_, rfl, by omega, by omega⟩, rfl⟩
set_option maxHeartbeats 1000000 in
theorem within_in (n : Int) (w : World) : Calls Tryd.prog 10 #[.int .i64 n, .int .i64 0, .int .i64 3080] w fun e w' => (∃ r, e = .returned (.int .i64 r) ∧ 0 ≤ r ∧ r ≤ 3080) ∧ w' = w := by
  obtain ⟨q, Q, q0, q1⟩ : ∃ q, n.tmod 3081 = q ∧ -3081 < q ∧ q < 3081 := ⟨_, rfl, by have := Int.lt_tmod_of_pos n (b := 3081) (by decide); omega, Int.tmod_lt_of_pos n (by decide)⟩
  go_enter Tryd.func10, Tryd.ntmps10
  go_wp2
  all_goals
    go_ret
    exact ⟨⟨_, rfl, by omega, by omega⟩, rfl⟩
set_option maxHeartbeats 1000000 in
theorem within_170 (n : Int) (w : World) : Calls Tryd.prog 10 #[.int .i64 n, .int .i64 0, .int .i64 170] w fun e w' => (∃ r, e = .returned (.int .i64 r) ∧ 0 ≤ r ∧ r ≤ 170) ∧ w' = w := by
  obtain ⟨q, Q, q0, q1⟩ : ∃ q, n.tmod 171 = q ∧ -171 < q ∧ q < 171 := ⟨_, rfl, by have := Int.lt_tmod_of_pos n (b := 171) (by decide); omega, Int.tmod_lt_of_pos n (by decide)⟩
  go_enter Tryd.func10, Tryd.ntmps10
  go_wp2
  all_goals
    go_ret
    exact ⟨⟨_, rfl, by omega, by omega⟩, rfl⟩
end Go.Proofs.YtfhijdnbhbonpaaDoor.Walks
