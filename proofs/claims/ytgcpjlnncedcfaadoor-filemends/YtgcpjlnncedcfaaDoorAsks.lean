/- Rows of asks that a law makes by append; the book's Within. -/
import Derived.Test.YtgcpjlnncedcfaaDoorPair
import Derived.OwnWalk
namespace Go.Proofs.YtgcpjlnncedcfaaDoor.Walks
open Go.ChangeShapes Go.WideShapes Go.ChangeAt Go.RowKit
set_option linter.unusedVariables false
theorem info25 : (Tryd.prog.info? 25).map (fun i => (i.zero, i.size, i.bytes)) = some (some (.agg #[.int .i64 0, .int .i64 0, .int .u32 0]), 3, 24) := by kernel_rfl
def Okay (xs : List Value) (k : Nat) : Prop := ∀ j, j < k → ∃ p q r : Int, xs[j * 3]? = some (.int .i64 p) ∧ xs[j * 3 + 1]? = some (.int .i64 q) ∧ xs[j * 3 + 2]? = some (.int .u32 r) ∧ 0 ≤ r ∧ r < 4294967296 ∧ In64 q
theorem Okay.nil : Okay [] 0 := fun j hj => absurd hj (Nat.not_lt_zero _)
theorem Okay.snoc {xs : List Value} {k : Nat} (h : Okay xs k) (hl : xs.length = k * 3) (p q r : Int) (h0 : 0 ≤ r) (h1 : r < 4294967296) (h2 : In64 q) : Okay (xs ++ [.int .i64 p, .int .i64 q, .int .u32 r]) (k + 1) := by
  intro j hj
  by_cases e : j < k
  · obtain ⟨p', q', r', a, b, c, d⟩ := h j e
    refine ⟨p', q', r', ?_, ?_, ?_, d⟩
    · rw [List.getElem?_append_left (by omega)]; exact a
    · rw [List.getElem?_append_left (by omega)]; exact b
    · rw [List.getElem?_append_left (by omega)]; exact c
  · have ej : j = k := by omega
    subst ej
    refine ⟨p, q, r, ?_, ?_, ?_, h0, h1, h2⟩
    · rw [List.getElem?_append_right (by omega), hl, show j * 3 - j * 3 = 0 by omega]; rfl
    · rw [List.getElem?_append_right (by omega), hl, show j * 3 + 1 - j * 3 = 1 by omega]; rfl
    · rw [List.getElem?_append_right (by omega), hl, show j * 3 + 2 - j * 3 = 2 by omega]; rfl
/-- what was appended can be played -/
theorem own_asks {w : World} {base k : Nat} {v : Value} {xs : List Value} (h : w.ownsRow base 25 3 v k xs) (ok : Okay xs k) : ∃ A cap kd ix nn, v = .slice A k cap ∧ AsksIn w A k kd ix nn := by
  have h0 := h
  rcases h.2 with ⟨rfl, rfl⟩ | ⟨g, cap, cur, rfl, hb, hg, _⟩
  · exact ⟨none, 0, fun _ => 0, fun _ => 0, fun _ => 0, rfl, fun j hj => absurd hj (Nat.not_lt_zero _)⟩
  · have hgl : g < w.heap.size := by
      by_cases e : g < w.heap.size
      · exact e
      · rw [Array.getElem?_eq_none (by omega)] at hg; cases hg
    let P : Nat → Int := fun j => if hj : j < k then (ok j hj).choose else 0
    let Q : Nat → Int := fun j => if hj : j < k then (ok j hj).choose_spec.choose else 0
    let R : Nat → Int := fun j => if hj : j < k then (ok j hj).choose_spec.choose_spec.choose else 0
    refine ⟨_, cap, P, Q, R, rfl, fun j hj => ⟨g, 0, rfl, hgl, ?_⟩⟩
    have s := (ok j hj).choose_spec.choose_spec.choose_spec
    have eP : P j = (ok j hj).choose := dif_pos hj
    have eQ : Q j = (ok j hj).choose_spec.choose := dif_pos hj
    have eR : R j = (ok j hj).choose_spec.choose_spec.choose := dif_pos hj
    rw [eP, eQ, eR, Nat.zero_add, h0.cellAt _ (by omega), h0.cellAt _ (by omega), h0.cellAt _ (by omega)]
    exact s
theorem AsksIn.frb {w w' : World} {A : Option Addr} {len : Nat} {kd ix nn : Nat → Int} (h : AsksIn w A len kd ix nn) (f : FrB w.heap.size w w') : AsksIn w' A len kd ix nn := by
  intro j hj
  obtain ⟨b, o, e, hb, c0, c1, c2, r⟩ := h j hj
  exact ⟨b, o, e, Nat.lt_of_lt_of_le hb f.size, by rw [f.cell _ _ hb]; exact c0, by rw [f.cell _ _ hb]; exact c1, by rw [f.cell _ _ hb]; exact c2, r⟩
set_option maxHeartbeats 1000000 in
theorem within_kind (n : Int) (w : World) : Calls Tryd.prog 9 #[.int .i64 n, .int .i64 0, .int .i64 6] w fun e w' => (∃ r, e = .returned (.int .i64 r) ∧ 0 ≤ r ∧ r ≤ 6) ∧ w' = w := by
  obtain ⟨q, Q, q0, q1⟩ : ∃ q, n.tmod 7 = q ∧ -7 < q ∧ q < 7 := ⟨_, rfl, by have := Int.lt_tmod_of_pos n (b := 7) (by decide); omega, Int.tmod_lt_of_pos n (by decide)⟩
  go_enter Tryd.func9, Tryd.ntmps9
  go_wp2
  all_goals
    go_ret
    exact ⟨⟨_, rfl, by omega, by omega⟩, rfl⟩
set_option maxHeartbeats 1000000 in
theorem within_place (n : Int) (w : World) : Calls Tryd.prog 9 #[.int .i64 n, .int .i64 (-1), .int .i64 1210] w fun e w' => (∃ r, e = .returned (.int .i64 r) ∧ (-1) ≤ r ∧ r ≤ 1210) ∧ w' = w := by
  obtain ⟨q, Q, q0, q1⟩ : ∃ q, n.tmod 1212 = q ∧ -1212 < q ∧ q < 1212 := ⟨_, rfl, by have := Int.lt_tmod_of_pos n (b := 1212) (by decide); omega, Int.tmod_lt_of_pos n (by decide)⟩
  go_enter Tryd.func9, Tryd.ntmps9
  go_wp2
  all_goals
    go_ret
    exact ⟨⟨_, rfl, by omega, by omega⟩, rfl⟩
end Go.Proofs.YtgcpjlnncedcfaaDoor.Walks
