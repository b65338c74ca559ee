/- Rows of asks that a law makes by append; the book's Within. -/
import Derived.Test.YtedcamljgnblmaaPair
import Derived.OwnWalk
namespace Go.Proofs.Ytedcamljgnblmaa.M
open Go.ChangeShapes Go.WideShapes Go.ChangeAt Go.RowKit Go.Proofs.Ytedcamljgnblmaa.Walks
set_option linter.unusedVariables false
/-- an ask's cells -/
def ak (p : Int) (r : Rt) : List Value := .int .i64 p :: r.cs
theorem ak_len (p : Int) (r : Rt) : (ak p r).length = 8 := rfl
theorem info27 : (Try.prog.info? 27).map (fun i => (i.zero, i.size, i.bytes)) = some (some (.agg (ak 0 ⟨0, 0, 0, false, 0, 0, 0⟩).toArray), 8, 48) := by kernel_rfl
def Okay (xs : List Value) (k : Nat) : Prop := ∀ j, j < k → ∃ (p : Int) (r : Rt), r.In ∧ ∀ i u, (ak p r)[i]? = some u → xs[j * 8 + i]? = some u
theorem Okay.nil : Okay [] 0 := fun j hj => absurd hj (Nat.not_lt_zero _)
theorem Okay.snoc {xs : List Value} {k : Nat} (h : Okay xs k) (hl : xs.length = k * 8) (p : Int) (r : Rt) (h0 : r.In) : Okay (xs ++ ak p r) (k + 1) := by
  intro j hj
  by_cases e : j < k
  · obtain ⟨p', r', a, b⟩ := h j e
    refine ⟨p', r', a, fun i u hu => ?_⟩
    have hi : i < 8 := by have := (List.getElem?_eq_some_iff.1 hu).1; rwa [ak_len] at this
    rw [List.getElem?_append_left (by omega)]; exact b i u hu
  · have ej : j = k := by omega
    subst ej
    refine ⟨p, r, h0, fun i u hu => ?_⟩
    rw [List.getElem?_append_right (by omega), hl, show j * 8 + i - j * 8 = i by omega]; exact hu
/-- what was appended can be played -/
theorem own_asks {w : World} {base k : Nat} {v : Value} {xs : List Value} (h : w.ownsRow base 27 8 v k xs) (ok : Okay xs k) : ∃ A cap kd rs, v = .slice A k cap ∧ AsksIn w A k kd rs := by
  have h0 := h
  rcases h.2 with ⟨rfl, rfl⟩ | ⟨g, cap, cur, rfl, hb, hg, _⟩
  · exact ⟨none, 0, fun _ => 0, fun _ => zR, rfl, fun j hj => absurd hj (Nat.not_lt_zero _)⟩
  · have hgl : g < w.heap.size := by
      by_cases e : g < w.heap.size
      · exact e
      · rw [Array.getElem?_eq_none (by omega)] at hg; cases hg
    let P : Nat → Int := fun j => if hj : j < k then (ok j hj).choose else 0
    let Q : Nat → Rt := fun j => if hj : j < k then (ok j hj).choose_spec.choose else zR
    refine ⟨_, cap, P, Q, rfl, fun j hj => ⟨g, 0, rfl, hgl, ?_⟩⟩
    have s := (ok j hj).choose_spec.choose_spec
    have eP : P j = (ok j hj).choose := dif_pos hj
    have eQ : Q j = (ok j hj).choose_spec.choose := dif_pos hj
    rw [eP, eQ]
    have cl : ∀ i u, (ak (ok j hj).choose (ok j hj).choose_spec.choose)[i]? = some u → w.cell? ⟨g, j * 8 + i, none⟩ = some u := fun i u hu => by
      have hi : i < 8 := by have := (List.getElem?_eq_some_iff.1 hu).1; rwa [ak_len] at this
      rw [h0.cellAt _ (by omega)]; exact s.2 i u hu
    refine ⟨by have := cl 0 _ rfl; rwa [Nat.zero_add], fun i u hu => ?_, s.1⟩
    have := cl (i + 1) u hu
    rwa [show 0 + j * 8 + 1 + i = j * 8 + (i + 1) by omega]
set_option maxHeartbeats 1000000 in
theorem within_kind (n : Int) (w : World) : Calls Try.prog 9 #[.int .i64 n, .int .i64 0, .int .i64 5] w fun e w' => (∃ r, e = .returned (.int .i64 r)) ∧ w' = w := by
  obtain ⟨q, Q, q0, q1⟩ : ∃ q, n.tmod 6 = q ∧ -6 < q ∧ q < 6 := ⟨_, rfl, by have := Int.lt_tmod_of_pos n (b := 6) (by decide); omega, Int.tmod_lt_of_pos n (by decide)⟩
  go_enter Try.func9, Try.ntmps9
  go_wp2
  all_goals
    go_ret
    exact ⟨⟨_, rfl⟩, rfl⟩
set_option maxHeartbeats 1000000 in
theorem within_n (n : Int) (m : Nat) (hm : (m : Int) ≤ 16) (w : World) : Calls Try.prog 9 #[.int .i64 n, .int .i64 0, .int .i64 m] w fun e w' => (∃ r, e = .returned (.int .i64 r) ∧ 0 ≤ r ∧ r ≤ m) ∧ w' = w := by
  obtain ⟨d, D, d0⟩ : ∃ d, (m : Int) + 1 = d ∧ (0 : Int) < d := ⟨_, rfl, by omega⟩
  obtain ⟨q, Q, q0, q1⟩ : ∃ q, n.tmod d = q ∧ -d < q ∧ q < d := ⟨_, rfl, Int.lt_tmod_of_pos n d0, Int.tmod_lt_of_pos n d0⟩
  have d2 : (d == 0) = false := by rw [beq_eq_false_iff_ne]; omega
  have d3 : ¬ d = 0 := by omega
  go_enter Try.func9, Try.ntmps9
  go_wp2
  all_goals
    go_ret
    exact ⟨⟨_, rfl, by omega, by omega⟩, rfl⟩
end Go.Proofs.Ytedcamljgnblmaa.M
