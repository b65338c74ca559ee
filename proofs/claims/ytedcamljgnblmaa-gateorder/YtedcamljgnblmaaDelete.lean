/- Contract of slices.Delete at the gate's row: its first one goes. -/
import Derived.Test.YtedcamljgnblmaaRFirst
import Derived.ArgAppend
import Derived.Lib.SliceRun
namespace Go.Proofs.Ytedcamljgnblmaa.M
open Go.ChangeShapes Go.WideShapes Go.ChangeAt Go.RowKit Go.Proofs.Ytedcamljgnblmaa.Walks
set_option linter.unusedVariables false
/-- the others -/
def tl (f : Nat → Rt) : Nat → Rt := fun j => f (j + 1)
/-- the cells that clear lays -/
def zs7 : List Value := (⟨0, 0, 0, false, 0, 0, 0⟩ : Rt).cs
theorem zv25 (w : World) : (zeroValue 25).run Try.prog w = .ok (.agg zs7.toArray) w := by
  obtain ⟨i, hi, hz0, _, _⟩ := info_parts info25
  simp [zeroValue, typeInfo, hi, hz0, zs7]
theorem zc7 : (Builtin.zeroCells (Value.agg #[.int .u32 0, .int .u32 0, .int .i64 0, .bool false, .int .u32 0, .int .u32 0, .int .i64 0]).cells 1).toList = zs7 := by kernel_rfl
theorem run_clear_one (w : World) (ty : TypeId) (b o c : Nat) (hc : ∀ j, j < 7 → (w.cell? ⟨b, o + j, none⟩).isSome = true) (hf : ∀ j, j < 7 → w.frozen? ⟨b, o + j, none⟩ = false) :
    (Builtin.clear_ #[31] ty #[.slice (some ⟨b, o, none⟩) 1 c]).run Try.prog w = .ok (.tuple #[]) (w.setCells b o zs7) := by
  have hst := run_storeCells_cells (P := Try.prog) b o zs7 0 w (fun j hj => by rw [Nat.add_zero]; exact hc j hj) (fun j hj => by rw [Nat.add_zero]; exact hf j hj) (one_cs _)
  simp only [Nat.add_zero] at hst
  simp [Builtin.clear_, run_underlying Try.underlying31, zc7, hst]
theorem rl_tl (f : Nat → Rt) : ∀ n, rl f (n + 1) = (f 0).cs ++ rl (tl f) n
  | 0 => by simp [rl]
  | n + 1 => by
    rw [rl, rl_tl f n, List.append_assoc]
    rfl
theorem stored_all {B n cap : Nat} {g : Nat} : ∀ (us : List Value) (o : Nat) (xs : List Value) (w : World), w.ownsRow B 25 7 (.slice (some ⟨g, 0, none⟩) n cap) n xs → o + us.length ≤ xs.length →
    (w.setCells g o us).ownsRow B 25 7 (.slice (some ⟨g, 0, none⟩) n cap) n (xs.take o ++ us ++ xs.drop (o + us.length))
  | [], o, xs, w, h, _ => by
    have e : xs.take o ++ [] ++ xs.drop (o + ([] : List Value).length) = xs := by simp
    rw [e]; exact h
  | u :: us, o, xs, w, h, hl => by
    have hl' : o + 1 + us.length ≤ xs.length := by simp only [List.length_cons] at hl; omega
    have k := stored_all us (o + 1) (xs.set o u) (w.setCell ⟨g, o, none⟩ u) (h.stored o u).1 (by rw [List.length_set]; exact hl')
    have e : (xs.set o u).take (o + 1) ++ us ++ (xs.set o u).drop (o + 1 + us.length) = xs.take o ++ (u :: us) ++ xs.drop (o + (u :: us).length) := by
      rw [List.take_set, List.take_succ_eq_append_getElem (by omega), List.set_append_right _ _ (by rw [List.length_take]; omega), List.length_take_of_le (by omega), Nat.sub_self, List.drop_set_of_lt (by omega)]
      simp [Nat.add_assoc, Nat.add_comm 1]
    rw [e] at k
    exact k
theorem shrink {B n m cap g : Nat} {xs : List Value} {w : World} (h : w.ownsRow B 25 7 (.slice (some ⟨g, 0, none⟩) n cap) n xs) (hm : m ≤ n) : w.ownsRow B 25 7 (.slice (some ⟨g, 0, none⟩) m cap) m (xs.take (m * 7)) := by
  refine ⟨by rw [List.length_take, h.1]; omega, ?_⟩
  rcases h.2 with ⟨e, _⟩ | ⟨g', cap', cur, e, h2, h3, h4, h5, h6, h7⟩
  · injection e with e; cases e
  · injection e with e1 e2 e3
    subst e3
    refine .inr ⟨g', cap, cur, by rw [e1], h2, h3, by omega, h5, h6, ?_⟩
    rw [← h7, List.take_take, Nat.min_eq_left (by omega)]
theorem gone {B m cap g : Nat} {f : Nat → Rt} {w : World} (h : w.ownsRow B 25 7 (.slice (some ⟨g, 0, none⟩) (m + 1) cap) (m + 1) (rl f (m + 1))) :
    ((w.drew.setCells g 0 (rl (tl f) m)).setCells g (m * 7) zs7).ownsRow B 25 7 (.slice (some ⟨g, 0, none⟩) m cap) m (rl (tl f) m) := by
  have h0 : w.drew.ownsRow B 25 7 (.slice (some ⟨g, 0, none⟩) (m + 1) cap) (m + 1) (rl f (m + 1)) := h
  have k1 := stored_all (rl (tl f) m) 0 _ _ h0 (by rw [rl_len, rl_len]; omega)
  have k2 := stored_all zs7 (m * 7) _ _ k1 (by
    rw [k1.1]
    have : zs7.length = 7 := rfl
    omega)
  have k3 := shrink k2 (m := m) (by omega)
  have e : ((((rl f (m + 1)).take 0 ++ rl (tl f) m ++ (rl f (m + 1)).drop (0 + (rl (tl f) m).length)).take (m * 7) ++ zs7 ++ ((rl f (m + 1)).take 0 ++ rl (tl f) m ++ (rl f (m + 1)).drop (0 + (rl (tl f) m).length)).drop (m * 7 + zs7.length))).take (m * 7) = rl (tl f) m := by
    have l1 : (rl (tl f) m).length = m * 7 := rl_len _ _
    rw [List.take_zero, List.nil_append, ← l1, List.take_left, List.append_assoc, List.take_left]
  rw [e] at k3
  exact k3
theorem block_setCells (g : Nat) : ∀ (us : List Value) (o : Nat) (w : World) (k : Nat), k ≠ g → (w.setCells g o us).heap[k]? = w.heap[k]?
  | [], _, _, _, _ => rfl
  | u :: us, o, w, k, h => (block_setCells g us (o + 1) _ k h).trans (Below.heap_setCell _ _ _ k h)
theorem size_setCells (g : Nat) : ∀ (us : List Value) (o : Nat) (w : World), (w.setCells g o us).heap.size = w.heap.size ∧ (w.setCells g o us).os = w.os ∧ (w.setCells g o us).output = w.output
  | [], _, _ => ⟨rfl, rfl, rfl⟩
  | u :: us, o, w => by
    have k := size_setCells g us (o + 1) (w.setCell ⟨g, o, none⟩ u)
    exact ⟨k.1.trans (World.size_setCell _ _ _), k.2.1, k.2.2⟩
theorem owned_cell {B n cap g j : Nat} {xs : List Value} {w : World} (h : w.ownsRow B 25 7 (.slice (some ⟨g, 0, none⟩) n cap) n xs) (hj : j < cap * 7) : (w.cell? ⟨g, j, none⟩).isSome = true ∧ w.frozen? ⟨g, j, none⟩ = false := by
  refine ⟨?_, h.frozenAt j⟩
  rcases h.2 with ⟨e, _⟩ | ⟨g', cap', cur, e, h2, h3, h4, h5, h6, h7⟩
  · injection e with e; cases e
  · injection e with e1 e2 e3
    injection e1 with e1
    injection e1 with e1
    subst e3
    subst e1
    rw [cell_of_row w g j cur 25 (0, 0) h3, Array.getElem?_eq_getElem (by omega)]
    rfl
set_option maxHeartbeats 1000000 in
theorem delete_as (B g m cap : Nat) (f : Nat → Rt) (w : World) (hO : Hid (w.ownsRow B 25 7 (.slice (some ⟨g, 0, none⟩) (m + 1) cap) (m + 1) (rl f (m + 1)))) (hm : (m : Int) ≤ 16) (hc : (m : Int) + 1 ≤ cap) (hcap : (cap : Int) ≤ 9223372036854775807) :
    Calls Try.prog 20 #[.slice (some ⟨g, 0, none⟩) (m + 1) cap, .int .i64 0, .int .i64 1] w fun e w' => e = .returned (.slice (some ⟨g, 0, none⟩) m cap) ∧ w' = (w.drew.setCells g 0 (rl (tl f) m)).setCells g (m * 7) zs7 := by
  obtain ⟨i0, hi0, hz0, hz1, hz2⟩ := info_parts info25
  obtain ⟨A, hA, hsrc⟩ : ∃ A : Addr, (if cap = 1 then some (⟨g, 0, none⟩ : Addr) else some ⟨g, 7, none⟩) = some A ∧ Hid (∀ j u, (rl (tl f) m)[j]? = some u → w.drew.cell? (A.add j) = some u) := by
    by_cases h : cap = 1
    · refine ⟨⟨g, 0, none⟩, by simp [h], fun j u hu => ?_⟩
      have : m = 0 := by omega
      subst this
      simp [rl] at hu
    · refine ⟨⟨g, 7, none⟩, by simp [h], fun j u hu => ?_⟩
      have k := hO.out.cells (g := g) rfl (7 + j) u (by
        rw [rl_tl, List.getElem?_append_right (by show 7 ≤ 7 + j; omega)]
        have : (f 0).cs.length = 7 := rfl
        rw [this, show 7 + j - 7 = j by omega]; exact hu)
      rw [Addr.add_lit] at k ⊢
      rw [Nat.zero_add] at k
      exact k
  have s1 : Hid ((rl (tl f) m).length = m * 7) := rl_len _ _
  have s2 : Hid (∀ u ∈ rl (tl f) m, u.oneCell' = true) := one_rl _ _
  have hc' : m + 1 ≤ cap := by omega
  have s3 : Hid (∀ t, t < (rl (tl f) m).length → (w.drew.cell? ⟨g, 0 + 0 * 7 + t, none⟩).isSome = true ∧ w.drew.frozen? ⟨g, 0 + 0 * 7 + t, none⟩ = false) := by
    intro t ht
    rw [rl_len] at ht
    rw [show 0 + 0 * 7 + t = t by omega]
    exact owned_cell (w := w.drew) hO.out (by omega)
  obtain ⟨W1, hW1⟩ : ∃ W1, W1 = w.drew.setCells g (0 + 0 * 7) (rl (tl f) m) := ⟨_, rfl⟩
  have hcl : ∀ ty, (Builtin.clear_ #[31] ty #[.slice (some ⟨g, m * 7, none⟩) 1 (cap - m)]).run Try.prog W1 = .ok (.tuple #[]) (W1.setCells g (m * 7) zs7) := fun ty => by
    have k1 := stored_all (rl (tl f) m) 0 _ _ (show w.drew.ownsRow B 25 7 (.slice (some ⟨g, 0, none⟩) (m + 1) cap) (m + 1) (rl f (m + 1)) from hO.out) (by rw [rl_len, rl_len]; omega)
    have e : W1 = w.drew.setCells g 0 (rl (tl f) m) := hW1
    rw [← e] at k1
    exact run_clear_one W1 ty g (m * 7) (cap - m) (fun j hj => (owned_cell k1 (by omega)).1) (fun j hj => (owned_cell k1 (by omega)).2)
  have hW : Hid (W1 = w.drew.setCells g (0 + 0 * 7) (rl (tl f) m)) := hW1
  clear hW1
  have hc2 := hid hc'
  have h1 : (1 : Int) ≤ (m : Int) + 1 := by omega
  clear hc'
  go_enter Try.func20, Try.ntmps20
  go_wp2_with fail
  go_region_law (refine step_append_room rfl (.tmp 22) (.tmp 25) 31 rfl 25 i0 7 Try.underlying31 hi0 hz1 g 0 0 cap (by simp [Act.eval, Act.put]) A m (cap - 1) (rl (tl f) m) (by simp [Act.eval, Act.put]) s1.out hsrc.out s2.out (by have := hc2.out; omega) s3.out ?_; rw [← hW.out])
  go_wp2
  go_ret
  exact ⟨rfl, by rw [hW.out]⟩
end Go.Proofs.Ytedcamljgnblmaa.M
