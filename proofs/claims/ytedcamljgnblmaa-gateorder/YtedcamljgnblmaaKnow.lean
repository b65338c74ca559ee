/- known returns true. -/
import Derived.Test.YtedcamljgnblmaaPair
namespace Go.Proofs.Ytedcamljgnblmaa.M
open Go.ChangeShapes Go.WideShapes Go.ChangeAt Go.RowKit Go.Proofs.Ytedcamljgnblmaa.Walks
set_option linter.unusedVariables false
def kr : Rt := ⟨4, 0, 0, true, 8, 85, 1⟩
theorem sn0 (f : Nat → Rt) (r : Rt) : sn f 0 r 0 = r := by simp [sn, cat]
theorem sec1 (f : Nat → Rt) : Sec f 0 kr zR 2 0 f := .inl ⟨.inl rfl, rfl, rfl, rfl, rfl⟩
theorem fst1 (f : Nat → Rt) : Fst f 0 kr true 1 (sn f 0 kr) := .inl ⟨by decide, rfl, rfl, rfl⟩
theorem sec2 (f : Nat → Rt) : Sec (sn f 0 kr) 1 kr kr 1 0 (tl (sn f 0 kr)) := .inr ⟨rfl, by rw [sn0]; rfl, rfl, rfl, rfl⟩
theorem fw1 (f : Nat → Rt) : fw (sn f 0 kr) 8 4369 1 = 4437 := by
  rw [fw_yes (by rw [sn0]; rfl) (by rw [sn0]; rfl), sn0]; rfl
theorem fw0 (f : Nat → Rt) : fw f 8 7 0 = 7 := rfl
theorem boxk (w3 w4 : World) (hV : w4.heap[w3.heap.size]? = (w3.alloc (.cells kr.cs.toArray 25)).heap[w3.heap.size]?) :
    w4.cell? ⟨w3.heap.size, 0, none⟩ = some (.int .u32 4) ∧ w4.cell? ⟨w3.heap.size, 1, none⟩ = some (.int .u32 0) ∧ w4.cell? ⟨w3.heap.size, 2, none⟩ = some (.int .i64 0) ∧ w4.cell? ⟨w3.heap.size, 3, none⟩ = some (.bool true) ∧ w4.cell? ⟨w3.heap.size, 4, none⟩ = some (.int .u32 8) ∧ w4.cell? ⟨w3.heap.size, 5, none⟩ = some (.int .u32 85) ∧ w4.cell? ⟨w3.heap.size, 6, none⟩ = some (.int .i64 1) :=
  cells7 (r := kr) (range_block (range_new w3 kr.cs 25) hV)
theorem alloc_block (V : World) (o : Obj) {k : Nat} (h : k < V.heap.size) : (V.alloc o).heap[k]? = V.heap[k]? := Below.heap_alloc _ _ _ h
set_option maxRecDepth 100000 in
set_option maxHeartbeats 2000000 in
theorem known_as (w : World) : Calls Try.prog 8 #[] w fun e w' => e = .returned (.bool true) ∧ Fr w w' := by
  have E : ∀ W, (binOp .eql 25 (.agg #[.int .u32 4, .int .u32 0, .int .i64 0, .bool true, .int .u32 8, .int .u32 85, .int .i64 1]) (.agg #[.int .u32 4, .int .u32 0, .int .i64 0, .bool true, .int .u32 8, .int .u32 85, .int .i64 1])).run Try.prog W = .ok (.bool true) W := fun W => (eql25 kr kr W).trans (by rfl)
  go_enter Try.func8, Try.ntmps8
  go_wp2_with fail
  refine (new_as w.heap.size _ (Nat.le_refl _) (fun _ => zR)).mono ?_; rintro e w1 ⟨rfl, hg, hF⟩
  have F1 := hid hF
  have G1 : Hid (GAt w.heap.size w.heap.size none 0 0 (fun _ => zR) (w1.alloc (.cells kr.cs.toArray 25))) := hg.fr ((Fr.refl _).alloc _)
  have lG : Hid (w.heap.size < w1.heap.size) := hg.lt
  clear hg hF
  go_wp2_with fail
  generalize fz : (fun _ : Nat => zR) = f at *
  refine (second_as w.heap.size w.heap.size 0 0 0 none f f kr zR 2 _ (sec1 f) (by unfold Hid; decide) G1).mono ?_; rintro e w3 ⟨rfl, A3, c3, hg, hm⟩
  have G3 := hid hg
  have F3 := hid (hm.fr (F1.out.alloc _) (Nat.le_refl _) (fun k hk => by cases hk))
  have q3 : Hid (w3.heap[w1.heap.size]? = (w1.alloc (.cells kr.cs.toArray 25)).heap[w1.heap.size]?) := hm.frame (by simp) (by have := lG.out; omega) (fun j hj => by cases hj)
  have nA3 : Hid (∀ j, A3.map (·.block) = some j → j ≠ w1.heap.size) := fun j hj e => by
    rcases hm.own with h | h
    · rw [hj] at h; cases h
    · have := h j hj; simp at this; omega
  have l3 : Hid (w1.heap.size < w3.heap.size) := by have := hm.size; simp at this; unfold Hid; omega
  have kk := hid (fun oo => boxk w1 (w3.alloc oo) ((alloc_block _ oo l3.out).trans q3.out))
  have a0 := fun oo => (kk.out oo).1
  have a1 := fun oo => (kk.out oo).2.1
  have a2 := fun oo => (kk.out oo).2.2.1
  have a3 := fun oo => (kk.out oo).2.2.2.1
  have a4 := fun oo => (kk.out oo).2.2.2.2.1
  have a5 := fun oo => (kk.out oo).2.2.2.2.2.1
  have a6 := fun oo => (kk.out oo).2.2.2.2.2.2
  clear hg hm
  go_wp2_with fail
  refine (first_is w.heap.size w.heap.size c3 0 1 A3 f (sn f 0 kr) kr true _ (fst1 f) (by unfold Hid Rt.In kr; decide) (F3.out.alloc (.cells #[.int .u32 0, .int .u32 0, .int .i64 0, .bool false, .int .u32 0, .int .u32 0, .int .i64 0] 25)).size (by exact hid (G3.out.fr ((Fr.refl _).alloc (.cells #[.int .u32 0, .int .u32 0, .int .i64 0, .bool false, .int .u32 0, .int .u32 0, .int .i64 0] 25))))).mono ?_; rintro e w4 ⟨rfl, A4, c4, hg, hm⟩
  have G4 := hid hg
  have hw3 := hid G3.out.own
  have hg3 : Hid (∀ j, A3.map (·.block) = some j → j ≠ w1.heap.size) := nA3
  have F4 := hid (hm.fr (F3.out.alloc _) (Nat.le_refl _) (fun k hk => (hw3.out k hk).1))
  clear a0 a1 a2 a3 a4 a5 a6
  have kA4 : Hid (∀ j, A4.map (·.block) = some j → j ≠ w1.heap.size) := fun j hj e => by
    rcases hm.own with h | h
    · rw [hj] at h; exact hg3.out j h.symm e
    · have := Nat.lt_of_lt_of_le (Nat.lt_of_lt_of_le l3.out (show w3.heap.size ≤ _ by simp)) (h j hj); omega
  have q4 : Hid (w4.heap[w1.heap.size]? = (w1.alloc (.cells kr.cs.toArray 25)).heap[w1.heap.size]?) := (hm.frame (by have := l3.out; simp; omega) (by have := lG.out; omega) (fun j hj e => by have := hg3.out j hj; omega)).trans ((alloc_block _ _ l3.out).trans q3.out)
  have l4 : Hid (w1.heap.size < w4.heap.size) := Nat.lt_of_lt_of_le l3.out (Nat.le_trans (by simp) hm.size)
  clear hg hm
  go_wp2_with fail
  refine (fwd_as w.heap.size w.heap.size c4 1 A4 (sn f 0 kr) 8 4369 4437 _ (by exact G4) (by decide) (by decide) (by decide) (fw1 f)).mono ?_; rintro e w5 ⟨rfl, hF⟩
  have G5 := hid (G4.out.fr hF)
  have F5 := hid (F4.out.trans hF)
  have q5 : Hid (w5.heap[w1.heap.size]? = (w1.alloc (.cells kr.cs.toArray 25)).heap[w1.heap.size]?) := (hF.block _ l4.out).trans q4.out
  have l5 : Hid (w1.heap.size < w5.heap.size) := Nat.lt_of_lt_of_le l4.out hF.size
  obtain ⟨a0, a1, a2, a3, a4, a5, a6⟩ := boxk w1 w5 q5.out
  clear hF
  go_wp2_with fail
  refine (second_as w.heap.size w.heap.size c4 1 0 A4 (sn f 0 kr) (tl (sn f 0 kr)) kr kr 1 _ (sec2 f) (by unfold Hid; decide) G5).mono ?_; rintro e w6 ⟨rfl, A6, c6, hg, hm⟩
  have nA4 : Hid (∀ j, A4.map (·.block) = some j → j ≠ w1.heap.size) := kA4
  have G6 := hid hg
  have F6 := hid (hm.fr F5.out (Nat.le_refl _) (fun k hk => (G5.out.own k hk).1))
  have q6 : Hid (w6.heap[w1.heap.size]? = (w1.alloc (.cells kr.cs.toArray 25)).heap[w1.heap.size]?) := (hm.frame l5.out (by have := lG.out; omega) nA4.out).trans q5.out
  have l6 : Hid (w1.heap.size < w6.heap.size) := Nat.lt_of_lt_of_le l5.out hm.size
  have kk := hid (fun oo => boxk w1 (w6.alloc oo) ((alloc_block _ oo l6.out).trans q6.out))
  have a0 := fun oo => (kk.out oo).1
  have a1 := fun oo => (kk.out oo).2.1
  have a2 := fun oo => (kk.out oo).2.2.1
  have a3 := fun oo => (kk.out oo).2.2.2.1
  have a4 := fun oo => (kk.out oo).2.2.2.2.1
  have a5 := fun oo => (kk.out oo).2.2.2.2.2.1
  have a6 := fun oo => (kk.out oo).2.2.2.2.2.2
  clear hg hm
  go_wp2_with fail
  have G7 := hid (G6.out.fr ((Fr.refl w6).alloc (.cells #[.int .u32 4, .int .u32 0, .int .i64 0, .bool true, .int .u32 8, .int .u32 85, .int .i64 1] 25)))
  refine (waits_as w.heap.size w.heap.size c6 0 A6 (tl (sn f 0 kr)) _ (by exact G7)).mono ?_; rintro e w' ⟨rfl, rfl⟩
  clear a0 a1 a2 a3 a4 a5 a6
  go_wp2_with fail
  refine (fwd_as w.heap.size w.heap.size c6 0 A6 (tl (sn f 0 kr)) 8 7 7 _ (by exact G7) (by decide) (by decide) (by decide) (fw0 _)).mono ?_; rintro e w8 ⟨rfl, hF⟩
  have F8 := hid ((F6.out.alloc _).trans hF)
  clear hF
  go_wp2_with fail
  go_ret
  exact ⟨rfl, F8.out⟩
end Go.Proofs.Ytedcamljgnblmaa.M
