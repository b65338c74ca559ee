/- known returns true. -/
import Derived.Test.YtkchpegpmpijcaaRows7
namespace Go.Proofs.Ytkchpegpmpijcaa.M
open Go.ChangeShapes Go.WideShapes Go.ChangeAt Go.RowKit Go.Proofs.Ytkchpegpmpijcaa.Walks
set_option linter.unusedVariables false
def a0 : Rt := ⟨4, 0, 0, false, 0, 0, 0⟩
def b0 : Rt := ⟨8, 0, 0, false, 0, 0, 0⟩
theorem size1 (w : World) (o : Obj) : (w.alloc o).heap.size = w.heap.size + 1 := by simp
/-- a state of nothing but a PC -/
def zS (p : Int) : Ss := ⟨p, fun _ => 0, fun _ => 0, none, 0, 0, fun _ => 0⟩
theorem zS_in (p : Int) (w : World) : (zS p).In w := ⟨show ((0 : Nat) : Int) ≤ _ by decide, WIn.none w none _⟩
theorem zS_cs (p : Int) : (zS p).cs.toArray = #[.int .u32 p, .int .u32 0, .int .u32 0, .int .u32 0, .int .u32 0, .int .u32 0, .int .u32 0, .int .u32 0, .int .u32 0, .int .u32 0, .int .u32 0, .int .u32 0, .int .u32 0, .int .u32 0, .int .u32 0, .int .u32 0, .int .u32 0, .int .u32 0, .int .u32 0, .int .u32 0, .int .u32 0, .int .u32 0, .int .u32 0, .int .u32 0, .int .u32 0, .int .u32 0, .int .u32 0, .int .u32 0, .int .u32 0, .int .u32 0, .int .u32 0, .int .u32 0, .int .u32 0, .int .u32 0, .int .u32 0, .int .u32 0, .int .u32 0, .int .u32 0, .slice none 0 0] := rfl
theorem lt1 {j : Nat} (h : j < 1) : j = 0 := by omega
theorem first12 : IsFst (fun j => a0.eq (if j = 0 then a0 else b0)) 1 2 1 :=
  .inr ⟨1, rfl, fun j hj => by { rw [lt1 hj]; rfl }, Nat.le_refl 1, by decide, .inr ⟨by decide, .inl rfl⟩⟩
set_option maxRecDepth 100000 in
set_option maxHeartbeats 1000000 in
theorem known_as (w : World) : Calls Try.prog 9 #[] w fun e w' => e = .returned (.bool true) ∧ Fr w w' := by
  have KP : Hid (∀ W : World, Fr ((w.alloc (.cells a0.cs.toArray 24)).alloc (.cells b0.cs.toArray 24)) W → (W.cell? ⟨w.heap.size, 0, none⟩ = some (.int .u32 4) ∧ W.cell? ⟨w.heap.size, 1, none⟩ = some (.int .u32 0) ∧ W.cell? ⟨w.heap.size, 2, none⟩ = some (.int .i64 0) ∧ W.cell? ⟨w.heap.size, 3, none⟩ = some (.bool false) ∧ W.cell? ⟨w.heap.size, 4, none⟩ = some (.int .u32 0) ∧ W.cell? ⟨w.heap.size, 5, none⟩ = some (.int .u32 0) ∧ W.cell? ⟨w.heap.size, 6, none⟩ = some (.int .i64 0))
     ∧ (W.cell? ⟨w.heap.size + 1, 0, none⟩ = some (.int .u32 8) ∧ W.cell? ⟨w.heap.size + 1, 1, none⟩ = some (.int .u32 0) ∧ W.cell? ⟨w.heap.size + 1, 2, none⟩ = some (.int .i64 0) ∧ W.cell? ⟨w.heap.size + 1, 3, none⟩ = some (.bool false) ∧ W.cell? ⟨w.heap.size + 1, 4, none⟩ = some (.int .u32 0) ∧ W.cell? ⟨w.heap.size + 1, 5, none⟩ = some (.int .u32 0) ∧ W.cell? ⟨w.heap.size + 1, 6, none⟩ = some (.int .i64 0))) := fun W F =>
    ⟨cells7 (r := a0) (range_fr (two_a w a0.cs b0.cs 24 24) F (by simp; omega)), cells7 (r := b0) (range_fr (two_b w a0.cs b0.cs 24 24) F (by simp))⟩
  have F0 : Hid (Fr w ((w.alloc (.cells a0.cs.toArray 24)).alloc (.cells b0.cs.toArray 24))) := ((Fr.refl w).alloc _).alloc _
  go_enter Try.func9, Try.ntmps9
  go_wp2_with fail
  refine (same_lit a0 a0 _ _ rfl rfl true rfl _).mono ?_; rintro e w1 ⟨rfl, hF⟩
  have F1 : Hid (Fr ((w.alloc (.cells a0.cs.toArray 24)).alloc (.cells b0.cs.toArray 24)) w1) := hF
  clear hF
  obtain ⟨⟨x0, x1, x2, x3, x4, x5, x6⟩, ⟨y0, y1, y2, y3, y4, y5, y6⟩⟩ := KP.out _ F1.out
  go_wp2_with fail
  clear x0 x1 x2 x3 x4 x5 x6 y0 y1 y2 y3 y4 y5 y6
  refine (same_lit a0 b0 _ _ rfl rfl false rfl _).mono ?_; rintro e w2 ⟨rfl, hF⟩
  have F2 := hid (F1.out.trans hF)
  clear hF
  go_wp2_with fail
  refine (prefix_as none (some ⟨w2.heap.size, 0, none⟩) 0 1 _ _ (fun _ => 0) (fun _ => 1) (by decide) (by decide) true rfl _ (WIn.none _ _ _) (by exact WIn.new w2 (fun _ => 1) 1 _ rfl 22)).mono ?_; rintro e w3 ⟨rfl, ew⟩
  have F3 : Hid (Fr ((w.alloc (.cells a0.cs.toArray 24)).alloc (.cells b0.cs.toArray 24)) w3) := by rw [ew]; exact F2.out.alloc _
  clear ew
  go_wp2_with fail
  refine (prefix_as (some ⟨w3.heap.size, 0, none⟩) none 1 0 _ _ (fun _ => 1) (fun _ => 0) (by decide) (by decide) false rfl _ (by exact WIn.new w3 (fun _ => 1) 1 _ rfl 22) (WIn.none _ _ _)).mono ?_; rintro e w4 ⟨rfl, ew⟩
  have F4 : Hid (Fr ((w.alloc (.cells a0.cs.toArray 24)).alloc (.cells b0.cs.toArray 24)) w4) := by rw [ew]; exact F3.out.alloc _
  clear ew
  obtain ⟨⟨x0, x1, x2, x3, x4, x5, x6⟩, ⟨y0, y1, y2, y3, y4, y5, y6⟩⟩ := KP.out _ F4.out
  have L4 : w.heap.size < w4.heap.size := by have := F4.out.size; simp at this; omega
  go_wp2_with fail
  clear x0 x1 x2 x3 x4 x5 x6 y0 y1 y2 y3 y4 y5 y6
  refine (first_as (some ⟨w4.heap.size, 0, none⟩) (some ⟨w4.heap.size + 1, 0, none⟩) 1 1 _ _ (fun _ => a0) (fun _ => a0) (by decide) (by decide) _ (by exact (RIn.new w4 (fun _ => a0) 1 a0.cs.toArray rfl 24).fr ((Fr.refl _).alloc (.cells a0.cs.toArray 24))) (by have h := RIn.new (w4.alloc (.cells a0.cs.toArray 24)) (fun _ => a0) 1 a0.cs.toArray rfl 24; rw [size1] at h; exact h)).mono ?_; rintro e w5 ⟨⟨v, rfl, I⟩, hF⟩
  obtain rfl : v = -1 := I.uniq (isFst_same _ 1 fun j _ => rfl)
  have F5 : Hid (Fr ((w.alloc (.cells a0.cs.toArray 24)).alloc (.cells b0.cs.toArray 24)) w5) := ((F4.out.alloc _).alloc _).trans hF
  clear hF I L4
  obtain ⟨⟨x0, x1, x2, x3, x4, x5, x6⟩, ⟨y0, y1, y2, y3, y4, y5, y6⟩⟩ := KP.out _ F5.out
  have L5 : w.heap.size < w5.heap.size := by have := F5.out.size; simp at this; omega
  have L6 : w.heap.size + 1 < w5.heap.size := by have := F5.out.size; simp at this; omega
  go_wp2_with fail
  clear x0 x1 x2 x3 x4 x5 x6 y0 y1 y2 y3 y4 y5 y6
  refine (first_as (some ⟨w5.heap.size, 0, none⟩) (some ⟨w5.heap.size + 1, 0, none⟩) 1 2 _ _ (fun _ => a0) (fun j => if j = 0 then a0 else b0) (by decide) (by decide) _ (by exact (RIn.new w5 (fun _ => a0) 1 a0.cs.toArray rfl 24).fr ((Fr.refl _).alloc (.cells (rl (fun j => if j = 0 then a0 else b0) 2).toArray 24))) (by have h := RIn.new (w5.alloc (.cells a0.cs.toArray 24)) (fun j => if j = 0 then a0 else b0) 2 (rl (fun j => if j = 0 then a0 else b0) 2).toArray rfl 24; rw [size1] at h; exact h)).mono ?_; rintro e w6 ⟨⟨v, rfl, I⟩, hF⟩
  obtain rfl : v = 1 := I.uniq first12
  have F6 : Hid (Fr ((w.alloc (.cells a0.cs.toArray 24)).alloc (.cells b0.cs.toArray 24)) w6) := ((F5.out.alloc _).alloc _).trans hF
  clear hF I L5 L6
  go_wp2_with fail
  refine (states_lit (zS 1) (zS 0) _ _ (by rw [zS_cs]) (by rw [zS_cs]) false rfl _ (zS_in _ _) (zS_in _ _)).mono ?_; rintro e w7 ⟨rfl, hF⟩
  have F7 := hid (F6.out.trans hF)
  clear hF
  go_wp2_with fail
  refine (states_lit (zS 0) (zS 0) _ _ (by rw [zS_cs]) (by rw [zS_cs]) true rfl _ (zS_in _ _) (zS_in _ _)).mono ?_; rintro e w8 ⟨rfl, hF⟩
  have F8 := hid (F7.out.trans hF)
  clear hF
  go_wp2_with fail
  go_ret
  exact ⟨rfl, F0.out.trans F8.out⟩
end Go.Proofs.Ytkchpegpmpijcaa.M
