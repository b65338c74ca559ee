/- Contract of the laws' own 'known'. -/
import Derived.Test.YtgcpjlnncedcfaaDoorAll
namespace Go.Proofs.YtgcpjlnncedcfaaDoor.Walks
open Go.ChangeShapes Go.WideShapes Go.ChangeAt Go.RowKit
set_option linter.unusedVariables false
def q1 : Nat → Nat := ptW 31 w0 30 7
def q2 : Nat → Nat := flW 31 q1 1170
def q3 : Nat → Nat := gtW 31 q2 30
theorem MFresh.nowc {B M b d f nx f' nx' : Nat} {ws ws' : Nat → Nat} {w v w' : World} (h : MFresh B M b d ws f nx w v) (k : MNow M b d ws' f' nx' v w') (vs : Nat → Nat) (g gx : Nat) (e : ws' = vs) (ef : f' = g) (en : nx' = gx) : MFresh B M b d vs g gx w w' := by
  subst e ef en
  exact h.now k
theorem MFresh.arr {B M b d f nx A : Nat} {ws : Nat → Nat} {w v w' : World} (h : MFresh B M b d ws f nx w v) (t : TouA A v w') (hA : B ≤ A ∧ A ≠ M ∧ A ≠ b ∧ A ≠ d) : MFresh B M b d ws f nx w w' := by
  obtain ⟨h1, h2, h3, h4, h5, h6⟩ := h
  obtain ⟨a0, a1, a2, a3⟩ := hA
  exact ⟨h1.of_blocks (t.block _ a1.symm) (t.block _ a2.symm) (t.block _ a3.symm), h2.trans (FrB.toua t a0), h3, by rw [t.size]; exact h4, by rw [t.size]; exact h5, by rw [t.size]; exact h6⟩
set_option maxRecDepth 100000 in
set_option maxHeartbeats 2000000 in
theorem known (w : World) (hL : Hid (Laid w)) : Calls Tryd.prog 8 #[] w fun e w' => e = .returned (.bool true) ∧ FrB w.heap.size w w' := by
  have B0 := hideP hL.out.pos
  have j31 : Hid (wrap64 (31 - 1) = 30) := by unfold Hid; decide +kernel
  have j32 : Hid (wrap64 (32 - 1) = 31) := by unfold Hid; decide +kernel
  have j_1 : Hid (wrap64 (-1 - 1) = -2) := by unfold Hid; decide +kernel
  have e31 : Hid (((31 : Int) == 0) = false) := by unfold Hid; decide +kernel
  have e32 : Hid (((32 : Int) == 0) = false) := by unfold Hid; decide +kernel
  have e_1 : Hid (((-1 : Int) == 0) = false) := by unfold Hid; decide +kernel
  have g1 : Hid (inB 31 30 = true) := by unfold Hid; decide +kernel
  have x2 : Hid (((pkV 31 q1 31 : Nat) : Int) = 0) := by unfold Hid; decide +kernel
  have s2 : Hid (((pkS 31 q1 31 : Nat) : Int) = 2) := by unfold Hid; decide +kernel
  have w2 : Hid (gtW 31 q1 31 = q1) := by unfold Hid gtW; rw [if_neg (by decide +kernel)]
  have f2 : Hid (gtF 31 q1 0 31 = 0) := by unfold Hid; decide +kernel
  have g3 : Hid (inF 31 1170 = true) := by unfold Hid; decide +kernel
  have g4 : Hid (bdW q2 31 = !true) := by unfold Hid; decide +kernel
  have a4 : Hid (((arF q2 31 : Nat) : Int) = 7) := by unfold Hid; decide +kernel
  have x5 : Hid (((pkV 31 q2 30 : Nat) : Int) = 7) := by unfold Hid; decide +kernel
  have s5 : Hid (((pkS 31 q2 30 : Nat) : Int) = 1) := by unfold Hid; decide +kernel
  have f5 : Hid (gtF 31 q2 0 30 = 1) := by unfold Hid; decide +kernel
  have g6 : Hid (inB 31 (-2) = false) := by unfold Hid; decide +kernel
  have w6 : Hid (ptW 31 q3 (-2) (0 : Int).toNat = q3) := by unfold Hid ptW; rw [if_neg (by decide +kernel)]
  have s7 : Hid (((pkS 31 q3 (((1 : Nat) : Int) - 1) : Nat) : Int) = 0) := by unfold Hid; decide +kernel
  go_enter Tryd.func8, Tryd.ntmps8
  go_wp2_with fail
  refine (fnew_as _ hL).mono ?_; rintro e w1 ⟨M, b, d, rfl, hF⟩
  have F1 : Hid (MFresh w.heap.size M b d w0 0 1 w w1) := hF
  have L1 := hideP (F1.out.laid hL.out B0.out)
  clear hF
  go_wp2_with fail
  refine (fbits_as M b d _ F1.out.1.hr F1.out.1.row.hs).mono ?_; rintro e w' ⟨rfl, rfl⟩
  go_wp2_with fail
  refine (fwrite_0 M _ _).mono ?_; rintro e w' ⟨rfl, rfl⟩
  go_wp2_with fail
  refine (fwrite_as M b d 0 1 w0 31 _ 7 e31.out j31.out _ g1 (by decide) (by decide) _ L1 (hideP F1.out.1)).mono ?_; rintro e w2' ⟨rfl, hF⟩
  have F2 : Hid (MFresh w.heap.size M b d q1 0 1 w w2') := F1.out.nowc hF _ _ _ rfl rfl rfl
  have L2 := hideP (F2.out.laid hL.out B0.out)
  clear hF
  go_wp2_with fail
  refine (fread_0 M _).mono ?_; rintro e w' ⟨rfl, rfl⟩
  go_wp2_with fail
  refine (fread_as M b d 0 1 q1 32 _ _ _ e32.out j32.out (by decide) x2 s2 _ L2 (hideP F2.out.1)).mono ?_; rintro e w3 ⟨rfl, hF⟩
  have F3 : Hid (MFresh w.heap.size M b d q1 0 1 w w3) := F2.out.nowc hF _ _ _ w2.out f2.out rfl
  clear hF
  go_wp2_with fail
  refine (fflip_as M b d 0 1 q1 _ _ g3 _ (hideP F3.out.1)).mono ?_; rintro e w4 ⟨rfl, hF⟩
  have F4 : Hid (MFresh w.heap.size M b d q2 0 1 w w4) := F3.out.nowc hF _ _ _ rfl rfl rfl
  have L4 := hideP (F4.out.laid hL.out B0.out)
  clear hF
  go_wp2_with fail
  refine (fall_as M b d 0 1 q2 true g4 _ L4 (hideP F4.out.1) (hideP ⟨L4.out.pos, F4.out.2.2.2⟩)).mono ?_; rintro e w5 ⟨rfl, hF⟩
  have F5 : Hid (MFresh w.heap.size M b d q2 0 1 w w5) := F4.out.past hF F4.out.2.1.size
  have Z5 := hideP (ArrAt.zero w5 33)
  have A5 : Hid (w.heap.size ≤ w5.heap.size ∧ w5.heap.size ≠ M ∧ w5.heap.size ≠ b ∧ w5.heap.size ≠ d) := by have := F5.out.2.2; have := F5.out.2.1.size; unfold Hid; omega
  have F6 : Hid (∀ o, MFresh w.heap.size M b d q2 0 1 w (w5.alloc o)) := fun o => F5.out.alloc o F5.out.2.1.size
  clear hF
  go_wp2_with (first
    | (refine wpList_arr _ w5.heap.size w0 Z5.out (by rfl) _ _ rfl (arF q2) _ rfl rfl rfl ?_; intro w7 hA hT; have F7 : Hid (MFresh w.heap.size M b d q2 0 1 w w7) := (F6.out _).arr hT.out A5.out; have c7 : Hid (w7.cell? ⟨w5.heap.size, 31, none⟩ = some (.int .u32 7)) := (by rw [← a4.out]; exact hA.out.hw 31 (by decide)); clear hA hT))
  have L7 := hideP (F7.out.laid hL.out B0.out)
  refine (fread_as M b d 0 1 q2 31 _ _ _ e31.out j31.out (by decide) x5 s5 _ L7 (hideP F7.out.1)).mono ?_; rintro e w8 ⟨rfl, hF⟩
  have F8 : Hid (MFresh w.heap.size M b d q3 1 1 w w8) := F7.out.nowc hF _ _ _ rfl f5.out rfl
  have c8 : w8.cell? ⟨w5.heap.size, 31, none⟩ = some (.int .u32 7) := (hF.2.cell _ _ A5.out.2.1 A5.out.2.2.1 A5.out.2.2.2).trans c7.out
  have L8 := hideP (F8.out.laid hL.out B0.out)
  clear hF
  go_wp2_with fail
  refine (fwrite_as M b d 1 1 q3 (-1) _ 0 e_1.out j_1.out _ g6 (by decide) (by decide) _ L8 (hideP F8.out.1)).mono ?_; rintro e w9 ⟨rfl, hF⟩
  have F9 : Hid (MFresh w.heap.size M b d q3 1 1 w w9) := F8.out.nowc hF _ _ _ w6.out rfl rfl
  have L9 := hideP (F9.out.laid hL.out B0.out)
  clear hF
  go_wp2_with fail
  refine (fscrub_as M b d 1 1 q3 _ (by unfold Hid; decide) (by decide) (by decide) s7 _ L9 (hideP F9.out.1)).mono ?_; rintro e w10 ⟨rfl, hF⟩
  have F10 := hideP (F9.out.now hF)
  clear hF
  go_wp2_with fail
  go_ret
  exact ⟨rfl, F10.out.2.1⟩
end Go.Proofs.YtgcpjlnncedcfaaDoor.Walks
