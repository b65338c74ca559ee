/- Contract of the laws' own 'known'. -/
import Derived.Test.YtekafmnpojbbdaaDoorKnownN
import Derived.Test.YtekafmnpojbbdaaDoorMStore
import Derived.Test.YtekafmnpojbbdaaDoorMScrub
import Derived.Test.YtekafmnpojbbdaaDoorMWords
namespace Go.Proofs.YtekafmnpojbbdaaDoor.Walks
open Go.ChangeShapes Go.WideShapes Go.ChangeAt Go.RowKit
set_option linter.unusedVariables false
theorem IntsIn.one (w : World) (T : TypeId) : IntsIn .u32 (w.alloc (.cells #[.int .u32 5] T)) (some ⟨w.heap.size, 0, none⟩) 1 five := by
  intro j hj
  obtain rfl : j = 0 := by omega
  exact ⟨_, _, rfl, by simp, by rw [World.cell?_alloc_at _ _ _ _ rfl]; rfl, by decide⟩
theorem MNow.fresh {B M b d f nx f' nx' : Nat} {ws ws' : Nat → Nat} {w v w' : World} (h : MFresh B M b d ws f nx w v) (k : MNow M b d ws' f' nx' v w') (g gx : Nat) (vs : Nat → Nat) (e : ws' = vs) (ef : f' = g) (en : nx' = gx) : MFresh B M b d vs g gx w w' := by
  subst e ef en
  exact h.now k
set_option maxRecDepth 100000 in
set_option maxHeartbeats 4000000 in
theorem known (w : World) (hL : Hid (Laid w)) : Calls Tryd.prog 8 #[] w fun e w' => e = .returned (.bool true) ∧ FrB w.heap.size w w' := by
  have B0 := hideP hL.out.pos
  have e1 : Hid (((ldV q0 2 : Nat) : Int) = 0) := by unfold Hid; rw [q_ld2.1]; rfl
  have e2 : Hid (ldE q0 2 = 13) := q_ld2.2.1
  have e3 : Hid (inF 1024 0 = true) := by unfold Hid; decide +kernel
  have e4 : Hid (((scV q1 0 (scn 1024) : Nat) : Int) = 1) := by unfold Hid; show ((scV q1 0 1024 : Nat) : Int) = 1; rw [q_scV]; rfl
  have e5 : Hid (scE q1 0 (scn 1024) = 0) := q_scE
  have e6 : Hid (inF 1024 1 = true) := by unfold Hid; decide +kernel
  have e7 : Hid (inF 1024 2 = true) := by unfold Hid; decide +kernel
  have e8 : Hid (((ldV q4 0 : Nat) : Int) = 0) := by unfold Hid; rw [q_ld0.1]; rfl
  have e9 : Hid (ldE q4 0 = 25) := q_ld0.2.1
  have e10 : Hid (stE q5 0 1 = 25) := q_st1.1
  have e11 : Hid (stE q6 0 15 = 0) := q_st2.1
  have e12 : Hid (((ldV q7 0 : Nat) : Int) = 9) := by unfold Hid; rw [q_ld9.1]; rfl
  have e13 : Hid (ldE q7 0 = 0) := q_ld9.2.1
  obtain ⟨c, hc0⟩ : ∃ c, madeCells #[Value.int .u32 0] 1025 = c := ⟨_, rfl⟩
  have hmk : ∀ w : World, (Instr.makeSlice 26 (.int .i64 1025) (.int .i64 1025)).run Tryd.prog w = .ok (.slice (some ⟨w.heap.size, 0, none⟩) 1025 1025) (w.alloc (.cells c 23)) := fun w => by
    have := make23 1025 (by decide) w
    rw [hc0] at this
    exact this
  clear hc0
  have HI : Hid (∀ T, IntsIn .u32 (w.alloc (.cells #[.int .u32 5] T)) (some ⟨w.heap.size, 0, none⟩) 1 five) := IntsIn.one w
  have L0 : Hid (∀ o, Laid (w.alloc o)) := fun o => (FrB.alloc w o).laid hL.out hL.out.pos
  have FA : Hid (∀ o, FrB w.heap.size w (w.alloc o)) := fun o => FrB.alloc w o
  go_enter Tryd.func8, Tryd.ntmps8
  go_wp2_with fail
  refine (mnew_ok _ 1 _ five (by decide) _ (by exact L0.out _) (by exact HI.out _)).mono ?_; rintro e w1 ⟨M, b, d, rfl, hF⟩
  have F1 : Hid (MFresh w.heap.size M b d q0 0 0 w w1) := ⟨hF.1, (FA.out _).trans (hF.2.1.mono (by simp)), ⟨Nat.le_trans (by simp) hF.2.2.1.1, Nat.le_trans (by simp) hF.2.2.1.2.1, Nat.le_trans (by simp) hF.2.2.1.2.2⟩, hF.2.2.2⟩
  have F1a : Hid (∀ o, MFresh w.heap.size M b d q0 0 0 w (w1.alloc o)) := fun o => F1.out.alloc o F1.out.2.1.size
  clear hF HI L0 FA
  go_wp2_with fail
  refine (mnew_long _ 1025 _ (by decide) (by decide) _).mono ?_; rintro e w2 ⟨rfl, hw⟩
  have F2 : Hid (MFresh w.heap.size M b d q0 0 0 w w2) := by rw [hw]; exact F1a.out _
  have L2 : Hid (Laid w2) := F2.out.laid hL.out B0.out
  have N2 : Hid (0 ≠ M ∧ 0 ≠ b ∧ 0 ≠ d) := ⟨by have := F2.out.2.2.1.1; have := B0.out; omega, by have := F2.out.2.2.1.2.1; have := B0.out; omega, by have := F2.out.2.2.1.2.2; have := B0.out; omega⟩
  clear hw F1a
  go_wp2_with fail
  refine (mload_as M b d 0 0 q0 _ _ _ (by decide) (by decide) (by decide) e1 e2 _ L2 F2.out.1).mono ?_; rintro e w3 ⟨rfl, hF⟩
  have F3 : Hid (MFresh w.heap.size M b d q0 0 0 w w3) := MNow.fresh F2.out hF _ _ _ q_ld2.2.2.2 q_ld2.2.2.1 rfl
  clear hF
  go_wp2_with fail
  refine (mflip_as M b d 0 0 q0 _ _ e3 _ F3.out.1).mono ?_; rintro e w4 ⟨rfl, hF⟩
  have F4 : Hid (MFresh w.heap.size M b d q1 0 0 w w4) := F3.out.now hF
  have L4 : Hid (Laid w4) := F4.out.laid hL.out B0.out
  clear hF
  go_wp2_with fail
  refine (mscrub_as M b d 0 0 q1 _ (by decide) _ _ e4 e5 _ L4 N2 F4.out.1).mono ?_; rintro e w5 ⟨rfl, hF⟩
  have F5 : Hid (MFresh w.heap.size M b d q2 1 0 w w5) := MNow.fresh F4.out hF _ _ _ rfl q_scF rfl
  clear hF
  go_wp2_with fail
  refine (mflip_as M b d 1 0 q2 _ _ e6 _ F5.out.1).mono ?_; rintro e w6 ⟨rfl, hF⟩
  have F6 : Hid (MFresh w.heap.size M b d q3 1 0 w w6) := F5.out.now hF
  clear hF
  go_wp2_with fail
  refine (mflip_as M b d 1 0 q3 _ _ e7 _ F6.out.1).mono ?_; rintro e w7 ⟨rfl, hF⟩
  have F7 : Hid (MFresh w.heap.size M b d q4 1 0 w w7) := F6.out.now hF
  have L7 : Hid (Laid w7) := F7.out.laid hL.out B0.out
  clear hF
  go_wp2_with fail
  refine (mload_as M b d 1 0 q4 _ _ _ (by decide) (by decide) (by decide) e8 e9 _ L7 F7.out.1).mono ?_; rintro e w8 ⟨rfl, hF⟩
  have F8 : Hid (MFresh w.heap.size M b d q5 1 0 w w8) := MNow.fresh F7.out hF _ _ _ rfl q_ld0.2.2 rfl
  have L8 : Hid (Laid w8) := F8.out.laid hL.out B0.out
  clear hF
  go_wp2_with fail
  refine (mstore_as M b d 1 0 q5 _ _ _ _ (by decide) (by decide) (by decide) (by decide) (by decide) e10 _ L8 N2 F8.out.1).mono ?_; rintro e w9 ⟨rfl, hF⟩
  have F9 : Hid (MFresh w.heap.size M b d q6 1 0 w w9) := MNow.fresh F8.out hF _ _ _ rfl q_st1.2 rfl
  have L9 : Hid (Laid w9) := F9.out.laid hL.out B0.out
  clear hF
  go_wp2_with fail
  refine (mstore_as M b d 1 0 q6 _ _ _ _ (by decide) (by decide) (by decide) (by decide) (by decide) e11 _ L9 N2 F9.out.1).mono ?_; rintro e w10 ⟨rfl, hF⟩
  have F10 : Hid (MFresh w.heap.size M b d q7 1 0 w w10) := MNow.fresh F9.out hF _ _ _ rfl q_st2.2 rfl
  have L10 : Hid (Laid w10) := F10.out.laid hL.out B0.out
  clear hF
  go_wp2_with fail
  refine (mload_as M b d 1 0 q7 _ _ _ (by decide) (by decide) (by decide) e12 e13 _ L10 F10.out.1).mono ?_; rintro e w11 ⟨rfl, hF⟩
  have F11 : Hid (MFresh w.heap.size M b d (ldW q7 0) 1 0 w w11) := MNow.fresh F10.out hF _ _ _ rfl q_ld9.2.2 rfl
  clear hF
  go_wp2_with (first
    | (go_at_call 14; refine (mfixes_as M b 1 _ F11.out.1.hr F11.out.1.row.hf).mono ?_; rintro e w' ⟨rfl, rfl⟩)
    | (go_at_call 23; refine (mbits_as M b d _ F11.out.1.hr F11.out.1.row.hs).mono ?_; rintro e w' ⟨rfl, rfl⟩))
  go_ret
  exact ⟨rfl, F11.out.2.1⟩
end Go.Proofs.YtekafmnpojbbdaaDoor.Walks
