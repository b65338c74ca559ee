/- Contract of the laws' own 'known'. -/
import Derived.Test.YtijmoeljemoppaaDoorRowAs
namespace Go.Proofs.YtijmoeljemoppaaDoor.Walks
open Go.ChangeShapes Go.WideShapes Go.ChangeAt Go.RowKit
set_option linter.unusedVariables false
/-- a new row lies at b, its words at d, from B on -/
def Fresh (B b d n : Nat) (ws : Nat → Nat) (f : Nat) (w w' : World) : Prop := RowAt b d n ws f w' ∧ FrB B w w' ∧ B ≤ b ∧ B ≤ d ∧ b < w'.heap.size ∧ d < w'.heap.size
theorem new_ex (i : Int) (w : World) (hL : Hid (Laid w)) : Calls Tryd.prog 10 #[.int .i64 i] w fun e w' => ∃ b d, e = .returned (.pointer (some ⟨b, 0, none⟩)) ∧ Fresh w.heap.size b d (newN i) (fun _ => 0) 0 w w' :=
  (new_as i w hL).mono fun e w' h => ⟨_, _, h.1, h.2.1, h.2.2.1, by omega, by omega, by rw [h.2.2.2]; omega, by rw [h.2.2.2]; omega⟩
theorem Fresh.now {B b d n f f' : Nat} {ws ws' : Nat → Nat} {w v w' : World} (h : Fresh B b d n ws f w v) (k : Now b d n ws' f' v w') : Fresh B b d n ws' f' w w' :=
  ⟨k.1, h.2.1.trans (FrB.touch k.2 h.2.2.1 h.2.2.2.1), h.2.2.1, h.2.2.2.1, by rw [k.2.size]; exact h.2.2.2.2.1, by rw [k.2.size]; exact h.2.2.2.2.2⟩
theorem Fresh.alike {B b d n f : Nat} {ws : Nat → Nat} {w v w' : World} (h : Fresh B b d n ws f w v) (k : w'.Alike v) : Fresh B b d n ws f w w' := h.now (Now.alike h.1 k)
theorem Fresh.laid {B b d n f : Nat} {ws : Nat → Nat} {w w' : World} (h : Fresh B b d n ws f w w') (hL : Laid w) (hB : 0 < B) : Laid w' := h.2.1.laid hL hB
def w0 : Nat → Nat := fun _ => 0
def k1 : Nat → Nat := ptW 2 w0 1 9
def k2 : Nat → Nat := flW 2 k1 40
def k3 : Nat → Nat := gtW 2 k2 1
def k4 : Nat → Nat := gtW 2 k3 1
def k5 : Nat → Nat := gtW 2 k4 (-1)
def k6 : Nat → Nat := flW 2 k5 (-1)
set_option maxHeartbeats 1000000 in
theorem known (w : World) (hL : Hid (Laid w)) : Calls Tryd.prog 8 #[] w fun e w' => e = .returned (.bool true) ∧ FrB w.heap.size w w' := by
  have B0 := hideP hL.out.pos
  have g1 : Hid (inB 2 1 = true) := by unfold Hid; decide +kernel
  have g2 : Hid (inF 2 40 = true) := by unfold Hid; decide +kernel
  have x2 : Hid (((pkV 2 k2 1 : Nat) : Int) = 9) := by unfold Hid; decide +kernel
  have s2 : Hid (((pkS 2 k2 1 : Nat) : Int) = 1) := by unfold Hid; decide +kernel
  have f3 : Hid (gtF 2 k2 0 1 = 1) := by unfold Hid; decide +kernel
  have x3 : Hid (((pkV 2 k3 1 : Nat) : Int) = 9) := by unfold Hid; decide +kernel
  have s3 : Hid (((pkS 2 k3 1 : Nat) : Int) = 0) := by unfold Hid; decide +kernel
  have f4 : Hid (gtF 2 k3 1 1 = 1) := by unfold Hid; decide +kernel
  have x4 : Hid (((pkV 2 k4 (-1) : Nat) : Int) = 0) := by unfold Hid; decide +kernel
  have s4 : Hid (((pkS 2 k4 (-1) : Nat) : Int) = 2) := by unfold Hid; decide +kernel
  have f5 : Hid (gtF 2 k4 1 (-1) = 1) := by unfold Hid; decide +kernel
  have g6 : Hid (inF 2 (-1) = false) := by unfold Hid; decide +kernel
  have g7 : Hid (inB 2 2 = false) := by unfold Hid; decide +kernel
  go_enter Tryd.func8, Tryd.ntmps8
  go_wp2_with fail
  refine (new_ex _ _ hL).mono ?_; rintro e w1 ⟨b, d, rfl, hF⟩
  have F1 : Hid (Fresh w.heap.size b d 2 w0 0 w w1) := hF
  have L1 : Hid (Laid w1) := F1.out.laid hL.out B0.out
  clear hF
  go_wp2_with fail
  refine (len_as b d 2 (by decide) _ F1.out.1.hs).mono ?_; rintro e w' ⟨rfl, rfl⟩
  go_wp2_with fail
  refine (bits_as b d 2 (by decide) _ F1.out.1.hs).mono ?_; rintro e w' ⟨rfl, rfl⟩
  go_wp2_with fail
  refine (put_as b d 2 0 w0 _ _ _ g1 (by decide) (by decide) (by decide) _ L1 F1.out.1).mono ?_; rintro e w2 ⟨rfl, hF⟩
  have F2 : Hid (Fresh w.heap.size b d 2 k1 0 w w2) := F1.out.now hF
  have L2 : Hid (Laid w2) := F2.out.laid hL.out B0.out
  clear hF
  go_wp2_with fail
  refine (flip_as b d 2 0 k1 _ _ g2 (by decide) _ F2.out.1).mono ?_; rintro e w3 ⟨rfl, hF⟩
  have F3 : Hid (Fresh w.heap.size b d 2 k2 0 w w3) := F2.out.now hF
  have L3 : Hid (Laid w3) := F3.out.laid hL.out B0.out
  clear hF
  go_wp2_with fail
  refine (peek_as b d 2 0 k2 _ _ _ x2 s2 (by decide) _ L3 F3.out.1).mono ?_; rintro e w4 ⟨rfl, hF⟩
  have F4 : Hid (Fresh w.heap.size b d 2 k2 0 w w4) := F3.out.alike hF
  have L4 : Hid (Laid w4) := F4.out.laid hL.out B0.out
  clear hF
  go_wp2_with fail
  refine (get_as b d 2 0 k2 _ _ _ x2 s2 (by decide) (by decide) _ L4 F4.out.1).mono ?_; rintro e w5 ⟨rfl, hF⟩
  have F5 : Hid (Fresh w.heap.size b d 2 k3 1 w w5) := F4.out.now (by rw [f3.out] at hF; exact hF)
  have L5 : Hid (Laid w5) := F5.out.laid hL.out B0.out
  clear hF
  go_wp2_with fail
  refine (get_as b d 2 1 k3 _ _ _ x3 s3 (by decide) (by decide) _ L5 F5.out.1).mono ?_; rintro e w6 ⟨rfl, hF⟩
  have F6 : Hid (Fresh w.heap.size b d 2 k4 1 w w6) := F5.out.now (by rw [f4.out] at hF; exact hF)
  have L6 : Hid (Laid w6) := F6.out.laid hL.out B0.out
  clear hF
  go_wp2_with fail
  refine (get_as b d 2 1 k4 _ _ _ x4 s4 (by decide) (by decide) _ L6 F6.out.1).mono ?_; rintro e w7 ⟨rfl, hF⟩
  have F7 : Hid (Fresh w.heap.size b d 2 k5 1 w w7) := F6.out.now (by rw [f5.out] at hF; exact hF)
  have L7 : Hid (Laid w7) := F7.out.laid hL.out B0.out
  clear hF
  go_wp2_with fail
  refine (fixes_as b 1 _ F7.out.1.hf).mono ?_; rintro e w' ⟨rfl, rfl⟩
  go_wp2_with fail
  refine (flip_as b d 2 1 k5 _ _ g6 (by decide) _ F7.out.1).mono ?_; rintro e w8 ⟨rfl, hF⟩
  have F8 : Hid (Fresh w.heap.size b d 2 k6 1 w w8) := F7.out.now hF
  have L8 : Hid (Laid w8) := F8.out.laid hL.out B0.out
  clear hF
  go_wp2_with fail
  refine (put_as b d 2 1 k6 _ _ _ g7 (by decide) (by decide) (by decide) _ L8 F8.out.1).mono ?_; rintro e w9 ⟨rfl, hF⟩
  have F9 := hideP (F8.out.now hF)
  clear hF
  go_wp2_with fail
  go_ret
  exact ⟨rfl, F9.out.2.1⟩
end Go.Proofs.YtijmoeljemoppaaDoor.Walks
