/- Contract of the laws' inner function same: it returns true. -/
import Derived.Test.YtbedgfobbnonjaaAt
import Derived.Test.YtbedgfobbnonjaaRdo
namespace Go.Proofs.Ytbedgfobbnonjaa.Walks
open Go.ChangeShapes Go.WideShapes Go.ChangeAt Go.RowKit
set_option linter.unusedVariables false
set_option maxHeartbeats 1000000 in
theorem same_low (op a b : Int) (h : op < 38) (w : World) : Calls Try.prog 7 #[.int .i64 op, .int .u32 a, .int .u32 b] w fun e w' => e = .returned (.bool true) ∧ Fr w w' := by
  go_enter Try.func7, Try.ntmps7
  go_wp2_with fail
  refine (new_out _ _ _ (Or.inl h) _).mono ?_; rintro e w1 ⟨rfl, rfl⟩
  go_wp2_with fail
  go_ret
  exact ⟨rfl, Fr.refl _⟩
set_option maxHeartbeats 1000000 in
theorem same_high (op a b : Int) (h : 45 < op) (w : World) : Calls Try.prog 7 #[.int .i64 op, .int .u32 a, .int .u32 b] w fun e w' => e = .returned (.bool true) ∧ Fr w w' := by
  go_enter Try.func7, Try.ntmps7
  go_wp2_with fail
  refine (new_out _ _ _ (Or.inr h) _).mono ?_; rintro e w1 ⟨rfl, rfl⟩
  go_wp2_with fail
  go_ret
  exact ⟨rfl, Fr.refl _⟩
set_option maxRecDepth 100000 in
set_option maxHeartbeats 4000000 in
theorem same_in (op a b c : Int) (h0 : 38 ≤ op) (h1 : op ≤ 45) (a0 : 0 ≤ a) (a1 : a ≤ 4294967295) (b0 : 0 ≤ b) (b1 : b ≤ 4294967295) (C : Hid (Num.ad op a b = c)) (w : World) :
    Calls Try.prog 7 #[.int .i64 op, .int .u32 a, .int .u32 b] w fun e w' => e = .returned (.bool true) ∧ Fr w w' := by
  go_enter Try.func7, Try.ntmps7
  go_wp2_with fail
  refine (new_as _ _ _ h0 h1 a0 a1 b0 b1 _).mono ?_; rintro e w1 ⟨rfl, hF⟩
  have F1 := hideP hF
  clear hF
  go_wp2_with fail
  go_loopw [8] (fun t wr => ∃ k : Nat, (k : Int) ≤ 7 ∧ t = .int .i64 ((k : Int) + 1) ∧ Hid (Born w.heap.size op a b k w wr)) (fun t _ => 8 - (intOf t).toNat)
  case atStart => exact ⟨0, by decide, rfl, F1⟩
  case round =>
    obtain ⟨k, hk, rfl, HF⟩ := hrel
    have k0 : (0 : Int) ≤ k := by omega
    go_wp2_with fail
    refine (early_as _ op a b k (by omega) _ HF.out.at_).mono ?_; rintro e w2 ⟨rfl, hF⟩
    have F2 := hideP (HF.out.now hF)
    clear hF
    go_wp2_with fail
    refine (count_as _ op a b k _ F2.out.at_).mono ?_; rintro e w2 ⟨rfl, rfl⟩
    by_cases hlt : (k : Int) < 7
    · go_wp2_with fail
      refine (step_as _ op a b k false (by omega) (by unfold Hid; rw [decide_eq_false_iff_not]; omega) a0 a1 b0 b1 _ F2.out.at_).mono ?_; rintro e w3 ⟨rfl, hF⟩
      have F3 := hideP (F2.out.now hF)
      rw [show min (k + 1) 8 = k + 1 by omega] at F3
      clear hF
      go_wp2_with fail
      exact ⟨⟨k + 1, by omega, by rw [Int.natCast_add]; rfl, F3⟩, by simp [intOf]; omega⟩
    · have e7 : k = 7 := by omega
      subst e7
      go_wp2_with fail
      refine (step_as _ op a b 7 true (by decide) rfl a0 a1 b0 b1 _ F2.out.at_).mono ?_; rintro e w3 ⟨rfl, hF⟩
      have F3 : Hid (Born w.heap.size op a b 8 w w3) := F2.out.now hF
      clear hF
      go_wp2_with fail
      refine (late_as _ op a b _ h0 h1 a0 a1 b0 b1 C _ F3.out.at_).mono ?_; rintro e w4 ⟨rfl, hF⟩
      have F4 := hideP (F3.out.now hF)
      clear hF
      go_wp2_with fail
      refine (count_as _ op a b 8 _ F4.out.at_).mono ?_; rintro e w4 ⟨rfl, rfl⟩
      go_wp2_with fail
      refine (rdo_as _ _ _ _ a0 a1 b0 b1 C _).mono ?_; rintro e w4 ⟨rfl, rfl⟩
      go_wp2_with fail
      refine (step_as _ op a b 8 true (by decide) rfl a0 a1 b0 b1 _ F4.out.at_).mono ?_; rintro e w5 ⟨rfl, hF⟩
      have F5 : Hid (Born w.heap.size op a b 8 w w5) := F4.out.now hF
      clear hF
      go_wp2_with fail
      refine (count_as _ op a b 8 _ F5.out.at_).mono ?_; rintro e w5 ⟨rfl, rfl⟩
      go_wp2_with fail
      go_ret
      exact ⟨rfl, F5.out.fr⟩
theorem same_as (op a b : Int) (a0 : 0 ≤ a) (a1 : a ≤ 4294967295) (b0 : 0 ≤ b) (b1 : b ≤ 4294967295) (w : World) :
    Calls Try.prog 7 #[.int .i64 op, .int .u32 a, .int .u32 b] w fun e w' => e = .returned (.bool true) ∧ Fr w w' := by
  by_cases h0 : op < 38
  · exact same_low op a b h0 w
  by_cases h1 : 45 < op
  · exact same_high op a b h1 w
  exact same_in op a b _ (by omega) (by omega) a0 a1 b0 b1 rfl w
end Go.Proofs.Ytbedgfobbnonjaa.Walks
