/- Contract of the laws' inner function known: it returns true. -/
import Derived.Test.YtbedgfobbnonjaaAt
namespace Go.Proofs.Ytbedgfobbnonjaa.Walks
open Go.ChangeShapes Go.WideShapes Go.ChangeAt Go.RowKit
set_option linter.unusedVariables false
/-- Result, whenever -/
theorem res_as (B : Nat) (op a b c : Int) (k : Nat) (g : Bool) (hk : k ≤ 8) (h0 : 38 ≤ op) (h1 : op ≤ 45) (a0 : 0 ≤ a) (a1 : a ≤ 4294967295) (b0 : 0 ≤ b) (b1 : b ≤ 4294967295)
    (C : Hid ((if k = 8 then Num.ad op a b else 0) = c)) (G : Hid (decide (k = 8) = g)) (w : World) (hA : Hid (At B op a b k w)) :
    Calls Try.prog 12 #[.pointer (some ⟨B, 0, none⟩)] w fun e w' => e = .returned (.tuple #[.int .u32 c, .bool g]) ∧ Nw B op a b k w w' := by
  rw [← C.out, ← G.out]
  by_cases h : k = 8
  · subst h
    exact late_as B op a b _ h0 h1 a0 a1 b0 b1 rfl w hA
  · rw [if_neg h, decide_eq_false h]
    exact early_as B op a b k (by omega) w hA
theorem min_next (k : Nat) : min (min k 8 + 1) 8 = min (k + 1) 8 := by omega
set_option maxHeartbeats 2000000 in
theorem known (w : World) : Calls Try.prog 8 #[] w fun e w' => e = .returned (.bool true) ∧ Fr w w' := by
  have C : Hid (Num.ad 42 7 2 = 3) := by unfold Hid; decide +kernel
  go_enter Try.func8, Try.ntmps8
  go_wp2_with fail
  refine (new_as _ _ _ (by decide) (by decide) (by decide) (by decide) (by decide) (by decide) _).mono ?_; rintro e w1 ⟨rfl, hF⟩
  have F1 := hideP hF
  clear hF
  go_wp2_with fail
  refine (new_out _ _ _ (by decide) _).mono ?_; rintro e w1 ⟨rfl, rfl⟩
  go_wp2_with fail
  refine (early_as _ 42 7 2 0 (by decide) _ F1.out.at_).mono ?_; rintro e w2 ⟨rfl, hF⟩
  have F2 := hideP (F1.out.now hF)
  clear hF
  go_wp2_with fail
  go_loopw [4] (fun t wr => ∃ k : Nat, (k : Int) ≤ 40 ∧ t = .int .i64 k ∧ Hid (Born w.heap.size 42 7 2 (min k 8) w wr)) (fun t _ => 40 - (intOf t).toNat)
  case atStart => exact ⟨0, by decide, rfl, F2⟩
  case round =>
    obtain ⟨k, hk, rfl, HF⟩ := hrel
    by_cases hlt : (k : Int) < 40
    · go_wp2_with fail
      refine (step_as _ 42 7 2 (min k 8) _ (by omega) rfl (by decide) (by decide) (by decide) (by decide) _ HF.out.at_).mono ?_; rintro e w3 ⟨rfl, hF⟩
      have F3 := hideP (HF.out.now hF)
      rw [min_next] at F3
      clear hF
      go_wp2_with fail
      exact ⟨⟨k + 1, by omega, by rw [Int.natCast_add]; rfl, F3⟩, by simp [intOf]; omega⟩
    · have e8 : min k 8 = 8 := by omega
      rw [e8] at HF
      clear e8
      go_wp2_with fail
      refine (late_as _ 42 7 2 _ (by decide) (by decide) (by decide) (by decide) (by decide) (by decide) C _ HF.out.at_).mono ?_; rintro e w3 ⟨rfl, hF⟩
      have F3 := hideP (HF.out.now hF)
      clear hF
      go_wp2_with fail
      refine (count_as _ 42 7 2 8 _ F3.out.at_).mono ?_; rintro e w3 ⟨rfl, rfl⟩
      go_wp2_with fail
      refine (count_as _ 42 7 2 8 _ F3.out.at_).mono ?_; rintro e w3 ⟨rfl, rfl⟩
      go_wp2_with fail
      go_ret
      exact ⟨rfl, F3.out.fr⟩
end Go.Proofs.Ytbedgfobbnonjaa.Walks
