/- Contracts of the laws' inner functions same and known: both return true. -/
import Derived.Test.YtjhgldbllnfieaaDo
namespace Go.Proofs.Ytjhgldbllnfieaa.Walks
open Go.ChangeShapes Go.WideShapes Go.ChangeAt Go.RowKit
set_option maxHeartbeats 1000000 in
theorem same_core (op a b c : Int) (g : Bool) (a0 : 0 ≤ a) (a1 : a ≤ 4294967295) (b0 : 0 ≤ b) (b1 : b ≤ 4294967295) (C : Hid (Num.ad op a b = c)) (G : Hid (Num.tk op a b = g)) (w : World) :
    Calls Try.prog 8 #[.int .i64 op, .int .u32 a, .int .u32 b] w fun e w' => e = .returned (.bool true) ∧ w' = w := by
  go_enter Try.func8, Try.ntmps8
  go_wp2_with fail
  refine (do_as _ _ _ _ a0 a1 b0 b1 C _).mono ?_; rintro e w' ⟨rfl, rfl⟩
  go_wp2_with fail
  refine (rdo_as _ _ _ _ a0 a1 b0 b1 C _).mono ?_; rintro e w' ⟨rfl, rfl⟩
  go_wp2_with fail
  refine (taken_as _ _ _ _ G _).mono ?_; rintro e w' ⟨rfl, rfl⟩
  go_wp2_with fail
  refine (rtaken_as _ _ _ _ G _).mono ?_; rintro e w' ⟨rfl, rfl⟩
  go_wp2_with fail
  all_goals
    go_ret
    exact ⟨rfl, rfl⟩
theorem same_as (op a b : Int) (a0 : 0 ≤ a) (a1 : a ≤ 4294967295) (b0 : 0 ≤ b) (b1 : b ≤ 4294967295) (w : World) :
    Calls Try.prog 8 #[.int .i64 op, .int .u32 a, .int .u32 b] w fun e w' => e = .returned (.bool true) ∧ w' = w :=
  same_core op a b _ _ a0 a1 b0 b1 rfl rfl w
set_option maxHeartbeats 1000000 in
theorem known (w : World) : Calls Try.prog 9 #[] w fun e w' => e = .returned (.bool true) ∧ w' = w := by
  have d : Hid (Num.ad 42 7 0 = 4294967295) := by unfold Hid; decide +kernel
  have s : Hid (Num.ad 35 2147483648 31 = 4294967295) := by unfold Hid; decide +kernel
  have t : Hid (Num.tk 28 1 1 = false) := by unfold Hid; decide +kernel
  have u : Hid (Num.tk 5 1 1 = true) := by unfold Hid; decide +kernel
  have r : Hid (Num.ad 44 2147483648 4294967295 = 0) := by unfold Hid; decide +kernel
  have q : Hid (Num.ad 42 2147483648 4294967295 = 2147483648) := by unfold Hid; decide +kernel
  have l : Hid (Num.ad 13 1 2 = 0) := by unfold Hid; decide +kernel
  go_enter Try.func9, Try.ntmps9
  go_wp2_with fail
  refine (do_as _ _ _ _ (by decide) (by decide) (by decide) (by decide) d _).mono ?_; rintro e w' ⟨rfl, rfl⟩
  go_wp2_with fail
  refine (do_as _ _ _ _ (by decide) (by decide) (by decide) (by decide) s _).mono ?_; rintro e w' ⟨rfl, rfl⟩
  go_wp2_with fail
  refine (taken_as _ _ _ _ t _).mono ?_; rintro e w' ⟨rfl, rfl⟩
  go_wp2_with fail
  refine (taken_as _ _ _ _ u _).mono ?_; rintro e w' ⟨rfl, rfl⟩
  go_wp2_with fail
  refine (do_as _ _ _ _ (by decide) (by decide) (by decide) (by decide) r _).mono ?_; rintro e w' ⟨rfl, rfl⟩
  go_wp2_with fail
  refine (do_as _ _ _ _ (by decide) (by decide) (by decide) (by decide) q _).mono ?_; rintro e w' ⟨rfl, rfl⟩
  go_wp2_with fail
  refine (do_as _ _ _ _ (by decide) (by decide) (by decide) (by decide) l _).mono ?_; rintro e w' ⟨rfl, rfl⟩
  go_wp2_with fail
  go_ret
  exact ⟨rfl, rfl⟩
end Go.Proofs.Ytjhgldbllnfieaa.Walks
