/- Contracts of the document's own ImmU, and of the laws' inner functions same and known: both return true. -/
import Derived.Test.YtagmgfpnomampaaMasks
import Derived.Test.YtagmgfpnomampaaRefImms
namespace Go.Proofs.Ytagmgfpnomampaa.Walks
open Go.ChangeShapes Go.WideShapes Go.ChangeAt Go.RowKit
set_option maxHeartbeats 1000000 in
theorem rimmU_as (v c : Int) (h0 : 0 ≤ v) (h1 : v ≤ 4294967295) (H : Hid (Num.iU v = c)) (w : World) :
    Calls Try.prog 22 #[.int .u32 v] w fun e w' => e = .returned (.int .i32 c) ∧ w' = w := by
  go_enter Try.func22, Try.ntmps22
  go_wp2
  go_ret
  refine ⟨ret_int ?_, rfl⟩
  rw [Num.clear_as v 4095 4096 1 0 12 20 rfl h0 h1 (by decide) (by decide) (by decide) (by decide) (by decide), Num.wrap32_as, ← H.out, Num.iU, Num.sg]
  omega
set_option maxHeartbeats 1000000 in
theorem same_core (v a n b s ci cs cb cu cj : Int) (h0 : 0 ≤ v) (h1 : v ≤ 4294967295) (B : Hid (Num.bt v a n = b)) (S : Hid (Num.sn v n = s))
    (I : Hid (Num.iI v = ci)) (SS : Hid (Num.iS v = cs)) (BB : Hid (Num.iB v = cb)) (U : Hid (Num.iU v = cu)) (J : Hid (Num.iJ v = cj)) (w : World) :
    Calls Try.prog 8 #[.int .u32 v, .int .i64 a, .int .i64 n] w fun e w' => e = .returned (.bool true) ∧ w' = w := by
  go_enter Try.func8, Try.ntmps8
  go_wp2_with fail
  refine (bits_as _ _ _ _ B _).mono ?_; rintro e w' ⟨rfl, rfl⟩
  go_wp2_with fail
  refine (rbits_as _ _ _ _ h0 h1 B _).mono ?_; rintro e w' ⟨rfl, rfl⟩
  go_wp2_with fail
  refine (sign_as _ _ _ S _).mono ?_; rintro e w' ⟨rfl, rfl⟩
  go_wp2_with fail
  refine (rsign_as _ _ _ S _).mono ?_; rintro e w' ⟨rfl, rfl⟩
  go_wp2_with fail
  refine (immI_as _ _ h0 h1 I _).mono ?_; rintro e w' ⟨rfl, rfl⟩
  go_wp2_with fail
  refine (rimmI_as _ _ h0 h1 I _).mono ?_; rintro e w' ⟨rfl, rfl⟩
  go_wp2_with fail
  refine (immS_as _ _ h0 h1 SS _).mono ?_; rintro e w' ⟨rfl, rfl⟩
  go_wp2_with fail
  refine (rimmS_as _ _ h0 h1 SS _).mono ?_; rintro e w' ⟨rfl, rfl⟩
  go_wp2_with fail
  refine (immB_as _ _ h0 h1 BB _).mono ?_; rintro e w' ⟨rfl, rfl⟩
  go_wp2_with fail
  refine (rimmB_as _ _ h0 h1 BB _).mono ?_; rintro e w' ⟨rfl, rfl⟩
  go_wp2_with fail
  refine (immU_as _ _ h0 h1 U _).mono ?_; rintro e w' ⟨rfl, rfl⟩
  go_wp2_with fail
  refine (rimmU_as _ _ h0 h1 U _).mono ?_; rintro e w' ⟨rfl, rfl⟩
  go_wp2_with fail
  refine (immJ_as _ _ h0 h1 J _).mono ?_; rintro e w' ⟨rfl, rfl⟩
  go_wp2_with fail
  refine (rimmJ_as _ _ h0 h1 J _).mono ?_; rintro e w' ⟨rfl, rfl⟩
  go_wp2_with fail
  go_ret
  exact ⟨rfl, rfl⟩
theorem same_as (v a n : Int) (h0 : 0 ≤ v) (h1 : v ≤ 4294967295) (w : World) :
    Calls Try.prog 8 #[.int .u32 v, .int .i64 a, .int .i64 n] w fun e w' => e = .returned (.bool true) ∧ w' = w :=
  same_core v a n _ _ _ _ _ _ _ h0 h1 rfl rfl rfl rfl rfl rfl rfl w
set_option maxHeartbeats 1000000 in
theorem known (w : World) : Calls Try.prog 9 #[] w fun e w' => e = .returned (.bool true) ∧ w' = w := by
  have i : Hid (Num.iI 4293918720 = -1) := by unfold Hid; decide
  have s : Hid (Num.sn 8 4 = -8) := by unfold Hid; decide
  have b : Hid (Num.bt 240 4 4 = 15) := by unfold Hid; decide
  have o : Hid (Num.bt 1 32 1 = 0) := by unfold Hid; decide
  have u : Hid (Num.iU 4294963200 = -4096) := by unfold Hid; decide
  go_enter Try.func9, Try.ntmps9
  go_wp2_with fail
  refine (immI_as _ _ (by decide) (by decide) i _).mono ?_; rintro e w' ⟨rfl, rfl⟩
  go_wp2_with fail
  refine (sign_as _ _ _ s _).mono ?_; rintro e w' ⟨rfl, rfl⟩
  go_wp2_with fail
  refine (bits_as _ _ _ _ b _).mono ?_; rintro e w' ⟨rfl, rfl⟩
  go_wp2_with fail
  refine (bits_as _ _ _ _ o _).mono ?_; rintro e w' ⟨rfl, rfl⟩
  go_wp2_with fail
  refine (immU_as _ _ (by decide) (by decide) u _).mono ?_; rintro e w' ⟨rfl, rfl⟩
  go_wp2_with fail
  go_ret
  exact ⟨rfl, rfl⟩
end Go.Proofs.Ytagmgfpnomampaa.Walks
