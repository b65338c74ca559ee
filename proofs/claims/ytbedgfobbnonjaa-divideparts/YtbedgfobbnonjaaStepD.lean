/- Contract of Step, of a division. -/
import Derived.Test.YtbedgfobbnonjaaUnit
namespace Go.Proofs.Ytbedgfobbnonjaa.Walks
open Go.ChangeShapes Go.WideShapes Go.ChangeAt Go.RowKit
set_option linter.unusedVariables false
set_option maxHeartbeats 2000000 in
theorem step_div (B : Nat) (op y : Int) (g : Bool) (s : Nat) (hs : (s : Int) ≤ 7) (ho : (decide (op ≤ 41)) = false) (f : Nat → Int)
    (F : Hid (∀ k, k < 4 → ∀ w : World, Calls Try.prog 21 #[.int .u64 (f k), .int .u32 y] w fun e w' => e = .returned (.int .u64 (f (k + 1))) ∧ w' = w)) (w : World) (hU : Hid (Un B op (f 0) y g s w)) :
    Calls Try.prog 10 #[.pointer (some ⟨B, 0, none⟩)] w fun e w' => e = .returned (.bool (decide (8 ≤ (s : Int) + 1))) ∧ Now B op (f 4) y g ((s : Int) + 1) w w' := by
  go_enter Try.func10, Try.ntmps10
  go_wp2_with fail
  refine (done_as B s _ hU.out.c4).mono ?_; rintro e w ⟨rfl, rfl⟩
  go_wp2_with fail
  go_loopw [5] (fun t wr => ∃ k : Nat, (k : Int) ≤ 4 ∧ t = .int .i64 k ∧ Hid (Now B op (f k) y g s w wr)) (fun t _ => 4 - (intOf t).toNat)
  case atStart => exact ⟨0, by decide, rfl, Now.same hU.out (alike_refl _)⟩
  case round =>
    obtain ⟨k, hk, rfl, HN⟩ := hrel
    rename_i wr
    have c0 := HN.out.1.c0
    have c1 := HN.out.1.c1
    have c2 := HN.out.1.c2
    have c4 := HN.out.1.c4
    have z1 := HN.out.1.z1
    have z4 := HN.out.1.z4
    by_cases hlt : (k : Int) < 4
    · go_wp2_with fail
      refine (multiplies_as _ _).mono ?_; rintro e w' ⟨rfl, rfl⟩
      go_wp2_with fail
      go_region_with (go_at_call 21; refine (F.out k (by omega) _).mono ?_; rintro e w' ⟨rfl, rfl⟩)
      all_goals
        go_wp2_with fail
        exact ⟨⟨k + 1, by omega, by rw [Int.natCast_add]; rfl, HN.out.set1 (f (k + 1)) ⟨rfl, rfl, rfl⟩⟩, by simp [intOf]; omega⟩
    · have e4 : k = 4 := by omega
      subst e4
      go_wp2_with fail
      refine (done_as B _ _ (HN.out.set4 ((s : Int) + 1) (alike_refl _)).1.c4).mono ?_; rintro e w' ⟨rfl, rfl⟩
      go_wp2_with fail
      go_ret
      exact ⟨rfl, HN.out.set4 ((s : Int) + 1) ⟨rfl, rfl, rfl⟩⟩
end Go.Proofs.Ytbedgfobbnonjaa.Walks
