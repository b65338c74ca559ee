/- Contract of the laws' own known: it returns true. -/
import Derived.Test.YtdnbgboonkoccaaSame
namespace Go.Proofs.Ytdnbgboonkoccaa.Walks
open Go.ChangeShapes Go.WideShapes Go.ChangeAt Go.RowKit
set_option linter.unusedVariables false
set_option maxHeartbeats 4000000 in
theorem known (w : World) : Calls Try.prog 9 #[] w fun e w' => e = .returned (.bool true) ∧ Fr w w' := by
  have D1 : Hid (Num.Dec 19 19 0 0 0 0 true) := ⟨by decide, by decide, by decide, by decide, by decide, by decide⟩
  have D2 : Hid (Num.Dec 0 0 0 0 0 0 false) := ⟨by decide, by decide, by decide, by decide, by decide, by decide⟩
  have D3 : Hid (Num.Dec 1107316755 0 0 0 0 0 false) := ⟨by decide, by decide, by decide, by decide, by decide, by decide⟩
  have D4 : Hid (Num.Dec 4293918735 46 0 0 0 0 true) := ⟨by decide, by decide, by decide, by decide, by decide, by decide⟩
  have WR : Hid (Num.wr (Num.fm 19) 0 = false) := by unfold Hid; decide
  have SL : Hid (Num.sl 44 = 2) := by unfold Hid; decide
  go_enter Try.func9, Try.ntmps9
  go_wp2_with fail
  refine (decode_as _ _ _ _ _ _ _ D1 (by decide) (by decide) _).mono ?_; rintro e w1 ⟨rfl, hF⟩
  have F1 := hideP hF
  clear hF
  go_wp2_with fail
  refine (decode_as _ _ _ _ _ _ _ D2 (by decide) (by decide) _).mono ?_; rintro e w2 ⟨rfl, hF⟩
  have F2 := hideP hF
  clear hF
  go_wp2_with fail
  refine (decode_as _ _ _ _ _ _ _ D3 (by decide) (by decide) _).mono ?_; rintro e w3 ⟨rfl, hF⟩
  have F3 := hideP hF
  clear hF
  go_wp2_with fail
  refine (decode_as _ _ _ _ _ _ _ D4 (by decide) (by decide) _).mono ?_; rintro e w4 ⟨rfl, hF⟩
  have F4 := hideP hF
  clear hF
  have FF := hideP ((((F2.out.alloc _).trans F3.out).alloc _).trans F4.out)
  obtain ⟨c0, c1, c2, c3, c4⟩ := box5 w1 (w4.alloc (.cells #[.int .i64 46, .int .i64 0, .int .i64 0, .int .i64 0, .int .i32 0] 28)) 19 0 0 0 0 (FF.out.alloc _)
  go_wp2_with fail
  refine (writes_as 19 0 0 0 0 _ WR _).mono ?_; rintro e w' ⟨rfl, rfl⟩
  go_wp2_with fail
  refine (slow_as 44 0 0 0 0 _ SL _).mono ?_; rintro e w' ⟨rfl, rfl⟩
  go_wp2_with fail
  go_ret
  exact ⟨rfl, ((((F1.out.alloc _).trans FF.out).alloc _).alloc _).alloc _⟩
end Go.Proofs.Ytdnbgboonkoccaa.Walks
