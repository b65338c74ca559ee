/- Contracts of the laws' own same and known: both return true. -/
import Derived.Test.YtdnbgboonkoccaaRefAs
namespace Go.Proofs.Ytdnbgboonkoccaa.Walks
open Go.ChangeShapes Go.WideShapes Go.ChangeAt Go.RowKit
set_option linter.unusedVariables false
set_option maxHeartbeats 4000000 in
theorem same_core (v o d a b n : Int) (g : Bool) (D : Hid (Num.Dec v o d a b n g)) (v0 : Hid (0 ≤ v)) (v1 : Hid (v ≤ 4294967295)) (w : World) :
    Calls Try.prog 7 #[.int .u32 v] w fun e w' => e = .returned (.bool true) ∧ Fr w w' := by
  go_enter Try.func7, Try.ntmps7
  go_wp2_with fail
  refine (decode_as v o d a b n g D v0.out v1.out _).mono ?_; rintro e w1 ⟨rfl, hF⟩
  have F1 := hideP hF
  clear hF
  go_wp2_with fail
  refine (rdecode_as v o d a b n g D v0.out v1.out _).mono ?_; rintro e w2 ⟨rfl, hF⟩
  have F2 := hideP hF
  clear hF
  obtain ⟨c0, c1, c2, c3, c4⟩ := box5 w1 (w2.alloc (.cells #[.int .i64 o, .int .i64 d, .int .i64 a, .int .i64 b, .int .i32 n] 28)) o d a b n (F2.out.alloc _)
  have S := hideP (show w1.heap.size < w2.heap.size by have := F2.out.size; simp at this; omega)
  go_wp2_with fail
  refine (judged_as o d a b n _).mono ?_; rintro e w3 ⟨rfl, hF⟩
  have F3 := hideP hF
  clear hF
  go_wp2_with fail
  go_ret
  exact ⟨rfl, ((F1.out.alloc _).trans F2.out).alloc _ |>.trans F3.out⟩
theorem same_as (v : Int) (v0 : 0 ≤ v) (v1 : v ≤ 4294967295) (w : World) : Calls Try.prog 7 #[.int .u32 v] w fun e w' => e = .returned (.bool true) ∧ Fr w w' := by
  obtain ⟨o, d, a, b, n, g, D⟩ := Num.Dec.ex v
  exact same_core v o d a b n g D v0 v1 w
end Go.Proofs.Ytdnbgboonkoccaa.Walks
