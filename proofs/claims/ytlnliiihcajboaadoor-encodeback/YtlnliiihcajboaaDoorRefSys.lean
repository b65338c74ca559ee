/- Contract of the document's own system. -/
import Derived.Test.YtlnliiihcajboaaDoorRefPick
namespace Go.Proofs.YtlnliiihcajboaaDoor.Walks
open Go.ChangeShapes Go.WideShapes Go.ChangeAt Go.RowKit
set_option linter.unusedVariables false
set_option maxHeartbeats 2000000 in
theorem sys_e (f3 x y z : Int) (w : World) :
    Calls Tryd.prog 31 #[.int .u32 115, .int .u32 f3, .agg (cells 0 x y z 0)] w fun e w' => e = .returned (.tuple #[.agg (cells 47 0 0 0 0), .bool true]) ∧ w' = (w.alloc (.cells (cells 0 x y z 0) 27)).alloc (.cells (cells 47 0 0 0 0) 27) := by
  go_enter Tryd.func31, Tryd.ntmps31
  go_wp2_with fail
  refine bodyPost_ret (v := .tuple #[.agg (cells 47 0 0 0 0), .bool true]) (by simp [results, Tryd.results31, go_sem]) rfl ⟨rfl, rfl⟩
set_option maxHeartbeats 2000000 in
theorem sys_b (f3 x y z : Int) (w : World) :
    Calls Tryd.prog 31 #[.int .u32 1048691, .int .u32 f3, .agg (cells 0 x y z 0)] w fun e w' => e = .returned (.tuple #[.agg (cells 48 0 0 0 0), .bool true]) ∧ w' = (w.alloc (.cells (cells 0 x y z 0) 27)).alloc (.cells (cells 48 0 0 0 0) 27) := by
  go_enter Tryd.func31, Tryd.ntmps31
  go_wp2_with fail
  refine bodyPost_ret (v := .tuple #[.agg (cells 48 0 0 0 0), .bool true]) (by simp [results, Tryd.results31, go_sem]) rfl ⟨rfl, rfl⟩
set_option maxHeartbeats 2000000 in
theorem sys_m (f3 x y z : Int) (w : World) :
    Calls Tryd.prog 31 #[.int .u32 807403635, .int .u32 f3, .agg (cells 0 x y z 0)] w fun e w' => e = .returned (.tuple #[.agg (cells 49 0 0 0 0), .bool true]) ∧ w' = (w.alloc (.cells (cells 0 x y z 0) 27)).alloc (.cells (cells 49 0 0 0 0) 27) := by
  go_enter Tryd.func31, Tryd.ntmps31
  go_wp2_with fail
  refine bodyPost_ret (v := .tuple #[.agg (cells 49 0 0 0 0), .bool true]) (by simp [results, Tryd.results31, go_sem]) rfl ⟨rfl, rfl⟩
set_option maxHeartbeats 2000000 in
theorem sys_c (v f3 x y z o n : Int) (g : Bool) (v0 : Hid (0 ≤ v)) (v1 : Hid (v ≤ 4294967295)) (h0 : 0 ≤ f3) (h7 : f3 ≤ 7) (n0 : 0 ≤ n) (n1 : n ≤ 4095)
    (a : (v == 115) = false) (b : (v == 1048691) = false) (c : (v == 807403635) = false) (H : Hid (Tab #[.int .i64 0, .int .i64 50, .int .i64 51, .int .i64 52, .int .i64 0, .int .i64 53, .int .i64 54, .int .i64 55] f3 o)) (I : Hid (Num.bt v 20 12 = n)) (G : decide (0 < o) = g) (w : World) :
    Calls Tryd.prog 31 #[.int .u32 v, .int .u32 f3, .agg (cells 0 x y z 0)] w fun e w' => e = .returned (.tuple #[.agg (cells o x y 0 n), .bool g]) ∧ w' = (((w.alloc (.cells (cells o x y 0 n) 27)).alloc (.cells (cells o x y 0 n) 27)).alloc (.cells #[.int .i64 0, .int .i64 50, .int .i64 51, .int .i64 52, .int .i64 0, .int .i64 53, .int .i64 54, .int .i64 55] 3)).drew := by
  go_enter Tryd.func31, Tryd.ntmps31
  go_wp2_with fail
  refine (pick_as _ _ _ _ o _ _ (by simp) rfl (by decide) h0 h7 H).mono ?_; rintro e w' ⟨rfl, rfl⟩
  go_wp2_with fail
  refine (rbits_as _ _ _ _ v0.out v1.out I _).mono ?_; rintro e w' ⟨rfl, rfl⟩
  go_wp2_with fail
  go_region
  all_goals
    go_wp2_with fail
    refine bodyPost_ret (v := .tuple #[.agg (cells o x y 0 n), .bool g]) (by simp [results, Tryd.results31, go_sem]) rfl ⟨rfl, rfl⟩
end Go.Proofs.YtlnliiihcajboaaDoor.Walks
