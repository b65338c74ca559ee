/- Contract of the laws' own judged: it returns true. -/
import Derived.Test.YtdnbgboonkoccaaJudge
import Derived.Test.YtdnbgboonkoccaaMem
import Derived.Deep.RegionHeld3
namespace Go.Proofs.Ytdnbgboonkoccaa.Walks
open Go.ChangeShapes Go.WideShapes Go.ChangeAt Go.RowKit
set_option linter.unusedVariables false
theorem box_cell (w w' : World) (c : Array Value) (t : TypeId) (F : Fr (w.alloc (.cells c t)) w') (k : Nat) : w'.cell? ⟨w.heap.size, k, none⟩ = c[k]? := by
  rw [F.cell _ _ (by simp), World.cell?_alloc_at _ _ _ _ rfl]
  try rfl
theorem box5 (w w' : World) (o d a b n : Int) (F : Fr (w.alloc (.cells (cells o d a b n) 28)) w') :
    w'.cell? ⟨w.heap.size, 0, none⟩ = some (.int .i64 o) ∧ w'.cell? ⟨w.heap.size, 1, none⟩ = some (.int .i64 d) ∧ w'.cell? ⟨w.heap.size, 2, none⟩ = some (.int .i64 a) ∧ w'.cell? ⟨w.heap.size, 3, none⟩ = some (.int .i64 b) ∧ w'.cell? ⟨w.heap.size, 4, none⟩ = some (.int .i32 n) :=
  ⟨box_cell w w' _ 28 F 0, box_cell w w' _ 28 F 1, box_cell w w' _ 28 F 2, box_cell w w' _ 28 F 3, box_cell w w' _ 28 F 4⟩
set_option maxHeartbeats 4000000 in
theorem judged_core (o d a b n c : Int) (p q r : Bool) (P : Hid (Num.r1 (Num.fm o) = p)) (Q : Hid (Num.r2 (Num.fm o) = q)) (R : Hid (Num.wr (Num.fm o) d = r)) (C : Hid (Num.sl o = c)) (w : World) :
    Calls Try.prog 8 #[.agg (cells o d a b n)] w fun e w' => e = .returned (.bool true) ∧ Fr w w' := by
  go_enter Try.func8, Try.ntmps8
  go_wp2_with fail
  refine (reads_as _ _ _ _ _ _ _ P Q _).mono ?_; rintro e w' ⟨rfl, rfl⟩
  go_wp2_with fail
  refine (rreads_as _ _ _ _ _ _ _ P Q _).mono ?_; rintro e w' ⟨rfl, rfl⟩
  go_wp2_with fail
  go_region_held3 (fun w' => w'.cell? ⟨w.heap.size, 0, none⟩ = some (.int .i64 o) ∧ w'.cell? ⟨w.heap.size, 1, none⟩ = some (.int .i64 d) ∧ w'.cell? ⟨w.heap.size, 2, none⟩ = some (.int .i64 a) ∧ w'.cell? ⟨w.heap.size, 3, none⟩ = some (.int .i64 b) ∧ w'.cell? ⟨w.heap.size, 4, none⟩ = some (.int .i32 n)) ((refine box5 w _ o d a b n ?_; repeat (first | exact Fr.refl _ | apply Fr.drew | apply Fr.alloc)))
    (first
      | (go_at_call 14; refine (writes_as _ _ _ _ _ _ R _).mono ?_; rintro e w' ⟨rfl, rfl⟩)
      | (go_at_call 18; refine (rwrites_as _ _ _ _ _ _ R _).mono ?_; rintro e w' ⟨rfl, rfl⟩)
      | (go_at_call 15; refine (slow_as _ _ _ _ _ _ C _).mono ?_; rintro e w' ⟨rfl, rfl⟩)
      | (go_at_call 19; refine (rslow_as _ _ _ _ _ _ C _).mono ?_; rintro e w' ⟨rfl, rfl⟩))
  all_goals
    go_wp2_with fail
    go_ret
    refine ⟨rfl, ?_⟩
    repeat (first | exact Fr.refl _ | apply Fr.alloc | apply Fr.drew)
theorem judged_as (o d a b n : Int) (w : World) : Calls Try.prog 8 #[.agg (cells o d a b n)] w fun e w' => e = .returned (.bool true) ∧ Fr w w' :=
  judged_core o d a b n _ _ _ _ rfl rfl rfl rfl w
end Go.Proofs.Ytdnbgboonkoccaa.Walks
