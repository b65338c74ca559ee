/- Contract of the program's Name. -/
import Derived.Test.YtlnliiihcajboaaDoorShape
namespace Go.Proofs.YtlnliiihcajboaaDoor.Walks
open Go.ChangeShapes Go.WideShapes Go.ChangeAt Go.RowKit
set_option linter.unusedVariables false
theorem field0 (s : ByteArray) (f c : Int) (W : World) : (Instr.field 48 (.agg (shp s f c)) 0).run Tryd.prog W = .ok (.string s) W := by kernel_rfl
theorem field1 (s : ByteArray) (f c : Int) (W : World) : (Instr.field 48 (.agg (shp s f c)) 1).run Tryd.prog W = .ok (.int .i64 f) W := by kernel_rfl
set_option maxRecDepth 100000 in
set_option maxHeartbeats 4000000 in
theorem name_core (o f c : Int) (s : ByteArray) (S : Hid (Num.nm o = s)) (F : Hid (Num.fm o = f)) (C : Hid (Num.cd o = c)) (w : World) :
    Calls Tryd.prog 16 #[.int .i64 o] w fun e w' => e = .returned (.string s) ∧ Fr w w' := by
  have hf := fun W => field0 s f c W
  go_enter Tryd.func16, Tryd.ntmps16
  go_wp2_with fail
  refine (shape_as o f c s S F C _).mono ?_; rintro e w' ⟨rfl, rfl⟩
  go_wp2_with fail
  go_ret
  exact ⟨rfl, by repeat (first | exact Fr.refl _ | apply Fr.alloc)⟩
theorem name_as (o : Int) (s : ByteArray) (S : Hid (Num.nm o = s)) (w : World) :
    Calls Tryd.prog 16 #[.int .i64 o] w fun e w' => e = .returned (.string s) ∧ Fr w w' := name_core o (Num.fm o) (Num.cd o) s S (hideP rfl) (hideP rfl) w
end Go.Proofs.YtlnliiihcajboaaDoor.Walks
