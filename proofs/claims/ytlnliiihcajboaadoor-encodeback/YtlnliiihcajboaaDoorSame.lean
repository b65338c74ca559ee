/- Contract of the laws' own same: it returns true. -/
import Derived.Test.YtlnliiihcajboaaDoorTextA
import Derived.Test.YtlnliiihcajboaaDoorRText
import Derived.Deep.RegionHeld3
namespace Go.Proofs.YtlnliiihcajboaaDoor.Walks
open Go.ChangeShapes Go.WideShapes Go.ChangeAt Go.RowKit
set_option linter.unusedVariables false
theorem sm_of (w w' : World) (o d a b n : Int) (F : Hid (Fr (w.alloc (.cells (cells o d a b n) 27)) w')) :
    w'.cell? ⟨w.heap.size, 0, none⟩ = some (.int .i64 o) ∧ w'.cell? ⟨w.heap.size, 1, none⟩ = some (.int .i64 d) ∧ w'.cell? ⟨w.heap.size, 2, none⟩ = some (.int .i64 a) ∧ w'.cell? ⟨w.heap.size, 3, none⟩ = some (.int .i64 b) ∧ w'.cell? ⟨w.heap.size, 4, none⟩ = some (.int .i32 n) := box5 w w' o d a b n F.out
set_option maxRecDepth 100000 in
set_option maxHeartbeats 8000000 in
theorem same_core (o d a b n v : Int) (g : Bool) (s0 s : ByteArray) (S : Hid (Num.nm o = s0)) (SS : Hid (Num.bs (Num.tx o d a b n g) = s)) (E : Hid (Num.En o d a b n v g)) (w : World) (TT : Hid (Pow w)) :
    Calls Tryd.prog 7 #[.agg (cells o d a b n)] w fun e w' => e = .returned (.bool true) ∧ Fr w w' := by
  go_enter Tryd.func7, Tryd.ntmps7
  go_wp2_with fail
  refine (encode_as o d a b n v g E _).mono ?_; rintro e w1 ⟨rfl, hF⟩
  have F1 := hideP hF; clear hF
  obtain ⟨c0, c1, c2, c3, c4⟩ := box5 w w1 o d a b n F1.out
  go_wp2_with fail
  refine (rencode_as o d a b n v g E _).mono ?_; rintro e w2 ⟨rfl, hF⟩
  have F2 := hideP hF; clear hF c0 c1 c2 c3 c4
  have H0 : Hid (Fr (w.alloc (.cells (cells o d a b n) 27)) w2.drew) := hideP (F1.out.trans F2.out).drew
  go_wp2_with fail
  go_region_held3 (fun w' => w'.cell? ⟨w.heap.size, 0, none⟩ = some (.int .i64 o) ∧ w'.cell? ⟨w.heap.size, 1, none⟩ = some (.int .i64 d) ∧ w'.cell? ⟨w.heap.size, 2, none⟩ = some (.int .i64 a) ∧ w'.cell? ⟨w.heap.size, 3, none⟩ = some (.int .i64 b) ∧ w'.cell? ⟨w.heap.size, 4, none⟩ = some (.int .i32 n))
    (exact sm_of w _ o d a b n (by assumption))
    (first
      | (go_at_call 12; refine (text_as o d a b n v g s SS E _ (hideP (TT.out.fr (((Fr.refl _).alloc _).trans (Hid.out (by assumption)))))).mono ?_; rintro e w' ⟨rfl, hF⟩; have hB : Hid (Fr (w.alloc (.cells (cells o d a b n) 27)) w') := hideP (Fr.trans (Hid.out (by assumption)) hF); clear hF)
      | (go_at_call 15; refine (rtext_as o d a b n v g s SS E _).mono ?_; rintro e w' ⟨rfl, hF⟩; have hB : Hid (Fr (w.alloc (.cells (cells o d a b n) 27)) w') := hideP (Fr.trans (Hid.out (by assumption)) hF); clear hF)
      | (go_at_call 16; refine (name_as o s0 S _).mono ?_; rintro e w' ⟨rfl, hF⟩; have hB : Hid (Fr (w.alloc (.cells (cells o d a b n) 27)) w') := hideP (Fr.trans (Hid.out (by assumption)) hF); clear hF)
      | (go_at_call 17; refine (rname_as o s0 S _).mono ?_; rintro e w' ⟨rfl, hF⟩; have hB : Hid (Fr (w.alloc (.cells (cells o d a b n) 27)) w') := hideP (Fr.trans (Hid.out (by assumption)) hF); clear hF))
  all_goals
    go_wp2_with fail
    go_ret
    exact ⟨rfl, ((Fr.refl _).alloc _).trans (Hid.out (by assumption))⟩
theorem same_as (o d a b n : Int) (w : World) (TT : Hid (Pow w)) :
    Calls Tryd.prog 7 #[.agg (cells o d a b n)] w fun e w' => e = .returned (.bool true) ∧ Fr w w' := by
  obtain ⟨v, g, E⟩ := Num.En.ex o d a b n
  exact same_core o d a b n v g _ _ (hideP rfl) (hideP rfl) (hideP E) w TT
end Go.Proofs.YtlnliiihcajboaaDoor.Walks
