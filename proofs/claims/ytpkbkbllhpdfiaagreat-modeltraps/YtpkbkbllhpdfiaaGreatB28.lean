/- EncR: The document's own Encode: codes; instructions that are refused at once. -/
import Derived.Test.YtpkbkbllhpdfiaaGreatB04
import Derived.Test.YtpkbkbllhpdfiaaGreatB06
import Derived.Test.YtpkbkbllhpdfiaaGreatB01
import Derived.Deep.RegionWith
import Derived.Deep.DrawnRows
import Derived.Deep.CutRange
namespace Go.Proofs.YtpkbkbllhpdfiaaGreat.Walks
open Go.ChangeShapes Go.WideShapes Go.ChangeAt Go.RowKit
set_option linter.unusedVariables false
attribute [local go_sem ↓] Go.wp_at_zero Go.wp_at_succ
abbrev tabC : Array Value := #[.int .u32 55, .int .u32 23, .int .u32 111, .int .u32 103, .int .u32 99, .int .u32 4195, .int .u32 16483, .int .u32 20579, .int .u32 24675, .int .u32 28771, .int .u32 3, .int .u32 4099, .int .u32 8195, .int .u32 16387, .int .u32 20483, .int .u32 35, .int .u32 4131, .int .u32 8227, .int .u32 19, .int .u32 8211, .int .u32 12307, .int .u32 16403, .int .u32 24595, .int .u32 28691, .int .u32 4115, .int .u32 20499, .int .u32 1073762323, .int .u32 51, .int .u32 1073741875, .int .u32 4147, .int .u32 8243, .int .u32 12339, .int .u32 16435, .int .u32 20531, .int .u32 1073762355, .int .u32 24627, .int .u32 28723, .int .u32 33554483, .int .u32 33558579, .int .u32 33562675, .int .u32 33566771, .int .u32 33570867, .int .u32 33574963, .int .u32 33579059, .int .u32 33583155, .int .u32 15, .int .u32 115, .int .u32 1048691, .int .u32 807403635, .int .u32 4211, .int .u32 8307, .int .u32 12403, .int .u32 20595, .int .u32 24691, .int .u32 28787]
def TabC : Array Value := tabC
set_option maxRecDepth 100000 in
set_option maxHeartbeats 4000000 in
theorem codes_as (w : World) : Calls Tryz.prog 45 #[] w fun e w' => e = .returned (.slice (some ⟨w.heap.size, 0, none⟩) 55 55) ∧ w' = w.alloc (.cells TabC 36) := by
  go_enter Tryz.func45, Tryz.ntmps45
  go_wp2_with fail
  go_ret
  exact ⟨rfl, rfl⟩
def codeL : List Int := [55, 23, 111, 103, 99, 4195, 16483, 20579, 24675, 28771, 3, 4099, 8195, 16387, 20483, 35, 4131, 8227, 19, 8211, 12307, 16403, 24595, 28691, 4115, 20499, 1073762323, 51, 1073741875, 4147, 8243, 12339, 16435, 20531, 1073762355, 24627, 28723, 33554483, 33558579, 33562675, 33566771, 33570867, 33574963, 33579059, 33583155, 15, 115, 1048691, 807403635, 4211, 8307, 12403, 20595, 24691, 28787]
theorem tabC_eq : TabC = (codeL.map (Value.int .u32)).toArray := rfl
theorem tabC_at (k : Nat) (h : k < 55) : TabC[k]? = some (.int .u32 (Num.cd ((k : Int) + 1))) := by
  have e : codeL.length = 55 := rfl
  rw [tabC_eq, List.getElem?_toArray, List.getElem?_map, List.getElem?_eq_getElem (by omega)]
  have : Num.cd ((k : Int) + 1) = codeL[k] := by
    rw [Num.cd, show ((k : Int) + 1).toNat = k + 1 by omega, show Num.cdL = 0 :: codeL from rfl, List.getD_cons_succ, List.getD_eq_getElem?_getD, List.getElem?_eq_getElem (by omega)]; rfl
  rw [this]; rfl
set_option maxRecDepth 100000 in
set_option maxHeartbeats 4000000 in
theorem renc_f0 (o d a b n : Int) (F : Hid (Num.lt (Num.fm o) = 0)) (w : World) :
    Calls Tryz.prog 27 #[.agg (cells o d a b n)] w fun e w' => e = .returned (.tuple #[.int .u32 0, .bool false]) ∧ Fr w w' := by
  go_enter Tryz.func27, Tryz.ntmps27
  go_wp2_with fail
  refine (rformat_as _ _ F _).mono ?_; rintro e w' ⟨rfl, rfl⟩
  go_wp2_with fail
  go_ret2
  exact ⟨rfl, (Fr.refl _).alloc _⟩
set_option maxRecDepth 100000 in
set_option maxHeartbeats 4000000 in
theorem renc_b0 (o d a b n f : Int) (F : Hid (Num.lt (Num.fm o) = f)) (fz : (f == 0) = false) (x : d < 0) (w : World) :
    Calls Tryz.prog 27 #[.agg (cells o d a b n)] w fun e w' => e = .returned (.tuple #[.int .u32 0, .bool false]) ∧ Fr w w' := by
  go_enter Tryz.func27, Tryz.ntmps27
  go_wp2_with fail
  refine (rformat_as _ _ F _).mono ?_; rintro e w' ⟨rfl, rfl⟩
  go_wp2_with fail
  go_ret2
  exact ⟨rfl, (Fr.refl _).alloc _⟩
set_option maxRecDepth 100000 in
set_option maxHeartbeats 4000000 in
theorem renc_b1 (o d a b n f : Int) (F : Hid (Num.lt (Num.fm o) = f)) (fz : (f == 0) = false) (x : 31 < d) (w : World) :
    Calls Tryz.prog 27 #[.agg (cells o d a b n)] w fun e w' => e = .returned (.tuple #[.int .u32 0, .bool false]) ∧ Fr w w' := by
  go_enter Tryz.func27, Tryz.ntmps27
  go_wp2_with fail
  refine (rformat_as _ _ F _).mono ?_; rintro e w' ⟨rfl, rfl⟩
  go_wp2_with fail
  go_ret2
  exact ⟨rfl, (Fr.refl _).alloc _⟩
set_option maxRecDepth 100000 in
set_option maxHeartbeats 4000000 in
theorem renc_b2 (o d a b n f : Int) (F : Hid (Num.lt (Num.fm o) = f)) (fz : (f == 0) = false) (d0 : 0 ≤ d) (d1 : d ≤ 31) (x : a < 0) (w : World) :
    Calls Tryz.prog 27 #[.agg (cells o d a b n)] w fun e w' => e = .returned (.tuple #[.int .u32 0, .bool false]) ∧ Fr w w' := by
  go_enter Tryz.func27, Tryz.ntmps27
  go_wp2_with fail
  refine (rformat_as _ _ F _).mono ?_; rintro e w' ⟨rfl, rfl⟩
  go_wp2_with fail
  go_ret2
  exact ⟨rfl, (Fr.refl _).alloc _⟩
set_option maxRecDepth 100000 in
set_option maxHeartbeats 4000000 in
theorem renc_b3 (o d a b n f : Int) (F : Hid (Num.lt (Num.fm o) = f)) (fz : (f == 0) = false) (d0 : 0 ≤ d) (d1 : d ≤ 31) (x : 31 < a) (w : World) :
    Calls Tryz.prog 27 #[.agg (cells o d a b n)] w fun e w' => e = .returned (.tuple #[.int .u32 0, .bool false]) ∧ Fr w w' := by
  go_enter Tryz.func27, Tryz.ntmps27
  go_wp2_with fail
  refine (rformat_as _ _ F _).mono ?_; rintro e w' ⟨rfl, rfl⟩
  go_wp2_with fail
  go_ret2
  exact ⟨rfl, (Fr.refl _).alloc _⟩
set_option maxRecDepth 100000 in
set_option maxHeartbeats 4000000 in
theorem renc_b4 (o d a b n f : Int) (F : Hid (Num.lt (Num.fm o) = f)) (fz : (f == 0) = false) (d0 : 0 ≤ d) (d1 : d ≤ 31) (a0 : 0 ≤ a) (a1 : a ≤ 31) (x : b < 0) (w : World) :
    Calls Tryz.prog 27 #[.agg (cells o d a b n)] w fun e w' => e = .returned (.tuple #[.int .u32 0, .bool false]) ∧ Fr w w' := by
  go_enter Tryz.func27, Tryz.ntmps27
  go_wp2_with fail
  refine (rformat_as _ _ F _).mono ?_; rintro e w' ⟨rfl, rfl⟩
  go_wp2_with fail
  go_ret2
  exact ⟨rfl, (Fr.refl _).alloc _⟩
set_option maxRecDepth 100000 in
set_option maxHeartbeats 4000000 in
theorem renc_b5 (o d a b n f : Int) (F : Hid (Num.lt (Num.fm o) = f)) (fz : (f == 0) = false) (d0 : 0 ≤ d) (d1 : d ≤ 31) (a0 : 0 ≤ a) (a1 : a ≤ 31) (x : 31 < b) (w : World) :
    Calls Tryz.prog 27 #[.agg (cells o d a b n)] w fun e w' => e = .returned (.tuple #[.int .u32 0, .bool false]) ∧ Fr w w' := by
  go_enter Tryz.func27, Tryz.ntmps27
  go_wp2_with fail
  refine (rformat_as _ _ F _).mono ?_; rintro e w' ⟨rfl, rfl⟩
  go_wp2_with fail
  go_ret2
  exact ⟨rfl, (Fr.refl _).alloc _⟩
end Go.Proofs.YtpkbkbllhpdfiaaGreat.Walks
