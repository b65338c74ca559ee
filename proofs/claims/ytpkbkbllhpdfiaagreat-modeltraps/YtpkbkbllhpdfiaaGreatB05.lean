/- RefDec: Contract of the document's own Decode, opcode by opcode. -/
import Derived.Test.YtpkbkbllhpdfiaaGreatB03
import Derived.Deep.RegionWith
namespace Go.Proofs.YtpkbkbllhpdfiaaGreat.Walks
open Go.ChangeShapes Go.WideShapes Go.ChangeAt Go.RowKit
set_option linter.unusedVariables false
set_option maxHeartbeats 1000000 in
theorem rimmU_as (v c : Int) (h0 : 0 ≤ v) (h1 : v ≤ 4294967295) (H : Hid (Num.iU v = c)) (w : World) :
    Calls Tryz.prog 60 #[.int .u32 v] w fun e w' => e = .returned (.int .i32 c) ∧ w' = w := by
  go_enter Tryz.func60, Tryz.ntmps60
  go_wp2
  go_ret
  refine ⟨ret_int ?_, rfl⟩
  rw [Num.clear_as v 4095 4096 1 0 12 20 rfl h0 h1 (by decide) (by decide) (by decide) (by decide) (by decide), Num.wrap32_as, ← H.out, Num.iU, Num.sg]
  omega
set_option maxRecDepth 100000 in
set_option maxHeartbeats 4000000 in
theorem rdec_lui (v f3 x y z n : Int) (v0 : Hid (0 ≤ v)) (v1 : Hid (v ≤ 4294967295)) (h0 : 0 ≤ f3) (h7 : f3 ≤ 7) (x0 : 0 ≤ x) (x1 : x ≤ 31) (y0 : 0 ≤ y) (y1 : y ≤ 31) (z0 : 0 ≤ z) (z1 : z ≤ 31) (F : Hid (Num.bt v 12 3 = f3)) (X : Hid (Num.bt v 7 5 = x)) (Y : Hid (Num.bt v 15 5 = y)) (Z : Hid (Num.bt v 20 5 = z)) (A : bits .and .u32 v 127 = 55) (I : Hid (Num.iU v = n)) (w : World) :
    Calls Tryz.prog 39 #[.int .u32 v] w fun e w' => e = .returned (.tuple #[.agg (cells 1 x 0 0 n), .bool true]) ∧ Fr w w' := by
  go_enter Tryz.func39, Tryz.ntmps39
  go_wp2_with fail
  refine (rbits_as _ _ _ _ v0.out v1.out F _).mono ?_; rintro e w' ⟨rfl, rfl⟩
  go_wp2_with fail
  refine (rbits_as _ _ _ _ v0.out v1.out X _).mono ?_; rintro e w' ⟨rfl, rfl⟩
  go_wp2_with fail
  refine (rbits_as _ _ _ _ v0.out v1.out Y _).mono ?_; rintro e w' ⟨rfl, rfl⟩
  go_wp2_with fail
  refine (rbits_as _ _ _ _ v0.out v1.out Z _).mono ?_; rintro e w' ⟨rfl, rfl⟩
  go_wp2_with fail
  go_region_with (go_at_call 60; refine (rimmU_as _ _ v0.out v1.out I _).mono ?_; rintro e w' ⟨rfl, rfl⟩)
  all_goals
    go_wp2_with fail
    refine bodyPost_ret (v := .tuple #[.agg (cells 1 x 0 0 n), .bool true]) (by simp [results, Tryz.results39, go_sem]) rfl ⟨rfl, ?_⟩
    repeat (first | exact Fr.refl _ | apply Fr.drew | apply Fr.alloc)
set_option maxRecDepth 100000 in
set_option maxHeartbeats 4000000 in
theorem rdec_auipc (v f3 x y z n : Int) (v0 : Hid (0 ≤ v)) (v1 : Hid (v ≤ 4294967295)) (h0 : 0 ≤ f3) (h7 : f3 ≤ 7) (x0 : 0 ≤ x) (x1 : x ≤ 31) (y0 : 0 ≤ y) (y1 : y ≤ 31) (z0 : 0 ≤ z) (z1 : z ≤ 31) (F : Hid (Num.bt v 12 3 = f3)) (X : Hid (Num.bt v 7 5 = x)) (Y : Hid (Num.bt v 15 5 = y)) (Z : Hid (Num.bt v 20 5 = z)) (A : bits .and .u32 v 127 = 23) (I : Hid (Num.iU v = n)) (w : World) :
    Calls Tryz.prog 39 #[.int .u32 v] w fun e w' => e = .returned (.tuple #[.agg (cells 2 x 0 0 n), .bool true]) ∧ Fr w w' := by
  go_enter Tryz.func39, Tryz.ntmps39
  go_wp2_with fail
  refine (rbits_as _ _ _ _ v0.out v1.out F _).mono ?_; rintro e w' ⟨rfl, rfl⟩
  go_wp2_with fail
  refine (rbits_as _ _ _ _ v0.out v1.out X _).mono ?_; rintro e w' ⟨rfl, rfl⟩
  go_wp2_with fail
  refine (rbits_as _ _ _ _ v0.out v1.out Y _).mono ?_; rintro e w' ⟨rfl, rfl⟩
  go_wp2_with fail
  refine (rbits_as _ _ _ _ v0.out v1.out Z _).mono ?_; rintro e w' ⟨rfl, rfl⟩
  go_wp2_with fail
  go_region_with (go_at_call 60; refine (rimmU_as _ _ v0.out v1.out I _).mono ?_; rintro e w' ⟨rfl, rfl⟩)
  all_goals
    go_wp2_with fail
    refine bodyPost_ret (v := .tuple #[.agg (cells 2 x 0 0 n), .bool true]) (by simp [results, Tryz.results39, go_sem]) rfl ⟨rfl, ?_⟩
    repeat (first | exact Fr.refl _ | apply Fr.drew | apply Fr.alloc)
set_option maxRecDepth 100000 in
set_option maxHeartbeats 4000000 in
theorem rdec_jal (v f3 x y z n : Int) (v0 : Hid (0 ≤ v)) (v1 : Hid (v ≤ 4294967295)) (h0 : 0 ≤ f3) (h7 : f3 ≤ 7) (x0 : 0 ≤ x) (x1 : x ≤ 31) (y0 : 0 ≤ y) (y1 : y ≤ 31) (z0 : 0 ≤ z) (z1 : z ≤ 31) (F : Hid (Num.bt v 12 3 = f3)) (X : Hid (Num.bt v 7 5 = x)) (Y : Hid (Num.bt v 15 5 = y)) (Z : Hid (Num.bt v 20 5 = z)) (A : bits .and .u32 v 127 = 111) (I : Hid (Num.iJ v = n)) (w : World) :
    Calls Tryz.prog 39 #[.int .u32 v] w fun e w' => e = .returned (.tuple #[.agg (cells 3 x 0 0 n), .bool true]) ∧ Fr w w' := by
  go_enter Tryz.func39, Tryz.ntmps39
  go_wp2_with fail
  refine (rbits_as _ _ _ _ v0.out v1.out F _).mono ?_; rintro e w' ⟨rfl, rfl⟩
  go_wp2_with fail
  refine (rbits_as _ _ _ _ v0.out v1.out X _).mono ?_; rintro e w' ⟨rfl, rfl⟩
  go_wp2_with fail
  refine (rbits_as _ _ _ _ v0.out v1.out Y _).mono ?_; rintro e w' ⟨rfl, rfl⟩
  go_wp2_with fail
  refine (rbits_as _ _ _ _ v0.out v1.out Z _).mono ?_; rintro e w' ⟨rfl, rfl⟩
  go_wp2_with fail
  go_region_with (go_at_call 61; refine (rimmJ_as _ _ v0.out v1.out I _).mono ?_; rintro e w' ⟨rfl, rfl⟩)
  all_goals
    go_wp2_with fail
    refine bodyPost_ret (v := .tuple #[.agg (cells 3 x 0 0 n), .bool true]) (by simp [results, Tryz.results39, go_sem]) rfl ⟨rfl, ?_⟩
    repeat (first | exact Fr.refl _ | apply Fr.drew | apply Fr.alloc)
set_option maxRecDepth 100000 in
set_option maxHeartbeats 4000000 in
theorem rdec_jalr_yes (v f3 x y z o n : Int) (v0 : Hid (0 ≤ v)) (v1 : Hid (v ≤ 4294967295)) (h0 : 0 ≤ f3) (h7 : f3 ≤ 7) (x0 : 0 ≤ x) (x1 : x ≤ 31) (y0 : 0 ≤ y) (y1 : y ≤ 31) (z0 : 0 ≤ z) (z1 : z ≤ 31) (F : Hid (Num.bt v 12 3 = f3)) (X : Hid (Num.bt v 7 5 = x)) (Y : Hid (Num.bt v 15 5 = y)) (Z : Hid (Num.bt v 20 5 = z)) (A : bits .and .u32 v 127 = 103) (H : Hid (Tab #[.int .i64 4] f3 o)) (I : Hid (Num.iI v = n)) (oz : (o == 0) = false) (w : World) :
    Calls Tryz.prog 39 #[.int .u32 v] w fun e w' => e = .returned (.tuple #[.agg (cells o x y 0 n), .bool true]) ∧ Fr w w' := by
  go_enter Tryz.func39, Tryz.ntmps39
  go_wp2_with fail
  refine (rbits_as _ _ _ _ v0.out v1.out F _).mono ?_; rintro e w' ⟨rfl, rfl⟩
  go_wp2_with fail
  refine (rbits_as _ _ _ _ v0.out v1.out X _).mono ?_; rintro e w' ⟨rfl, rfl⟩
  go_wp2_with fail
  refine (rbits_as _ _ _ _ v0.out v1.out Y _).mono ?_; rintro e w' ⟨rfl, rfl⟩
  go_wp2_with fail
  refine (rbits_as _ _ _ _ v0.out v1.out Z _).mono ?_; rintro e w' ⟨rfl, rfl⟩
  go_wp2_with fail
  refine (pick_as _ _ _ _ o _ _ (by simp) rfl (by decide) h0 h7 H).mono ?_; rintro e w' ⟨rfl, rfl⟩
  go_wp2_with fail
  refine (rimmI_as _ _ v0.out v1.out I _).mono ?_; rintro e w' ⟨rfl, rfl⟩
  go_wp2_with fail
  refine bodyPost_ret (v := .tuple #[.agg (cells o x y 0 n), .bool true]) (by simp [results, Tryz.results39, go_sem]) rfl ⟨rfl, ?_⟩
  repeat (first | exact Fr.refl _ | apply Fr.drew | apply Fr.alloc)
set_option maxRecDepth 100000 in
set_option maxHeartbeats 4000000 in
theorem rdec_jalr_no (v f3 x y z n : Int) (v0 : Hid (0 ≤ v)) (v1 : Hid (v ≤ 4294967295)) (h0 : 0 ≤ f3) (h7 : f3 ≤ 7) (x0 : 0 ≤ x) (x1 : x ≤ 31) (y0 : 0 ≤ y) (y1 : y ≤ 31) (z0 : 0 ≤ z) (z1 : z ≤ 31) (F : Hid (Num.bt v 12 3 = f3)) (X : Hid (Num.bt v 7 5 = x)) (Y : Hid (Num.bt v 15 5 = y)) (Z : Hid (Num.bt v 20 5 = z)) (A : bits .and .u32 v 127 = 103) (H : Hid (Tab #[.int .i64 4] f3 0)) (I : Hid (Num.iI v = n)) (w : World) :
    Calls Tryz.prog 39 #[.int .u32 v] w fun e w' => e = .returned (.tuple #[.agg (cells 0 0 0 0 0), .bool false]) ∧ Fr w w' := by
  go_enter Tryz.func39, Tryz.ntmps39
  go_wp2_with fail
  refine (rbits_as _ _ _ _ v0.out v1.out F _).mono ?_; rintro e w' ⟨rfl, rfl⟩
  go_wp2_with fail
  refine (rbits_as _ _ _ _ v0.out v1.out X _).mono ?_; rintro e w' ⟨rfl, rfl⟩
  go_wp2_with fail
  refine (rbits_as _ _ _ _ v0.out v1.out Y _).mono ?_; rintro e w' ⟨rfl, rfl⟩
  go_wp2_with fail
  refine (rbits_as _ _ _ _ v0.out v1.out Z _).mono ?_; rintro e w' ⟨rfl, rfl⟩
  go_wp2_with fail
  refine (pick_as _ _ _ _ 0 _ _ (by simp) rfl (by decide) h0 h7 H).mono ?_; rintro e w' ⟨rfl, rfl⟩
  go_wp2_with fail
  refine (rimmI_as _ _ v0.out v1.out I _).mono ?_; rintro e w' ⟨rfl, rfl⟩
  go_wp2_with fail
  refine bodyPost_ret (v := .tuple #[.agg (cells 0 0 0 0 0), .bool false]) (by simp [results, Tryz.results39, go_sem]) rfl ⟨rfl, ?_⟩
  repeat (first | exact Fr.refl _ | apply Fr.drew | apply Fr.alloc)
set_option maxRecDepth 100000 in
set_option maxHeartbeats 4000000 in
theorem rdec_branch_yes (v f3 x y z o n : Int) (v0 : Hid (0 ≤ v)) (v1 : Hid (v ≤ 4294967295)) (h0 : 0 ≤ f3) (h7 : f3 ≤ 7) (x0 : 0 ≤ x) (x1 : x ≤ 31) (y0 : 0 ≤ y) (y1 : y ≤ 31) (z0 : 0 ≤ z) (z1 : z ≤ 31) (F : Hid (Num.bt v 12 3 = f3)) (X : Hid (Num.bt v 7 5 = x)) (Y : Hid (Num.bt v 15 5 = y)) (Z : Hid (Num.bt v 20 5 = z)) (A : bits .and .u32 v 127 = 99) (H : Hid (Tab #[.int .i64 5, .int .i64 6, .int .i64 0, .int .i64 0, .int .i64 7, .int .i64 8, .int .i64 9, .int .i64 10] f3 o)) (I : Hid (Num.iB v = n)) (oz : (o == 0) = false) (w : World) :
    Calls Tryz.prog 39 #[.int .u32 v] w fun e w' => e = .returned (.tuple #[.agg (cells o 0 y z n), .bool true]) ∧ Fr w w' := by
  go_enter Tryz.func39, Tryz.ntmps39
  go_wp2_with fail
  refine (rbits_as _ _ _ _ v0.out v1.out F _).mono ?_; rintro e w' ⟨rfl, rfl⟩
  go_wp2_with fail
  refine (rbits_as _ _ _ _ v0.out v1.out X _).mono ?_; rintro e w' ⟨rfl, rfl⟩
  go_wp2_with fail
  refine (rbits_as _ _ _ _ v0.out v1.out Y _).mono ?_; rintro e w' ⟨rfl, rfl⟩
  go_wp2_with fail
  refine (rbits_as _ _ _ _ v0.out v1.out Z _).mono ?_; rintro e w' ⟨rfl, rfl⟩
  go_wp2_with fail
  refine (pick_as _ _ _ _ o _ _ (by simp) rfl (by decide) h0 h7 H).mono ?_; rintro e w' ⟨rfl, rfl⟩
  go_wp2_with fail
  refine (rimmB_as _ _ v0.out v1.out I _).mono ?_; rintro e w' ⟨rfl, rfl⟩
  go_wp2_with fail
  refine bodyPost_ret (v := .tuple #[.agg (cells o 0 y z n), .bool true]) (by simp [results, Tryz.results39, go_sem]) rfl ⟨rfl, ?_⟩
  repeat (first | exact Fr.refl _ | apply Fr.drew | apply Fr.alloc)
set_option maxRecDepth 100000 in
set_option maxHeartbeats 4000000 in
theorem rdec_branch_no (v f3 x y z n : Int) (v0 : Hid (0 ≤ v)) (v1 : Hid (v ≤ 4294967295)) (h0 : 0 ≤ f3) (h7 : f3 ≤ 7) (x0 : 0 ≤ x) (x1 : x ≤ 31) (y0 : 0 ≤ y) (y1 : y ≤ 31) (z0 : 0 ≤ z) (z1 : z ≤ 31) (F : Hid (Num.bt v 12 3 = f3)) (X : Hid (Num.bt v 7 5 = x)) (Y : Hid (Num.bt v 15 5 = y)) (Z : Hid (Num.bt v 20 5 = z)) (A : bits .and .u32 v 127 = 99) (H : Hid (Tab #[.int .i64 5, .int .i64 6, .int .i64 0, .int .i64 0, .int .i64 7, .int .i64 8, .int .i64 9, .int .i64 10] f3 0)) (I : Hid (Num.iB v = n)) (w : World) :
    Calls Tryz.prog 39 #[.int .u32 v] w fun e w' => e = .returned (.tuple #[.agg (cells 0 0 0 0 0), .bool false]) ∧ Fr w w' := by
  go_enter Tryz.func39, Tryz.ntmps39
  go_wp2_with fail
  refine (rbits_as _ _ _ _ v0.out v1.out F _).mono ?_; rintro e w' ⟨rfl, rfl⟩
  go_wp2_with fail
  refine (rbits_as _ _ _ _ v0.out v1.out X _).mono ?_; rintro e w' ⟨rfl, rfl⟩
  go_wp2_with fail
  refine (rbits_as _ _ _ _ v0.out v1.out Y _).mono ?_; rintro e w' ⟨rfl, rfl⟩
  go_wp2_with fail
  refine (rbits_as _ _ _ _ v0.out v1.out Z _).mono ?_; rintro e w' ⟨rfl, rfl⟩
  go_wp2_with fail
  refine (pick_as _ _ _ _ 0 _ _ (by simp) rfl (by decide) h0 h7 H).mono ?_; rintro e w' ⟨rfl, rfl⟩
  go_wp2_with fail
  refine (rimmB_as _ _ v0.out v1.out I _).mono ?_; rintro e w' ⟨rfl, rfl⟩
  go_wp2_with fail
  refine bodyPost_ret (v := .tuple #[.agg (cells 0 0 0 0 0), .bool false]) (by simp [results, Tryz.results39, go_sem]) rfl ⟨rfl, ?_⟩
  repeat (first | exact Fr.refl _ | apply Fr.drew | apply Fr.alloc)
set_option maxRecDepth 100000 in
set_option maxHeartbeats 4000000 in
theorem rdec_load_yes (v f3 x y z o n : Int) (v0 : Hid (0 ≤ v)) (v1 : Hid (v ≤ 4294967295)) (h0 : 0 ≤ f3) (h7 : f3 ≤ 7) (x0 : 0 ≤ x) (x1 : x ≤ 31) (y0 : 0 ≤ y) (y1 : y ≤ 31) (z0 : 0 ≤ z) (z1 : z ≤ 31) (F : Hid (Num.bt v 12 3 = f3)) (X : Hid (Num.bt v 7 5 = x)) (Y : Hid (Num.bt v 15 5 = y)) (Z : Hid (Num.bt v 20 5 = z)) (A : bits .and .u32 v 127 = 3) (H : Hid (Tab #[.int .i64 11, .int .i64 12, .int .i64 13, .int .i64 0, .int .i64 14, .int .i64 15] f3 o)) (I : Hid (Num.iI v = n)) (oz : (o == 0) = false) (w : World) :
    Calls Tryz.prog 39 #[.int .u32 v] w fun e w' => e = .returned (.tuple #[.agg (cells o x y 0 n), .bool true]) ∧ Fr w w' := by
  go_enter Tryz.func39, Tryz.ntmps39
  go_wp2_with fail
  refine (rbits_as _ _ _ _ v0.out v1.out F _).mono ?_; rintro e w' ⟨rfl, rfl⟩
  go_wp2_with fail
  refine (rbits_as _ _ _ _ v0.out v1.out X _).mono ?_; rintro e w' ⟨rfl, rfl⟩
  go_wp2_with fail
  refine (rbits_as _ _ _ _ v0.out v1.out Y _).mono ?_; rintro e w' ⟨rfl, rfl⟩
  go_wp2_with fail
  refine (rbits_as _ _ _ _ v0.out v1.out Z _).mono ?_; rintro e w' ⟨rfl, rfl⟩
  go_wp2_with fail
  refine (pick_as _ _ _ _ o _ _ (by simp) rfl (by decide) h0 h7 H).mono ?_; rintro e w' ⟨rfl, rfl⟩
  go_wp2_with fail
  refine (rimmI_as _ _ v0.out v1.out I _).mono ?_; rintro e w' ⟨rfl, rfl⟩
  go_wp2_with fail
  refine bodyPost_ret (v := .tuple #[.agg (cells o x y 0 n), .bool true]) (by simp [results, Tryz.results39, go_sem]) rfl ⟨rfl, ?_⟩
  repeat (first | exact Fr.refl _ | apply Fr.drew | apply Fr.alloc)
set_option maxRecDepth 100000 in
set_option maxHeartbeats 4000000 in
theorem rdec_load_no (v f3 x y z n : Int) (v0 : Hid (0 ≤ v)) (v1 : Hid (v ≤ 4294967295)) (h0 : 0 ≤ f3) (h7 : f3 ≤ 7) (x0 : 0 ≤ x) (x1 : x ≤ 31) (y0 : 0 ≤ y) (y1 : y ≤ 31) (z0 : 0 ≤ z) (z1 : z ≤ 31) (F : Hid (Num.bt v 12 3 = f3)) (X : Hid (Num.bt v 7 5 = x)) (Y : Hid (Num.bt v 15 5 = y)) (Z : Hid (Num.bt v 20 5 = z)) (A : bits .and .u32 v 127 = 3) (H : Hid (Tab #[.int .i64 11, .int .i64 12, .int .i64 13, .int .i64 0, .int .i64 14, .int .i64 15] f3 0)) (I : Hid (Num.iI v = n)) (w : World) :
    Calls Tryz.prog 39 #[.int .u32 v] w fun e w' => e = .returned (.tuple #[.agg (cells 0 0 0 0 0), .bool false]) ∧ Fr w w' := by
  go_enter Tryz.func39, Tryz.ntmps39
  go_wp2_with fail
  refine (rbits_as _ _ _ _ v0.out v1.out F _).mono ?_; rintro e w' ⟨rfl, rfl⟩
  go_wp2_with fail
  refine (rbits_as _ _ _ _ v0.out v1.out X _).mono ?_; rintro e w' ⟨rfl, rfl⟩
  go_wp2_with fail
  refine (rbits_as _ _ _ _ v0.out v1.out Y _).mono ?_; rintro e w' ⟨rfl, rfl⟩
  go_wp2_with fail
  refine (rbits_as _ _ _ _ v0.out v1.out Z _).mono ?_; rintro e w' ⟨rfl, rfl⟩
  go_wp2_with fail
  refine (pick_as _ _ _ _ 0 _ _ (by simp) rfl (by decide) h0 h7 H).mono ?_; rintro e w' ⟨rfl, rfl⟩
  go_wp2_with fail
  refine (rimmI_as _ _ v0.out v1.out I _).mono ?_; rintro e w' ⟨rfl, rfl⟩
  go_wp2_with fail
  refine bodyPost_ret (v := .tuple #[.agg (cells 0 0 0 0 0), .bool false]) (by simp [results, Tryz.results39, go_sem]) rfl ⟨rfl, ?_⟩
  repeat (first | exact Fr.refl _ | apply Fr.drew | apply Fr.alloc)
set_option maxRecDepth 100000 in
set_option maxHeartbeats 4000000 in
theorem rdec_store_yes (v f3 x y z o n : Int) (v0 : Hid (0 ≤ v)) (v1 : Hid (v ≤ 4294967295)) (h0 : 0 ≤ f3) (h7 : f3 ≤ 7) (x0 : 0 ≤ x) (x1 : x ≤ 31) (y0 : 0 ≤ y) (y1 : y ≤ 31) (z0 : 0 ≤ z) (z1 : z ≤ 31) (F : Hid (Num.bt v 12 3 = f3)) (X : Hid (Num.bt v 7 5 = x)) (Y : Hid (Num.bt v 15 5 = y)) (Z : Hid (Num.bt v 20 5 = z)) (A : bits .and .u32 v 127 = 35) (H : Hid (Tab #[.int .i64 16, .int .i64 17, .int .i64 18] f3 o)) (I : Hid (Num.iS v = n)) (oz : (o == 0) = false) (w : World) :
    Calls Tryz.prog 39 #[.int .u32 v] w fun e w' => e = .returned (.tuple #[.agg (cells o 0 y z n), .bool true]) ∧ Fr w w' := by
  go_enter Tryz.func39, Tryz.ntmps39
  go_wp2_with fail
  refine (rbits_as _ _ _ _ v0.out v1.out F _).mono ?_; rintro e w' ⟨rfl, rfl⟩
  go_wp2_with fail
  refine (rbits_as _ _ _ _ v0.out v1.out X _).mono ?_; rintro e w' ⟨rfl, rfl⟩
  go_wp2_with fail
  refine (rbits_as _ _ _ _ v0.out v1.out Y _).mono ?_; rintro e w' ⟨rfl, rfl⟩
  go_wp2_with fail
  refine (rbits_as _ _ _ _ v0.out v1.out Z _).mono ?_; rintro e w' ⟨rfl, rfl⟩
  go_wp2_with fail
  refine (pick_as _ _ _ _ o _ _ (by simp) rfl (by decide) h0 h7 H).mono ?_; rintro e w' ⟨rfl, rfl⟩
  go_wp2_with fail
  refine (rimmS_as _ _ v0.out v1.out I _).mono ?_; rintro e w' ⟨rfl, rfl⟩
  go_wp2_with fail
  refine bodyPost_ret (v := .tuple #[.agg (cells o 0 y z n), .bool true]) (by simp [results, Tryz.results39, go_sem]) rfl ⟨rfl, ?_⟩
  repeat (first | exact Fr.refl _ | apply Fr.drew | apply Fr.alloc)
set_option maxRecDepth 100000 in
set_option maxHeartbeats 4000000 in
theorem rdec_store_no (v f3 x y z n : Int) (v0 : Hid (0 ≤ v)) (v1 : Hid (v ≤ 4294967295)) (h0 : 0 ≤ f3) (h7 : f3 ≤ 7) (x0 : 0 ≤ x) (x1 : x ≤ 31) (y0 : 0 ≤ y) (y1 : y ≤ 31) (z0 : 0 ≤ z) (z1 : z ≤ 31) (F : Hid (Num.bt v 12 3 = f3)) (X : Hid (Num.bt v 7 5 = x)) (Y : Hid (Num.bt v 15 5 = y)) (Z : Hid (Num.bt v 20 5 = z)) (A : bits .and .u32 v 127 = 35) (H : Hid (Tab #[.int .i64 16, .int .i64 17, .int .i64 18] f3 0)) (I : Hid (Num.iS v = n)) (w : World) :
    Calls Tryz.prog 39 #[.int .u32 v] w fun e w' => e = .returned (.tuple #[.agg (cells 0 0 0 0 0), .bool false]) ∧ Fr w w' := by
  go_enter Tryz.func39, Tryz.ntmps39
  go_wp2_with fail
  refine (rbits_as _ _ _ _ v0.out v1.out F _).mono ?_; rintro e w' ⟨rfl, rfl⟩
  go_wp2_with fail
  refine (rbits_as _ _ _ _ v0.out v1.out X _).mono ?_; rintro e w' ⟨rfl, rfl⟩
  go_wp2_with fail
  refine (rbits_as _ _ _ _ v0.out v1.out Y _).mono ?_; rintro e w' ⟨rfl, rfl⟩
  go_wp2_with fail
  refine (rbits_as _ _ _ _ v0.out v1.out Z _).mono ?_; rintro e w' ⟨rfl, rfl⟩
  go_wp2_with fail
  refine (pick_as _ _ _ _ 0 _ _ (by simp) rfl (by decide) h0 h7 H).mono ?_; rintro e w' ⟨rfl, rfl⟩
  go_wp2_with fail
  refine (rimmS_as _ _ v0.out v1.out I _).mono ?_; rintro e w' ⟨rfl, rfl⟩
  go_wp2_with fail
  refine bodyPost_ret (v := .tuple #[.agg (cells 0 0 0 0 0), .bool false]) (by simp [results, Tryz.results39, go_sem]) rfl ⟨rfl, ?_⟩
  repeat (first | exact Fr.refl _ | apply Fr.drew | apply Fr.alloc)
set_option maxRecDepth 100000 in
set_option maxHeartbeats 4000000 in
theorem rdec_fence_no (v f3 x y z : Int) (v0 : Hid (0 ≤ v)) (v1 : Hid (v ≤ 4294967295)) (h0 : 0 ≤ f3) (h7 : f3 ≤ 7) (x0 : 0 ≤ x) (x1 : x ≤ 31) (y0 : 0 ≤ y) (y1 : y ≤ 31) (z0 : 0 ≤ z) (z1 : z ≤ 31) (F : Hid (Num.bt v 12 3 = f3)) (X : Hid (Num.bt v 7 5 = x)) (Y : Hid (Num.bt v 15 5 = y)) (Z : Hid (Num.bt v 20 5 = z)) (A : bits .and .u32 v 127 = 15) (H : Hid (Tab #[.int .i64 46] f3 0)) (w : World) :
    Calls Tryz.prog 39 #[.int .u32 v] w fun e w' => e = .returned (.tuple #[.agg (cells 0 0 0 0 0), .bool false]) ∧ Fr w w' := by
  go_enter Tryz.func39, Tryz.ntmps39
  go_wp2_with fail
  refine (rbits_as _ _ _ _ v0.out v1.out F _).mono ?_; rintro e w' ⟨rfl, rfl⟩
  go_wp2_with fail
  refine (rbits_as _ _ _ _ v0.out v1.out X _).mono ?_; rintro e w' ⟨rfl, rfl⟩
  go_wp2_with fail
  refine (rbits_as _ _ _ _ v0.out v1.out Y _).mono ?_; rintro e w' ⟨rfl, rfl⟩
  go_wp2_with fail
  refine (rbits_as _ _ _ _ v0.out v1.out Z _).mono ?_; rintro e w' ⟨rfl, rfl⟩
  go_wp2_with fail
  refine (pick_as _ _ _ _ 0 _ _ (by simp) rfl (by decide) h0 h7 H).mono ?_; rintro e w' ⟨rfl, rfl⟩
  go_wp2_with fail
  refine bodyPost_ret (v := .tuple #[.agg (cells 0 0 0 0 0), .bool false]) (by simp [results, Tryz.results39, go_sem]) rfl ⟨rfl, ?_⟩
  repeat (first | exact Fr.refl _ | apply Fr.drew | apply Fr.alloc)
set_option maxRecDepth 100000 in
set_option maxHeartbeats 4000000 in
theorem rdec_fence_yes (v f3 x y z o : Int) (v0 : Hid (0 ≤ v)) (v1 : Hid (v ≤ 4294967295)) (h0 : 0 ≤ f3) (h7 : f3 ≤ 7) (x0 : 0 ≤ x) (x1 : x ≤ 31) (y0 : 0 ≤ y) (y1 : y ≤ 31) (z0 : 0 ≤ z) (z1 : z ≤ 31) (F : Hid (Num.bt v 12 3 = f3)) (X : Hid (Num.bt v 7 5 = x)) (Y : Hid (Num.bt v 15 5 = y)) (Z : Hid (Num.bt v 20 5 = z)) (A : bits .and .u32 v 127 = 15) (H : Hid (Tab #[.int .i64 46] f3 o)) (oz : (o == 0) = false) (w : World) :
    Calls Tryz.prog 39 #[.int .u32 v] w fun e w' => e = .returned (.tuple #[.agg (cells o 0 0 0 0), .bool true]) ∧ Fr w w' := by
  go_enter Tryz.func39, Tryz.ntmps39
  go_wp2_with fail
  refine (rbits_as _ _ _ _ v0.out v1.out F _).mono ?_; rintro e w' ⟨rfl, rfl⟩
  go_wp2_with fail
  refine (rbits_as _ _ _ _ v0.out v1.out X _).mono ?_; rintro e w' ⟨rfl, rfl⟩
  go_wp2_with fail
  refine (rbits_as _ _ _ _ v0.out v1.out Y _).mono ?_; rintro e w' ⟨rfl, rfl⟩
  go_wp2_with fail
  refine (rbits_as _ _ _ _ v0.out v1.out Z _).mono ?_; rintro e w' ⟨rfl, rfl⟩
  go_wp2_with fail
  refine (pick_as _ _ _ _ o _ _ (by simp) rfl (by decide) h0 h7 H).mono ?_; rintro e w' ⟨rfl, rfl⟩
  go_wp2_with fail
  refine bodyPost_ret (v := .tuple #[.agg (cells o 0 0 0 0), .bool true]) (by simp [results, Tryz.results39, go_sem]) rfl ⟨rfl, ?_⟩
  repeat (first | exact Fr.refl _ | apply Fr.drew | apply Fr.alloc)
set_option maxRecDepth 100000 in
set_option maxHeartbeats 4000000 in
theorem rdec_reg_yes (v f3 x y z f7 o : Int) (v0 : Hid (0 ≤ v)) (v1 : Hid (v ≤ 4294967295)) (h0 : 0 ≤ f3) (h7 : f3 ≤ 7) (x0 : 0 ≤ x) (x1 : x ≤ 31) (y0 : 0 ≤ y) (y1 : y ≤ 31) (z0 : 0 ≤ z) (z1 : z ≤ 31) (F : Hid (Num.bt v 12 3 = f3)) (X : Hid (Num.bt v 7 5 = x)) (Y : Hid (Num.bt v 15 5 = y)) (Z : Hid (Num.bt v 20 5 = z)) (A : bits .and .u32 v 127 = 51) (hf : Hid (f7 = 0 ∨ f7 = 1 ∨ f7 = 32)) (G : Hid (Num.bt v 25 7 = f7)) (O : Hid (Num.oReg f3 f7 = o)) (oz : (o == 0) = false) (w : World) :
    Calls Tryz.prog 39 #[.int .u32 v] w fun e w' => e = .returned (.tuple #[.agg (cells o x y z 0), .bool true]) ∧ Fr w w' := by
  go_enter Tryz.func39, Tryz.ntmps39
  go_wp2_with fail
  refine (rbits_as _ _ _ _ v0.out v1.out F _).mono ?_; rintro e w' ⟨rfl, rfl⟩
  go_wp2_with fail
  refine (rbits_as _ _ _ _ v0.out v1.out X _).mono ?_; rintro e w' ⟨rfl, rfl⟩
  go_wp2_with fail
  refine (rbits_as _ _ _ _ v0.out v1.out Y _).mono ?_; rintro e w' ⟨rfl, rfl⟩
  go_wp2_with fail
  refine (rbits_as _ _ _ _ v0.out v1.out Z _).mono ?_; rintro e w' ⟨rfl, rfl⟩
  go_wp2_with fail
  refine (rbits_as _ _ _ _ v0.out v1.out G _).mono ?_; rintro e w' ⟨rfl, rfl⟩
  go_wp2_with fail
  refine (arith_in _ _ _ hf.out h0 h7 O _).mono ?_; rintro e w' ⟨rfl, c, rfl⟩
  go_wp2_with fail
  refine bodyPost_ret (v := .tuple #[.agg (cells o x y z 0), .bool true]) (by simp [results, Tryz.results39, go_sem]) rfl ⟨rfl, ?_⟩
  repeat (first | exact Fr.refl _ | apply Fr.drew | apply Fr.alloc)
set_option maxRecDepth 100000 in
set_option maxHeartbeats 4000000 in
theorem rdec_reg_no (v f3 x y z f7 : Int) (v0 : Hid (0 ≤ v)) (v1 : Hid (v ≤ 4294967295)) (h0 : 0 ≤ f3) (h7 : f3 ≤ 7) (x0 : 0 ≤ x) (x1 : x ≤ 31) (y0 : 0 ≤ y) (y1 : y ≤ 31) (z0 : 0 ≤ z) (z1 : z ≤ 31) (F : Hid (Num.bt v 12 3 = f3)) (X : Hid (Num.bt v 7 5 = x)) (Y : Hid (Num.bt v 15 5 = y)) (Z : Hid (Num.bt v 20 5 = z)) (A : bits .and .u32 v 127 = 51) (hf : Hid (f7 = 0 ∨ f7 = 1 ∨ f7 = 32)) (G : Hid (Num.bt v 25 7 = f7)) (O : Hid (Num.oReg f3 f7 = 0)) (w : World) :
    Calls Tryz.prog 39 #[.int .u32 v] w fun e w' => e = .returned (.tuple #[.agg (cells 0 0 0 0 0), .bool false]) ∧ Fr w w' := by
  go_enter Tryz.func39, Tryz.ntmps39
  go_wp2_with fail
  refine (rbits_as _ _ _ _ v0.out v1.out F _).mono ?_; rintro e w' ⟨rfl, rfl⟩
  go_wp2_with fail
  refine (rbits_as _ _ _ _ v0.out v1.out X _).mono ?_; rintro e w' ⟨rfl, rfl⟩
  go_wp2_with fail
  refine (rbits_as _ _ _ _ v0.out v1.out Y _).mono ?_; rintro e w' ⟨rfl, rfl⟩
  go_wp2_with fail
  refine (rbits_as _ _ _ _ v0.out v1.out Z _).mono ?_; rintro e w' ⟨rfl, rfl⟩
  go_wp2_with fail
  refine (rbits_as _ _ _ _ v0.out v1.out G _).mono ?_; rintro e w' ⟨rfl, rfl⟩
  go_wp2_with fail
  refine (arith_in _ _ _ hf.out h0 h7 O _).mono ?_; rintro e w' ⟨rfl, c, rfl⟩
  go_wp2_with fail
  refine bodyPost_ret (v := .tuple #[.agg (cells 0 0 0 0 0), .bool false]) (by simp [results, Tryz.results39, go_sem]) rfl ⟨rfl, ?_⟩
  repeat (first | exact Fr.refl _ | apply Fr.drew | apply Fr.alloc)
set_option maxRecDepth 100000 in
set_option maxHeartbeats 4000000 in
theorem rdec_reg_none (v f3 x y z f7 : Int) (v0 : Hid (0 ≤ v)) (v1 : Hid (v ≤ 4294967295)) (h0 : 0 ≤ f3) (h7 : f3 ≤ 7) (x0 : 0 ≤ x) (x1 : x ≤ 31) (y0 : 0 ≤ y) (y1 : y ≤ 31) (z0 : 0 ≤ z) (z1 : z ≤ 31) (F : Hid (Num.bt v 12 3 = f3)) (X : Hid (Num.bt v 7 5 = x)) (Y : Hid (Num.bt v 15 5 = y)) (Z : Hid (Num.bt v 20 5 = z)) (A : bits .and .u32 v 127 = 51) (a : (f7 == 0) = false) (b : (f7 == 32) = false) (c : (f7 == 1) = false) (G : Hid (Num.bt v 25 7 = f7)) (w : World) :
    Calls Tryz.prog 39 #[.int .u32 v] w fun e w' => e = .returned (.tuple #[.agg (cells 0 0 0 0 0), .bool false]) ∧ Fr w w' := by
  go_enter Tryz.func39, Tryz.ntmps39
  go_wp2_with fail
  refine (rbits_as _ _ _ _ v0.out v1.out F _).mono ?_; rintro e w' ⟨rfl, rfl⟩
  go_wp2_with fail
  refine (rbits_as _ _ _ _ v0.out v1.out X _).mono ?_; rintro e w' ⟨rfl, rfl⟩
  go_wp2_with fail
  refine (rbits_as _ _ _ _ v0.out v1.out Y _).mono ?_; rintro e w' ⟨rfl, rfl⟩
  go_wp2_with fail
  refine (rbits_as _ _ _ _ v0.out v1.out Z _).mono ?_; rintro e w' ⟨rfl, rfl⟩
  go_wp2_with fail
  refine (rbits_as _ _ _ _ v0.out v1.out G _).mono ?_; rintro e w' ⟨rfl, rfl⟩
  go_wp2_with fail
  refine (arith_none _ _ a b c _).mono ?_; rintro e w' ⟨rfl, rfl⟩
  go_wp2_with fail
  refine bodyPost_ret (v := .tuple #[.agg (cells 0 0 0 0 0), .bool false]) (by simp [results, Tryz.results39, go_sem]) rfl ⟨rfl, ?_⟩
  repeat (first | exact Fr.refl _ | apply Fr.drew | apply Fr.alloc)
set_option maxRecDepth 100000 in
set_option maxHeartbeats 4000000 in
theorem rdec_imm_yes (v f3 x y z f7 o n : Int) (v0 : Hid (0 ≤ v)) (v1 : Hid (v ≤ 4294967295)) (h0 : 0 ≤ f3) (h7 : f3 ≤ 7) (x0 : 0 ≤ x) (x1 : x ≤ 31) (y0 : 0 ≤ y) (y1 : y ≤ 31) (z0 : 0 ≤ z) (z1 : z ≤ 31) (F : Hid (Num.bt v 12 3 = f3)) (X : Hid (Num.bt v 7 5 = x)) (Y : Hid (Num.bt v 15 5 = y)) (Z : Hid (Num.bt v 20 5 = z)) (A : bits .and .u32 v 127 = 19) (G : Hid (v / 33554432 % 128 = f7)) (O : Hid (Num.oImm f3 f7 = o)) (M : Hid (Num.dN (Num.fm o) v = n)) (oz : (o == 0) = false) (w : World) :
    Calls Tryz.prog 39 #[.int .u32 v] w fun e w' => e = .returned (.tuple #[.agg (cells o x y 0 n), .bool true]) ∧ Fr w w' := by
  go_enter Tryz.func39, Tryz.ntmps39
  go_wp2_with fail
  refine (rbits_as _ _ _ _ v0.out v1.out F _).mono ?_; rintro e w' ⟨rfl, rfl⟩
  go_wp2_with fail
  refine (rbits_as _ _ _ _ v0.out v1.out X _).mono ?_; rintro e w' ⟨rfl, rfl⟩
  go_wp2_with fail
  refine (rbits_as _ _ _ _ v0.out v1.out Y _).mono ?_; rintro e w' ⟨rfl, rfl⟩
  go_wp2_with fail
  refine (rbits_as _ _ _ _ v0.out v1.out Z _).mono ?_; rintro e w' ⟨rfl, rfl⟩
  go_wp2_with fail
  refine (immed_as _ _ _ _ _ v0.out v1.out h0 h7 G O M _).mono ?_; rintro e w' ⟨rfl, rfl⟩
  go_wp2_with fail
  refine bodyPost_ret (v := .tuple #[.agg (cells o x y 0 n), .bool true]) (by simp [results, Tryz.results39, go_sem]) rfl ⟨rfl, ?_⟩
  repeat (first | exact Fr.refl _ | apply Fr.drew | apply Fr.alloc)
set_option maxRecDepth 100000 in
set_option maxHeartbeats 4000000 in
theorem rdec_imm_no (v f3 x y z f7 n : Int) (v0 : Hid (0 ≤ v)) (v1 : Hid (v ≤ 4294967295)) (h0 : 0 ≤ f3) (h7 : f3 ≤ 7) (x0 : 0 ≤ x) (x1 : x ≤ 31) (y0 : 0 ≤ y) (y1 : y ≤ 31) (z0 : 0 ≤ z) (z1 : z ≤ 31) (F : Hid (Num.bt v 12 3 = f3)) (X : Hid (Num.bt v 7 5 = x)) (Y : Hid (Num.bt v 15 5 = y)) (Z : Hid (Num.bt v 20 5 = z)) (A : bits .and .u32 v 127 = 19) (G : Hid (v / 33554432 % 128 = f7)) (O : Hid (Num.oImm f3 f7 = 0)) (M : Hid (Num.dN (Num.fm 0) v = n)) (w : World) :
    Calls Tryz.prog 39 #[.int .u32 v] w fun e w' => e = .returned (.tuple #[.agg (cells 0 0 0 0 0), .bool false]) ∧ Fr w w' := by
  go_enter Tryz.func39, Tryz.ntmps39
  go_wp2_with fail
  refine (rbits_as _ _ _ _ v0.out v1.out F _).mono ?_; rintro e w' ⟨rfl, rfl⟩
  go_wp2_with fail
  refine (rbits_as _ _ _ _ v0.out v1.out X _).mono ?_; rintro e w' ⟨rfl, rfl⟩
  go_wp2_with fail
  refine (rbits_as _ _ _ _ v0.out v1.out Y _).mono ?_; rintro e w' ⟨rfl, rfl⟩
  go_wp2_with fail
  refine (rbits_as _ _ _ _ v0.out v1.out Z _).mono ?_; rintro e w' ⟨rfl, rfl⟩
  go_wp2_with fail
  refine (immed_as _ _ _ _ _ v0.out v1.out h0 h7 G O M _).mono ?_; rintro e w' ⟨rfl, rfl⟩
  go_wp2_with fail
  refine bodyPost_ret (v := .tuple #[.agg (cells 0 0 0 0 0), .bool false]) (by simp [results, Tryz.results39, go_sem]) rfl ⟨rfl, ?_⟩
  repeat (first | exact Fr.refl _ | apply Fr.drew | apply Fr.alloc)
set_option maxRecDepth 100000 in
set_option maxHeartbeats 4000000 in
theorem rdec_sys_e (f3 x y z : Int) (v0 : Hid (0 ≤ (115 : Int))) (v1 : Hid ((115 : Int) ≤ 4294967295)) (h0 : 0 ≤ f3) (h7 : f3 ≤ 7) (x0 : 0 ≤ x) (x1 : x ≤ 31) (y0 : 0 ≤ y) (y1 : y ≤ 31) (z0 : 0 ≤ z) (z1 : z ≤ 31) (F : Hid (Num.bt 115 12 3 = f3)) (X : Hid (Num.bt 115 7 5 = x)) (Y : Hid (Num.bt 115 15 5 = y)) (Z : Hid (Num.bt 115 20 5 = z)) (A : bits .and .u32 115 127 = 115) (w : World) :
    Calls Tryz.prog 39 #[.int .u32 115] w fun e w' => e = .returned (.tuple #[.agg (cells 47 0 0 0 0), .bool true]) ∧ Fr w w' := by
  go_enter Tryz.func39, Tryz.ntmps39
  go_wp2_with fail
  refine (rbits_as _ _ _ _ v0.out v1.out F _).mono ?_; rintro e w' ⟨rfl, rfl⟩
  go_wp2_with fail
  refine (rbits_as _ _ _ _ v0.out v1.out X _).mono ?_; rintro e w' ⟨rfl, rfl⟩
  go_wp2_with fail
  refine (rbits_as _ _ _ _ v0.out v1.out Y _).mono ?_; rintro e w' ⟨rfl, rfl⟩
  go_wp2_with fail
  refine (rbits_as _ _ _ _ v0.out v1.out Z _).mono ?_; rintro e w' ⟨rfl, rfl⟩
  go_wp2_with fail
  refine (sys_e _ _ _ _ _).mono ?_; rintro e w' ⟨rfl, rfl⟩
  go_wp2_with fail
  refine bodyPost_ret (v := .tuple #[.agg (cells 47 0 0 0 0), .bool true]) (by simp [results, Tryz.results39, go_sem]) rfl ⟨rfl, ?_⟩
  repeat (first | exact Fr.refl _ | apply Fr.drew | apply Fr.alloc)
set_option maxRecDepth 100000 in
set_option maxHeartbeats 4000000 in
theorem rdec_sys_b (f3 x y z : Int) (v0 : Hid (0 ≤ (1048691 : Int))) (v1 : Hid ((1048691 : Int) ≤ 4294967295)) (h0 : 0 ≤ f3) (h7 : f3 ≤ 7) (x0 : 0 ≤ x) (x1 : x ≤ 31) (y0 : 0 ≤ y) (y1 : y ≤ 31) (z0 : 0 ≤ z) (z1 : z ≤ 31) (F : Hid (Num.bt 1048691 12 3 = f3)) (X : Hid (Num.bt 1048691 7 5 = x)) (Y : Hid (Num.bt 1048691 15 5 = y)) (Z : Hid (Num.bt 1048691 20 5 = z)) (A : bits .and .u32 1048691 127 = 115) (w : World) :
    Calls Tryz.prog 39 #[.int .u32 1048691] w fun e w' => e = .returned (.tuple #[.agg (cells 48 0 0 0 0), .bool true]) ∧ Fr w w' := by
  go_enter Tryz.func39, Tryz.ntmps39
  go_wp2_with fail
  refine (rbits_as _ _ _ _ v0.out v1.out F _).mono ?_; rintro e w' ⟨rfl, rfl⟩
  go_wp2_with fail
  refine (rbits_as _ _ _ _ v0.out v1.out X _).mono ?_; rintro e w' ⟨rfl, rfl⟩
  go_wp2_with fail
  refine (rbits_as _ _ _ _ v0.out v1.out Y _).mono ?_; rintro e w' ⟨rfl, rfl⟩
  go_wp2_with fail
  refine (rbits_as _ _ _ _ v0.out v1.out Z _).mono ?_; rintro e w' ⟨rfl, rfl⟩
  go_wp2_with fail
  refine (sys_b _ _ _ _ _).mono ?_; rintro e w' ⟨rfl, rfl⟩
  go_wp2_with fail
  refine bodyPost_ret (v := .tuple #[.agg (cells 48 0 0 0 0), .bool true]) (by simp [results, Tryz.results39, go_sem]) rfl ⟨rfl, ?_⟩
  repeat (first | exact Fr.refl _ | apply Fr.drew | apply Fr.alloc)
set_option maxRecDepth 100000 in
set_option maxHeartbeats 4000000 in
theorem rdec_sys_m (f3 x y z : Int) (v0 : Hid (0 ≤ (807403635 : Int))) (v1 : Hid ((807403635 : Int) ≤ 4294967295)) (h0 : 0 ≤ f3) (h7 : f3 ≤ 7) (x0 : 0 ≤ x) (x1 : x ≤ 31) (y0 : 0 ≤ y) (y1 : y ≤ 31) (z0 : 0 ≤ z) (z1 : z ≤ 31) (F : Hid (Num.bt 807403635 12 3 = f3)) (X : Hid (Num.bt 807403635 7 5 = x)) (Y : Hid (Num.bt 807403635 15 5 = y)) (Z : Hid (Num.bt 807403635 20 5 = z)) (A : bits .and .u32 807403635 127 = 115) (w : World) :
    Calls Tryz.prog 39 #[.int .u32 807403635] w fun e w' => e = .returned (.tuple #[.agg (cells 49 0 0 0 0), .bool true]) ∧ Fr w w' := by
  go_enter Tryz.func39, Tryz.ntmps39
  go_wp2_with fail
  refine (rbits_as _ _ _ _ v0.out v1.out F _).mono ?_; rintro e w' ⟨rfl, rfl⟩
  go_wp2_with fail
  refine (rbits_as _ _ _ _ v0.out v1.out X _).mono ?_; rintro e w' ⟨rfl, rfl⟩
  go_wp2_with fail
  refine (rbits_as _ _ _ _ v0.out v1.out Y _).mono ?_; rintro e w' ⟨rfl, rfl⟩
  go_wp2_with fail
  refine (rbits_as _ _ _ _ v0.out v1.out Z _).mono ?_; rintro e w' ⟨rfl, rfl⟩
  go_wp2_with fail
  refine (sys_m _ _ _ _ _).mono ?_; rintro e w' ⟨rfl, rfl⟩
  go_wp2_with fail
  refine bodyPost_ret (v := .tuple #[.agg (cells 49 0 0 0 0), .bool true]) (by simp [results, Tryz.results39, go_sem]) rfl ⟨rfl, ?_⟩
  repeat (first | exact Fr.refl _ | apply Fr.drew | apply Fr.alloc)
set_option maxRecDepth 100000 in
set_option maxHeartbeats 4000000 in
theorem rdec_sys_yes (v f3 x y z o n : Int) (v0 : Hid (0 ≤ v)) (v1 : Hid (v ≤ 4294967295)) (h0 : 0 ≤ f3) (h7 : f3 ≤ 7) (x0 : 0 ≤ x) (x1 : x ≤ 31) (y0 : 0 ≤ y) (y1 : y ≤ 31) (z0 : 0 ≤ z) (z1 : z ≤ 31) (F : Hid (Num.bt v 12 3 = f3)) (X : Hid (Num.bt v 7 5 = x)) (Y : Hid (Num.bt v 15 5 = y)) (Z : Hid (Num.bt v 20 5 = z)) (A : bits .and .u32 v 127 = 115) (a : (v == 115) = false) (b : (v == 1048691) = false) (c : (v == 807403635) = false) (n0 : 0 ≤ n) (n1 : n ≤ 4095) (H : Hid (Tab #[.int .i64 0, .int .i64 50, .int .i64 51, .int .i64 52, .int .i64 0, .int .i64 53, .int .i64 54, .int .i64 55] f3 o)) (I : Hid (Num.bt v 20 12 = n)) (G : decide (0 < o) = true) (w : World) :
    Calls Tryz.prog 39 #[.int .u32 v] w fun e w' => e = .returned (.tuple #[.agg (cells o x y 0 n), .bool true]) ∧ Fr w w' := by
  go_enter Tryz.func39, Tryz.ntmps39
  go_wp2_with fail
  refine (rbits_as _ _ _ _ v0.out v1.out F _).mono ?_; rintro e w' ⟨rfl, rfl⟩
  go_wp2_with fail
  refine (rbits_as _ _ _ _ v0.out v1.out X _).mono ?_; rintro e w' ⟨rfl, rfl⟩
  go_wp2_with fail
  refine (rbits_as _ _ _ _ v0.out v1.out Y _).mono ?_; rintro e w' ⟨rfl, rfl⟩
  go_wp2_with fail
  refine (rbits_as _ _ _ _ v0.out v1.out Z _).mono ?_; rintro e w' ⟨rfl, rfl⟩
  go_wp2_with fail
  refine (sys_c v f3 x y z o n true v0 v1 h0 h7 n0 n1 a b c H I G _).mono ?_; rintro e w' ⟨rfl, rfl⟩
  go_wp2_with fail
  refine bodyPost_ret (v := .tuple #[.agg (cells o x y 0 n), .bool true]) (by simp [results, Tryz.results39, go_sem]) rfl ⟨rfl, ?_⟩
  repeat (first | exact Fr.refl _ | apply Fr.drew | apply Fr.alloc)
set_option maxRecDepth 100000 in
set_option maxHeartbeats 4000000 in
theorem rdec_sys_no (v f3 x y z o n : Int) (v0 : Hid (0 ≤ v)) (v1 : Hid (v ≤ 4294967295)) (h0 : 0 ≤ f3) (h7 : f3 ≤ 7) (x0 : 0 ≤ x) (x1 : x ≤ 31) (y0 : 0 ≤ y) (y1 : y ≤ 31) (z0 : 0 ≤ z) (z1 : z ≤ 31) (F : Hid (Num.bt v 12 3 = f3)) (X : Hid (Num.bt v 7 5 = x)) (Y : Hid (Num.bt v 15 5 = y)) (Z : Hid (Num.bt v 20 5 = z)) (A : bits .and .u32 v 127 = 115) (a : (v == 115) = false) (b : (v == 1048691) = false) (c : (v == 807403635) = false) (n0 : 0 ≤ n) (n1 : n ≤ 4095) (H : Hid (Tab #[.int .i64 0, .int .i64 50, .int .i64 51, .int .i64 52, .int .i64 0, .int .i64 53, .int .i64 54, .int .i64 55] f3 o)) (I : Hid (Num.bt v 20 12 = n)) (G : decide (0 < o) = false) (w : World) :
    Calls Tryz.prog 39 #[.int .u32 v] w fun e w' => e = .returned (.tuple #[.agg (cells 0 0 0 0 0), .bool false]) ∧ Fr w w' := by
  go_enter Tryz.func39, Tryz.ntmps39
  go_wp2_with fail
  refine (rbits_as _ _ _ _ v0.out v1.out F _).mono ?_; rintro e w' ⟨rfl, rfl⟩
  go_wp2_with fail
  refine (rbits_as _ _ _ _ v0.out v1.out X _).mono ?_; rintro e w' ⟨rfl, rfl⟩
  go_wp2_with fail
  refine (rbits_as _ _ _ _ v0.out v1.out Y _).mono ?_; rintro e w' ⟨rfl, rfl⟩
  go_wp2_with fail
  refine (rbits_as _ _ _ _ v0.out v1.out Z _).mono ?_; rintro e w' ⟨rfl, rfl⟩
  go_wp2_with fail
  refine (sys_c v f3 x y z o n false v0 v1 h0 h7 n0 n1 a b c H I G _).mono ?_; rintro e w' ⟨rfl, rfl⟩
  go_wp2_with fail
  refine bodyPost_ret (v := .tuple #[.agg (cells 0 0 0 0 0), .bool false]) (by simp [results, Tryz.results39, go_sem]) rfl ⟨rfl, ?_⟩
  repeat (first | exact Fr.refl _ | apply Fr.drew | apply Fr.alloc)
set_option maxRecDepth 100000 in
set_option maxHeartbeats 4000000 in
theorem rdec_none (v f3 x y z c : Int) (v0 : Hid (0 ≤ v)) (v1 : Hid (v ≤ 4294967295)) (h0 : 0 ≤ f3) (h7 : f3 ≤ 7) (x0 : 0 ≤ x) (x1 : x ≤ 31) (y0 : 0 ≤ y) (y1 : y ≤ 31) (z0 : 0 ≤ z) (z1 : z ≤ 31) (F : Hid (Num.bt v 12 3 = f3)) (X : Hid (Num.bt v 7 5 = x)) (Y : Hid (Num.bt v 15 5 = y)) (Z : Hid (Num.bt v 20 5 = z)) (A : bits .and .u32 v 127 = c) (h55 : (c == 55) = false) (h23 : (c == 23) = false) (h111 : (c == 111) = false) (h103 : (c == 103) = false) (h99 : (c == 99) = false) (h3 : (c == 3) = false) (h35 : (c == 35) = false) (h19 : (c == 19) = false) (h51 : (c == 51) = false) (h15 : (c == 15) = false) (h115 : (c == 115) = false) (w : World) :
    Calls Tryz.prog 39 #[.int .u32 v] w fun e w' => e = .returned (.tuple #[.agg (cells 0 0 0 0 0), .bool false]) ∧ Fr w w' := by
  go_enter Tryz.func39, Tryz.ntmps39
  go_wp2_with fail
  refine (rbits_as _ _ _ _ v0.out v1.out F _).mono ?_; rintro e w' ⟨rfl, rfl⟩
  go_wp2_with fail
  refine (rbits_as _ _ _ _ v0.out v1.out X _).mono ?_; rintro e w' ⟨rfl, rfl⟩
  go_wp2_with fail
  refine (rbits_as _ _ _ _ v0.out v1.out Y _).mono ?_; rintro e w' ⟨rfl, rfl⟩
  go_wp2_with fail
  refine (rbits_as _ _ _ _ v0.out v1.out Z _).mono ?_; rintro e w' ⟨rfl, rfl⟩
  go_wp2_with fail
  refine bodyPost_ret (v := .tuple #[.agg (cells 0 0 0 0 0), .bool false]) (by simp [results, Tryz.results39, go_sem]) rfl ⟨rfl, ?_⟩
  repeat (first | exact Fr.refl _ | apply Fr.drew | apply Fr.alloc)
end Go.Proofs.YtpkbkbllhpdfiaaGreat.Walks
