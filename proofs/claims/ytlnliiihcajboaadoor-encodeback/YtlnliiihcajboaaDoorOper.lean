/- Numbers: an instruction's parts; contract of the program's withOperands. -/
import Derived.Test.YtlnliiihcajboaaDoorJudge
import Derived.Test.YtlnliiihcajboaaDoorImms
import Derived.Test.YtlnliiihcajboaaDoorMem
namespace Go.Proofs.YtlnliiihcajboaaDoor.Num
def dD (f v : Int) : Int := if f = 2 ∨ f = 3 ∨ f = 4 ∨ f = 7 ∨ f = 8 ∨ f = 9 ∨ f = 10 then v / 128 % 32 else 0
def dA (f v : Int) : Int := if f = 2 ∨ f = 3 ∨ f = 4 ∨ f = 5 ∨ f = 6 ∨ f = 9 ∨ f = 10 then v / 32768 % 32 else 0
def dB (f v : Int) : Int := if f = 2 ∨ f = 5 ∨ f = 6 then v / 1048576 % 32 else 0
def dN (f v : Int) : Int := if f = 3 then iI v else if f = 4 then v / 1048576 % 32 else if f = 5 then iS v else if f = 6 then iB v else if f = 7 then iU v else if f = 8 then iJ v else if f = 9 ∨ f = 10 then v / 1048576 % 4096 else 0
end Go.Proofs.YtlnliiihcajboaaDoor.Num
namespace Go.Proofs.YtlnliiihcajboaaDoor.Walks
open Go.ChangeShapes Go.WideShapes Go.ChangeAt Go.RowKit
set_option linter.unusedVariables false
set_option maxHeartbeats 2000000 in
theorem oper0 (o v x y z : Int) (v0 : Hid (0 ≤ v)) (v1 : Hid (v ≤ 4294967295)) (x0 : 0 ≤ x) (x1 : x ≤ 31) (y0 : 0 ≤ y) (y1 : y ≤ 31) (z0 : 0 ≤ z) (z1 : z ≤ 31) (F : Hid (Num.fm o = 0)) (X : Hid (Num.bt v 7 5 = x)) (Y : Hid (Num.bt v 15 5 = y)) (Z : Hid (Num.bt v 20 5 = z)) (w : World) :
    Calls Tryd.prog 50 #[.int .i64 o, .int .u32 v] w fun e w' => e = .returned (.agg (cells o 0 0 0 0)) ∧ w' = w.alloc (.cells (cells o 0 0 0 0) 27) := by
  go_enter Tryd.func50, Tryd.ntmps50
  go_wp2_with fail
  refine (bits_as _ _ _ _ X _).mono ?_; rintro e w' ⟨rfl, rfl⟩
  go_wp2_with fail
  refine (bits_as _ _ _ _ Y _).mono ?_; rintro e w' ⟨rfl, rfl⟩
  go_wp2_with fail
  refine (bits_as _ _ _ _ Z _).mono ?_; rintro e w' ⟨rfl, rfl⟩
  go_wp2_with fail
  refine (format_as _ _ F _).mono ?_; rintro e w' ⟨rfl, rfl⟩
  go_wp2_with fail
  refine bodyPost_ret (v := .agg (cells o 0 0 0 0)) (by simp [results, Tryd.results50, go_sem]) rfl ⟨rfl, rfl⟩
set_option maxHeartbeats 2000000 in
theorem oper1 (o v x y z : Int) (v0 : Hid (0 ≤ v)) (v1 : Hid (v ≤ 4294967295)) (x0 : 0 ≤ x) (x1 : x ≤ 31) (y0 : 0 ≤ y) (y1 : y ≤ 31) (z0 : 0 ≤ z) (z1 : z ≤ 31) (F : Hid (Num.fm o = 1)) (X : Hid (Num.bt v 7 5 = x)) (Y : Hid (Num.bt v 15 5 = y)) (Z : Hid (Num.bt v 20 5 = z)) (w : World) :
    Calls Tryd.prog 50 #[.int .i64 o, .int .u32 v] w fun e w' => e = .returned (.agg (cells o 0 0 0 0)) ∧ w' = w.alloc (.cells (cells o 0 0 0 0) 27) := by
  go_enter Tryd.func50, Tryd.ntmps50
  go_wp2_with fail
  refine (bits_as _ _ _ _ X _).mono ?_; rintro e w' ⟨rfl, rfl⟩
  go_wp2_with fail
  refine (bits_as _ _ _ _ Y _).mono ?_; rintro e w' ⟨rfl, rfl⟩
  go_wp2_with fail
  refine (bits_as _ _ _ _ Z _).mono ?_; rintro e w' ⟨rfl, rfl⟩
  go_wp2_with fail
  refine (format_as _ _ F _).mono ?_; rintro e w' ⟨rfl, rfl⟩
  go_wp2_with fail
  refine bodyPost_ret (v := .agg (cells o 0 0 0 0)) (by simp [results, Tryd.results50, go_sem]) rfl ⟨rfl, rfl⟩
set_option maxHeartbeats 2000000 in
theorem oper2 (o v x y z : Int) (v0 : Hid (0 ≤ v)) (v1 : Hid (v ≤ 4294967295)) (x0 : 0 ≤ x) (x1 : x ≤ 31) (y0 : 0 ≤ y) (y1 : y ≤ 31) (z0 : 0 ≤ z) (z1 : z ≤ 31) (F : Hid (Num.fm o = 2)) (X : Hid (Num.bt v 7 5 = x)) (Y : Hid (Num.bt v 15 5 = y)) (Z : Hid (Num.bt v 20 5 = z)) (w : World) :
    Calls Tryd.prog 50 #[.int .i64 o, .int .u32 v] w fun e w' => e = .returned (.agg (cells o x y z 0)) ∧ w' = w.alloc (.cells (cells o x y z 0) 27) := by
  go_enter Tryd.func50, Tryd.ntmps50
  go_wp2_with fail
  refine (bits_as _ _ _ _ X _).mono ?_; rintro e w' ⟨rfl, rfl⟩
  go_wp2_with fail
  refine (bits_as _ _ _ _ Y _).mono ?_; rintro e w' ⟨rfl, rfl⟩
  go_wp2_with fail
  refine (bits_as _ _ _ _ Z _).mono ?_; rintro e w' ⟨rfl, rfl⟩
  go_wp2_with fail
  refine (format_as _ _ F _).mono ?_; rintro e w' ⟨rfl, rfl⟩
  go_wp2_with fail
  refine bodyPost_ret (v := .agg (cells o x y z 0)) (by simp [results, Tryd.results50, go_sem]) rfl ⟨rfl, rfl⟩
set_option maxHeartbeats 2000000 in
theorem oper3 (o v x y z : Int) (n : Int) (I : Hid (Num.iI v = n)) (v0 : Hid (0 ≤ v)) (v1 : Hid (v ≤ 4294967295)) (x0 : 0 ≤ x) (x1 : x ≤ 31) (y0 : 0 ≤ y) (y1 : y ≤ 31) (z0 : 0 ≤ z) (z1 : z ≤ 31) (F : Hid (Num.fm o = 3)) (X : Hid (Num.bt v 7 5 = x)) (Y : Hid (Num.bt v 15 5 = y)) (Z : Hid (Num.bt v 20 5 = z)) (w : World) :
    Calls Tryd.prog 50 #[.int .i64 o, .int .u32 v] w fun e w' => e = .returned (.agg (cells o x y 0 n)) ∧ w' = w.alloc (.cells (cells o x y 0 n) 27) := by
  go_enter Tryd.func50, Tryd.ntmps50
  go_wp2_with fail
  refine (bits_as _ _ _ _ X _).mono ?_; rintro e w' ⟨rfl, rfl⟩
  go_wp2_with fail
  refine (bits_as _ _ _ _ Y _).mono ?_; rintro e w' ⟨rfl, rfl⟩
  go_wp2_with fail
  refine (bits_as _ _ _ _ Z _).mono ?_; rintro e w' ⟨rfl, rfl⟩
  go_wp2_with fail
  refine (format_as _ _ F _).mono ?_; rintro e w' ⟨rfl, rfl⟩
  go_wp2_with fail
  refine (immI_as _ _ v0.out v1.out I _).mono ?_; rintro e w' ⟨rfl, rfl⟩
  go_wp2_with fail
  refine bodyPost_ret (v := .agg (cells o x y 0 n)) (by simp [results, Tryd.results50, go_sem]) rfl ⟨rfl, rfl⟩
set_option maxHeartbeats 2000000 in
theorem oper4 (o v x y z : Int) (v0 : Hid (0 ≤ v)) (v1 : Hid (v ≤ 4294967295)) (x0 : 0 ≤ x) (x1 : x ≤ 31) (y0 : 0 ≤ y) (y1 : y ≤ 31) (z0 : 0 ≤ z) (z1 : z ≤ 31) (F : Hid (Num.fm o = 4)) (X : Hid (Num.bt v 7 5 = x)) (Y : Hid (Num.bt v 15 5 = y)) (Z : Hid (Num.bt v 20 5 = z)) (w : World) :
    Calls Tryd.prog 50 #[.int .i64 o, .int .u32 v] w fun e w' => e = .returned (.agg (cells o x y 0 z)) ∧ w' = w.alloc (.cells (cells o x y 0 z) 27) := by
  go_enter Tryd.func50, Tryd.ntmps50
  go_wp2_with fail
  refine (bits_as _ _ _ _ X _).mono ?_; rintro e w' ⟨rfl, rfl⟩
  go_wp2_with fail
  refine (bits_as _ _ _ _ Y _).mono ?_; rintro e w' ⟨rfl, rfl⟩
  go_wp2_with fail
  refine (bits_as _ _ _ _ Z _).mono ?_; rintro e w' ⟨rfl, rfl⟩
  go_wp2_with fail
  refine (format_as _ _ F _).mono ?_; rintro e w' ⟨rfl, rfl⟩
  go_wp2_with fail
  refine bodyPost_ret (v := .agg (cells o x y 0 z)) (by simp [results, Tryd.results50, go_sem]) rfl ⟨rfl, rfl⟩
set_option maxHeartbeats 2000000 in
theorem oper5 (o v x y z : Int) (n : Int) (I : Hid (Num.iS v = n)) (v0 : Hid (0 ≤ v)) (v1 : Hid (v ≤ 4294967295)) (x0 : 0 ≤ x) (x1 : x ≤ 31) (y0 : 0 ≤ y) (y1 : y ≤ 31) (z0 : 0 ≤ z) (z1 : z ≤ 31) (F : Hid (Num.fm o = 5)) (X : Hid (Num.bt v 7 5 = x)) (Y : Hid (Num.bt v 15 5 = y)) (Z : Hid (Num.bt v 20 5 = z)) (w : World) :
    Calls Tryd.prog 50 #[.int .i64 o, .int .u32 v] w fun e w' => e = .returned (.agg (cells o 0 y z n)) ∧ w' = w.alloc (.cells (cells o 0 y z n) 27) := by
  go_enter Tryd.func50, Tryd.ntmps50
  go_wp2_with fail
  refine (bits_as _ _ _ _ X _).mono ?_; rintro e w' ⟨rfl, rfl⟩
  go_wp2_with fail
  refine (bits_as _ _ _ _ Y _).mono ?_; rintro e w' ⟨rfl, rfl⟩
  go_wp2_with fail
  refine (bits_as _ _ _ _ Z _).mono ?_; rintro e w' ⟨rfl, rfl⟩
  go_wp2_with fail
  refine (format_as _ _ F _).mono ?_; rintro e w' ⟨rfl, rfl⟩
  go_wp2_with fail
  refine (immS_as _ _ v0.out v1.out I _).mono ?_; rintro e w' ⟨rfl, rfl⟩
  go_wp2_with fail
  refine bodyPost_ret (v := .agg (cells o 0 y z n)) (by simp [results, Tryd.results50, go_sem]) rfl ⟨rfl, rfl⟩
set_option maxHeartbeats 2000000 in
theorem oper6 (o v x y z : Int) (n : Int) (I : Hid (Num.iB v = n)) (v0 : Hid (0 ≤ v)) (v1 : Hid (v ≤ 4294967295)) (x0 : 0 ≤ x) (x1 : x ≤ 31) (y0 : 0 ≤ y) (y1 : y ≤ 31) (z0 : 0 ≤ z) (z1 : z ≤ 31) (F : Hid (Num.fm o = 6)) (X : Hid (Num.bt v 7 5 = x)) (Y : Hid (Num.bt v 15 5 = y)) (Z : Hid (Num.bt v 20 5 = z)) (w : World) :
    Calls Tryd.prog 50 #[.int .i64 o, .int .u32 v] w fun e w' => e = .returned (.agg (cells o 0 y z n)) ∧ w' = w.alloc (.cells (cells o 0 y z n) 27) := by
  go_enter Tryd.func50, Tryd.ntmps50
  go_wp2_with fail
  refine (bits_as _ _ _ _ X _).mono ?_; rintro e w' ⟨rfl, rfl⟩
  go_wp2_with fail
  refine (bits_as _ _ _ _ Y _).mono ?_; rintro e w' ⟨rfl, rfl⟩
  go_wp2_with fail
  refine (bits_as _ _ _ _ Z _).mono ?_; rintro e w' ⟨rfl, rfl⟩
  go_wp2_with fail
  refine (format_as _ _ F _).mono ?_; rintro e w' ⟨rfl, rfl⟩
  go_wp2_with fail
  refine (immB_as _ _ v0.out v1.out I _).mono ?_; rintro e w' ⟨rfl, rfl⟩
  go_wp2_with fail
  refine bodyPost_ret (v := .agg (cells o 0 y z n)) (by simp [results, Tryd.results50, go_sem]) rfl ⟨rfl, rfl⟩
set_option maxHeartbeats 2000000 in
theorem oper7 (o v x y z : Int) (n : Int) (I : Hid (Num.iU v = n)) (v0 : Hid (0 ≤ v)) (v1 : Hid (v ≤ 4294967295)) (x0 : 0 ≤ x) (x1 : x ≤ 31) (y0 : 0 ≤ y) (y1 : y ≤ 31) (z0 : 0 ≤ z) (z1 : z ≤ 31) (F : Hid (Num.fm o = 7)) (X : Hid (Num.bt v 7 5 = x)) (Y : Hid (Num.bt v 15 5 = y)) (Z : Hid (Num.bt v 20 5 = z)) (w : World) :
    Calls Tryd.prog 50 #[.int .i64 o, .int .u32 v] w fun e w' => e = .returned (.agg (cells o x 0 0 n)) ∧ w' = w.alloc (.cells (cells o x 0 0 n) 27) := by
  go_enter Tryd.func50, Tryd.ntmps50
  go_wp2_with fail
  refine (bits_as _ _ _ _ X _).mono ?_; rintro e w' ⟨rfl, rfl⟩
  go_wp2_with fail
  refine (bits_as _ _ _ _ Y _).mono ?_; rintro e w' ⟨rfl, rfl⟩
  go_wp2_with fail
  refine (bits_as _ _ _ _ Z _).mono ?_; rintro e w' ⟨rfl, rfl⟩
  go_wp2_with fail
  refine (format_as _ _ F _).mono ?_; rintro e w' ⟨rfl, rfl⟩
  go_wp2_with fail
  refine (immU_as _ _ v0.out v1.out I _).mono ?_; rintro e w' ⟨rfl, rfl⟩
  go_wp2_with fail
  refine bodyPost_ret (v := .agg (cells o x 0 0 n)) (by simp [results, Tryd.results50, go_sem]) rfl ⟨rfl, rfl⟩
set_option maxHeartbeats 2000000 in
theorem oper8 (o v x y z : Int) (n : Int) (I : Hid (Num.iJ v = n)) (v0 : Hid (0 ≤ v)) (v1 : Hid (v ≤ 4294967295)) (x0 : 0 ≤ x) (x1 : x ≤ 31) (y0 : 0 ≤ y) (y1 : y ≤ 31) (z0 : 0 ≤ z) (z1 : z ≤ 31) (F : Hid (Num.fm o = 8)) (X : Hid (Num.bt v 7 5 = x)) (Y : Hid (Num.bt v 15 5 = y)) (Z : Hid (Num.bt v 20 5 = z)) (w : World) :
    Calls Tryd.prog 50 #[.int .i64 o, .int .u32 v] w fun e w' => e = .returned (.agg (cells o x 0 0 n)) ∧ w' = w.alloc (.cells (cells o x 0 0 n) 27) := by
  go_enter Tryd.func50, Tryd.ntmps50
  go_wp2_with fail
  refine (bits_as _ _ _ _ X _).mono ?_; rintro e w' ⟨rfl, rfl⟩
  go_wp2_with fail
  refine (bits_as _ _ _ _ Y _).mono ?_; rintro e w' ⟨rfl, rfl⟩
  go_wp2_with fail
  refine (bits_as _ _ _ _ Z _).mono ?_; rintro e w' ⟨rfl, rfl⟩
  go_wp2_with fail
  refine (format_as _ _ F _).mono ?_; rintro e w' ⟨rfl, rfl⟩
  go_wp2_with fail
  refine (immJ_as _ _ v0.out v1.out I _).mono ?_; rintro e w' ⟨rfl, rfl⟩
  go_wp2_with fail
  refine bodyPost_ret (v := .agg (cells o x 0 0 n)) (by simp [results, Tryd.results50, go_sem]) rfl ⟨rfl, rfl⟩
set_option maxHeartbeats 2000000 in
theorem oper9 (o v x y z : Int) (n : Int) (I : Hid (Num.bt v 20 12 = n)) (n0 : 0 ≤ n) (n1 : n ≤ 4095) (v0 : Hid (0 ≤ v)) (v1 : Hid (v ≤ 4294967295)) (x0 : 0 ≤ x) (x1 : x ≤ 31) (y0 : 0 ≤ y) (y1 : y ≤ 31) (z0 : 0 ≤ z) (z1 : z ≤ 31) (F : Hid (Num.fm o = 9)) (X : Hid (Num.bt v 7 5 = x)) (Y : Hid (Num.bt v 15 5 = y)) (Z : Hid (Num.bt v 20 5 = z)) (w : World) :
    Calls Tryd.prog 50 #[.int .i64 o, .int .u32 v] w fun e w' => e = .returned (.agg (cells o x y 0 n)) ∧ w' = w.alloc (.cells (cells o x y 0 n) 27) := by
  go_enter Tryd.func50, Tryd.ntmps50
  go_wp2_with fail
  refine (bits_as _ _ _ _ X _).mono ?_; rintro e w' ⟨rfl, rfl⟩
  go_wp2_with fail
  refine (bits_as _ _ _ _ Y _).mono ?_; rintro e w' ⟨rfl, rfl⟩
  go_wp2_with fail
  refine (bits_as _ _ _ _ Z _).mono ?_; rintro e w' ⟨rfl, rfl⟩
  go_wp2_with fail
  refine (format_as _ _ F _).mono ?_; rintro e w' ⟨rfl, rfl⟩
  go_wp2_with fail
  refine (bits_as _ _ _ _ I _).mono ?_; rintro e w' ⟨rfl, rfl⟩
  go_wp2_with fail
  refine bodyPost_ret (v := .agg (cells o x y 0 n)) (by simp [results, Tryd.results50, go_sem]) rfl ⟨rfl, rfl⟩
set_option maxHeartbeats 2000000 in
theorem oper10 (o v x y z : Int) (n : Int) (I : Hid (Num.bt v 20 12 = n)) (n0 : 0 ≤ n) (n1 : n ≤ 4095) (v0 : Hid (0 ≤ v)) (v1 : Hid (v ≤ 4294967295)) (x0 : 0 ≤ x) (x1 : x ≤ 31) (y0 : 0 ≤ y) (y1 : y ≤ 31) (z0 : 0 ≤ z) (z1 : z ≤ 31) (F : Hid (Num.fm o = 10)) (X : Hid (Num.bt v 7 5 = x)) (Y : Hid (Num.bt v 15 5 = y)) (Z : Hid (Num.bt v 20 5 = z)) (w : World) :
    Calls Tryd.prog 50 #[.int .i64 o, .int .u32 v] w fun e w' => e = .returned (.agg (cells o x y 0 n)) ∧ w' = w.alloc (.cells (cells o x y 0 n) 27) := by
  go_enter Tryd.func50, Tryd.ntmps50
  go_wp2_with fail
  refine (bits_as _ _ _ _ X _).mono ?_; rintro e w' ⟨rfl, rfl⟩
  go_wp2_with fail
  refine (bits_as _ _ _ _ Y _).mono ?_; rintro e w' ⟨rfl, rfl⟩
  go_wp2_with fail
  refine (bits_as _ _ _ _ Z _).mono ?_; rintro e w' ⟨rfl, rfl⟩
  go_wp2_with fail
  refine (format_as _ _ F _).mono ?_; rintro e w' ⟨rfl, rfl⟩
  go_wp2_with fail
  refine (bits_as _ _ _ _ I _).mono ?_; rintro e w' ⟨rfl, rfl⟩
  go_wp2_with fail
  refine bodyPost_ret (v := .agg (cells o x y 0 n)) (by simp [results, Tryd.results50, go_sem]) rfl ⟨rfl, rfl⟩
end Go.Proofs.YtlnliiihcajboaaDoor.Walks
