/- The walk of AlignBack, size by size: where it fits, and where it does not. -/
import Derived.Test.YtgfoclpcfgfnbaaSame
import Derived.Test.YtgfoclpcfgfnbaaSet
import Derived.Test.YtgfoclpcfgfnbaaBackNums
namespace Go.Proofs.Ytgfoclpcfgfnbaa.Walks
open Go.ChangeShapes Go.WideShapes Go.ChangeAt Go.RowKit
set_option linter.unusedVariables false
set_option maxHeartbeats 2000000 in
theorem back16 (op x n o r p z dt mk v : Int) (x0 : 0 ≤ x) (x1 : x ≤ 4294967295) (n0 : 0 ≤ n) (n1 : n ≤ 4294967295) (o0 : 0 ≤ o) (o1 : o ≤ 4294967295) (hr : op.tmod 3 = r) (r0 : -2 ≤ r) (r1 : r ≤ 2) (hi : (r + 3).tmod 3 = 0) (P : Hid (x % 4 = p))
    (F : Hid (Num.ft 16 p = true)) (Z : bits .and .u32 n 255 = z) (B : Hid (Num.Bk 16 14 p n o z dt mk v)) (w : World) :
    Calls Try.prog 5 #[.int .i64 op, .int .u32 x, .int .u32 n, .int .u32 o] w fun e w' => e = .returned (.bool true) ∧ Fr w w' := by
  have S : Hid (Num.sz 16 = 1) := rfl
  go_enter Try.func5, Try.ntmps5
  go_wp2_with fail
  refine (store_as _ _ _ _ x0 x1 n0 n1 P _ _ B.out.s B.out.m _).mono ?_; rintro e w1 ⟨rfl, ha⟩
  have H1 : Hid (w1.Alike _) := ha
  clear ha
  go_wp2_with fail
  refine (fits_as _ _ _ _ x0 P F _).mono ?_; rintro e w1 ⟨rfl, rfl⟩
  go_wp2_with fail
  refine (merge_as _ _ _ _ o0 o1 B.out.d0 B.out.d1 B.out.w _).mono ?_; rintro e w1 ⟨rfl, rfl⟩
  go_wp2_with fail
  refine (size_as _ _ S _).mono ?_; rintro e w1 ⟨rfl, rfl⟩
  go_wp2_with fail
  refine (merge_as _ _ _ _ B.out.v0 B.out.v1 o0 o1 B.out.r _).mono ?_; rintro e w1 ⟨rfl, rfl⟩
  go_wp2_with fail
  refine (load_as _ _ _ _ x0 B.out.v0 B.out.v1 P _ B.out.l _).mono ?_; rintro e w1 ⟨rfl, rfl⟩
  go_wp2_with fail
  refine (merge_as _ _ _ _ o0 o1 B.out.v0 B.out.v1 B.out.g _).mono ?_; rintro e w1 ⟨rfl, rfl⟩
  go_wp2_with fail
  refine (merge_as _ _ _ _ o0 o1 B.out.v0 B.out.v1 B.out.g15 _).mono ?_; rintro e w1 ⟨rfl, rfl⟩
  go_wp2_with fail
  refine (merge_as _ _ _ _ o0 o1 B.out.v0 B.out.v1 B.out.g0 _).mono ?_; rintro e w1 ⟨rfl, rfl⟩
  go_wp2_with fail
  refine (known _).mono ?_; rintro e w2 ⟨rfl, ha⟩
  have H2 : Hid (w2.Alike _) := ha
  clear ha
  go_wp2_with fail
  go_ret
  exact ⟨rfl, ((((Fr.refl w).alloc _).alike H1.out).alloc _).alike H2.out⟩
set_option maxHeartbeats 2000000 in
theorem back17 (op x n o r p z dt mk v : Int) (x0 : 0 ≤ x) (x1 : x ≤ 4294967295) (n0 : 0 ≤ n) (n1 : n ≤ 4294967295) (o0 : 0 ≤ o) (o1 : o ≤ 4294967295) (hr : op.tmod 3 = r) (r0 : -2 ≤ r) (r1 : r ≤ 2) (hi : (r + 3).tmod 3 = 1) (P : Hid (x % 4 = p))
    (F : Hid (Num.ft 17 p = true)) (Z : bits .and .u32 n 65535 = z) (B : Hid (Num.Bk 17 15 p n o z dt mk v)) (w : World) :
    Calls Try.prog 5 #[.int .i64 op, .int .u32 x, .int .u32 n, .int .u32 o] w fun e w' => e = .returned (.bool true) ∧ Fr w w' := by
  have S : Hid (Num.sz 17 = 2) := rfl
  go_enter Try.func5, Try.ntmps5
  go_wp2_with fail
  refine (store_as _ _ _ _ x0 x1 n0 n1 P _ _ B.out.s B.out.m _).mono ?_; rintro e w1 ⟨rfl, ha⟩
  have H1 : Hid (w1.Alike _) := ha
  clear ha
  go_wp2_with fail
  refine (fits_as _ _ _ _ x0 P F _).mono ?_; rintro e w1 ⟨rfl, rfl⟩
  go_wp2_with fail
  refine (merge_as _ _ _ _ o0 o1 B.out.d0 B.out.d1 B.out.w _).mono ?_; rintro e w1 ⟨rfl, rfl⟩
  go_wp2_with fail
  refine (size_as _ _ S _).mono ?_; rintro e w1 ⟨rfl, rfl⟩
  go_wp2_with fail
  refine (merge_as _ _ _ _ B.out.v0 B.out.v1 o0 o1 B.out.r _).mono ?_; rintro e w1 ⟨rfl, rfl⟩
  go_wp2_with fail
  refine (load_as _ _ _ _ x0 B.out.v0 B.out.v1 P _ B.out.l _).mono ?_; rintro e w1 ⟨rfl, rfl⟩
  go_wp2_with fail
  refine (merge_as _ _ _ _ o0 o1 B.out.v0 B.out.v1 B.out.g _).mono ?_; rintro e w1 ⟨rfl, rfl⟩
  go_wp2_with fail
  refine (merge_as _ _ _ _ o0 o1 B.out.v0 B.out.v1 B.out.g15 _).mono ?_; rintro e w1 ⟨rfl, rfl⟩
  go_wp2_with fail
  refine (merge_as _ _ _ _ o0 o1 B.out.v0 B.out.v1 B.out.g0 _).mono ?_; rintro e w1 ⟨rfl, rfl⟩
  go_wp2_with fail
  refine (known _).mono ?_; rintro e w2 ⟨rfl, ha⟩
  have H2 : Hid (w2.Alike _) := ha
  clear ha
  go_wp2_with fail
  go_ret
  exact ⟨rfl, ((((Fr.refl w).alloc _).alike H1.out).alloc _).alike H2.out⟩
set_option maxHeartbeats 2000000 in
theorem not17 (op x n o r p : Int) (x0 : 0 ≤ x) (x1 : x ≤ 4294967295) (n0 : 0 ≤ n) (n1 : n ≤ 4294967295) (hr : op.tmod 3 = r) (r0 : -2 ≤ r) (r1 : r ≤ 2) (hi : (r + 3).tmod 3 = 1) (P : Hid (x % 4 = p))
    (F : Hid (Num.ft 17 p = false)) (B : Hid (Num.st 17 p n = 0)) (M : Hid (Num.sm 17 p = 0)) (w : World) :
    Calls Try.prog 5 #[.int .i64 op, .int .u32 x, .int .u32 n, .int .u32 o] w fun e w' => e = .returned (.bool true) ∧ Fr w w' := by
  go_enter Try.func5, Try.ntmps5
  go_wp2_with fail
  refine (store_as _ _ _ _ x0 x1 n0 n1 P _ _ B M _).mono ?_; rintro e w1 ⟨rfl, ha⟩
  have H1 : Hid (w1.Alike _) := ha
  clear ha
  go_wp2_with fail
  refine (fits_as _ _ _ _ x0 P F _).mono ?_; rintro e w1 ⟨rfl, rfl⟩
  go_wp2_with fail
  refine (known _).mono ?_; rintro e w2 ⟨rfl, ha⟩
  have H2 : Hid (w2.Alike _) := ha
  clear ha
  go_wp2_with fail
  go_ret
  exact ⟨rfl, (((Fr.refl w).alloc _).alike H1.out).alike H2.out⟩
set_option maxHeartbeats 2000000 in
theorem back18 (op x n o r p z dt mk v : Int) (x0 : 0 ≤ x) (x1 : x ≤ 4294967295) (n0 : 0 ≤ n) (n1 : n ≤ 4294967295) (o0 : 0 ≤ o) (o1 : o ≤ 4294967295) (hr : op.tmod 3 = r) (r0 : -2 ≤ r) (r1 : r ≤ 2) (hi : (r + 3).tmod 3 = 2) (P : Hid (x % 4 = p))
    (F : Hid (Num.ft 18 p = true)) (Z : bits .and .u32 n 4294967295 = z) (B : Hid (Num.Bk 18 13 p n o z dt mk v)) (w : World) :
    Calls Try.prog 5 #[.int .i64 op, .int .u32 x, .int .u32 n, .int .u32 o] w fun e w' => e = .returned (.bool true) ∧ Fr w w' := by
  have S : Hid (Num.sz 18 = 4) := rfl
  go_enter Try.func5, Try.ntmps5
  go_wp2_with fail
  refine (store_as _ _ _ _ x0 x1 n0 n1 P _ _ B.out.s B.out.m _).mono ?_; rintro e w1 ⟨rfl, ha⟩
  have H1 : Hid (w1.Alike _) := ha
  clear ha
  go_wp2_with fail
  refine (fits_as _ _ _ _ x0 P F _).mono ?_; rintro e w1 ⟨rfl, rfl⟩
  go_wp2_with fail
  refine (merge_as _ _ _ _ o0 o1 B.out.d0 B.out.d1 B.out.w _).mono ?_; rintro e w1 ⟨rfl, rfl⟩
  go_wp2_with fail
  refine (size_as _ _ S _).mono ?_; rintro e w1 ⟨rfl, rfl⟩
  go_wp2_with fail
  refine (merge_as _ _ _ _ B.out.v0 B.out.v1 o0 o1 B.out.r _).mono ?_; rintro e w1 ⟨rfl, rfl⟩
  go_wp2_with fail
  refine (load_as _ _ _ _ x0 B.out.v0 B.out.v1 P _ B.out.l _).mono ?_; rintro e w1 ⟨rfl, rfl⟩
  go_wp2_with fail
  refine (merge_as _ _ _ _ o0 o1 B.out.v0 B.out.v1 B.out.g _).mono ?_; rintro e w1 ⟨rfl, rfl⟩
  go_wp2_with fail
  refine (merge_as _ _ _ _ o0 o1 B.out.v0 B.out.v1 B.out.g15 _).mono ?_; rintro e w1 ⟨rfl, rfl⟩
  go_wp2_with fail
  refine (merge_as _ _ _ _ o0 o1 B.out.v0 B.out.v1 B.out.g0 _).mono ?_; rintro e w1 ⟨rfl, rfl⟩
  go_wp2_with fail
  refine (known _).mono ?_; rintro e w2 ⟨rfl, ha⟩
  have H2 : Hid (w2.Alike _) := ha
  clear ha
  go_wp2_with fail
  go_ret
  exact ⟨rfl, ((((Fr.refl w).alloc _).alike H1.out).alloc _).alike H2.out⟩
set_option maxHeartbeats 2000000 in
theorem not18 (op x n o r p : Int) (x0 : 0 ≤ x) (x1 : x ≤ 4294967295) (n0 : 0 ≤ n) (n1 : n ≤ 4294967295) (hr : op.tmod 3 = r) (r0 : -2 ≤ r) (r1 : r ≤ 2) (hi : (r + 3).tmod 3 = 2) (P : Hid (x % 4 = p))
    (F : Hid (Num.ft 18 p = false)) (B : Hid (Num.st 18 p n = 0)) (M : Hid (Num.sm 18 p = 0)) (w : World) :
    Calls Try.prog 5 #[.int .i64 op, .int .u32 x, .int .u32 n, .int .u32 o] w fun e w' => e = .returned (.bool true) ∧ Fr w w' := by
  go_enter Try.func5, Try.ntmps5
  go_wp2_with fail
  refine (store_as _ _ _ _ x0 x1 n0 n1 P _ _ B M _).mono ?_; rintro e w1 ⟨rfl, ha⟩
  have H1 : Hid (w1.Alike _) := ha
  clear ha
  go_wp2_with fail
  refine (fits_as _ _ _ _ x0 P F _).mono ?_; rintro e w1 ⟨rfl, rfl⟩
  go_wp2_with fail
  refine (known _).mono ?_; rintro e w2 ⟨rfl, ha⟩
  have H2 : Hid (w2.Alike _) := ha
  clear ha
  go_wp2_with fail
  go_ret
  exact ⟨rfl, (((Fr.refl w).alloc _).alike H1.out).alike H2.out⟩
end Go.Proofs.Ytgfoclpcfgfnbaa.Walks
