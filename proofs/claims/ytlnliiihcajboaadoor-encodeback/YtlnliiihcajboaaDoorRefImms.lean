/- Contracts of the document's own five immediates. -/
import Derived.Test.YtlnliiihcajboaaDoorImmNums
namespace Go.Proofs.YtlnliiihcajboaaDoor.Walks
open Go.ChangeShapes Go.WideShapes Go.ChangeAt Go.RowKit
set_option linter.unusedVariables false
set_option maxHeartbeats 1000000 in
theorem rimmI_core (v x0  c : Int) (h0 : 0 ≤ v) (h1 : v ≤ 4294967295) (l0 : 0 ≤ x0) (u0 : x0 ≤ 4095) (X0 : Hid (Num.bt v 20 12 = x0)) (C : Hid (Num.sn (x0) 12 = c)) (w : World) :
    Calls Tryd.prog 26 #[.int .u32 v] w fun e w' => e = .returned (.int .i32 c) ∧ w' = w := by
  go_enter Tryd.func26, Tryd.ntmps26
  go_wp2_with fail
  refine (rbits_as _ _ _ _ h0 h1 X0 _).mono ?_; rintro e w' ⟨rfl, rfl⟩
  go_wp2_with fail
  refine (rsign_as _ _ _ C _).mono ?_; rintro e w' ⟨rfl, rfl⟩
  go_wp2_with fail
  go_ret
  exact ⟨rfl, rfl⟩
theorem rimmI_as (v c : Int) (h0 : 0 ≤ v) (h1 : v ≤ 4294967295) (H : Hid (Num.iI v = c)) (w : World) :
    Calls Tryd.prog 26 #[.int .u32 v] w fun e w' => e = .returned (.int .i32 c) ∧ w' = w := by
  refine rimmI_core v (v / 1048576 % 4096)  c h0 h1 
    (by omega) (by omega) (Num.bt_lit v 20 12 1048576 4096 (by decide) (by decide) (by decide) (by decide) (by decide) (by decide))
    ?_ w
  rw [Num.sn_lit _ 12 2048 (by decide) (by decide) (by decide)]; exact H
set_option maxHeartbeats 1000000 in
theorem rimmS_core (v x0 x1 s1 c : Int) (h0 : 0 ≤ v) (h1 : v ≤ 4294967295) (l0 : 0 ≤ x0) (u0 : x0 ≤ 127) (X0 : Hid (Num.bt v 25 7 = x0)) (l1 : 0 ≤ x1) (u1 : x1 ≤ 31) (X1 : Hid (Num.bt v 7 5 = x1)) (O1 : bits .or .u32 (x0 * 32) (x1) = s1) (lo1 : 0 ≤ s1) (uo1 : s1 ≤ 4294967295) (C : Hid (Num.sn (s1) 12 = c)) (w : World) :
    Calls Tryd.prog 28 #[.int .u32 v] w fun e w' => e = .returned (.int .i32 c) ∧ w' = w := by
  go_enter Tryd.func28, Tryd.ntmps28
  go_wp2_with fail
  refine (rbits_as _ _ _ _ h0 h1 X0 _).mono ?_; rintro e w' ⟨rfl, rfl⟩
  go_wp2_with fail
  refine (rbits_as _ _ _ _ h0 h1 X1 _).mono ?_; rintro e w' ⟨rfl, rfl⟩
  go_wp2_with fail
  refine (rsign_as _ _ _ C _).mono ?_; rintro e w' ⟨rfl, rfl⟩
  go_wp2_with fail
  go_ret
  exact ⟨rfl, rfl⟩
theorem rimmS_as (v c : Int) (h0 : 0 ≤ v) (h1 : v ≤ 4294967295) (H : Hid (Num.iS v = c)) (w : World) :
    Calls Tryd.prog 28 #[.int .u32 v] w fun e w' => e = .returned (.int .i32 c) ∧ w' = w := by
  refine rimmS_core v (v / 33554432 % 128) (v / 128 % 32) ((v / 33554432 % 128) * 32 + (v / 128 % 32)) c h0 h1 
    (by omega) (by omega) (Num.bt_lit v 25 7 33554432 128 (by decide) (by decide) (by decide) (by decide) (by decide) (by decide))
    (by omega) (by omega) (Num.bt_lit v 7 5 128 32 (by decide) (by decide) (by decide) (by decide) (by decide) (by decide))
    (Num.or_join 5 32 _ _ (by decide) (by omega) (by omega) (by omega) (by omega) (by omega) (by omega)) (by omega) (by omega)
    ?_ w
  rw [Num.sn_lit _ 12 2048 (by decide) (by decide) (by decide)]; exact H
set_option maxHeartbeats 1000000 in
theorem rimmB_core (v x0 x1 x2 x3 s1 s2 s3 c : Int) (h0 : 0 ≤ v) (h1 : v ≤ 4294967295) (l0 : 0 ≤ x0) (u0 : x0 ≤ 1) (X0 : Hid (Num.bt v 31 1 = x0)) (l1 : 0 ≤ x1) (u1 : x1 ≤ 1) (X1 : Hid (Num.bt v 7 1 = x1)) (l2 : 0 ≤ x2) (u2 : x2 ≤ 63) (X2 : Hid (Num.bt v 25 6 = x2)) (l3 : 0 ≤ x3) (u3 : x3 ≤ 15) (X3 : Hid (Num.bt v 8 4 = x3)) (O1 : bits .or .u32 (x0 * 4096) (x1 * 2048) = s1) (lo1 : 0 ≤ s1) (uo1 : s1 ≤ 4294967295) (O2 : bits .or .u32 (s1) (x2 * 32) = s2) (lo2 : 0 ≤ s2) (uo2 : s2 ≤ 4294967295) (O3 : bits .or .u32 (s2) (x3 * 2) = s3) (lo3 : 0 ≤ s3) (uo3 : s3 ≤ 4294967295) (C : Hid (Num.sn (s3) 13 = c)) (w : World) :
    Calls Tryd.prog 27 #[.int .u32 v] w fun e w' => e = .returned (.int .i32 c) ∧ w' = w := by
  go_enter Tryd.func27, Tryd.ntmps27
  go_wp2_with fail
  refine (rbits_as _ _ _ _ h0 h1 X0 _).mono ?_; rintro e w' ⟨rfl, rfl⟩
  go_wp2_with fail
  refine (rbits_as _ _ _ _ h0 h1 X1 _).mono ?_; rintro e w' ⟨rfl, rfl⟩
  go_wp2_with fail
  refine (rbits_as _ _ _ _ h0 h1 X2 _).mono ?_; rintro e w' ⟨rfl, rfl⟩
  go_wp2_with fail
  refine (rbits_as _ _ _ _ h0 h1 X3 _).mono ?_; rintro e w' ⟨rfl, rfl⟩
  go_wp2_with fail
  refine (rsign_as _ _ _ C _).mono ?_; rintro e w' ⟨rfl, rfl⟩
  go_wp2_with fail
  go_ret
  exact ⟨rfl, rfl⟩
theorem rimmB_as (v c : Int) (h0 : 0 ≤ v) (h1 : v ≤ 4294967295) (H : Hid (Num.iB v = c)) (w : World) :
    Calls Tryd.prog 27 #[.int .u32 v] w fun e w' => e = .returned (.int .i32 c) ∧ w' = w := by
  refine rimmB_core v (v / 2147483648 % 2) (v / 128 % 2) (v / 33554432 % 64) (v / 256 % 16) ((v / 2147483648 % 2) * 4096 + (v / 128 % 2) * 2048) ((v / 2147483648 % 2) * 4096 + (v / 128 % 2) * 2048 + (v / 33554432 % 64) * 32) ((v / 2147483648 % 2) * 4096 + (v / 128 % 2) * 2048 + (v / 33554432 % 64) * 32 + (v / 256 % 16) * 2) c h0 h1 
    (by omega) (by omega) (Num.bt_lit v 31 1 2147483648 2 (by decide) (by decide) (by decide) (by decide) (by decide) (by decide))
    (by omega) (by omega) (Num.bt_lit v 7 1 128 2 (by decide) (by decide) (by decide) (by decide) (by decide) (by decide))
    (by omega) (by omega) (Num.bt_lit v 25 6 33554432 64 (by decide) (by decide) (by decide) (by decide) (by decide) (by decide))
    (by omega) (by omega) (Num.bt_lit v 8 4 256 16 (by decide) (by decide) (by decide) (by decide) (by decide) (by decide))
    (Num.or_join 12 4096 _ _ (by decide) (by omega) (by omega) (by omega) (by omega) (by omega) (by omega)) (by omega) (by omega)
    (Num.or_join 11 2048 _ _ (by decide) (by omega) (by omega) (by omega) (by omega) (by omega) (by omega)) (by omega) (by omega)
    (Num.or_join 5 32 _ _ (by decide) (by omega) (by omega) (by omega) (by omega) (by omega) (by omega)) (by omega) (by omega)
    ?_ w
  rw [Num.sn_lit _ 13 4096 (by decide) (by decide) (by decide)]; exact H
set_option maxHeartbeats 1000000 in
theorem rimmJ_core (v x0 x1 x2 x3 s1 s2 s3 c : Int) (h0 : 0 ≤ v) (h1 : v ≤ 4294967295) (l0 : 0 ≤ x0) (u0 : x0 ≤ 1) (X0 : Hid (Num.bt v 31 1 = x0)) (l1 : 0 ≤ x1) (u1 : x1 ≤ 255) (X1 : Hid (Num.bt v 12 8 = x1)) (l2 : 0 ≤ x2) (u2 : x2 ≤ 1) (X2 : Hid (Num.bt v 20 1 = x2)) (l3 : 0 ≤ x3) (u3 : x3 ≤ 1023) (X3 : Hid (Num.bt v 21 10 = x3)) (O1 : bits .or .u32 (x0 * 1048576) (x1 * 4096) = s1) (lo1 : 0 ≤ s1) (uo1 : s1 ≤ 4294967295) (O2 : bits .or .u32 (s1) (x2 * 2048) = s2) (lo2 : 0 ≤ s2) (uo2 : s2 ≤ 4294967295) (O3 : bits .or .u32 (s2) (x3 * 2) = s3) (lo3 : 0 ≤ s3) (uo3 : s3 ≤ 4294967295) (C : Hid (Num.sn (s3) 21 = c)) (w : World) :
    Calls Tryd.prog 24 #[.int .u32 v] w fun e w' => e = .returned (.int .i32 c) ∧ w' = w := by
  go_enter Tryd.func24, Tryd.ntmps24
  go_wp2_with fail
  refine (rbits_as _ _ _ _ h0 h1 X0 _).mono ?_; rintro e w' ⟨rfl, rfl⟩
  go_wp2_with fail
  refine (rbits_as _ _ _ _ h0 h1 X1 _).mono ?_; rintro e w' ⟨rfl, rfl⟩
  go_wp2_with fail
  refine (rbits_as _ _ _ _ h0 h1 X2 _).mono ?_; rintro e w' ⟨rfl, rfl⟩
  go_wp2_with fail
  refine (rbits_as _ _ _ _ h0 h1 X3 _).mono ?_; rintro e w' ⟨rfl, rfl⟩
  go_wp2_with fail
  refine (rsign_as _ _ _ C _).mono ?_; rintro e w' ⟨rfl, rfl⟩
  go_wp2_with fail
  go_ret
  exact ⟨rfl, rfl⟩
theorem rimmJ_as (v c : Int) (h0 : 0 ≤ v) (h1 : v ≤ 4294967295) (H : Hid (Num.iJ v = c)) (w : World) :
    Calls Tryd.prog 24 #[.int .u32 v] w fun e w' => e = .returned (.int .i32 c) ∧ w' = w := by
  refine rimmJ_core v (v / 2147483648 % 2) (v / 4096 % 256) (v / 1048576 % 2) (v / 2097152 % 1024) ((v / 2147483648 % 2) * 1048576 + (v / 4096 % 256) * 4096) ((v / 2147483648 % 2) * 1048576 + (v / 4096 % 256) * 4096 + (v / 1048576 % 2) * 2048) ((v / 2147483648 % 2) * 1048576 + (v / 4096 % 256) * 4096 + (v / 1048576 % 2) * 2048 + (v / 2097152 % 1024) * 2) c h0 h1 
    (by omega) (by omega) (Num.bt_lit v 31 1 2147483648 2 (by decide) (by decide) (by decide) (by decide) (by decide) (by decide))
    (by omega) (by omega) (Num.bt_lit v 12 8 4096 256 (by decide) (by decide) (by decide) (by decide) (by decide) (by decide))
    (by omega) (by omega) (Num.bt_lit v 20 1 1048576 2 (by decide) (by decide) (by decide) (by decide) (by decide) (by decide))
    (by omega) (by omega) (Num.bt_lit v 21 10 2097152 1024 (by decide) (by decide) (by decide) (by decide) (by decide) (by decide))
    (Num.or_join 20 1048576 _ _ (by decide) (by omega) (by omega) (by omega) (by omega) (by omega) (by omega)) (by omega) (by omega)
    (Num.or_join 12 4096 _ _ (by decide) (by omega) (by omega) (by omega) (by omega) (by omega) (by omega)) (by omega) (by omega)
    (Num.or_join 11 2048 _ _ (by decide) (by omega) (by omega) (by omega) (by omega) (by omega) (by omega)) (by omega) (by omega)
    ?_ w
  rw [Num.sn_lit _ 21 1048576 (by decide) (by decide) (by decide)]; exact H
end Go.Proofs.YtlnliiihcajboaaDoor.Walks
