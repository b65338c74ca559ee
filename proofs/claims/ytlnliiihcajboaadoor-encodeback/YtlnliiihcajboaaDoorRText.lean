/- Contract of the document's own Text. -/
import Derived.Test.YtlnliiihcajboaaDoorTxt
import Derived.Test.YtlnliiihcajboaaDoorNames
import Derived.Test.YtlnliiihcajboaaDoorEncS
namespace Go.Proofs.YtlnliiihcajboaaDoor.Walks
open Go.ChangeShapes Go.WideShapes Go.ChangeAt Go.RowKit
set_option linter.unusedVariables false
set_option maxRecDepth 100000 in
set_option maxHeartbeats 4000000 in
theorem rtext_no (o d a b n v : Int) (s : ByteArray) (S : Hid (Num.nm o = s)) (E : Hid (Num.En o d a b n v false)) (w : World) :
    Calls Tryd.prog 15 #[.agg (cells o d a b n)] w fun e w' => e = .returned (.string s) ∧ Fr w w' := by
  go_enter Tryd.func15, Tryd.ntmps15
  go_wp2_with fail
  refine (rname_as o s S _).mono ?_; rintro e w1 ⟨rfl, hF⟩
  have F1 := hideP hF; clear hF
  obtain ⟨c0, c1, c2, c3, c4⟩ := box5 w w1 o d a b n F1.out
  go_wp2_with fail
  refine (rencode_as o d a b n v false E _).mono ?_; rintro e w2 ⟨rfl, hF⟩
  have F2 := hideP hF; clear hF
  go_wp2_with fail
  go_ret
  exact ⟨rfl, ((Fr.refl _).alloc _).trans (F1.out.trans F2.out)⟩
set_option maxRecDepth 100000 in
set_option maxHeartbeats 8000000 in
theorem rtext1 (o d a b n v : Int) (s0 : ByteArray) (S : Hid (Num.nm o = s0)) (E : Hid (Num.En o d a b n v true)) (F : Hid (Num.lt (Num.fm o) = 78)) (d0 : 0 ≤ d) (d1 : d ≤ 31) (a0 : 0 ≤ a) (a1 : a ≤ 31) (b0 : 0 ≤ b) (b1 : b ≤ 31) (n0 : -2147483648 ≤ n) (n1 : n ≤ 2147483647) (w : World) :
    Calls Tryd.prog 15 #[.agg (cells o d a b n)] w fun e w' => e = .returned (.string s0) ∧ Fr w w' := by
  go_enter Tryd.func15, Tryd.ntmps15
  go_wp2_with fail
  refine (rname_as o s0 S _).mono ?_; rintro e w1 ⟨rfl, hF⟩
  have F1 := hideP hF; clear hF
  obtain ⟨c0, c1, c2, c3, c4⟩ := box5 w w1 o d a b n F1.out
  go_wp2_with fail
  refine (rencode_as o d a b n v true E _).mono ?_; rintro e w2 ⟨rfl, hF⟩
  have F2 := hideP hF; clear hF c0 c1 c2 c3 c4
  obtain ⟨c0, c1, c2, c3, c4⟩ := box5 w w2 o d a b n (F1.out.trans F2.out)
  go_wp2_with fail
  refine (rformat_as _ _ F _).mono ?_; rintro e w' ⟨rfl, rfl⟩
  go_wp2_with fail
  go_ret
  exact ⟨rfl, ((Fr.refl _).alloc _).trans (F1.out.trans F2.out)⟩
set_option maxRecDepth 100000 in
set_option maxHeartbeats 8000000 in
theorem rtext2 (o d a b n v : Int) (s0 r1 s1 r2 s2 r3 s3 : ByteArray) (S : Hid (Num.nm o = s0)) (E : Hid (Num.En o d a b n v true)) (F : Hid (Num.lt (Num.fm o) = 82)) (d0 : 0 ≤ d) (d1 : d ≤ 31) (a0 : 0 ≤ a) (a1 : a ≤ 31) (b0 : 0 ≤ b) (b1 : b ≤ 31) (n0 : -2147483648 ≤ n) (n1 : n ≤ 2147483647) (R1 : Hid (Num.bs ([32] ++ Num.rg d) = r1)) (A1 : ∀ W : World, (Op.stringOp .add s0 r1).run Tryd.prog W = .ok (.string s1) W) (R2 : Hid (Num.bs ([32] ++ Num.rg a) = r2)) (A2 : ∀ W : World, (Op.stringOp .add s1 r2).run Tryd.prog W = .ok (.string s2) W) (R3 : Hid (Num.bs ([32] ++ Num.rg b) = r3)) (A3 : ∀ W : World, (Op.stringOp .add s2 r3).run Tryd.prog W = .ok (.string s3) W) (w : World) :
    Calls Tryd.prog 15 #[.agg (cells o d a b n)] w fun e w' => e = .returned (.string s3) ∧ Fr w w' := by
  go_enter Tryd.func15, Tryd.ntmps15
  go_wp2_with fail
  refine (rname_as o s0 S _).mono ?_; rintro e w1 ⟨rfl, hF⟩
  have F1 := hideP hF; clear hF
  obtain ⟨c0, c1, c2, c3, c4⟩ := box5 w w1 o d a b n F1.out
  go_wp2_with fail
  refine (rencode_as o d a b n v true E _).mono ?_; rintro e w2 ⟨rfl, hF⟩
  have F2 := hideP hF; clear hF c0 c1 c2 c3 c4
  obtain ⟨c0, c1, c2, c3, c4⟩ := box5 w w2 o d a b n (F1.out.trans F2.out)
  go_wp2_with fail
  refine (rformat_as _ _ F _).mono ?_; rintro e w' ⟨rfl, rfl⟩
  go_wp2_with fail
  refine (reg_let d r1 R1 (by omega) (by omega) _).mono ?_; rintro e w' ⟨rfl, rfl⟩
  go_wp2_with fail
  refine (reg_let a r2 R2 (by omega) (by omega) _).mono ?_; rintro e w' ⟨rfl, rfl⟩
  go_wp2_with fail
  refine (reg_let b r3 R3 (by omega) (by omega) _).mono ?_; rintro e w' ⟨rfl, rfl⟩
  go_wp2_with fail
  go_ret
  exact ⟨rfl, ((Fr.refl _).alloc _).trans (F1.out.trans F2.out)⟩
set_option maxRecDepth 100000 in
set_option maxHeartbeats 8000000 in
theorem rtext3 (o d a b n v : Int) (s0 r1 s1 r2 s2 t3 r3 s3 : ByteArray) (S : Hid (Num.nm o = s0)) (E : Hid (Num.En o d a b n v true)) (F : Hid (Num.lt (Num.fm o) = 73)) (d0 : 0 ≤ d) (d1 : d ≤ 31) (a0 : 0 ≤ a) (a1 : a ≤ 31) (b0 : 0 ≤ b) (b1 : b ≤ 31) (n0 : -2147483648 ≤ n) (n1 : n ≤ 2147483647) (R1 : Hid (Num.bs ([32] ++ Num.rg d) = r1)) (A1 : ∀ W : World, (Op.stringOp .add s0 r1).run Tryd.prog W = .ok (.string s1) W) (R2 : Hid (Num.bs ([32] ++ Num.rg a) = r2)) (A2 : ∀ W : World, (Op.stringOp .add s1 r2).run Tryd.prog W = .ok (.string s2) W) (B3 : ∀ W : World, (Op.stringOp .add s2 ⟨#[32]⟩).run Tryd.prog W = .ok (.string t3) W) (R3 : Hid (Num.bs (Lib.itoa n) = r3)) (A3 : ∀ W : World, (Op.stringOp .add t3 r3).run Tryd.prog W = .ok (.string s3) W) (w : World) :
    Calls Tryd.prog 15 #[.agg (cells o d a b n)] w fun e w' => e = .returned (.string s3) ∧ Fr w w' := by
  go_enter Tryd.func15, Tryd.ntmps15
  go_wp2_with fail
  refine (rname_as o s0 S _).mono ?_; rintro e w1 ⟨rfl, hF⟩
  have F1 := hideP hF; clear hF
  obtain ⟨c0, c1, c2, c3, c4⟩ := box5 w w1 o d a b n F1.out
  go_wp2_with fail
  refine (rencode_as o d a b n v true E _).mono ?_; rintro e w2 ⟨rfl, hF⟩
  have F2 := hideP hF; clear hF c0 c1 c2 c3 c4
  obtain ⟨c0, c1, c2, c3, c4⟩ := box5 w w2 o d a b n (F1.out.trans F2.out)
  go_wp2_with fail
  refine (rformat_as _ _ F _).mono ?_; rintro e w' ⟨rfl, rfl⟩
  go_wp2_with fail
  refine (reg_let d r1 R1 (by omega) (by omega) _).mono ?_; rintro e w' ⟨rfl, rfl⟩
  go_wp2_with fail
  refine (reg_let a r2 R2 (by omega) (by omega) _).mono ?_; rintro e w' ⟨rfl, rfl⟩
  go_wp2_with fail
  refine (number_let n r3 R3 (by omega) (by omega) _).mono ?_; rintro e w' ⟨rfl, rfl⟩
  go_wp2_with fail
  go_ret
  exact ⟨rfl, ((Fr.refl _).alloc _).trans (F1.out.trans F2.out)⟩
set_option maxRecDepth 100000 in
set_option maxHeartbeats 8000000 in
theorem rtext4 (o d a b n v : Int) (s0 r1 s1 r2 s2 t3 r3 s3 : ByteArray) (S : Hid (Num.nm o = s0)) (E : Hid (Num.En o d a b n v true)) (F : Hid (Num.lt (Num.fm o) = 72)) (d0 : 0 ≤ d) (d1 : d ≤ 31) (a0 : 0 ≤ a) (a1 : a ≤ 31) (b0 : 0 ≤ b) (b1 : b ≤ 31) (n0 : -2147483648 ≤ n) (n1 : n ≤ 2147483647) (R1 : Hid (Num.bs ([32] ++ Num.rg d) = r1)) (A1 : ∀ W : World, (Op.stringOp .add s0 r1).run Tryd.prog W = .ok (.string s1) W) (R2 : Hid (Num.bs ([32] ++ Num.rg a) = r2)) (A2 : ∀ W : World, (Op.stringOp .add s1 r2).run Tryd.prog W = .ok (.string s2) W) (B3 : ∀ W : World, (Op.stringOp .add s2 ⟨#[32]⟩).run Tryd.prog W = .ok (.string t3) W) (R3 : Hid (Num.bs (Lib.itoa n) = r3)) (A3 : ∀ W : World, (Op.stringOp .add t3 r3).run Tryd.prog W = .ok (.string s3) W) (w : World) :
    Calls Tryd.prog 15 #[.agg (cells o d a b n)] w fun e w' => e = .returned (.string s3) ∧ Fr w w' := by
  go_enter Tryd.func15, Tryd.ntmps15
  go_wp2_with fail
  refine (rname_as o s0 S _).mono ?_; rintro e w1 ⟨rfl, hF⟩
  have F1 := hideP hF; clear hF
  obtain ⟨c0, c1, c2, c3, c4⟩ := box5 w w1 o d a b n F1.out
  go_wp2_with fail
  refine (rencode_as o d a b n v true E _).mono ?_; rintro e w2 ⟨rfl, hF⟩
  have F2 := hideP hF; clear hF c0 c1 c2 c3 c4
  obtain ⟨c0, c1, c2, c3, c4⟩ := box5 w w2 o d a b n (F1.out.trans F2.out)
  go_wp2_with fail
  refine (rformat_as _ _ F _).mono ?_; rintro e w' ⟨rfl, rfl⟩
  go_wp2_with fail
  refine (reg_let d r1 R1 (by omega) (by omega) _).mono ?_; rintro e w' ⟨rfl, rfl⟩
  go_wp2_with fail
  refine (reg_let a r2 R2 (by omega) (by omega) _).mono ?_; rintro e w' ⟨rfl, rfl⟩
  go_wp2_with fail
  refine (number_let n r3 R3 (by omega) (by omega) _).mono ?_; rintro e w' ⟨rfl, rfl⟩
  go_wp2_with fail
  go_ret
  exact ⟨rfl, ((Fr.refl _).alloc _).trans (F1.out.trans F2.out)⟩
set_option maxRecDepth 100000 in
set_option maxHeartbeats 8000000 in
theorem rtext5 (o d a b n v : Int) (s0 r1 s1 r2 s2 t3 r3 s3 : ByteArray) (S : Hid (Num.nm o = s0)) (E : Hid (Num.En o d a b n v true)) (F : Hid (Num.lt (Num.fm o) = 83)) (d0 : 0 ≤ d) (d1 : d ≤ 31) (a0 : 0 ≤ a) (a1 : a ≤ 31) (b0 : 0 ≤ b) (b1 : b ≤ 31) (n0 : -2147483648 ≤ n) (n1 : n ≤ 2147483647) (R1 : Hid (Num.bs ([32] ++ Num.rg a) = r1)) (A1 : ∀ W : World, (Op.stringOp .add s0 r1).run Tryd.prog W = .ok (.string s1) W) (R2 : Hid (Num.bs ([32] ++ Num.rg b) = r2)) (A2 : ∀ W : World, (Op.stringOp .add s1 r2).run Tryd.prog W = .ok (.string s2) W) (B3 : ∀ W : World, (Op.stringOp .add s2 ⟨#[32]⟩).run Tryd.prog W = .ok (.string t3) W) (R3 : Hid (Num.bs (Lib.itoa n) = r3)) (A3 : ∀ W : World, (Op.stringOp .add t3 r3).run Tryd.prog W = .ok (.string s3) W) (w : World) :
    Calls Tryd.prog 15 #[.agg (cells o d a b n)] w fun e w' => e = .returned (.string s3) ∧ Fr w w' := by
  go_enter Tryd.func15, Tryd.ntmps15
  go_wp2_with fail
  refine (rname_as o s0 S _).mono ?_; rintro e w1 ⟨rfl, hF⟩
  have F1 := hideP hF; clear hF
  obtain ⟨c0, c1, c2, c3, c4⟩ := box5 w w1 o d a b n F1.out
  go_wp2_with fail
  refine (rencode_as o d a b n v true E _).mono ?_; rintro e w2 ⟨rfl, hF⟩
  have F2 := hideP hF; clear hF c0 c1 c2 c3 c4
  obtain ⟨c0, c1, c2, c3, c4⟩ := box5 w w2 o d a b n (F1.out.trans F2.out)
  go_wp2_with fail
  refine (rformat_as _ _ F _).mono ?_; rintro e w' ⟨rfl, rfl⟩
  go_wp2_with fail
  refine (reg_let a r1 R1 (by omega) (by omega) _).mono ?_; rintro e w' ⟨rfl, rfl⟩
  go_wp2_with fail
  refine (reg_let b r2 R2 (by omega) (by omega) _).mono ?_; rintro e w' ⟨rfl, rfl⟩
  go_wp2_with fail
  refine (number_let n r3 R3 (by omega) (by omega) _).mono ?_; rintro e w' ⟨rfl, rfl⟩
  go_wp2_with fail
  go_ret
  exact ⟨rfl, ((Fr.refl _).alloc _).trans (F1.out.trans F2.out)⟩
set_option maxRecDepth 100000 in
set_option maxHeartbeats 8000000 in
theorem rtext6 (o d a b n v : Int) (s0 r1 s1 r2 s2 t3 r3 s3 : ByteArray) (S : Hid (Num.nm o = s0)) (E : Hid (Num.En o d a b n v true)) (F : Hid (Num.lt (Num.fm o) = 66)) (d0 : 0 ≤ d) (d1 : d ≤ 31) (a0 : 0 ≤ a) (a1 : a ≤ 31) (b0 : 0 ≤ b) (b1 : b ≤ 31) (n0 : -2147483648 ≤ n) (n1 : n ≤ 2147483647) (R1 : Hid (Num.bs ([32] ++ Num.rg a) = r1)) (A1 : ∀ W : World, (Op.stringOp .add s0 r1).run Tryd.prog W = .ok (.string s1) W) (R2 : Hid (Num.bs ([32] ++ Num.rg b) = r2)) (A2 : ∀ W : World, (Op.stringOp .add s1 r2).run Tryd.prog W = .ok (.string s2) W) (B3 : ∀ W : World, (Op.stringOp .add s2 ⟨#[32]⟩).run Tryd.prog W = .ok (.string t3) W) (R3 : Hid (Num.bs (Lib.itoa n) = r3)) (A3 : ∀ W : World, (Op.stringOp .add t3 r3).run Tryd.prog W = .ok (.string s3) W) (w : World) :
    Calls Tryd.prog 15 #[.agg (cells o d a b n)] w fun e w' => e = .returned (.string s3) ∧ Fr w w' := by
  go_enter Tryd.func15, Tryd.ntmps15
  go_wp2_with fail
  refine (rname_as o s0 S _).mono ?_; rintro e w1 ⟨rfl, hF⟩
  have F1 := hideP hF; clear hF
  obtain ⟨c0, c1, c2, c3, c4⟩ := box5 w w1 o d a b n F1.out
  go_wp2_with fail
  refine (rencode_as o d a b n v true E _).mono ?_; rintro e w2 ⟨rfl, hF⟩
  have F2 := hideP hF; clear hF c0 c1 c2 c3 c4
  obtain ⟨c0, c1, c2, c3, c4⟩ := box5 w w2 o d a b n (F1.out.trans F2.out)
  go_wp2_with fail
  refine (rformat_as _ _ F _).mono ?_; rintro e w' ⟨rfl, rfl⟩
  go_wp2_with fail
  refine (reg_let a r1 R1 (by omega) (by omega) _).mono ?_; rintro e w' ⟨rfl, rfl⟩
  go_wp2_with fail
  refine (reg_let b r2 R2 (by omega) (by omega) _).mono ?_; rintro e w' ⟨rfl, rfl⟩
  go_wp2_with fail
  refine (number_let n r3 R3 (by omega) (by omega) _).mono ?_; rintro e w' ⟨rfl, rfl⟩
  go_wp2_with fail
  go_ret
  exact ⟨rfl, ((Fr.refl _).alloc _).trans (F1.out.trans F2.out)⟩
set_option maxRecDepth 100000 in
set_option maxHeartbeats 8000000 in
theorem rtext7 (o d a b n v : Int) (s0 r1 s1 t2 r2 s2 : ByteArray) (S : Hid (Num.nm o = s0)) (E : Hid (Num.En o d a b n v true)) (F : Hid (Num.lt (Num.fm o) = 85)) (d0 : 0 ≤ d) (d1 : d ≤ 31) (a0 : 0 ≤ a) (a1 : a ≤ 31) (b0 : 0 ≤ b) (b1 : b ≤ 31) (n0 : -2147483648 ≤ n) (n1 : n ≤ 2147483647) (R1 : Hid (Num.bs ([32] ++ Num.rg d) = r1)) (A1 : ∀ W : World, (Op.stringOp .add s0 r1).run Tryd.prog W = .ok (.string s1) W) (B2 : ∀ W : World, (Op.stringOp .add s1 ⟨#[32]⟩).run Tryd.prog W = .ok (.string t2) W) (R2 : Hid (Num.bs (Lib.itoa n) = r2)) (A2 : ∀ W : World, (Op.stringOp .add t2 r2).run Tryd.prog W = .ok (.string s2) W) (w : World) :
    Calls Tryd.prog 15 #[.agg (cells o d a b n)] w fun e w' => e = .returned (.string s2) ∧ Fr w w' := by
  go_enter Tryd.func15, Tryd.ntmps15
  go_wp2_with fail
  refine (rname_as o s0 S _).mono ?_; rintro e w1 ⟨rfl, hF⟩
  have F1 := hideP hF; clear hF
  obtain ⟨c0, c1, c2, c3, c4⟩ := box5 w w1 o d a b n F1.out
  go_wp2_with fail
  refine (rencode_as o d a b n v true E _).mono ?_; rintro e w2 ⟨rfl, hF⟩
  have F2 := hideP hF; clear hF c0 c1 c2 c3 c4
  obtain ⟨c0, c1, c2, c3, c4⟩ := box5 w w2 o d a b n (F1.out.trans F2.out)
  go_wp2_with fail
  refine (rformat_as _ _ F _).mono ?_; rintro e w' ⟨rfl, rfl⟩
  go_wp2_with fail
  refine (reg_let d r1 R1 (by omega) (by omega) _).mono ?_; rintro e w' ⟨rfl, rfl⟩
  go_wp2_with fail
  refine (number_let n r2 R2 (by omega) (by omega) _).mono ?_; rintro e w' ⟨rfl, rfl⟩
  go_wp2_with fail
  go_ret
  exact ⟨rfl, ((Fr.refl _).alloc _).trans (F1.out.trans F2.out)⟩
set_option maxRecDepth 100000 in
set_option maxHeartbeats 8000000 in
theorem rtext8 (o d a b n v : Int) (s0 r1 s1 t2 r2 s2 : ByteArray) (S : Hid (Num.nm o = s0)) (E : Hid (Num.En o d a b n v true)) (F : Hid (Num.lt (Num.fm o) = 74)) (d0 : 0 ≤ d) (d1 : d ≤ 31) (a0 : 0 ≤ a) (a1 : a ≤ 31) (b0 : 0 ≤ b) (b1 : b ≤ 31) (n0 : -2147483648 ≤ n) (n1 : n ≤ 2147483647) (R1 : Hid (Num.bs ([32] ++ Num.rg d) = r1)) (A1 : ∀ W : World, (Op.stringOp .add s0 r1).run Tryd.prog W = .ok (.string s1) W) (B2 : ∀ W : World, (Op.stringOp .add s1 ⟨#[32]⟩).run Tryd.prog W = .ok (.string t2) W) (R2 : Hid (Num.bs (Lib.itoa n) = r2)) (A2 : ∀ W : World, (Op.stringOp .add t2 r2).run Tryd.prog W = .ok (.string s2) W) (w : World) :
    Calls Tryd.prog 15 #[.agg (cells o d a b n)] w fun e w' => e = .returned (.string s2) ∧ Fr w w' := by
  go_enter Tryd.func15, Tryd.ntmps15
  go_wp2_with fail
  refine (rname_as o s0 S _).mono ?_; rintro e w1 ⟨rfl, hF⟩
  have F1 := hideP hF; clear hF
  obtain ⟨c0, c1, c2, c3, c4⟩ := box5 w w1 o d a b n F1.out
  go_wp2_with fail
  refine (rencode_as o d a b n v true E _).mono ?_; rintro e w2 ⟨rfl, hF⟩
  have F2 := hideP hF; clear hF c0 c1 c2 c3 c4
  obtain ⟨c0, c1, c2, c3, c4⟩ := box5 w w2 o d a b n (F1.out.trans F2.out)
  go_wp2_with fail
  refine (rformat_as _ _ F _).mono ?_; rintro e w' ⟨rfl, rfl⟩
  go_wp2_with fail
  refine (reg_let d r1 R1 (by omega) (by omega) _).mono ?_; rintro e w' ⟨rfl, rfl⟩
  go_wp2_with fail
  refine (number_let n r2 R2 (by omega) (by omega) _).mono ?_; rintro e w' ⟨rfl, rfl⟩
  go_wp2_with fail
  go_ret
  exact ⟨rfl, ((Fr.refl _).alloc _).trans (F1.out.trans F2.out)⟩
set_option maxRecDepth 100000 in
set_option maxHeartbeats 8000000 in
theorem rtext9 (o d a b n v : Int) (s0 r1 s1 r2 s2 t3 r3 s3 : ByteArray) (S : Hid (Num.nm o = s0)) (E : Hid (Num.En o d a b n v true)) (F : Hid (Num.lt (Num.fm o) = 67)) (o1 : o ≤ 52) (d0 : 0 ≤ d) (d1 : d ≤ 31) (a0 : 0 ≤ a) (a1 : a ≤ 31) (b0 : 0 ≤ b) (b1 : b ≤ 31) (n0 : -2147483648 ≤ n) (n1 : n ≤ 2147483647) (R1 : Hid (Num.bs ([32] ++ Num.rg d) = r1)) (A1 : ∀ W : World, (Op.stringOp .add s0 r1).run Tryd.prog W = .ok (.string s1) W) (R2 : Hid (Num.bs ([32] ++ Num.rg a) = r2)) (A2 : ∀ W : World, (Op.stringOp .add s1 r2).run Tryd.prog W = .ok (.string s2) W) (B3 : ∀ W : World, (Op.stringOp .add s2 ⟨#[32]⟩).run Tryd.prog W = .ok (.string t3) W) (R3 : Hid (Num.bs (Lib.itoa n) = r3)) (A3 : ∀ W : World, (Op.stringOp .add t3 r3).run Tryd.prog W = .ok (.string s3) W) (w : World) :
    Calls Tryd.prog 15 #[.agg (cells o d a b n)] w fun e w' => e = .returned (.string s3) ∧ Fr w w' := by
  go_enter Tryd.func15, Tryd.ntmps15
  go_wp2_with fail
  refine (rname_as o s0 S _).mono ?_; rintro e w1 ⟨rfl, hF⟩
  have F1 := hideP hF; clear hF
  obtain ⟨c0, c1, c2, c3, c4⟩ := box5 w w1 o d a b n F1.out
  go_wp2_with fail
  refine (rencode_as o d a b n v true E _).mono ?_; rintro e w2 ⟨rfl, hF⟩
  have F2 := hideP hF; clear hF c0 c1 c2 c3 c4
  obtain ⟨c0, c1, c2, c3, c4⟩ := box5 w w2 o d a b n (F1.out.trans F2.out)
  go_wp2_with fail
  refine (rformat_as _ _ F _).mono ?_; rintro e w' ⟨rfl, rfl⟩
  go_wp2_with fail
  refine (reg_let d r1 R1 (by omega) (by omega) _).mono ?_; rintro e w' ⟨rfl, rfl⟩
  go_wp2_with fail
  refine (reg_let a r2 R2 (by omega) (by omega) _).mono ?_; rintro e w' ⟨rfl, rfl⟩
  go_wp2_with fail
  refine (number_let n r3 R3 (by omega) (by omega) _).mono ?_; rintro e w' ⟨rfl, rfl⟩
  go_wp2_with fail
  go_ret
  exact ⟨rfl, ((Fr.refl _).alloc _).trans (F1.out.trans F2.out)⟩
set_option maxRecDepth 100000 in
set_option maxHeartbeats 8000000 in
theorem rtext10 (o d a b n v : Int) (s0 r1 s1 t2 r2 s2 t3 r3 s3 : ByteArray) (S : Hid (Num.nm o = s0)) (E : Hid (Num.En o d a b n v true)) (F : Hid (Num.lt (Num.fm o) = 67)) (o1 : 53 ≤ o) (d0 : 0 ≤ d) (d1 : d ≤ 31) (a0 : 0 ≤ a) (a1 : a ≤ 31) (b0 : 0 ≤ b) (b1 : b ≤ 31) (n0 : -2147483648 ≤ n) (n1 : n ≤ 2147483647) (R1 : Hid (Num.bs ([32] ++ Num.rg d) = r1)) (A1 : ∀ W : World, (Op.stringOp .add s0 r1).run Tryd.prog W = .ok (.string s1) W) (B2 : ∀ W : World, (Op.stringOp .add s1 ⟨#[32]⟩).run Tryd.prog W = .ok (.string t2) W) (R2 : Hid (Num.bs (Lib.itoa a) = r2)) (A2 : ∀ W : World, (Op.stringOp .add t2 r2).run Tryd.prog W = .ok (.string s2) W) (B3 : ∀ W : World, (Op.stringOp .add s2 ⟨#[32]⟩).run Tryd.prog W = .ok (.string t3) W) (R3 : Hid (Num.bs (Lib.itoa n) = r3)) (A3 : ∀ W : World, (Op.stringOp .add t3 r3).run Tryd.prog W = .ok (.string s3) W) (w : World) :
    Calls Tryd.prog 15 #[.agg (cells o d a b n)] w fun e w' => e = .returned (.string s3) ∧ Fr w w' := by
  go_enter Tryd.func15, Tryd.ntmps15
  go_wp2_with fail
  refine (rname_as o s0 S _).mono ?_; rintro e w1 ⟨rfl, hF⟩
  have F1 := hideP hF; clear hF
  obtain ⟨c0, c1, c2, c3, c4⟩ := box5 w w1 o d a b n F1.out
  go_wp2_with fail
  refine (rencode_as o d a b n v true E _).mono ?_; rintro e w2 ⟨rfl, hF⟩
  have F2 := hideP hF; clear hF c0 c1 c2 c3 c4
  obtain ⟨c0, c1, c2, c3, c4⟩ := box5 w w2 o d a b n (F1.out.trans F2.out)
  go_wp2_with fail
  refine (rformat_as _ _ F _).mono ?_; rintro e w' ⟨rfl, rfl⟩
  go_wp2_with fail
  refine (reg_let d r1 R1 (by omega) (by omega) _).mono ?_; rintro e w' ⟨rfl, rfl⟩
  go_wp2_with fail
  refine (number_let a r2 R2 (by omega) (by omega) _).mono ?_; rintro e w' ⟨rfl, rfl⟩
  go_wp2_with fail
  refine (number_let n r3 R3 (by omega) (by omega) _).mono ?_; rintro e w' ⟨rfl, rfl⟩
  go_wp2_with fail
  go_ret
  exact ⟨rfl, ((Fr.refl _).alloc _).trans (F1.out.trans F2.out)⟩
theorem rtext_as (o d a b n v : Int) (g : Bool) (s : ByteArray) (S : Hid (Num.bs (Num.tx o d a b n g) = s)) (E : Hid (Num.En o d a b n v g)) (w : World) :
    Calls Tryd.prog 15 #[.agg (cells o d a b n)] w fun e w' => e = .returned (.string s) ∧ Fr w w' := by
  rw [← S.out]; clear S
  cases g
  · rw [Num.tx_no]
    exact rtext_no o d a b n v _ (hideP (Num.nm_tl o)) E w
  have k := E.out.hg.1 rfl
  obtain ⟨d0, d1, a0, a1, b0, b1⟩ := k.regs
  have nn : -2147483648 ≤ n ∧ n ≤ 2147483647 := by have := k; unfold Num.Ok at this; omega
  obtain ⟨n0, n1⟩ := nn
  have l0 := Num.tl_len o
  have ld : ((Num.rg d).length : Int) ≤ 200 := by have := Num.itoa_len d (by omega) (by omega); simp [Num.rg]; omega
  have la : ((Num.rg a).length : Int) ≤ 200 := by have := Num.itoa_len a (by omega) (by omega); simp [Num.rg]; omega
  have lb : ((Num.rg b).length : Int) ≤ 200 := by have := Num.itoa_len b (by omega) (by omega); simp [Num.rg]; omega
  have ln := Num.itoa_len n (by omega) (by omega)
  have lA := Num.itoa_len a (by omega) (by omega)
  rw [Num.tx, if_pos rfl, Lib.join_cons]
  rcases Num.fm_is o with h | h | h | h | h | h | h | h | h | ⟨h, hb⟩ | ⟨h, hb⟩
  all_goals (have FF : Hid (Num.lt (Num.fm o) = _) := hideP (by rw [h]))
  all_goals rw [h] at k ⊢
  · exact absurd k (fun k => Num.ok0 k)
  · have q := rtext1 o d a b n v _  (hideP (Num.nm_tl o)) E FF d0 d1 a0 a1 b0 b1 n0 n1 w
    have e : Num.tl o ++ Lib.joinTail [32] (Num.opT 1 d a b n) = Num.tl o := by
      simp [Num.opT, Lib.joinTail]
    rw [e]
    exact q
  · have q := rtext2 o d a b n v _ _ _ _ _ _ _ (hideP (Num.nm_tl o)) E FF d0 d1 a0 a1 b0 b1 n0 n1 (hideP rfl) (Num.bs_add (Num.tl o) ([32] ++ Num.rg d) (by first | omega | (simp; omega)) (by first | omega | (simp; omega))) (hideP rfl) (Num.bs_add ((Num.tl o ++ ([32] ++ Num.rg d))) ([32] ++ Num.rg a) (by first | omega | (simp; omega)) (by first | omega | (simp; omega))) (hideP rfl) (Num.bs_add (((Num.tl o ++ ([32] ++ Num.rg d)) ++ ([32] ++ Num.rg a))) ([32] ++ Num.rg b) (by first | omega | (simp; omega)) (by first | omega | (simp; omega))) w
    have e : Num.tl o ++ Lib.joinTail [32] (Num.opT 2 d a b n) = (((Num.tl o ++ ([32] ++ Num.rg d)) ++ ([32] ++ Num.rg a)) ++ ([32] ++ Num.rg b)) := by
      simp [Num.opT, Lib.joinTail, List.append_assoc]
    rw [e]
    exact q
  · have q := rtext3 o d a b n v _ _ _ _ _ _ _ _ (hideP (Num.nm_tl o)) E FF d0 d1 a0 a1 b0 b1 n0 n1 (hideP rfl) (Num.bs_add (Num.tl o) ([32] ++ Num.rg d) (by first | omega | (simp; omega)) (by first | omega | (simp; omega))) (hideP rfl) (Num.bs_add ((Num.tl o ++ ([32] ++ Num.rg d))) ([32] ++ Num.rg a) (by first | omega | (simp; omega)) (by first | omega | (simp; omega))) (Num.bs_add (((Num.tl o ++ ([32] ++ Num.rg d)) ++ ([32] ++ Num.rg a))) [32] (by first | omega | (simp; omega)) (by simp)) (hideP rfl) (Num.bs_add (((Num.tl o ++ ([32] ++ Num.rg d)) ++ ([32] ++ Num.rg a)) ++ [32]) (Lib.itoa n) (by first | omega | (simp; omega)) (by omega)) w
    have e : Num.tl o ++ Lib.joinTail [32] (Num.opT 3 d a b n) = ((((Num.tl o ++ ([32] ++ Num.rg d)) ++ ([32] ++ Num.rg a)) ++ [32]) ++ Lib.itoa n) := by
      simp [Num.opT, Lib.joinTail, List.append_assoc]
    rw [e]
    exact q
  · have q := rtext4 o d a b n v _ _ _ _ _ _ _ _ (hideP (Num.nm_tl o)) E FF d0 d1 a0 a1 b0 b1 n0 n1 (hideP rfl) (Num.bs_add (Num.tl o) ([32] ++ Num.rg d) (by first | omega | (simp; omega)) (by first | omega | (simp; omega))) (hideP rfl) (Num.bs_add ((Num.tl o ++ ([32] ++ Num.rg d))) ([32] ++ Num.rg a) (by first | omega | (simp; omega)) (by first | omega | (simp; omega))) (Num.bs_add (((Num.tl o ++ ([32] ++ Num.rg d)) ++ ([32] ++ Num.rg a))) [32] (by first | omega | (simp; omega)) (by simp)) (hideP rfl) (Num.bs_add (((Num.tl o ++ ([32] ++ Num.rg d)) ++ ([32] ++ Num.rg a)) ++ [32]) (Lib.itoa n) (by first | omega | (simp; omega)) (by omega)) w
    have e : Num.tl o ++ Lib.joinTail [32] (Num.opT 4 d a b n) = ((((Num.tl o ++ ([32] ++ Num.rg d)) ++ ([32] ++ Num.rg a)) ++ [32]) ++ Lib.itoa n) := by
      simp [Num.opT, Lib.joinTail, List.append_assoc]
    rw [e]
    exact q
  · have q := rtext5 o d a b n v _ _ _ _ _ _ _ _ (hideP (Num.nm_tl o)) E FF d0 d1 a0 a1 b0 b1 n0 n1 (hideP rfl) (Num.bs_add (Num.tl o) ([32] ++ Num.rg a) (by first | omega | (simp; omega)) (by first | omega | (simp; omega))) (hideP rfl) (Num.bs_add ((Num.tl o ++ ([32] ++ Num.rg a))) ([32] ++ Num.rg b) (by first | omega | (simp; omega)) (by first | omega | (simp; omega))) (Num.bs_add (((Num.tl o ++ ([32] ++ Num.rg a)) ++ ([32] ++ Num.rg b))) [32] (by first | omega | (simp; omega)) (by simp)) (hideP rfl) (Num.bs_add (((Num.tl o ++ ([32] ++ Num.rg a)) ++ ([32] ++ Num.rg b)) ++ [32]) (Lib.itoa n) (by first | omega | (simp; omega)) (by omega)) w
    have e : Num.tl o ++ Lib.joinTail [32] (Num.opT 5 d a b n) = ((((Num.tl o ++ ([32] ++ Num.rg a)) ++ ([32] ++ Num.rg b)) ++ [32]) ++ Lib.itoa n) := by
      simp [Num.opT, Lib.joinTail, List.append_assoc]
    rw [e]
    exact q
  · have q := rtext6 o d a b n v _ _ _ _ _ _ _ _ (hideP (Num.nm_tl o)) E FF d0 d1 a0 a1 b0 b1 n0 n1 (hideP rfl) (Num.bs_add (Num.tl o) ([32] ++ Num.rg a) (by first | omega | (simp; omega)) (by first | omega | (simp; omega))) (hideP rfl) (Num.bs_add ((Num.tl o ++ ([32] ++ Num.rg a))) ([32] ++ Num.rg b) (by first | omega | (simp; omega)) (by first | omega | (simp; omega))) (Num.bs_add (((Num.tl o ++ ([32] ++ Num.rg a)) ++ ([32] ++ Num.rg b))) [32] (by first | omega | (simp; omega)) (by simp)) (hideP rfl) (Num.bs_add (((Num.tl o ++ ([32] ++ Num.rg a)) ++ ([32] ++ Num.rg b)) ++ [32]) (Lib.itoa n) (by first | omega | (simp; omega)) (by omega)) w
    have e : Num.tl o ++ Lib.joinTail [32] (Num.opT 6 d a b n) = ((((Num.tl o ++ ([32] ++ Num.rg a)) ++ ([32] ++ Num.rg b)) ++ [32]) ++ Lib.itoa n) := by
      simp [Num.opT, Lib.joinTail, List.append_assoc]
    rw [e]
    exact q
  · have q := rtext7 o d a b n v _ _ _ _ _ _ (hideP (Num.nm_tl o)) E FF d0 d1 a0 a1 b0 b1 n0 n1 (hideP rfl) (Num.bs_add (Num.tl o) ([32] ++ Num.rg d) (by first | omega | (simp; omega)) (by first | omega | (simp; omega))) (Num.bs_add ((Num.tl o ++ ([32] ++ Num.rg d))) [32] (by first | omega | (simp; omega)) (by simp)) (hideP rfl) (Num.bs_add ((Num.tl o ++ ([32] ++ Num.rg d)) ++ [32]) (Lib.itoa n) (by first | omega | (simp; omega)) (by omega)) w
    have e : Num.tl o ++ Lib.joinTail [32] (Num.opT 7 d a b n) = (((Num.tl o ++ ([32] ++ Num.rg d)) ++ [32]) ++ Lib.itoa n) := by
      simp [Num.opT, Lib.joinTail, List.append_assoc]
    rw [e]
    exact q
  · have q := rtext8 o d a b n v _ _ _ _ _ _ (hideP (Num.nm_tl o)) E FF d0 d1 a0 a1 b0 b1 n0 n1 (hideP rfl) (Num.bs_add (Num.tl o) ([32] ++ Num.rg d) (by first | omega | (simp; omega)) (by first | omega | (simp; omega))) (Num.bs_add ((Num.tl o ++ ([32] ++ Num.rg d))) [32] (by first | omega | (simp; omega)) (by simp)) (hideP rfl) (Num.bs_add ((Num.tl o ++ ([32] ++ Num.rg d)) ++ [32]) (Lib.itoa n) (by first | omega | (simp; omega)) (by omega)) w
    have e : Num.tl o ++ Lib.joinTail [32] (Num.opT 8 d a b n) = (((Num.tl o ++ ([32] ++ Num.rg d)) ++ [32]) ++ Lib.itoa n) := by
      simp [Num.opT, Lib.joinTail, List.append_assoc]
    rw [e]
    exact q
  · have q := rtext9 o d a b n v _ _ _ _ _ _ _ _ (hideP (Num.nm_tl o)) E FF (by omega) d0 d1 a0 a1 b0 b1 n0 n1 (hideP rfl) (Num.bs_add (Num.tl o) ([32] ++ Num.rg d) (by first | omega | (simp; omega)) (by first | omega | (simp; omega))) (hideP rfl) (Num.bs_add ((Num.tl o ++ ([32] ++ Num.rg d))) ([32] ++ Num.rg a) (by first | omega | (simp; omega)) (by first | omega | (simp; omega))) (Num.bs_add (((Num.tl o ++ ([32] ++ Num.rg d)) ++ ([32] ++ Num.rg a))) [32] (by first | omega | (simp; omega)) (by simp)) (hideP rfl) (Num.bs_add (((Num.tl o ++ ([32] ++ Num.rg d)) ++ ([32] ++ Num.rg a)) ++ [32]) (Lib.itoa n) (by first | omega | (simp; omega)) (by omega)) w
    have e : Num.tl o ++ Lib.joinTail [32] (Num.opT 9 d a b n) = ((((Num.tl o ++ ([32] ++ Num.rg d)) ++ ([32] ++ Num.rg a)) ++ [32]) ++ Lib.itoa n) := by
      simp [Num.opT, Lib.joinTail, List.append_assoc]
    rw [e]
    exact q
  · have q := rtext10 o d a b n v _ _ _ _ _ _ _ _ _ (hideP (Num.nm_tl o)) E FF (by omega) d0 d1 a0 a1 b0 b1 n0 n1 (hideP rfl) (Num.bs_add (Num.tl o) ([32] ++ Num.rg d) (by first | omega | (simp; omega)) (by first | omega | (simp; omega))) (Num.bs_add ((Num.tl o ++ ([32] ++ Num.rg d))) [32] (by first | omega | (simp; omega)) (by simp)) (hideP rfl) (Num.bs_add ((Num.tl o ++ ([32] ++ Num.rg d)) ++ [32]) (Lib.itoa a) (by first | omega | (simp; omega)) (by omega)) (Num.bs_add ((((Num.tl o ++ ([32] ++ Num.rg d)) ++ [32]) ++ Lib.itoa a)) [32] (by first | omega | (simp; omega)) (by simp)) (hideP rfl) (Num.bs_add ((((Num.tl o ++ ([32] ++ Num.rg d)) ++ [32]) ++ Lib.itoa a) ++ [32]) (Lib.itoa n) (by first | omega | (simp; omega)) (by omega)) w
    have e : Num.tl o ++ Lib.joinTail [32] (Num.opT 10 d a b n) = (((((Num.tl o ++ ([32] ++ Num.rg d)) ++ [32]) ++ Lib.itoa a) ++ [32]) ++ Lib.itoa n) := by
      simp [Num.opT, Lib.joinTail, List.append_assoc]
    rw [e]
    exact q
end Go.Proofs.YtlnliiihcajboaaDoor.Walks
