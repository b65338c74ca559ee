/- Contracts of the laws' inner functions same and known: both return true. -/
import Derived.Test.YtgfoclpcfgfnbaaLoad
import Derived.Test.YtgfoclpcfgfnbaaRLoad
import Derived.Test.YtgfoclpcfgfnbaaStore
import Derived.Test.YtgfoclpcfgfnbaaRStore
import Derived.Test.YtgfoclpcfgfnbaaMerge
namespace Go.Proofs.Ytgfoclpcfgfnbaa.Walks
open Go.ChangeShapes Go.WideShapes Go.ChangeAt Go.RowKit
theorem alike_trans {a b c : World} (h : a.Alike b) (k : b.Alike c) : a.Alike c := ⟨h.1.trans k.1, h.2.1.trans k.2.1, h.2.2.trans k.2.2⟩
set_option maxHeartbeats 1000000 in
theorem same_core (op x a b m p n q l g s : Int) (f : Bool) (x0 : 0 ≤ x) (x1 : x ≤ 4294967295) (a0 : 0 ≤ a) (a1 : a ≤ 4294967295) (b0 : 0 ≤ b) (b1 : b ≤ 4294967295) (P : Hid (x % 4 = p)) (S : Hid (Num.st op p a = n)) (M : Hid (Num.sm op p = q))
    (L : Hid (Num.ld op p a = l)) (G : Hid (Num.mgm a b m = g)) (F : Hid (Num.ft op p = f)) (Z : Hid (Num.sz op = s)) (w : World) :
    Calls Try.prog 7 #[.int .i64 op, .int .u32 x, .int .u32 a, .int .u32 b, .int .i64 m] w fun e w' => e = .returned (.bool true) ∧ w'.Alike w := by
  go_enter Try.func7, Try.ntmps7
  go_wp2_with fail
  refine (store_as _ _ _ _ x0 x1 a0 a1 P _ _ S M _).mono ?_; rintro e w1 ⟨rfl, ha⟩
  have HA : Hid (w1.Alike _) := ha
  clear ha
  go_wp2_with fail
  refine (rstore_as _ _ _ _ x0 x1 a0 a1 P _ _ S M _).mono ?_; rintro e w2 ⟨rfl, ha⟩
  have HB : Hid (w2.Alike _) := ha
  clear ha
  go_wp2_with fail
  refine (load_as _ _ _ _ x0 a0 a1 P _ L _).mono ?_; rintro e w2 ⟨rfl, rfl⟩
  go_wp2_with fail
  refine (rload_as _ _ _ _ x0 x1 a0 a1 P _ L _).mono ?_; rintro e w2 ⟨rfl, rfl⟩
  go_wp2_with fail
  refine (merge_as _ _ _ _ a0 a1 b0 b1 G _).mono ?_; rintro e w2 ⟨rfl, rfl⟩
  go_wp2_with fail
  refine (rmerge_as _ _ _ _ a0 a1 b0 b1 G _).mono ?_; rintro e w2 ⟨rfl, rfl⟩
  go_wp2_with fail
  refine (fits_as _ _ _ _ x0 P F _).mono ?_; rintro e w2 ⟨rfl, rfl⟩
  go_wp2_with fail
  refine (rfits_as _ _ _ _ x0 P F _).mono ?_; rintro e w2 ⟨rfl, rfl⟩
  go_wp2_with fail
  all_goals
    refine (size_as _ _ Z _).mono ?_; rintro e w2 ⟨rfl, rfl⟩
    go_wp2_with fail
    refine (rsize_as _ _ Z _).mono ?_; rintro e w2 ⟨rfl, rfl⟩
    go_wp2_with fail
    go_ret
    exact ⟨rfl, alike_trans HB.out HA.out⟩
theorem same_as (op x a b m : Int) (x0 : 0 ≤ x) (x1 : x ≤ 4294967295) (a0 : 0 ≤ a) (a1 : a ≤ 4294967295) (b0 : 0 ≤ b) (b1 : b ≤ 4294967295) (w : World) :
    Calls Try.prog 7 #[.int .i64 op, .int .u32 x, .int .u32 a, .int .u32 b, .int .i64 m] w fun e w' => e = .returned (.bool true) ∧ w'.Alike w :=
  same_core op x a b m _ _ _ _ _ _ _ x0 x1 a0 a1 b0 b1 rfl rfl rfl rfl rfl rfl rfl w
set_option maxHeartbeats 1000000 in
theorem known (w : World) : Calls Try.prog 8 #[] w fun e w' => e = .returned (.bool true) ∧ w'.Alike w := by
  have P3 : Hid ((3 : Int) % 4 = 3) := by unfold Hid; decide
  have P0 : Hid ((0 : Int) % 4 = 0) := by unfold Hid; decide
  have P1 : Hid ((1 : Int) % 4 = 1) := by unfold Hid; decide
  have S : Hid (Num.st 16 3 511 = 4278190080) := by unfold Hid; decide +kernel
  have M : Hid (Num.sm 16 3 = 8) := by unfold Hid; decide +kernel
  have L : Hid (Num.ld 11 0 128 = 4294967168) := by unfold Hid; decide +kernel
  have F : Hid (Num.ft 12 1 = false) := by unfold Hid; decide +kernel
  have G : Hid (Num.mgm 287454020 2864434397 5 = 297481181) := by unfold Hid; decide +kernel
  have Z : Hid (Num.sz 28 = 0) := by unfold Hid; decide +kernel
  go_enter Try.func8, Try.ntmps8
  go_wp2_with fail
  refine (store_as _ _ _ _ (by decide) (by decide) (by decide) (by decide) P3 _ _ S M _).mono ?_; rintro e w1 ⟨rfl, ha⟩
  have HA : Hid (w1.Alike _) := ha
  clear ha
  go_wp2_with fail
  refine (load_as _ _ _ _ (by decide) (by decide) (by decide) P0 _ L _).mono ?_; rintro e w2 ⟨rfl, rfl⟩
  go_wp2_with fail
  refine (fits_as _ _ _ _ (by decide) P1 F _).mono ?_; rintro e w2 ⟨rfl, rfl⟩
  go_wp2_with fail
  refine (merge_as _ _ _ _ (by decide) (by decide) (by decide) (by decide) G _).mono ?_; rintro e w2 ⟨rfl, rfl⟩
  go_wp2_with fail
  refine (size_as _ _ Z _).mono ?_; rintro e w2 ⟨rfl, rfl⟩
  go_wp2_with fail
  go_ret
  exact ⟨rfl, HA.out⟩
end Go.Proofs.Ytgfoclpcfgfnbaa.Walks
