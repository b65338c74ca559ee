/- Index, the program's and the document's; the document's Access. -/
import Derived.Test.YtbkhemgkhlonhaaCause
import Derived.Test.YtbkhemgkhlonhaaSet
import Derived.LoopN
namespace Go.Proofs.Ytbkhemgkhlonhaa.Num
/-- which of the CSRs -/
def ix (c : Int) : Int := if c = 773 then 0 else if c = 832 then 1 else if c = 833 then 2 else if c = 834 then 3 else if c = 835 then 4 else -1
end Go.Proofs.Ytbkhemgkhlonhaa.Num
namespace Go.Proofs.Ytbkhemgkhlonhaa.Walks
open Go.ChangeShapes Go.WideShapes Go.ChangeAt Go.RowKit
set_option linter.unusedVariables false
theorem index773 (w : World) : Calls Try.prog 7 #[.int .i64 773] w fun e w' => e = .returned (.int .i64 0) ∧ w' = w := by
  go_enter Try.func7, Try.ntmps7
  go_wp2_with fail
  go_ret
  exact ⟨rfl, rfl⟩
theorem index832 (w : World) : Calls Try.prog 7 #[.int .i64 832] w fun e w' => e = .returned (.int .i64 1) ∧ w' = w := by
  go_enter Try.func7, Try.ntmps7
  go_wp2_with fail
  go_ret
  exact ⟨rfl, rfl⟩
theorem index833 (w : World) : Calls Try.prog 7 #[.int .i64 833] w fun e w' => e = .returned (.int .i64 2) ∧ w' = w := by
  go_enter Try.func7, Try.ntmps7
  go_wp2_with fail
  go_ret
  exact ⟨rfl, rfl⟩
theorem index834 (w : World) : Calls Try.prog 7 #[.int .i64 834] w fun e w' => e = .returned (.int .i64 3) ∧ w' = w := by
  go_enter Try.func7, Try.ntmps7
  go_wp2_with fail
  go_ret
  exact ⟨rfl, rfl⟩
theorem index835 (w : World) : Calls Try.prog 7 #[.int .i64 835] w fun e w' => e = .returned (.int .i64 4) ∧ w' = w := by
  go_enter Try.func7, Try.ntmps7
  go_wp2_with fail
  go_ret
  exact ⟨rfl, rfl⟩
theorem indexNo (csr : Int) (h773 : (csr == 773) = false) (h832 : (csr == 832) = false) (h833 : (csr == 833) = false) (h834 : (csr == 834) = false) (h835 : (csr == 835) = false) (w : World) : Calls Try.prog 7 #[.int .i64 csr] w fun e w' => e = .returned (.int .i64 (-1)) ∧ w' = w := by
  go_enter Try.func7, Try.ntmps7
  go_wp2_with fail
  go_ret
  exact ⟨rfl, rfl⟩
theorem rindex773 (w : World) : Calls Try.prog 8 #[.int .i64 773] w fun e w' => e = .returned (.int .i64 0) ∧ Fr w w' := by
  go_enter Try.func8, Try.ntmps8
  go_wp2_with fail
  refine wp_loop_rounds 6 ?_
  rw [rounds_succ]
  go_wp2_with fail
  go_ret
  exact ⟨rfl, (Fr.refl w).alloc _⟩
theorem rindex832 (w : World) : Calls Try.prog 8 #[.int .i64 832] w fun e w' => e = .returned (.int .i64 1) ∧ Fr w w' := by
  go_enter Try.func8, Try.ntmps8
  go_wp2_with fail
  refine wp_loop_rounds 6 ?_
  rw [rounds_succ]
  go_wp2_with fail
  rw [rounds_succ]
  go_wp2_with fail
  go_ret
  exact ⟨rfl, (Fr.refl w).alloc _⟩
theorem rindex833 (w : World) : Calls Try.prog 8 #[.int .i64 833] w fun e w' => e = .returned (.int .i64 2) ∧ Fr w w' := by
  go_enter Try.func8, Try.ntmps8
  go_wp2_with fail
  refine wp_loop_rounds 6 ?_
  rw [rounds_succ]
  go_wp2_with fail
  rw [rounds_succ]
  go_wp2_with fail
  rw [rounds_succ]
  go_wp2_with fail
  go_ret
  exact ⟨rfl, (Fr.refl w).alloc _⟩
theorem rindex834 (w : World) : Calls Try.prog 8 #[.int .i64 834] w fun e w' => e = .returned (.int .i64 3) ∧ Fr w w' := by
  go_enter Try.func8, Try.ntmps8
  go_wp2_with fail
  refine wp_loop_rounds 6 ?_
  rw [rounds_succ]
  go_wp2_with fail
  rw [rounds_succ]
  go_wp2_with fail
  rw [rounds_succ]
  go_wp2_with fail
  rw [rounds_succ]
  go_wp2_with fail
  go_ret
  exact ⟨rfl, (Fr.refl w).alloc _⟩
theorem rindex835 (w : World) : Calls Try.prog 8 #[.int .i64 835] w fun e w' => e = .returned (.int .i64 4) ∧ Fr w w' := by
  go_enter Try.func8, Try.ntmps8
  go_wp2_with fail
  refine wp_loop_rounds 6 ?_
  rw [rounds_succ]
  go_wp2_with fail
  rw [rounds_succ]
  go_wp2_with fail
  rw [rounds_succ]
  go_wp2_with fail
  rw [rounds_succ]
  go_wp2_with fail
  rw [rounds_succ]
  go_wp2_with fail
  go_ret
  exact ⟨rfl, (Fr.refl w).alloc _⟩
theorem rindexNo (csr : Int) (h773 : (773 == csr) = false) (h832 : (832 == csr) = false) (h833 : (833 == csr) = false) (h834 : (834 == csr) = false) (h835 : (835 == csr) = false) (w : World) : Calls Try.prog 8 #[.int .i64 csr] w fun e w' => e = .returned (.int .i64 (-1)) ∧ Fr w w' := by
  go_enter Try.func8, Try.ntmps8
  go_wp2_with fail
  refine wp_loop_rounds 6 ?_
  rw [rounds_succ]
  go_wp2_with fail
  rw [rounds_succ]
  go_wp2_with fail
  rw [rounds_succ]
  go_wp2_with fail
  rw [rounds_succ]
  go_wp2_with fail
  rw [rounds_succ]
  go_wp2_with fail
  rw [rounds_succ]
  go_wp2_with fail
  go_ret
  exact ⟨rfl, (Fr.refl w).alloc _⟩
theorem index_as (csr c : Int) (C : Hid (Num.ix csr = c)) (w : World) : Calls Try.prog 7 #[.int .i64 csr] w fun e w' => e = .returned (.int .i64 c) ∧ w' = w := by
  obtain rfl : Num.ix csr = c := C
  by_cases h773 : csr = 773
  · subst h773; exact index773 w
  by_cases h832 : csr = 832
  · subst h832; exact index832 w
  by_cases h833 : csr = 833
  · subst h833; exact index833 w
  by_cases h834 : csr = 834
  · subst h834; exact index834 w
  by_cases h835 : csr = 835
  · subst h835; exact index835 w
  have z : Num.ix csr = -1 := by unfold Num.ix; simp only [h773, h832, h833, h834, h835, if_false]
  rw [z]
  exact indexNo csr (by simp [h773]) (by simp [h832]) (by simp [h833]) (by simp [h834]) (by simp [h835]) w
theorem rindex_as (csr c : Int) (C : Hid (Num.ix csr = c)) (w : World) : Calls Try.prog 8 #[.int .i64 csr] w fun e w' => e = .returned (.int .i64 c) ∧ Fr w w' := by
  obtain rfl : Num.ix csr = c := C
  by_cases h773 : csr = 773
  · subst h773; exact rindex773 w
  by_cases h832 : csr = 832
  · subst h832; exact rindex832 w
  by_cases h833 : csr = 833
  · subst h833; exact rindex833 w
  by_cases h834 : csr = 834
  · subst h834; exact rindex834 w
  by_cases h835 : csr = 835
  · subst h835; exact rindex835 w
  have z : Num.ix csr = -1 := by unfold Num.ix; simp only [h773, h832, h833, h834, h835, if_false]
  rw [z]
  exact rindexNo csr (by rw [beq_eq_false_iff_ne]; exact fun h => h773 h.symm) (by rw [beq_eq_false_iff_ne]; exact fun h => h832 h.symm) (by rw [beq_eq_false_iff_ne]; exact fun h => h833 h.symm) (by rw [beq_eq_false_iff_ne]; exact fun h => h834 h.symm) (by rw [beq_eq_false_iff_ne]; exact fun h => h835 h.symm) w
set_option maxHeartbeats 1000000 in
theorem raccess_in (op a p c : Int) (s g i k d : Bool) (a0 : 0 ≤ a) (P : Hid (a % 4 = p)) (G : Hid (Num.ft op p = g)) (I : Hid (Num.ins a = i)) (Z : Hid (Num.sz op = c)) (z : (c == 0) = false) (S : decide (16 ≤ op) = s) (K : (op == 18) = k) (D : Hid (Num.dev a = d)) (w : World) :
    Calls Try.prog 14 #[.int .i64 op, .int .u32 a] w fun e w' => e = two (Num.ac (!s) s k g i d) (Num.ab (!s) s k g i d) ∧ w' = w := by
  cases g
  · cases s
    all_goals
      go_enter Try.func14, Try.ntmps14
      go_wp2_with fail
      refine (rsize_as _ _ Z _).mono ?_; rintro e w ⟨rfl, rfl⟩
      go_wp2_with fail
      refine (rfits_as _ _ _ _ a0 P G _).mono ?_; rintro e w ⟨rfl, rfl⟩
      go_wp2_with fail
      go_ret2
      exact ⟨rfl, rfl⟩
  · cases i
    · cases s
      · go_enter Try.func14, Try.ntmps14
        go_wp2_with fail
        refine (rsize_as _ _ Z _).mono ?_; rintro e w ⟨rfl, rfl⟩
        go_wp2_with fail
        refine (rfits_as _ _ _ _ a0 P G _).mono ?_; rintro e w ⟨rfl, rfl⟩
        go_wp2_with fail
        refine (rinside_as _ _ I _).mono ?_; rintro e w ⟨rfl, rfl⟩
        go_wp2_with fail
        go_ret2
        exact ⟨rfl, rfl⟩
      · cases k
        · go_enter Try.func14, Try.ntmps14
          go_wp2_with fail
          refine (rsize_as _ _ Z _).mono ?_; rintro e w ⟨rfl, rfl⟩
          go_wp2_with fail
          refine (rfits_as _ _ _ _ a0 P G _).mono ?_; rintro e w ⟨rfl, rfl⟩
          go_wp2_with fail
          refine (rinside_as _ _ I _).mono ?_; rintro e w ⟨rfl, rfl⟩
          go_wp2_with fail
          go_ret2
          exact ⟨rfl, rfl⟩
        · cases d
          all_goals
            go_enter Try.func14, Try.ntmps14
            go_wp2_with fail
            refine (rsize_as _ _ Z _).mono ?_; rintro e w ⟨rfl, rfl⟩
            go_wp2_with fail
            refine (rfits_as _ _ _ _ a0 P G _).mono ?_; rintro e w ⟨rfl, rfl⟩
            go_wp2_with fail
            refine (rinside_as _ _ I _).mono ?_; rintro e w ⟨rfl, rfl⟩
            go_wp2_with fail
            refine (rdevice_as _ _ D _).mono ?_; rintro e w ⟨rfl, rfl⟩
            go_wp2_with fail
            go_ret2
            exact ⟨rfl, rfl⟩
    · cases s
      all_goals
        go_enter Try.func14, Try.ntmps14
        go_wp2_with fail
        refine (rsize_as _ _ Z _).mono ?_; rintro e w ⟨rfl, rfl⟩
        go_wp2_with fail
        refine (rfits_as _ _ _ _ a0 P G _).mono ?_; rintro e w ⟨rfl, rfl⟩
        go_wp2_with fail
        refine (rinside_as _ _ I _).mono ?_; rintro e w ⟨rfl, rfl⟩
        go_wp2_with fail
        go_ret2
        exact ⟨rfl, rfl⟩
theorem raccessNo (op a : Int) (Z : Hid (Num.sz op = 0)) (w : World) : Calls Try.prog 14 #[.int .i64 op, .int .u32 a] w fun e w' => e = two 0 false ∧ w' = w := by
  go_enter Try.func14, Try.ntmps14
  go_wp2_with fail
  refine (rsize_as _ _ Z _).mono ?_; rintro e w ⟨rfl, rfl⟩
  go_wp2_with fail
  go_ret2
  exact ⟨rfl, rfl⟩
theorem raccess_as (op a p : Int) (l s g i k d : Bool) (c : Int) (b : Bool) (a0 : 0 ≤ a) (P : Hid (a % 4 = p)) (G : Hid (Num.ft op p = g)) (I : Hid (Num.ins a = i)) (L : Hid (Num.isl op = l)) (S : Hid (Num.iss op = s)) (K : Hid ((op == 18) = k)) (D : Hid (Num.dev a = d))
    (C : Hid (Num.ac l s k g i d = c)) (B : Hid (Num.ab l s k g i d = b)) (w : World) : Calls Try.prog 14 #[.int .i64 op, .int .u32 a] w fun e w' => e = two c b ∧ w' = w := by
  obtain rfl : Num.ac l s k g i d = c := C
  obtain rfl : Num.ab l s k g i d = b := B
  obtain rfl : Num.isl op = l := L
  obtain rfl : Num.iss op = s := S
  obtain rfl : (op == 18) = k := K
  by_cases h11 : op = 11
  · subst h11; exact raccess_in 11 a p _ false g i false d a0 P G I rfl rfl rfl rfl D w
  by_cases h14 : op = 14
  · subst h14; exact raccess_in 14 a p _ false g i false d a0 P G I rfl rfl rfl rfl D w
  by_cases h16 : op = 16
  · subst h16; exact raccess_in 16 a p _ true g i false d a0 P G I rfl rfl rfl rfl D w
  by_cases h12 : op = 12
  · subst h12; exact raccess_in 12 a p _ false g i false d a0 P G I rfl rfl rfl rfl D w
  by_cases h15 : op = 15
  · subst h15; exact raccess_in 15 a p _ false g i false d a0 P G I rfl rfl rfl rfl D w
  by_cases h17 : op = 17
  · subst h17; exact raccess_in 17 a p _ true g i false d a0 P G I rfl rfl rfl rfl D w
  by_cases h13 : op = 13
  · subst h13; exact raccess_in 13 a p _ false g i false d a0 P G I rfl rfl rfl rfl D w
  by_cases h18 : op = 18
  · subst h18; exact raccess_in 18 a p _ true g i true d a0 P G I rfl rfl rfl rfl D w
  have e1 : Num.isl op = false := by unfold Num.isl; simp only [h11, h12, h13, h14, h15, if_false]
  have e2 : Num.iss op = false := by unfold Num.iss; simp only [h16, h17, h18, if_false]
  rw [e1, e2]
  exact raccessNo op a (show Num.sz op = 0 by unfold Num.sz; simp only [h11, h14, h16, h12, h15, h17, h13, h18, if_false]) w
end Go.Proofs.Ytbkhemgkhlonhaa.Walks
