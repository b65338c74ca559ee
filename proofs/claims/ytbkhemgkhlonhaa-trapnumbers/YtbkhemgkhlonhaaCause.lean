/- Causes: contracts of the program's and of the document's Inside, Device, Fetch, Access. -/
import Derived.Test.YtbkhemgkhlonhaaFits
namespace Go.Proofs.Ytbkhemgkhlonhaa.Num
/-- inside memory -/
def ins (a : Int) : Bool := decide (a < 4096)
/-- one of the two devices -/
def dev (a : Int) : Bool := if (a == 268435456) = true then true else (a == 268435460)
/-- the cause of a fetch, and whether there is one; z: a multiple of 4, i: inside -/
def fc (z i : Bool) : Int := match z, i with | true, false => 1 | _, _ => 0
def fb (z i : Bool) : Bool := match z, i with | true, true => false | _, _ => true
/-- the cause of an access; l: a load, s: a store, k: a store of a word, g: it fits, i: inside, d: a device -/
def ac (l s k g i d : Bool) : Int := if l = true then (if g = true then (if i = true then 0 else 5) else 4) else if s = true then (if g = true then (if i = true then 0 else if k = true then (if d = true then 0 else 7) else 7) else 6) else 0
def ab (l s k g i d : Bool) : Bool := if l = true then (if g = true then !i else true) else if s = true then (if g = true then (if i = true then false else if k = true then !d else true) else true) else false
end Go.Proofs.Ytbkhemgkhlonhaa.Num
namespace Go.Proofs.Ytbkhemgkhlonhaa.Walks
open Go.ChangeShapes Go.WideShapes Go.ChangeAt Go.RowKit
set_option linter.unusedVariables false
abbrev two (a : Int) (b : Bool) : Ending := .returned (.tuple #[.int .i64 a, .bool b])

theorem inside_as (a : Int) (i : Bool) (I : Hid (Num.ins a = i)) (w : World) : Calls Try.prog 12 #[.int .u32 a] w fun e w' => e = .returned (.bool i) ∧ w' = w := by
  obtain rfl : Num.ins a = i := I
  go_enter Try.func12, Try.ntmps12
  go_wp2_with fail
  go_ret
  exact ⟨rfl, rfl⟩
theorem device_in (a : Int) (c d : Bool) (C : (a == 268435456) = c) (D : (a == 268435460) = d) (w : World) : Calls Try.prog 16 #[.int .u32 a] w fun e w' => e = .returned (.bool (if c = true then true else d)) ∧ w' = w := by
  cases c <;> cases d
  all_goals
    go_enter Try.func16, Try.ntmps16
    go_wp2_with fail
    go_ret
    exact ⟨rfl, rfl⟩
theorem device_as (a : Int) (d : Bool) (D : Hid (Num.dev a = d)) (w : World) : Calls Try.prog 16 #[.int .u32 a] w fun e w' => e = .returned (.bool d) ∧ w' = w := by
  obtain rfl : Num.dev a = d := D
  exact device_in a _ _ rfl rfl w
theorem fetch_in (a q : Int) (z i : Bool) (P : a % 4 = q) (Q : a.tmod 4 = q) (Z : (q == 0) = z) (I : Hid (Num.ins a = i)) (w : World) : Calls Try.prog 11 #[.int .u32 a] w fun e w' => e = two (Num.fc z i) (Num.fb z i) ∧ w' = w := by
  cases z
  · go_enter Try.func11, Try.ntmps11
    go_wp2_with fail
    go_ret2
    exact ⟨rfl, rfl⟩
  · cases i
    all_goals
      go_enter Try.func11, Try.ntmps11
      go_wp2_with fail
      refine (inside_as _ _ I _).mono ?_; rintro e w ⟨rfl, rfl⟩
      go_wp2_with fail
      go_ret2
      exact ⟨rfl, rfl⟩
theorem fetch_as (a : Int) (a0 : 0 ≤ a) (z i : Bool) (c : Int) (b : Bool) (Z : Hid ((a % 4 == 0) = z)) (I : Hid (Num.ins a = i)) (C : Hid (Num.fc z i = c)) (B : Hid (Num.fb z i = b)) (w : World) : Calls Try.prog 11 #[.int .u32 a] w fun e w' => e = two c b ∧ w' = w := by
  obtain rfl : Num.fc z i = c := C
  obtain rfl : Num.fb z i = b := B
  exact fetch_in a _ z i rfl (Num.tmod4 a a0) Z I w
theorem rinside_as (a : Int) (i : Bool) (I : Hid (Num.ins a = i)) (w : World) : Calls Try.prog 15 #[.int .u32 a] w fun e w' => e = .returned (.bool i) ∧ w' = w := by
  obtain rfl : Num.ins a = i := I
  go_enter Try.func15, Try.ntmps15
  go_wp2_with fail
  go_ret
  exact ⟨rfl, rfl⟩
theorem rdevice_in (a : Int) (c d : Bool) (C : (a == 268435456) = c) (D : (a == 268435460) = d) (w : World) : Calls Try.prog 17 #[.int .u32 a] w fun e w' => e = .returned (.bool (if c = true then true else d)) ∧ w' = w := by
  cases c <;> cases d
  all_goals
    go_enter Try.func17, Try.ntmps17
    go_wp2_with fail
    go_ret
    exact ⟨rfl, rfl⟩
theorem rdevice_as (a : Int) (d : Bool) (D : Hid (Num.dev a = d)) (w : World) : Calls Try.prog 17 #[.int .u32 a] w fun e w' => e = .returned (.bool d) ∧ w' = w := by
  obtain rfl : Num.dev a = d := D
  exact rdevice_in a _ _ rfl rfl w
theorem rfetch_in (a q : Int) (z i : Bool) (P : a % 4 = q) (Q : a.tmod 4 = q) (Z : (q == 0) = z) (I : Hid (Num.ins a = i)) (w : World) : Calls Try.prog 13 #[.int .u32 a] w fun e w' => e = two (Num.fc z i) (Num.fb z i) ∧ w' = w := by
  cases z
  · go_enter Try.func13, Try.ntmps13
    go_wp2_with fail
    go_ret2
    exact ⟨rfl, rfl⟩
  · cases i
    all_goals
      go_enter Try.func13, Try.ntmps13
      go_wp2_with fail
      refine (rinside_as _ _ I _).mono ?_; rintro e w ⟨rfl, rfl⟩
      go_wp2_with fail
      go_ret2
      exact ⟨rfl, rfl⟩
theorem rfetch_as (a : Int) (a0 : 0 ≤ a) (z i : Bool) (c : Int) (b : Bool) (Z : Hid ((a % 4 == 0) = z)) (I : Hid (Num.ins a = i)) (C : Hid (Num.fc z i = c)) (B : Hid (Num.fb z i = b)) (w : World) : Calls Try.prog 13 #[.int .u32 a] w fun e w' => e = two c b ∧ w' = w := by
  obtain rfl : Num.fc z i = c := C
  obtain rfl : Num.fb z i = b := B
  exact rfetch_in a _ z i rfl (Num.tmod4 a a0) Z I w
theorem load_as (op a p : Int) (g i k d : Bool) (a0 : 0 ≤ a) (P : Hid (a % 4 = p)) (G : Hid (Num.ft op p = g)) (I : Hid (Num.ins a = i)) (w : World) : Calls Try.prog 19 #[.int .i64 op, .int .u32 a] w fun e w' => e = two (Num.ac true false k g i d) (Num.ab true false k g i d) ∧ w' = w := by
  cases g
  · go_enter Try.func19, Try.ntmps19
    go_wp2_with fail
    refine (fits_as _ _ _ _ a0 P G _).mono ?_; rintro e w ⟨rfl, rfl⟩
    go_wp2_with fail
    go_ret2
    exact ⟨rfl, rfl⟩
  · cases i
    all_goals
      go_enter Try.func19, Try.ntmps19
      go_wp2_with fail
      refine (fits_as _ _ _ _ a0 P G _).mono ?_; rintro e w ⟨rfl, rfl⟩
      go_wp2_with fail
      refine (inside_as _ _ I _).mono ?_; rintro e w ⟨rfl, rfl⟩
      go_wp2_with fail
      go_ret2
      exact ⟨rfl, rfl⟩
theorem tells_as (op a : Int) (k d : Bool) (K : (op == 18) = k) (D : Hid (Num.dev a = d)) (w : World) : Calls Try.prog 25 #[.int .i64 op, .int .u32 a] w fun e w' => e = .returned (.bool (if k = true then d else false)) ∧ w' = w := by
  cases k
  · go_enter Try.func25, Try.ntmps25
    go_wp2_with fail
    go_ret
    exact ⟨rfl, rfl⟩
  · go_enter Try.func25, Try.ntmps25
    go_wp2_with fail
    refine (device_as _ _ D _).mono ?_; rintro e w ⟨rfl, rfl⟩
    go_wp2_with fail
    go_ret
    exact ⟨rfl, rfl⟩
theorem tells_to (op a : Int) (k d t : Bool) (K : Hid ((op == 18) = k)) (D : Hid (Num.dev a = d)) (T : Hid ((if k = true then d else false) = t)) (w : World) : Calls Try.prog 25 #[.int .i64 op, .int .u32 a] w fun e w' => e = .returned (.bool t) ∧ w' = w := by
  obtain rfl : (if k = true then d else false) = t := T
  exact tells_as op a k d K D w
theorem store_as (op a p : Int) (g i k d : Bool) (a0 : 0 ≤ a) (P : Hid (a % 4 = p)) (G : Hid (Num.ft op p = g)) (I : Hid (Num.ins a = i)) (K : Hid ((op == 18) = k)) (D : Hid (Num.dev a = d)) (w : World) : Calls Try.prog 21 #[.int .i64 op, .int .u32 a] w fun e w' => e = two (Num.ac false true k g i d) (Num.ab false true k g i d) ∧ w' = w := by
  cases g
  · go_enter Try.func21, Try.ntmps21
    go_wp2_with fail
    refine (fits_as _ _ _ _ a0 P G _).mono ?_; rintro e w ⟨rfl, rfl⟩
    go_wp2_with fail
    go_ret2
    exact ⟨rfl, rfl⟩
  · cases i
    · cases k <;> cases d
      all_goals
        go_enter Try.func21, Try.ntmps21
        go_wp2_with fail
        refine (fits_as _ _ _ _ a0 P G _).mono ?_; rintro e w ⟨rfl, rfl⟩
        go_wp2_with fail
        refine (inside_as _ _ I _).mono ?_; rintro e w ⟨rfl, rfl⟩
        go_wp2_with fail
        refine (tells_to _ _ _ _ _ K D rfl _).mono ?_; rintro e w ⟨rfl, rfl⟩
        go_wp2_with fail
        go_ret2
        exact ⟨rfl, rfl⟩
    · go_enter Try.func21, Try.ntmps21
      go_wp2_with fail
      refine (fits_as _ _ _ _ a0 P G _).mono ?_; rintro e w ⟨rfl, rfl⟩
      go_wp2_with fail
      refine (inside_as _ _ I _).mono ?_; rintro e w ⟨rfl, rfl⟩
      go_wp2_with fail
      go_ret2
      exact ⟨rfl, rfl⟩
theorem isl_iss (op : Int) (h : Num.isl op = true) : Num.iss op = false := by
  unfold Num.isl at h
  by_cases h11 : op = 11
  · subst h11; rfl
  by_cases h12 : op = 12
  · subst h12; rfl
  by_cases h13 : op = 13
  · subst h13; rfl
  by_cases h14 : op = 14
  · subst h14; rfl
  by_cases h15 : op = 15
  · subst h15; rfl
  simp [h11, h12, h13, h14, h15] at h
theorem access_as (op a p : Int) (l s g i k d : Bool) (c : Int) (b : Bool) (a0 : 0 ≤ a) (P : Hid (a % 4 = p)) (G : Hid (Num.ft op p = g)) (I : Hid (Num.ins a = i)) (L : Hid (Num.isl op = l)) (S : Hid (Num.iss op = s)) (K : Hid ((op == 18) = k)) (D : Hid (Num.dev a = d))
    (C : Hid (Num.ac l s k g i d = c)) (B : Hid (Num.ab l s k g i d = b)) (w : World) : Calls Try.prog 10 #[.int .i64 op, .int .u32 a] w fun e w' => e = two c b ∧ w' = w := by
  obtain rfl : Num.ac l s k g i d = c := C
  obtain rfl : Num.ab l s k g i d = b := B
  cases l
  · cases s
    · go_enter Try.func10, Try.ntmps10
      go_wp2_with fail
      refine (loads_as _ _ L _).mono ?_; rintro e w ⟨rfl, rfl⟩
      go_wp2_with fail
      refine (stores_as _ _ S _).mono ?_; rintro e w ⟨rfl, rfl⟩
      go_wp2_with fail
      go_ret2
      exact ⟨rfl, rfl⟩
    · go_enter Try.func10, Try.ntmps10
      go_wp2_with fail
      refine (loads_as _ _ L _).mono ?_; rintro e w ⟨rfl, rfl⟩
      go_wp2_with fail
      refine (stores_as _ _ S _).mono ?_; rintro e w ⟨rfl, rfl⟩
      go_wp2_with fail
      refine (store_as _ _ _ _ _ _ _ a0 P G I K D _).mono ?_; rintro e w ⟨rfl, rfl⟩
      go_wp2_with fail
      go_ret2
      exact ⟨rfl, rfl⟩
  · obtain rfl : false = s := (isl_iss op L.out).symm.trans S.out
    go_enter Try.func10, Try.ntmps10
    go_wp2_with fail
    refine (loads_as _ _ L _).mono ?_; rintro e w ⟨rfl, rfl⟩
    go_wp2_with fail
    refine (load_as _ _ _ _ _ k d a0 P G I _).mono ?_; rintro e w ⟨rfl, rfl⟩
    go_wp2_with fail
    go_ret2
    exact ⟨rfl, rfl⟩
end Go.Proofs.Ytbkhemgkhlonhaa.Walks
