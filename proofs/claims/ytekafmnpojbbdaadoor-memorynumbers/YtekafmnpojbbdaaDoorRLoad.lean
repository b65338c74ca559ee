/- Contracts of the document's own place, Load, Store. -/
import Derived.Test.YtekafmnpojbbdaaDoorMNums
import Derived.Deep.RegionWith
import Derived.BigRegion
namespace Go.Proofs.YtekafmnpojbbdaaDoor.Walks
open Go.ChangeShapes Go.WideShapes Go.ChangeAt Go.RowKit
set_option linter.unusedVariables false
set_option maxHeartbeats 400000 in
theorem rinside_as (a : Int) (i : Bool) (I : Hid (decide (a < 4096) = i)) (w : World) : Calls Tryd.prog 47 #[.int .u32 a] w fun e w' => e = .returned (.bool i) ∧ w' = w := by
  obtain rfl : decide (a < 4096) = i := I
  go_enter Tryd.func47, Tryd.ntmps47
  go_wp2_with fail
  go_ret
  exact ⟨rfl, rfl⟩
set_option maxHeartbeats 400000 in
theorem rplace_in (a q : Int) (P : a % 4 = q) (Q : a.tmod 4 = q) (z i : Bool) (Z : (q == 0) = z) (I : Hid (decide (a < 4096) = i)) (w : World) :
    Calls Tryd.prog 36 #[.int .u32 a] w fun e w' => e = .returned (.int .i64 (if z = true then (if i = true then 0 else 14) else 13)) ∧ w' = w := by
  cases z
  · go_enter Tryd.func36, Tryd.ntmps36
    go_wp2_with fail
    go_ret
    exact ⟨rfl, rfl⟩
  · cases i
    all_goals
      go_enter Tryd.func36, Tryd.ntmps36
      go_wp2_with fail
      refine (rinside_as _ _ I _).mono ?_; rintro e w ⟨rfl, rfl⟩
      go_wp2_with fail
      go_ret
      exact ⟨rfl, rfl⟩
theorem rplace_as (a c : Int) (a0 : 0 ≤ a) (C : Hid (rfs a = c)) (w : World) : Calls Tryd.prog 36 #[.int .u32 a] w fun e w' => e = .returned (.int .i64 c) ∧ w' = w := by
  obtain rfl : rfs a = c := C
  have h := rplace_in a _ rfl (Int.tmod_eq_emod_of_nonneg a0) _ _ rfl rfl w
  have e : (if (a % 4 == 0) = true then (if decide (a < 4096) = true then (0 : Int) else 14) else 13) = rfs a := by
    unfold rfs
    by_cases h0 : a % 4 = 0
    · rw [if_pos (by rw [h0]; rfl), if_pos h0]
      by_cases h1 : a < 4096
      · rw [if_pos (by simpa using h1), if_pos h1]
      · rw [if_neg (by simpa using h1), if_neg h1]
    · rw [if_neg (by simpa using h0), if_neg h0]
  rw [e] at h
  exact h
set_option maxHeartbeats 1000000 in
theorem rload_ref (M : Nat) (a c : Int) (a0 : 0 ≤ a) (C : Hid (rfs a = c)) (hc : (c == 0) = false) (w : World) :
    Calls Tryd.prog 21 #[.pointer (some ⟨M, 0, none⟩), .int .u32 a] w fun e w' => e = .returned (.tuple #[.int .u32 0, .int .i64 c]) ∧ w' = w := by
  go_enter Tryd.func21, Tryd.ntmps21
  go_wp2_with fail
  refine (rplace_as _ _ a0 C _).mono ?_; rintro e w ⟨rfl, rfl⟩
  go_wp2_with fail
  go_ret2
  exact ⟨rfl, rfl⟩
set_option maxHeartbeats 2000000 in
theorem rload_core (M b d f nx : Nat) (ws : Nat → Nat) (a x s : Int) (g : Bool) (a0 : 0 ≤ a) (a1 : a ≤ 4294967295) (hf : (f : Int) ≤ 4000000000000000000) (C : Hid (rfs a = 0))
    (X : Hid (((pkV 1024 ws (a / 4) : Nat) : Int) = x)) (S : Hid (((pkS 1024 ws (a / 4) : Nat) : Int) = s)) (hg : (s == 2) = g) (w : World) (hM : Hid (MemAt M b d ws f nx w)) :
    Calls Tryd.prog 21 #[.pointer (some ⟨M, 0, none⟩), .int .u32 a] w fun e w' => e = .returned (.tuple #[.int .u32 (if g = true then 0 else x), .int .i64 (if g = true then 25 else 0)]) ∧ MNow M b d (gtW 1024 ws (a / 4)) (gtF 1024 ws f (a / 4)) nx w w' := by
  have hr := hM.out.hr
  cases g
  all_goals
    go_enter Tryd.func21, Tryd.ntmps21
    go_wp2_with fail
    refine (rplace_as _ _ a0 C _).mono ?_; rintro e w' ⟨rfl, rfl⟩
    go_wp2_with fail
    refine (refget_as b d 1024 f ws (a / 4) _ _ X S (by decide) (by omega) _ hM.out.row).mono ?_; rintro e w1 ⟨rfl, hF⟩
    have HF := hideP (hM.out.row_now hF)
    clear hF
    go_wp2_with fail
    go_ret2
    exact ⟨rfl, HF.out⟩
theorem rload_as (M b d f nx : Nat) (ws : Nat → Nat) (a x c : Int) (a0 : 0 ≤ a) (a1 : a ≤ 4294967295) (hf : (f : Int) ≤ 4000000000000000000)
    (X : Hid (((ldV ws a : Nat) : Int) = x)) (C : Hid (ldE ws a = c)) (w : World) (hM : Hid (MemAt M b d ws f nx w)) :
    Calls Tryd.prog 21 #[.pointer (some ⟨M, 0, none⟩), .int .u32 a] w fun e w' => e = .returned (.tuple #[.int .u32 x, .int .i64 c]) ∧ MNow M b d (ldW ws a) (ldF ws f a) nx w w' := by
  have X := X.out
  have C := C.out
  unfold ldV at X
  unfold ldE at C
  unfold ldW ldF
  by_cases h : rfs a = 0
  · rw [if_pos h] at X C ⊢
    rw [if_pos h]
    have := rload_core M b d f nx ws a _ _ _ a0 a1 hf h rfl rfl rfl w hM
    refine this.mono ?_
    rintro e w' ⟨rfl, hN⟩
    refine ⟨?_, hN⟩
    subst X C
    by_cases h2 : pkS 1024 ws (a / 4) = 2
    · rw [h2, if_pos rfl, if_pos rfl]; rfl
    · have : (((pkS 1024 ws (a / 4) : Nat) : Int) == 2) = false := by rw [beq_eq_false_iff_ne]; omega
      rw [this, if_neg h2, if_neg h2]; rfl
  · rw [if_neg h] at X C ⊢
    rw [if_neg h]
    subst X
    exact (rload_ref M a c a0 C (by rw [← C, beq_eq_false_iff_ne]; exact h) w).mono fun e w' hh => by obtain ⟨rfl, rfl⟩ := hh; exact ⟨rfl, MNow.refl hM.out⟩
end Go.Proofs.YtekafmnpojbbdaaDoor.Walks
