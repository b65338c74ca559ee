/- Contracts of the program's refusal, place, Flip, Bits, Fixes, Load. -/
import Derived.Test.YtekafmnpojbbdaaDoorMNums
import Derived.Deep.RegionWith
import Derived.BigRegion
namespace Go.Proofs.YtekafmnpojbbdaaDoor.Walks
open Go.ChangeShapes Go.WideShapes Go.ChangeAt Go.RowKit
set_option linter.unusedVariables false
set_option maxHeartbeats 400000 in
theorem inside_as (a : Int) (i : Bool) (I : Hid (decide (a < 4096) = i)) (w : World) : Calls Tryd.prog 44 #[.int .u32 a] w fun e w' => e = .returned (.bool i) ∧ w' = w := by
  obtain rfl : decide (a < 4096) = i := I
  go_enter Tryd.func44, Tryd.ntmps44
  go_wp2_with fail
  go_ret
  exact ⟨rfl, rfl⟩
set_option maxHeartbeats 400000 in
theorem refusal_in (a q : Int) (P : a % 4 = q) (Q : a.tmod 4 = q) (z i : Bool) (Z : (q == 0) = z) (I : Hid (decide (a < 4096) = i)) (w : World) :
    Calls Tryd.prog 30 #[.int .u32 a] w fun e w' => e = .returned (.int .i64 (if z = true then (if i = true then 0 else 14) else 13)) ∧ w' = w := by
  cases z
  · go_enter Tryd.func30, Tryd.ntmps30
    go_wp2_with fail
    go_ret
    exact ⟨rfl, rfl⟩
  · cases i
    all_goals
      go_enter Tryd.func30, Tryd.ntmps30
      go_wp2_with fail
      refine (inside_as _ _ I _).mono ?_; rintro e w ⟨rfl, rfl⟩
      go_wp2_with fail
      go_ret
      exact ⟨rfl, rfl⟩
theorem refusal_as (a c : Int) (a0 : 0 ≤ a) (C : Hid (rfs a = c)) (w : World) : Calls Tryd.prog 30 #[.int .u32 a] w fun e w' => e = .returned (.int .i64 c) ∧ w' = w := by
  obtain rfl : rfs a = c := C
  have h := refusal_in a _ rfl (Int.tmod_eq_emod_of_nonneg a0) _ _ rfl rfl w
  have e : (if (a % 4 == 0) = true then (if decide (a < 4096) = true then (0 : Int) else 14) else 13) = rfs a := by
    unfold rfs
    by_cases h0 : a % 4 = 0
    · rw [if_pos (by rw [h0]; rfl), if_pos h0]
      by_cases h1 : a < 4096
      · rw [if_pos (by simpa using h1), if_pos h1]
      · rw [if_neg (by simpa using h1), if_neg h1]
    · rw [if_neg (by simpa using h0), if_neg h0]
  rw [e] at h
  exact h
set_option maxHeartbeats 400000 in
theorem mplace_as (a k : Int) (a0 : 0 ≤ a) (a1 : a ≤ 4294967295) (K : Hid (a / 4 = k)) (w : World) : Calls Tryd.prog 32 #[.int .u32 a] w fun e w' => e = .returned (.int .i64 k) ∧ w' = w := by
  obtain rfl : a / 4 = k := K
  go_enter Tryd.func32, Tryd.ntmps32
  go_wp2_with fail
  go_ret
  exact ⟨rfl, rfl⟩
set_option maxHeartbeats 400000 in
theorem mfixes_as (M b f : Nat) (w : World) (hr : w.cell? ⟨M, 0, none⟩ = some (.pointer (some ⟨b, 0, none⟩))) (hf : w.cell? ⟨b, 1, none⟩ = some (.int .i64 f)) :
    Calls Tryd.prog 14 #[.pointer (some ⟨M, 0, none⟩)] w fun e w' => e = .returned (.int .i64 f) ∧ w' = w := by
  go_enter Tryd.func14, Tryd.ntmps14
  go_wp2_with fail
  refine (fixes_as b f _ hf).mono ?_; rintro e w ⟨rfl, rfl⟩
  go_wp2_with fail
  go_ret
  exact ⟨rfl, rfl⟩
set_option maxHeartbeats 400000 in
theorem mbits_as (M b d : Nat) (w : World) (hr : w.cell? ⟨M, 0, none⟩ = some (.pointer (some ⟨b, 0, none⟩))) (hs : w.cell? ⟨b, 0, none⟩ = some (.slice (some ⟨d, 0, none⟩) 1024 1024)) :
    Calls Tryd.prog 23 #[.pointer (some ⟨M, 0, none⟩)] w fun e w' => e = .returned (.int .i64 39936) ∧ w' = w := by
  go_enter Tryd.func23, Tryd.ntmps23
  go_wp2_with fail
  refine (bits_as b d 1024 (by decide) _ hs).mono ?_; rintro e w ⟨rfl, rfl⟩
  go_wp2_with fail
  go_ret
  exact ⟨rfl, rfl⟩
set_option maxHeartbeats 1000000 in
theorem mflip_as (M b d f nx : Nat) (ws : Nat → Nat) (i : Int) (g : Bool) (G : Hid (inF 1024 i = g)) (w : World) (hM : Hid (MemAt M b d ws f nx w)) :
    Calls Tryd.prog 11 #[.pointer (some ⟨M, 0, none⟩), .int .i64 i] w fun e w' => e = .returned (.bool g) ∧ MNow M b d (flW 1024 ws i) f nx w w' := by
  have hr := hM.out.hr
  go_enter Tryd.func11, Tryd.ntmps11
  go_wp2_with fail
  refine (flip_as b d 1024 f ws _ _ G (by decide) _ hM.out.row).mono ?_; rintro e w1 ⟨rfl, hF⟩
  have HF := hideP (hM.out.row_now hF)
  clear hF
  go_wp2_with fail
  go_ret
  exact ⟨rfl, HF.out⟩
set_option maxHeartbeats 1000000 in
theorem mload_ref (M : Nat) (a c : Int) (a0 : 0 ≤ a) (C : Hid (rfs a = c)) (hc : (c == 0) = false) (w : World) :
    Calls Tryd.prog 16 #[.pointer (some ⟨M, 0, none⟩), .int .u32 a] w fun e w' => e = .returned (.tuple #[.int .u32 0, .int .i64 c]) ∧ w' = w := by
  go_enter Tryd.func16, Tryd.ntmps16
  go_wp2_with fail
  refine (refusal_as _ _ a0 C _).mono ?_; rintro e w ⟨rfl, rfl⟩
  go_wp2_with fail
  go_ret2
  exact ⟨rfl, rfl⟩
set_option maxHeartbeats 2000000 in
theorem mload_core (M b d f nx : Nat) (ws : Nat → Nat) (a k x s : Int) (g : Bool) (a0 : 0 ≤ a) (a1 : a ≤ 4294967295) (hf : (f : Int) ≤ 4000000000000000000) (C : Hid (rfs a = 0)) (K : Hid (a / 4 = k))
    (X : Hid (((pkV 1024 ws k : Nat) : Int) = x)) (S : Hid (((pkS 1024 ws k : Nat) : Int) = s)) (hg : (s == 2) = g) (w : World) (hL : Hid (Laid w)) (hM : Hid (MemAt M b d ws f nx w)) :
    Calls Tryd.prog 16 #[.pointer (some ⟨M, 0, none⟩), .int .u32 a] w fun e w' => e = .returned (.tuple #[.int .u32 (if g = true then 0 else x), .int .i64 (if g = true then 25 else 0)]) ∧ MNow M b d (gtW 1024 ws k) (gtF 1024 ws f k) nx w w' := by
  have hr := hM.out.hr
  cases g
  all_goals
    go_enter Tryd.func16, Tryd.ntmps16
    go_wp2_with fail
    refine (refusal_as _ _ a0 C _).mono ?_; rintro e w' ⟨rfl, rfl⟩
    go_wp2_with fail
    go_region_with (first
      | (go_at_call 32; refine (mplace_as _ _ a0 a1 K _).mono ?_; rintro e w' ⟨rfl, rfl⟩)
      | (go_at_call 31; refine (get_as b d 1024 f ws _ _ _ X S (by decide) (by omega) _ (by exact Laid.alike hL.out ⟨rfl, rfl, rfl⟩) (by exact hM.out.row.heap rfl)).mono ?_; rintro e w1 ⟨rfl, hF⟩))
    all_goals
      have HF := hideP (hM.out.row_now hF.drew)
      clear hF
      go_wp2_with fail
      go_ret2
      exact ⟨rfl, HF.out⟩
theorem mload_as (M b d f nx : Nat) (ws : Nat → Nat) (a x c : Int) (a0 : 0 ≤ a) (a1 : a ≤ 4294967295) (hf : (f : Int) ≤ 4000000000000000000)
    (X : Hid (((ldV ws a : Nat) : Int) = x)) (C : Hid (ldE ws a = c)) (w : World) (hL : Hid (Laid w)) (hM : Hid (MemAt M b d ws f nx w)) :
    Calls Tryd.prog 16 #[.pointer (some ⟨M, 0, none⟩), .int .u32 a] w fun e w' => e = .returned (.tuple #[.int .u32 x, .int .i64 c]) ∧ MNow M b d (ldW ws a) (ldF ws f a) nx w w' := by
  have X := X.out
  have C := C.out
  unfold ldV at X
  unfold ldE at C
  unfold ldW ldF
  by_cases h : rfs a = 0
  · rw [if_pos h] at X C ⊢
    rw [if_pos h]
    have := mload_core M b d f nx ws a _ _ _ _ a0 a1 hf h rfl rfl rfl rfl w hL hM
    refine this.mono ?_
    rintro e w' ⟨rfl, hN⟩
    refine ⟨?_, hN⟩
    subst X C
    by_cases h2 : pkS 1024 ws (a / 4) = 2
    · rw [h2, if_pos rfl, if_pos rfl]; rfl
    · have : (((pkS 1024 ws (a / 4) : Nat) : Int) == 2) = false := by rw [beq_eq_false_iff_ne]; omega
      rw [this, if_neg h2, if_neg h2]; rfl
  · rw [if_neg h] at X C ⊢
    rw [if_neg h]
    subst X
    exact (mload_ref M a c a0 C (by rw [← C, beq_eq_false_iff_ne]; exact h) w).mono fun e w' hh => by obtain ⟨rfl, rfl⟩ := hh; exact ⟨rfl, MNow.refl hM.out⟩
end Go.Proofs.YtekafmnpojbbdaaDoor.Walks
