/- Proved: for every uint32 w and every int n the call FieldSigns(w, n) returns true and leaves its arguments as they were. No condition. -/
import Derived.Test.YtagmgfpnomampaaRows
import Derived.Test.YtagmgfpnomampaaSame
import Derived.WalkKit
import Derived.ProofKit
import Derived.OpenShut
namespace Go.Proofs.Ytagmgfpnomampaa.fieldSigns
open Go.ChangeShapes Go.WideShapes Go.ChangeAt Go.RowKit Walks
set_option linter.unusedVariables false      -- a walk need not use every 'w<i>' (that an integer argument fits its kind)

theorem own : ownKnob Try.prog.godebug = none := by kernel_rfl

set_option maxRecDepth 100000 in
set_option maxHeartbeats 1000000 in
theorem core (x n k v i s b u j : Int) (h0 : 0 ≤ x) (h1 : x ≤ 4294967295) (hk : bits .and .i64 n 31 = k) (k0 : 0 ≤ k) (k1 : k ≤ 31)
    (V : Hid (Num.sn x (1 + k) = v)) (I : Hid (Num.iI x = i)) (S : Hid (Num.iS x = s)) (B : Hid (Num.iB x = b)) (U : Hid (Num.iU x = u)) (J : Hid (Num.iJ x = j))
    (V2 : Hid (Num.sn (v % 4294967296) (1 + k) = v)) (z : Int) (E1 : v % 4294967296 * 2 ^ (32 - (1 + k)).toNat % 4294967296 = z) (E2 : x * 2 ^ (32 - (1 + k)).toNat % 4294967296 = z)
    (i0 : -2048 ≤ i) (i1 : i ≤ 2047) (s0 : -2048 ≤ s) (s1 : s ≤ 2047) (b0 : -4096 ≤ b) (b1 : b ≤ 4095) (b2 : bits .and .i32 b 1 = 0) (u2 : bits .and .i32 u 4095 = 0)
    (j0 : -1048576 ≤ j) (j1 : j ≤ 1048575) (j2 : bits .and .i32 j 1 = 0) (g f : Bool) (G1 : (decide (i < 0)) = g) (G2 : (x / 2147483648 == 1) = g) (F1 : (decide (j < 0)) = f) (F2 : (decide (b < 0)) = f) (w : World) :
    Calls Try.prog 5 #[.int .u32 x, .int .i64 n] w fun e w' => e = .returned (.bool true) ∧ w' = w := by
  go_enter Try.func5, Try.ntmps5
  go_wp2_with fail
  refine (sign_as _ _ _ V _).mono ?_; rintro e w' ⟨rfl, rfl⟩
  go_wp2_with fail
  refine (immI_as _ _ h0 h1 I _).mono ?_; rintro e w' ⟨rfl, rfl⟩
  go_wp2_with fail
  refine (immS_as _ _ h0 h1 S _).mono ?_; rintro e w' ⟨rfl, rfl⟩
  go_wp2_with fail
  refine (immB_as _ _ h0 h1 B _).mono ?_; rintro e w' ⟨rfl, rfl⟩
  go_wp2_with fail
  refine (immU_as _ _ h0 h1 U _).mono ?_; rintro e w' ⟨rfl, rfl⟩
  go_wp2_with fail
  refine (immJ_as _ _ h0 h1 J _).mono ?_; rintro e w' ⟨rfl, rfl⟩
  go_wp2_with fail
  refine (sign_as _ _ _ V2 _).mono ?_; rintro e w' ⟨rfl, rfl⟩
  go_wp2_with fail
  refine (known _).mono ?_; rintro e w' ⟨rfl, rfl⟩
  go_wp2_with fail
  go_ret
  exact ⟨rfl, rfl⟩
theorem sg_mod (h x : Int) : Num.sg h x % (2 * h) = x % (2 * h) := by
  unfold Num.sg
  rw [Int.sub_emod, Int.emod_emod, ← Int.sub_emod, Int.add_sub_cancel]
theorem sg_of_mod (h x y : Int) (e : x % (2 * h) = y % (2 * h)) : Num.sg h x = Num.sg h y := by
  unfold Num.sg
  rw [Int.add_emod, e, ← Int.add_emod]
theorem pow_dvd (k : Nat) (h : k ≤ 31) : 2 * (2 : Int) ^ k ∣ 4294967296 := by
  refine ⟨2 ^ (31 - k), ?_⟩
  rw [Int.mul_assoc, ← Int.pow_add, show k + (31 - k) = 31 by omega]
  rfl
theorem back_mod (k : Nat) (h : k ≤ 31) (x : Int) : Num.sg (2 ^ k) x % 4294967296 % (2 * 2 ^ k) = x % (2 * 2 ^ k) := by
  rw [Int.emod_emod_of_dvd _ (pow_dvd k h), sg_mod]
theorem sn_back (x k : Int) (k0 : 0 ≤ k) (k1 : k ≤ 31) : Num.sn (Num.sn x (1 + k) % 4294967296) (1 + k) = Num.sn x (1 + k) := by
  have e : (1 + k).toNat - 1 = k.toNat := by omega
  rw [Num.sn, if_pos (by omega), Num.sn, if_pos (by omega), e]
  exact sg_of_mod _ _ _ (back_mod k.toNat (by omega) x)
theorem up_same (x k : Int) (k0 : 0 ≤ k) (k1 : k ≤ 31) : Num.sn x (1 + k) % 4294967296 * 2 ^ (32 - (1 + k)).toNat % 4294967296 = x * 2 ^ (32 - (1 + k)).toNat % 4294967296 := by
  have e : (1 + k).toNat - 1 = k.toNat := by omega
  rw [Num.sn, if_pos (by omega), e, Num.shift_mod _ _ (k.toNat + 1) (by omega), Num.shift_mod _ _ (k.toNat + 1) (by omega), Int.pow_succ, Int.mul_comm _ 2, back_mod k.toNat (by omega) x]
theorem iI_neg (x : Int) (h0 : 0 ≤ x) (h1 : x ≤ 4294967295) : Num.iI x < 0 ↔ x / 2147483648 = 1 := by
  have e : x / 2147483648 = x / 1048576 / 2048 := by omega
  have a : 0 ≤ x / 1048576 := by omega
  have b : x / 1048576 < 4096 := by omega
  rw [Num.iI, Num.sg, e]
  generalize x / 1048576 = y at a b
  omega
theorem iB_neg (x : Int) : Num.iB x < 0 ↔ x / 2147483648 % 2 = 1 := by
  rw [Num.iB, Num.sg]
  have a : 0 ≤ x / 128 % 2 * 2048 + x / 33554432 % 64 * 32 + x / 256 % 16 * 2 := by omega
  have b : x / 128 % 2 * 2048 + x / 33554432 % 64 * 32 + x / 256 % 16 * 2 < 4096 := by omega
  rw [show x / 2147483648 % 2 * 4096 + x / 128 % 2 * 2048 + x / 33554432 % 64 * 32 + x / 256 % 16 * 2 = x / 2147483648 % 2 * 4096 + (x / 128 % 2 * 2048 + x / 33554432 % 64 * 32 + x / 256 % 16 * 2) by omega]
  generalize x / 128 % 2 * 2048 + x / 33554432 % 64 * 32 + x / 256 % 16 * 2 = r at a b ⊢
  rcases (show x / 2147483648 % 2 = 0 ∨ x / 2147483648 % 2 = 1 by omega) with h | h <;> rw [h] <;> omega
theorem iJ_neg (x : Int) : Num.iJ x < 0 ↔ x / 2147483648 % 2 = 1 := by
  rw [Num.iJ, Num.sg]
  have a : 0 ≤ x / 4096 % 256 * 4096 + x / 1048576 % 2 * 2048 + x / 2097152 % 1024 * 2 := by omega
  have b : x / 4096 % 256 * 4096 + x / 1048576 % 2 * 2048 + x / 2097152 % 1024 * 2 < 1048576 := by omega
  rw [show x / 2147483648 % 2 * 1048576 + x / 4096 % 256 * 4096 + x / 1048576 % 2 * 2048 + x / 2097152 % 1024 * 2 = x / 2147483648 % 2 * 1048576 + (x / 4096 % 256 * 4096 + x / 1048576 % 2 * 2048 + x / 2097152 % 1024 * 2) by omega]
  generalize x / 4096 % 256 * 4096 + x / 1048576 % 2 * 2048 + x / 2097152 % 1024 * 2 = r at a b ⊢
  rcases (show x / 2147483648 % 2 = 0 ∨ x / 2147483648 % 2 = 1 by omega) with h | h <;> rw [h] <;> omega
theorem sg_in (h x : Int) (h0 : 0 < h) : -h ≤ Num.sg h x ∧ Num.sg h x ≤ h - 1 := by
  have a := Int.emod_nonneg (x + h) (show 2 * h ≠ 0 by omega)
  have b := Int.emod_lt_of_pos (x + h) (show 0 < 2 * h by omega)
  unfold Num.sg
  omega
theorem sg_dvd (h x m : Int) (d : m ∣ h) (e : x % m = 0) : Num.sg h x % m = 0 := by
  have f : m ∣ 2 * h := Int.dvd_mul_of_dvd_right d
  have g := sg_mod h x
  rw [← Int.emod_emod_of_dvd (Num.sg h x) f, g, Int.emod_emod_of_dvd x f, e]
theorem walk (a0 : Int) (a1 : Int) (w0 : (Lit.int .u32 a0).wf = true) (w1 : (Lit.int .i64 a1).wf = true) (w : World) :
    Calls Try.prog 5 #[.int .u32 a0, .int .i64 a1] w fun e w' => e = .returned (.bool true) ∧ Grown w w' := by
  obtain ⟨h0, h1'⟩ := bounds_u32 w0
  have h1 : a0 ≤ 4294967295 := by omega
  obtain ⟨k, hk, k0, k1⟩ := Num.and_small 31 a1 5 (by decide) (by decide)
  have I : -2048 ≤ Num.iI a0 ∧ Num.iI a0 ≤ 2047 := sg_in 2048 _ (by decide)
  have S : -2048 ≤ Num.iS a0 ∧ Num.iS a0 ≤ 2047 := sg_in 2048 _ (by decide)
  have B : -4096 ≤ Num.iB a0 ∧ Num.iB a0 ≤ 4095 := sg_in 4096 _ (by decide)
  have J : -1048576 ≤ Num.iJ a0 ∧ Num.iJ a0 ≤ 1048575 := sg_in 1048576 _ (by decide)
  have B2 : Num.iB a0 % 2 = 0 := sg_dvd 4096 _ 2 (by decide) (by omega)
  have U2 : Num.iU a0 % 4096 = 0 := sg_dvd 2147483648 _ 4096 (by decide) (by omega)
  have J2 : Num.iJ a0 % 2 = 0 := sg_dvd 1048576 _ 2 (by decide) (by omega)
  refine (core a0 a1 k _ _ _ _ _ _ h0 h1 hk k0 k1 rfl rfl rfl rfl rfl rfl (sn_back a0 k k0 k1) _ (up_same a0 k k0 k1) rfl
    I.1 I.2 S.1 S.2 B.1 B.2 (Num.and_zero _ 1 1 (by decide) (by decide) B2) (Num.and_zero _ 4095 12 (by decide) (by decide) U2)
    J.1 J.2 (Num.and_zero _ 1 1 (by decide) (by decide) J2) _ _ rfl ?_ rfl ?_ w).mono fun e w' h => ?_
  · rw [Bool.eq_iff_iff, beq_iff_eq, decide_eq_true_iff, iI_neg a0 h0 h1]
  · rw [Bool.eq_iff_iff, decide_eq_true_iff, decide_eq_true_iff, iB_neg, iJ_neg]
  obtain ⟨rfl, rfl⟩ := h
  exact ⟨rfl, Grown.refl _⟩

/-! ### THE ROW's STEP: WRITTEN OUT: LEAVE IT -/
set_option maxRecDepth 100000 in
theorem lifted (os : Os) (started : os.Started) (H : Type) (enc : TypeId × Value → H) :
    ReturnsInHanded {} Try.checked os 5 .any (Rows.fieldSignsSpec.pre6 enc Try.prog Try.f5 Rows.fieldSignsRow.domain false) (Rows.fieldSignsSpec.post enc Try.prog Try.f5 false true false false) := by
  refine returnsInHanded_of_change (C := Try.checked) own started (by kernel_rfl) Try.func5
    (ChangeSpec.witness6 (enc := enc) (C := Try.checked) false ⟨#[], #[.int .u32 0, .int .i64 0], []⟩ 8 (by kernel_rfl) (by kernel_rfl) (by kernel_rfl) (by kernel_rfl)) ?_
  intro W base args ds gs before hval0 hW hcnd _
  have hval : ∀ (j : Nat) t v, Try.f5.params[j]? = some t → args[j]? = some v → Value.okWide Try.prog W .any base t v := hval0
  have hW' := hW
  obtain ⟨p, q, hA0, hV, rfl, hfz, hnd⟩ := hW
  have hA : DataW.TrodAll enc Try.prog W 0 (fun _ => true) true Try.f5.params.toList args.toList ds p := hA0
  rw [Try.params5] at hA hval
  obtain ⟨v0, vs0, d0, ds0, p0, q0, hargs, rfl, rfl, h0, r0⟩ := trodAll_cons hA
  obtain ⟨v1, vs1, d1, ds1, p1, q1, rfl, rfl, rfl, h1, r1⟩ := trodAll_cons r0
  obtain ⟨rfl, rfl, rfl⟩ := trodAll_nil r1
  obtain rfl : args = #[v0, v1] := by cases args; simp_all
  obtain ⟨rfl, rfl⟩ := trodVars_none hV
  obtain ⟨a0, rfl, rfl, rfl, w0⟩ := open_int Try.underlying23 (hval 0 23 v0 rfl rfl) h0
  obtain ⟨a1, rfl, rfl, rfl, w1⟩ := open_int Try.underlying3 (hval 1 3 v1 rfl rfl) h1
  clear hA0 hval0
  simp only [List.append_nil] at hW'
  refine (walk a0 a1 w0 w1 W).mono fun e W' ⟨he, hg⟩ => ?_
  subst he
  exact ⟨_, rfl, post_of_same (pa := []) (pv := []) hW' (fun _ _ _ => (trodAll_cons_mk (shut_bool Try.underlying4 _) trodAll_mk0)) (fun sp _ => (trodAll_cons_mk (shut_int Try.underlying23 w0) (trodAll_cons_mk (shut_int Try.underlying3 w1) trodAll_mk0))) (fun _ _ => rfl) rfl
    (hg.frame _) hg.2.1 (ok_one (by kernel_rfl) rfl (okWide_bool_mk Try.underlying4 _))⟩

theorem over : Rows.fieldSignsRow.holds Try.pinned (OpenSpec.ofChange Rows.fieldSignsSpec) :=
  OpenClaim.holds_of_wide 5 Try.f5 rfl rfl rfl rfl rfl rfl rfl ⟨rfl, rfl, rfl, rfl, rfl⟩ rfl rfl rfl rfl rfl (by kernel_rfl) Try.func5 (by kernel_rfl)
    (of_decide_eq_true (by kernel_rfl)) (by unfold Func.isWrapper; first | (rw [if_pos (by decide +kernel)]; kernel_rfl) | (rw [if_neg (by decide +kernel)]; exact ⟨rfl, rfl⟩))
    (fun os started H enc _ => lifted os started H enc)

/-- ████ THE STATEMENT ████ -/
theorem proved : Rows.FieldSignsSaid :=
  over
#print axioms proved
end Go.Proofs.Ytagmgfpnomampaa.fieldSigns
