/- Proved: for every uint32 w and every int n the call FieldParts(w, n) returns true and leaves its arguments as they were. No condition. -/
import Derived.Test.YtagmgfpnomampaaRows
import Derived.Test.YtagmgfpnomampaaSame
import Derived.WalkKit
import Derived.ProofKit
import Derived.OpenShut
namespace Go.Proofs.Ytagmgfpnomampaa.fieldParts
open Go.ChangeShapes Go.WideShapes Go.ChangeAt Go.RowKit Walks
set_option linter.unusedVariables false      -- a walk need not use every 'w<i>' (that an integer argument fits its kind)

theorem own : ownKnob Try.prog.godebug = none := by kernel_rfl

set_option maxHeartbeats 1000000 in
theorem core (v n k b c : Int) (h0 : 0 ≤ v) (h1 : v ≤ 4294967295) (hk : bits .and .i64 n 15 = k) (k0 : 0 ≤ k) (k1 : k ≤ 15)
    (B : Hid (Num.bt v 0 (1 + k) = b)) (C : Hid (Num.bt v (1 + k) (32 - (1 + k)) = c)) (W : Hid (Num.bt v 0 32 = v)) (L : Hid (Num.bt v 31 5 = v / 2147483648)) (O : bits .or .u32 b (c * 2 ^ (1 + k).toNat % 4294967296) = v) (w : World) :
    Calls Try.prog 6 #[.int .u32 v, .int .i64 n] w fun e w' => e = .returned (.bool true) ∧ w' = w := by
  go_enter Try.func6, Try.ntmps6
  go_wp2_with fail
  refine (bits_as _ _ _ _ B _).mono ?_; rintro e w' ⟨rfl, rfl⟩
  go_wp2_with fail
  refine (bits_as _ _ _ _ C _).mono ?_; rintro e w' ⟨rfl, rfl⟩
  go_wp2_with fail
  refine (bits_as _ _ _ _ W _).mono ?_; rintro e w' ⟨rfl, rfl⟩
  go_wp2_with fail
  refine (bits_as _ _ _ _ L _).mono ?_; rintro e w' ⟨rfl, rfl⟩
  go_wp2_with fail
  refine (known _).mono ?_; rintro e w' ⟨rfl, rfl⟩
  go_wp2_with fail
  go_ret
  exact ⟨rfl, rfl⟩
theorem join_nat (v m n : Nat) (h : m + n = 32) (hv : v < 4294967296) : v / 2 ^ 0 % 2 ^ m ||| v / 2 ^ m % 2 ^ n * 2 ^ m = v := by
  have l : v / 2 ^ m < 2 ^ n := by
    rw [Nat.div_lt_iff_lt_mul (Nat.two_pow_pos m), ← Nat.pow_add, Nat.add_comm, h]; exact hv
  rw [Nat.pow_zero, Nat.div_one, Nat.mod_eq_of_lt l, Nat.or_comm, nat_join m _ _ (Nat.mul_mod_left _ _) (Nat.mod_lt _ (Nat.two_pow_pos m)), Nat.mul_comm, Nat.div_add_mod]
theorem join (v k : Int) (h0 : 0 ≤ v) (h1 : v ≤ 4294967295) (k0 : 0 ≤ k) (k1 : k ≤ 15) :
    bits .or .u32 (Num.bt v 0 (1 + k)) (Num.bt v (1 + k) (32 - (1 + k)) * 2 ^ (1 + k).toNat % 4294967296) = v := by
  obtain ⟨a, rfl⟩ := Int.eq_ofNat_of_zero_le h0
  obtain ⟨b, rfl⟩ := Int.eq_ofNat_of_zero_le k0
  have ha : a < 4294967296 := by omega
  have hb : b ≤ 15 := by omega
  have e1 : (1 + (b : Int)).toNat = 1 + b := by omega
  have e2 : (32 - (1 + (b : Int))).toNat = 31 - b := by omega
  rw [Num.bt, if_pos (by omega), Num.bt, if_pos (by omega), e1, e2]
  have j := join_nat a (1 + b) (31 - b) (by omega) ha
  have l1 : a / 2 ^ (0 : Int).toNat % 2 ^ (1 + b) ≤ a := Nat.le_trans (Nat.mod_le _ _) (Nat.div_le_self _ _)
  have l2 : a / 2 ^ (1 + b) % 2 ^ (31 - b) * 2 ^ (1 + b) ≤ a := Nat.le_trans (Nat.mul_le_mul_right _ (Nat.mod_le _ _)) (Nat.div_mul_le_self _ _)
  have c1 : (a : Int) / 2 ^ (0 : Int).toNat % 2 ^ (1 + b) = ((a / 2 ^ (0 : Int).toNat % 2 ^ (1 + b) : Nat) : Int) := by simp
  have c2 : (a : Int) / 2 ^ (1 + b) % 2 ^ (31 - b) * 2 ^ (1 + b) = ((a / 2 ^ (1 + b) % 2 ^ (31 - b) * 2 ^ (1 + b) : Nat) : Int) := by simp
  have c3 : ((a / 2 ^ (1 + b) % 2 ^ (31 - b) * 2 ^ (1 + b) : Nat) : Int) % 4294967296 = ((a / 2 ^ (1 + b) % 2 ^ (31 - b) * 2 ^ (1 + b) : Nat) : Int) := by
    generalize a / 2 ^ (1 + b) % 2 ^ (31 - b) * 2 ^ (1 + b) = y at l2 ⊢
    omega
  rw [c1, c2, c3, u32_or_nat _ _ (by omega) (by omega)]
  exact congrArg _ j
theorem walk (a0 : Int) (a1 : Int) (w0 : (Lit.int .u32 a0).wf = true) (w1 : (Lit.int .i64 a1).wf = true) (w : World) :
    Calls Try.prog 6 #[.int .u32 a0, .int .i64 a1] w fun e w' => e = .returned (.bool true) ∧ Grown w w' := by
  obtain ⟨h0, h1'⟩ := bounds_u32 w0
  have h1 : a0 ≤ 4294967295 := by omega
  obtain ⟨k, hk, k0, k1⟩ := Num.and_small 15 a1 4 (by decide) (by decide)
  have b1 : Num.bt a0 0 32 = a0 := by rw [Num.bt_lit a0 0 32 1 4294967296 (by decide) (by decide) (by decide) (by decide) (by decide) (by decide)]; omega
  have b2 : Num.bt a0 31 5 = a0 / 2147483648 := by rw [Num.bt_lit a0 31 5 2147483648 32 (by decide) (by decide) (by decide) (by decide) (by decide) (by decide)]; omega
  refine (core a0 a1 k _ _ h0 h1 hk k0 k1 rfl rfl b1 b2 (join a0 k h0 h1 k0 k1) w).mono fun e w' h => ?_
  obtain ⟨rfl, rfl⟩ := h
  exact ⟨rfl, Grown.refl _⟩

/-! ### THE ROW's STEP: WRITTEN OUT: LEAVE IT -/
set_option maxRecDepth 100000 in
theorem lifted (os : Os) (started : os.Started) (H : Type) (enc : TypeId × Value → H) :
    ReturnsInHanded {} Try.checked os 6 .any (Rows.fieldPartsSpec.pre6 enc Try.prog Try.f6 Rows.fieldPartsRow.domain false) (Rows.fieldPartsSpec.post enc Try.prog Try.f6 false true false false) := by
  refine returnsInHanded_of_change (C := Try.checked) own started (by kernel_rfl) Try.func6
    (ChangeSpec.witness6 (enc := enc) (C := Try.checked) false ⟨#[], #[.int .u32 0, .int .i64 0], []⟩ 8 (by kernel_rfl) (by kernel_rfl) (by kernel_rfl) (by kernel_rfl)) ?_
  intro W base args ds gs before hval0 hW hcnd _
  have hval : ∀ (j : Nat) t v, Try.f6.params[j]? = some t → args[j]? = some v → Value.okWide Try.prog W .any base t v := hval0
  have hW' := hW
  obtain ⟨p, q, hA0, hV, rfl, hfz, hnd⟩ := hW
  have hA : DataW.TrodAll enc Try.prog W 0 (fun _ => true) true Try.f6.params.toList args.toList ds p := hA0
  rw [Try.params6] at hA hval
  obtain ⟨v0, vs0, d0, ds0, p0, q0, hargs, rfl, rfl, h0, r0⟩ := trodAll_cons hA
  obtain ⟨v1, vs1, d1, ds1, p1, q1, rfl, rfl, rfl, h1, r1⟩ := trodAll_cons r0
  obtain ⟨rfl, rfl, rfl⟩ := trodAll_nil r1
  obtain rfl : args = #[v0, v1] := by cases args; simp_all
  obtain ⟨rfl, rfl⟩ := trodVars_none hV
  obtain ⟨a0, rfl, rfl, rfl, w0⟩ := open_int Try.underlying23 (hval 0 23 v0 rfl rfl) h0
  obtain ⟨a1, rfl, rfl, rfl, w1⟩ := open_int Try.underlying3 (hval 1 3 v1 rfl rfl) h1
  clear hA0 hval0
  simp only [List.append_nil] at hW'
  refine (walk a0 a1 w0 w1 W).mono fun e W' ⟨he, hg⟩ => ?_
  subst he
  exact ⟨_, rfl, post_of_same (pa := []) (pv := []) hW' (fun _ _ _ => (trodAll_cons_mk (shut_bool Try.underlying4 _) trodAll_mk0)) (fun sp _ => (trodAll_cons_mk (shut_int Try.underlying23 w0) (trodAll_cons_mk (shut_int Try.underlying3 w1) trodAll_mk0))) (fun _ _ => rfl) rfl
    (hg.frame _) hg.2.1 (ok_one (by kernel_rfl) rfl (okWide_bool_mk Try.underlying4 _))⟩

theorem over : Rows.fieldPartsRow.holds Try.pinned (OpenSpec.ofChange Rows.fieldPartsSpec) :=
  OpenClaim.holds_of_wide 6 Try.f6 rfl rfl rfl rfl rfl rfl rfl ⟨rfl, rfl, rfl, rfl, rfl⟩ rfl rfl rfl rfl rfl (by kernel_rfl) Try.func6 (by kernel_rfl)
    (of_decide_eq_true (by kernel_rfl)) (by unfold Func.isWrapper; first | (rw [if_pos (by decide +kernel)]; kernel_rfl) | (rw [if_neg (by decide +kernel)]; exact ⟨rfl, rfl⟩))
    (fun os started H enc _ => lifted os started H enc)

/-- ████ THE STATEMENT ████ -/
theorem proved : Rows.FieldPartsSaid :=
  over
#print axioms proved
end Go.Proofs.Ytagmgfpnomampaa.fieldParts
