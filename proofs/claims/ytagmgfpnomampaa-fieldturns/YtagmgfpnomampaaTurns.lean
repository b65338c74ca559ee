/- Proved: for every uint32 w and every int n the call FieldTurns(w, n) returns true and leaves its arguments as they were. No condition. -/
import Derived.Test.YtagmgfpnomampaaRows
import Derived.Test.YtagmgfpnomampaaSame
import Derived.WalkKit
import Derived.ProofKit
import Derived.OpenShut
namespace Go.Proofs.Ytagmgfpnomampaa.fieldTurns
open Go.ChangeShapes Go.WideShapes Go.ChangeAt Go.RowKit Walks
set_option linter.unusedVariables false      -- a walk need not use every 'w<i>' (that an integer argument fits its kind)

theorem own : ownKnob Try.prog.godebug = none := by kernel_rfl

set_option maxHeartbeats 1000000 in
theorem core (x n k v0 u0 x0 v u y i s b uu j : Int) (h0 : 0 ≤ x) (h1 : x ≤ 4294967295) (hk : bits .and .i64 n 31 = k) (k0 : 0 ≤ k) (k1 : k ≤ 31)
    (V0 : bits .andNot .u32 x 1015808 = v0) (V : bits .or .u32 v0 (k * 32768) = v)
    (U0 : bits .andNot .u32 x 3968 = u0) (U : bits .or .u32 u0 (k * 128) = u)
    (X0 : bits .andNot .u32 x 32505856 = x0) (Y : bits .or .u32 x0 (k * 1048576) = y)
    (lv : 0 ≤ v) (mv : v ≤ 4294967295) (lu : 0 ≤ u) (mu : u ≤ 4294967295) (ly : 0 ≤ y) (my : y ≤ 4294967295)
    (I : Hid (Num.iI x = i)) (S : Hid (Num.iS x = s)) (B : Hid (Num.iB x = b)) (UU : Hid (Num.iU x = uu)) (J : Hid (Num.iJ x = j))
    (Iv : Hid (Num.iI v = i)) (Sv : Hid (Num.iS v = s)) (Bv : Hid (Num.iB v = b)) (Iu : Hid (Num.iI u = i)) (Uu : Hid (Num.iU u = uu)) (Ju : Hid (Num.iJ u = j))
    (Sy : Hid (Num.iS y = s)) (By : Hid (Num.iB y = b)) (w : World) :
    Calls Try.prog 7 #[.int .u32 x, .int .i64 n] w fun e w' => e = .returned (.bool true) ∧ w' = w := by
  go_enter Try.func7, Try.ntmps7
  go_wp2_with fail
  refine (immI_as _ _ lv mv Iv _).mono ?_; rintro e w' ⟨rfl, rfl⟩
  go_wp2_with fail
  refine (immI_as _ _ h0 h1 I _).mono ?_; rintro e w' ⟨rfl, rfl⟩
  go_wp2_with fail
  refine (immS_as _ _ lv mv Sv _).mono ?_; rintro e w' ⟨rfl, rfl⟩
  go_wp2_with fail
  refine (immS_as _ _ h0 h1 S _).mono ?_; rintro e w' ⟨rfl, rfl⟩
  go_wp2_with fail
  refine (immB_as _ _ lv mv Bv _).mono ?_; rintro e w' ⟨rfl, rfl⟩
  go_wp2_with fail
  refine (immB_as _ _ h0 h1 B _).mono ?_; rintro e w' ⟨rfl, rfl⟩
  go_wp2_with fail
  refine (immI_as _ _ lu mu Iu _).mono ?_; rintro e w' ⟨rfl, rfl⟩
  go_wp2_with fail
  refine (immI_as _ _ h0 h1 I _).mono ?_; rintro e w' ⟨rfl, rfl⟩
  go_wp2_with fail
  refine (immU_as _ _ lu mu Uu _).mono ?_; rintro e w' ⟨rfl, rfl⟩
  go_wp2_with fail
  refine (immU_as _ _ h0 h1 UU _).mono ?_; rintro e w' ⟨rfl, rfl⟩
  go_wp2_with fail
  refine (immJ_as _ _ lu mu Ju _).mono ?_; rintro e w' ⟨rfl, rfl⟩
  go_wp2_with fail
  refine (immJ_as _ _ h0 h1 J _).mono ?_; rintro e w' ⟨rfl, rfl⟩
  go_wp2_with fail
  refine (immS_as _ _ ly my Sy _).mono ?_; rintro e w' ⟨rfl, rfl⟩
  go_wp2_with fail
  refine (immS_as _ _ h0 h1 S _).mono ?_; rintro e w' ⟨rfl, rfl⟩
  go_wp2_with fail
  refine (immB_as _ _ ly my By _).mono ?_; rintro e w' ⟨rfl, rfl⟩
  go_wp2_with fail
  refine (immB_as _ _ h0 h1 B _).mono ?_; rintro e w' ⟨rfl, rfl⟩
  go_wp2_with fail
  refine (known _).mono ?_; rintro e w' ⟨rfl, rfl⟩
  go_wp2_with fail
  go_ret
  exact ⟨rfl, rfl⟩
theorem put_nat (x k s : Nat) (hk : k < 32) : (2 ^ (s + 5) * (x / 2 ^ (s + 5)) + x % 2 ^ s) ||| k * 2 ^ s = 2 ^ (s + 5) * (x / 2 ^ (s + 5)) + (k * 2 ^ s + x % 2 ^ s) := by
  have c : x % 2 ^ s < 2 ^ s := Nat.mod_lt _ (Nat.two_pow_pos s)
  have e : 2 ^ (s + 5) = 32 * 2 ^ s := by rw [Nat.pow_add, Nat.mul_comm]
  have l : (k + 1) * 2 ^ s ≤ 32 * 2 ^ s := Nat.mul_le_mul_right _ hk
  rw [Nat.add_mul] at l
  have c' : x % 2 ^ s < 2 ^ (s + 5) := by omega
  have d : k * 2 ^ s + x % 2 ^ s < 2 ^ (s + 5) := by omega
  rw [← nat_join (s + 5) _ _ (Nat.mul_mod_right _ _) c', Nat.or_assoc, Nat.or_comm (x % 2 ^ s), nat_join s _ _ (Nat.mul_mod_left _ _) c, nat_join (s + 5) _ _ (Nat.mul_mod_right _ _) d]
/-- five bits of x from bit s on are put: what comes out, as a sum -/
theorem put (x k m p q : Int) (s t : Nat) (h : s + 5 + t = 32) (x0 : 0 ≤ x) (x1 : x ≤ 4294967295) (k0 : 0 ≤ k) (k1 : k ≤ 31) (m0 : 0 ≤ m) (m1 : m ≤ 4294967295)
    (hm : 4294967295 - m.toNat = 2 ^ (s + 5) * (2 ^ t - 1) + (2 ^ s - 1)) (hp : ((2 ^ (s + 5) : Nat) : Int) = p) (hq : ((2 ^ s : Nat) : Int) = q) :
    bits .or .u32 (bits .andNot .u32 x m) (k * q) = p * (x / p) + (k * q + x % q) := by
  rw [Num.clear_as x m p q s 5 t h x0 x1 m0 m1 hm hp hq]
  subst hp hq
  obtain ⟨a, rfl⟩ := Int.eq_ofNat_of_zero_le x0
  obtain ⟨b, rfl⟩ := Int.eq_ofNat_of_zero_le k0
  have e1 : ((2 ^ (s + 5) : Nat) : Int) * ((a : Int) / ((2 ^ (s + 5) : Nat) : Int)) + (a : Int) % ((2 ^ s : Nat) : Int) = ((2 ^ (s + 5) * (a / 2 ^ (s + 5)) + a % 2 ^ s : Nat) : Int) := by simp
  have e2 : (b : Int) * ((2 ^ s : Nat) : Int) = ((b * 2 ^ s : Nat) : Int) := by simp
  have e3 : ((2 ^ (s + 5) : Nat) : Int) * ((a : Int) / ((2 ^ (s + 5) : Nat) : Int)) + (((b * 2 ^ s : Nat) : Int) + (a : Int) % ((2 ^ s : Nat) : Int)) = ((2 ^ (s + 5) * (a / 2 ^ (s + 5)) + (b * 2 ^ s + a % 2 ^ s) : Nat) : Int) := by simp
  have l1 : 2 ^ (s + 5) * (a / 2 ^ (s + 5)) + a % 2 ^ s ≤ a := by
    have g := Nat.div_add_mod a (2 ^ (s + 5))
    have f : a % 2 ^ s ≤ a % 2 ^ (s + 5) := by
      rw [← Nat.mod_mod_of_dvd a (Nat.pow_dvd_pow 2 (show s ≤ s + 5 by omega))]
      exact Nat.mod_le _ _
    omega
  have l2 : b * 2 ^ s < 4294967296 := by
    have p : (b + 1) * 2 ^ s ≤ 32 * 2 ^ s := Nat.mul_le_mul_right _ (by omega)
    have r : 2 ^ (s + 5) ≤ 2 ^ 32 := Nat.pow_le_pow_right (by decide) (by omega)
    have z : 0 < 2 ^ s := Nat.two_pow_pos s
    rw [Nat.pow_add] at r
    rw [Nat.add_mul] at p
    omega
  rw [e1, e2, e3, u32_or_nat _ _ (by omega) l2, put_nat a b s (by omega)]
theorem hi_lo (x r p q : Int) (x0 : 0 ≤ x) (p0 : 0 < p) (r0 : 0 ≤ r) (r1 : r < p) (e : r % q = x % q) (d : q ∣ p) : (p * (x / p) + r) / p = x / p ∧ (p * (x / p) + r) % q = x % q := by
  constructor
  · rw [Int.add_comm, Int.add_mul_ediv_left _ _ (Int.ne_of_gt p0), Int.ediv_eq_zero_of_lt r0 r1, Int.zero_add]
  · obtain ⟨c, rfl⟩ := d
    rw [Int.add_comm, Int.mul_assoc, Int.add_mul_emod_self_left, e]
theorem same_v (x v : Int) (h : v / 1048576 = x / 1048576) (l : v % 32768 = x % 32768) : Num.iI v = Num.iI x ∧ Num.iS v = Num.iS x ∧ Num.iB v = Num.iB x := by
  have e1 : v / 33554432 = x / 33554432 := by omega
  have e2 : v / 2147483648 = x / 2147483648 := by omega
  have e3 : v / 128 % 32 = x / 128 % 32 := by omega
  have e4 : v / 128 % 2 = x / 128 % 2 := by omega
  have e5 : v / 256 % 16 = x / 256 % 16 := by omega
  refine ⟨?_, ?_, ?_⟩
  · rw [Num.iI, Num.iI, h]
  · rw [Num.iS, Num.iS, e1, e3]
  · rw [Num.iB, Num.iB, e1, e2, e4, e5]
theorem same_u (x v : Int) (h : v / 4096 = x / 4096) : Num.iI v = Num.iI x ∧ Num.iU v = Num.iU x ∧ Num.iJ v = Num.iJ x := by
  have e1 : v / 1048576 = x / 1048576 := by omega
  have e2 : v / 2147483648 = x / 2147483648 := by omega
  have e3 : v / 2097152 = x / 2097152 := by omega
  refine ⟨?_, ?_, ?_⟩
  · rw [Num.iI, Num.iI, e1]
  · rw [Num.iU, Num.iU, h]
  · rw [Num.iJ, Num.iJ, h, e1, e2, e3]
theorem same_y (x v : Int) (h : v / 33554432 = x / 33554432) (l : v % 1048576 = x % 1048576) : Num.iS v = Num.iS x ∧ Num.iB v = Num.iB x := by
  have e2 : v / 2147483648 = x / 2147483648 := by omega
  have e3 : v / 128 % 32 = x / 128 % 32 := by omega
  have e4 : v / 128 % 2 = x / 128 % 2 := by omega
  have e5 : v / 256 % 16 = x / 256 % 16 := by omega
  refine ⟨?_, ?_⟩
  · rw [Num.iS, Num.iS, h, e3]
  · rw [Num.iB, Num.iB, h, e2, e4, e5]
theorem inside (x v p m : Int) (x0 : 0 ≤ x) (p0 : 0 < p) (e : m * p = 4294967296) (h : v / p = x / p) (x1 : x ≤ 4294967295) : 0 ≤ v ∧ v ≤ 4294967295 := by
  have a : 0 ≤ x / p := Int.ediv_nonneg x0 (Int.le_of_lt p0)
  have b : x / p < m := Int.ediv_lt_of_lt_mul p0 (by omega)
  have c : v / p < m := by rw [h]; exact b
  have d := Int.lt_mul_of_ediv_lt p0 c
  have f : 0 ≤ v := by
    have := Int.mul_ediv_add_emod v p
    have g := Int.emod_nonneg v (Int.ne_of_gt p0)
    have i : 0 ≤ p * (v / p) := Int.mul_nonneg (Int.le_of_lt p0) (by rw [h]; exact a)
    omega
  omega
theorem walk (a0 : Int) (a1 : Int) (w0 : (Lit.int .u32 a0).wf = true) (w1 : (Lit.int .i64 a1).wf = true) (w : World) :
    Calls Try.prog 7 #[.int .u32 a0, .int .i64 a1] w fun e w' => e = .returned (.bool true) ∧ Grown w w' := by
  obtain ⟨h0, h1'⟩ := bounds_u32 w0
  have h1 : a0 ≤ 4294967295 := by omega
  obtain ⟨k, hk, k0, k1⟩ := Num.and_small 31 a1 5 (by decide) (by decide)
  have v := put a0 k 1015808 1048576 32768 15 12 rfl h0 h1 k0 k1 (by decide) (by decide) (by decide) (by decide) (by decide)
  have u := put a0 k 3968 4096 128 7 20 rfl h0 h1 k0 k1 (by decide) (by decide) (by decide) (by decide) (by decide)
  have y := put a0 k 32505856 33554432 1048576 20 7 rfl h0 h1 k0 k1 (by decide) (by decide) (by decide) (by decide) (by decide)
  obtain ⟨vh, vl⟩ := hi_lo a0 (k * 32768 + a0 % 32768) 1048576 32768 h0 (by decide) (by omega) (by omega) (by omega) (by decide)
  obtain ⟨uh, _⟩ := hi_lo a0 (k * 128 + a0 % 128) 4096 128 h0 (by decide) (by omega) (by omega) (by omega) (by decide)
  obtain ⟨yh, yl⟩ := hi_lo a0 (k * 1048576 + a0 % 1048576) 33554432 1048576 h0 (by decide) (by omega) (by omega) (by omega) (by decide)
  generalize 1048576 * (a0 / 1048576) + (k * 32768 + a0 % 32768) = v' at v vh vl
  generalize 4096 * (a0 / 4096) + (k * 128 + a0 % 128) = u' at u uh
  generalize 33554432 * (a0 / 33554432) + (k * 1048576 + a0 % 1048576) = y' at y yh yl
  obtain ⟨v1, v2, v3⟩ := same_v a0 v' vh vl
  obtain ⟨u1, u2, u3⟩ := same_u a0 u' uh
  obtain ⟨y1, y2⟩ := same_y a0 y' yh yl
  obtain ⟨vn, vm⟩ := inside a0 v' 1048576 4096 h0 (by decide) (by decide) vh h1
  obtain ⟨un, um⟩ := inside a0 u' 4096 1048576 h0 (by decide) (by decide) uh h1
  obtain ⟨yn, ym⟩ := inside a0 y' 33554432 128 h0 (by decide) (by decide) yh h1
  refine (core a0 a1 k _ _ _ v' u' y' _ _ _ _ _ h0 h1 hk k0 k1 rfl v rfl u rfl y vn vm un um yn ym rfl rfl rfl rfl rfl v1 v2 v3 u1 u2 u3 y1 y2 w).mono fun e w' h => ?_
  obtain ⟨rfl, rfl⟩ := h
  exact ⟨rfl, Grown.refl _⟩

/-! ### THE ROW's STEP: WRITTEN OUT: LEAVE IT -/
set_option maxRecDepth 100000 in
theorem lifted (os : Os) (started : os.Started) (H : Type) (enc : TypeId × Value → H) :
    ReturnsInHanded {} Try.checked os 7 .any (Rows.fieldTurnsSpec.pre6 enc Try.prog Try.f7 Rows.fieldTurnsRow.domain false) (Rows.fieldTurnsSpec.post enc Try.prog Try.f7 false true false false) := by
  refine returnsInHanded_of_change (C := Try.checked) own started (by kernel_rfl) Try.func7
    (ChangeSpec.witness6 (enc := enc) (C := Try.checked) false ⟨#[], #[.int .u32 0, .int .i64 0], []⟩ 8 (by kernel_rfl) (by kernel_rfl) (by kernel_rfl) (by kernel_rfl)) ?_
  intro W base args ds gs before hval0 hW hcnd _
  have hval : ∀ (j : Nat) t v, Try.f7.params[j]? = some t → args[j]? = some v → Value.okWide Try.prog W .any base t v := hval0
  have hW' := hW
  obtain ⟨p, q, hA0, hV, rfl, hfz, hnd⟩ := hW
  have hA : DataW.TrodAll enc Try.prog W 0 (fun _ => true) true Try.f7.params.toList args.toList ds p := hA0
  rw [Try.params7] at hA hval
  obtain ⟨v0, vs0, d0, ds0, p0, q0, hargs, rfl, rfl, h0, r0⟩ := trodAll_cons hA
  obtain ⟨v1, vs1, d1, ds1, p1, q1, rfl, rfl, rfl, h1, r1⟩ := trodAll_cons r0
  obtain ⟨rfl, rfl, rfl⟩ := trodAll_nil r1
  obtain rfl : args = #[v0, v1] := by cases args; simp_all
  obtain ⟨rfl, rfl⟩ := trodVars_none hV
  obtain ⟨a0, rfl, rfl, rfl, w0⟩ := open_int Try.underlying23 (hval 0 23 v0 rfl rfl) h0
  obtain ⟨a1, rfl, rfl, rfl, w1⟩ := open_int Try.underlying3 (hval 1 3 v1 rfl rfl) h1
  clear hA0 hval0
  simp only [List.append_nil] at hW'
  refine (walk a0 a1 w0 w1 W).mono fun e W' ⟨he, hg⟩ => ?_
  subst he
  exact ⟨_, rfl, post_of_same (pa := []) (pv := []) hW' (fun _ _ _ => (trodAll_cons_mk (shut_bool Try.underlying4 _) trodAll_mk0)) (fun sp _ => (trodAll_cons_mk (shut_int Try.underlying23 w0) (trodAll_cons_mk (shut_int Try.underlying3 w1) trodAll_mk0))) (fun _ _ => rfl) rfl
    (hg.frame _) hg.2.1 (ok_one (by kernel_rfl) rfl (okWide_bool_mk Try.underlying4 _))⟩

theorem over : Rows.fieldTurnsRow.holds Try.pinned (OpenSpec.ofChange Rows.fieldTurnsSpec) :=
  OpenClaim.holds_of_wide 7 Try.f7 rfl rfl rfl rfl rfl rfl rfl ⟨rfl, rfl, rfl, rfl, rfl⟩ rfl rfl rfl rfl rfl (by kernel_rfl) Try.func7 (by kernel_rfl)
    (of_decide_eq_true (by kernel_rfl)) (by unfold Func.isWrapper; first | (rw [if_pos (by decide +kernel)]; kernel_rfl) | (rw [if_neg (by decide +kernel)]; exact ⟨rfl, rfl⟩))
    (fun os started H enc _ => lifted os started H enc)

/-- ████ THE STATEMENT ████ -/
theorem proved : Rows.FieldTurnsSaid :=
  over
#print axioms proved
end Go.Proofs.Ytagmgfpnomampaa.fieldTurns
