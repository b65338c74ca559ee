/- Proved: for every uint32 v and all ints a, b the call ParityTurns(v, a, b) returns true and leaves its arguments as they were. No condition. -/
import Derived.Test.YtcfhjdioilaadaaRows
import Derived.Test.YtcfhjdioilaadaaWalks
import Derived.WalkKit
import Derived.ProofKit
import Derived.OpenShut
namespace Go.Proofs.Ytcfhjdioilaadaa.parityTurns
open Go.ChangeShapes Go.WideShapes Go.ChangeAt Go.RowKit Walks
set_option linter.unusedVariables false      -- a walk need not use every 'w<i>' (that an integer argument fits its kind)

theorem own : ownKnob Try.prog.godebug = none := by kernel_rfl

set_option maxHeartbeats 400000 in
theorem core (v a b c i0 k0 z y m mz : Int) (g : Bool) (n0 : 0 ≤ v) (n1 : v < 4294967296) (c0 : 0 ≤ c) (c1 : c < 8589934592)
    (e0 : 0 ≤ i0) (e1 : i0 < 64) (e2 : 0 ≤ k0) (e3 : k0 < 64) (z0 : 0 ≤ z) (z1 : z < 8589934592) (y0 : 0 ≤ y) (y1 : y < 8589934592)
    (hi : bits .and .i64 a 63 = i0) (hk : bits .and .i64 b 63 = k0)
    (hz : bits .xor .u64 c (IntKind.u64.wrap (2 ^ (i0 % 33).toNat)) = z) (hy : bits .xor .u64 z (IntKind.u64.wrap (2 ^ (k0 % 33).toNat)) = y)
    (hm : (m == v) = g) (hik : (i0 % 33 == k0 % 33) = g)
    (V : Hid (((v.toNat + 4294967296 * Num.par v.toNat : Nat) : Int) = c))
    (M : Hid (c % 4294967296 = v)) (B : Hid ((((Num.par c.toNat : Nat) : Int) == 0) = true))
    (MZ : Hid (z % 4294967296 = mz)) (BZ : Hid ((((Num.par z.toNat : Nat) : Int) == 0) = false))
    (MY : Hid (y % 4294967296 = m)) (BY : Hid ((((Num.par y.toNat : Nat) : Int) == 0) = true)) (w : World) :
    Calls Try.prog 3 #[.int .u32 v, .int .i64 a, .int .i64 b] w fun e w' => e = .returned (.bool true) ∧ w' = w := by
  go_enter Try.func3, Try.ntmps3
  go_wp2_with fail
  refine (put_as _ _ (by omega) (by omega) V _).mono ?_; rintro e w' ⟨rfl, rfl⟩
  go_wp2_with fail
  refine (get_as _ v true (by omega) (by omega) M B _).mono ?_; rintro e w' ⟨rfl, rfl⟩
  go_wp2_with fail
  refine (get_as _ mz false (by omega) (by omega) MZ BZ _).mono ?_; rintro e w' ⟨rfl, rfl⟩
  go_wp2_with fail
  refine (get_as _ m true (by omega) (by omega) MY BY _).mono ?_; rintro e w' ⟨rfl, rfl⟩
  go_wp2_with fail
  refine (known _).mono ?_; rintro e w' ⟨rfl, rfl⟩
  go_wp2_with fail
  go_ret
  exact ⟨rfl, rfl⟩
theorem pow_wrap (i : Nat) (h : i < 33) : IntKind.u64.wrap (2 ^ i) = ((2 ^ i : Nat) : Int) := by
  have l : 2 ^ i < 2 ^ 33 := Nat.pow_lt_pow_right (by decide) h
  have e : (2 : Int) ^ i = ((2 ^ i : Nat) : Int) := by simp
  rw [e, IntKind.wrap_u64]
  clear e
  generalize (2 ^ i : Nat) = x at l ⊢
  omega
theorem and63 (a : Int) : ∃ k : Nat, bits .and .i64 a 63 = (k : Int) ∧ k < 64 := by
  refine ⟨(BitVec.ofInt 64 a &&& BitVec.ofInt 64 63).toNat, ?_, ?_⟩
  · show IntKind.i64.wrap ((BitVec.ofInt 64 a &&& BitVec.ofInt 64 63).toNat : Int) = _
    have h : (BitVec.ofInt 64 a &&& BitVec.ofInt 64 63).toNat ≤ 63 := by
      rw [BitVec.toNat_and]; exact Nat.and_le_right
    rw [IntKind.wrap_i64]
    omega
  · have h : (BitVec.ofInt 64 a &&& BitVec.ofInt 64 63).toNat ≤ 63 := by
      rw [BitVec.toNat_and]; exact Nat.and_le_right
    omega
theorem walk (a0 : Int) (a1 : Int) (a2 : Int) (w0 : (Lit.int .u32 a0).wf = true) (w1 : (Lit.int .i64 a1).wf = true) (w2 : (Lit.int .i64 a2).wf = true) (w : World) :
    Calls Try.prog 3 #[.int .u32 a0, .int .i64 a1, .int .i64 a2] w fun e w' => e = .returned (.bool true) ∧ Grown w w' := by
  obtain ⟨h0, h1⟩ := bounds_u32 w0
  obtain ⟨v, rfl⟩ := Int.eq_ofNat_of_zero_le h0
  obtain ⟨i0, hi0, hi1⟩ := and63 a1
  obtain ⟨k0, hk0, hk1⟩ := and63 a2
  have pn := Num.par_lt v
  have z := Num.par_put v (by omega)
  have li : i0 % 33 < 33 := Nat.mod_lt _ (by decide)
  have lk : k0 % 33 < 33 := Nat.mod_lt _ (by decide)
  have ei : ((i0 : Int) % 33).toNat = i0 % 33 := by omega
  have ek : ((k0 : Int) % 33).toNat = k0 % 33 := by omega
  have bi : 2 ^ (i0 % 33) < 2 ^ 33 := Nat.pow_lt_pow_right (by decide) li
  have bk : 2 ^ (k0 % 33) < 2 ^ 33 := Nat.pow_lt_pow_right (by decide) lk
  have bc : v + 4294967296 * Num.par v < 2 ^ 33 := by omega
  generalize hc : v + 4294967296 * Num.par v = c at *
  have bz : c ^^^ 2 ^ (i0 % 33) < 2 ^ 33 := Nat.xor_lt_two_pow bc bi
  have hyb : c ^^^ 2 ^ (i0 % 33) ^^^ 2 ^ (k0 % 33) < 2 ^ 33 := Nat.xor_lt_two_pow bz bk
  have pz : Num.par (c ^^^ 2 ^ (i0 % 33)) = 1 := by rw [Num.par_xor, z, Num.par_bit _ (by omega)]
  have py : Num.par (c ^^^ 2 ^ (i0 % 33) ^^^ 2 ^ (k0 % 33)) = 0 := by rw [Num.par_xor, pz, Num.par_bit _ (by omega)]
  have hm := Num.two_turns c (i0 % 33) (k0 % 33) li lk
  have hv : c % 4294967296 = v := by omega
  refine (core v a1 a2 c i0 k0 (c ^^^ 2 ^ (i0 % 33) : Nat) (c ^^^ 2 ^ (i0 % 33) ^^^ 2 ^ (k0 % 33) : Nat) ((c ^^^ 2 ^ (i0 % 33) ^^^ 2 ^ (k0 % 33)) % 4294967296 : Nat) ((c ^^^ 2 ^ (i0 % 33)) % 4294967296 : Nat) (i0 % 33 == k0 % 33)
    h0 (by omega) (by omega) (by omega) (by omega) (by omega) (by omega) (by omega) (by omega) (by omega) (by omega) (by omega) hi0 hk0
    (by rw [ei, pow_wrap _ li]; exact u64_xor_nat _ _ (by omega) (by omega)) (by rw [ek, pow_wrap _ lk]; exact u64_xor_nat _ _ (by omega) (by omega))
    (by rw [Bool.eq_iff_iff, beq_iff_eq, beq_iff_eq]; omega) (by rw [Bool.eq_iff_iff, beq_iff_eq, beq_iff_eq]; omega)
    (by unfold Hid; rw [Int.toNat_natCast, hc]) (by unfold Hid; omega) (by unfold Hid; rw [Int.toNat_natCast, z]; rfl)
    (by unfold Hid; omega) (by unfold Hid; rw [Int.toNat_natCast, pz]; rfl) (by unfold Hid; omega) (by unfold Hid; rw [Int.toNat_natCast, py]; rfl) w).mono fun e w' h => ?_
  obtain ⟨rfl, rfl⟩ := h
  exact ⟨rfl, Grown.refl _⟩

/-! ### THE ROW's STEP: WRITTEN OUT: LEAVE IT -/
set_option maxRecDepth 100000 in
theorem lifted (os : Os) (started : os.Started) (H : Type) (enc : TypeId × Value → H) :
    ReturnsInHanded {} Try.checked os 3 .any (Rows.parityTurnsSpec.pre6 enc Try.prog Try.f3 Rows.parityTurnsRow.domain false) (Rows.parityTurnsSpec.post enc Try.prog Try.f3 false true false false) := by
  refine returnsInHanded_of_change (C := Try.checked) own started (by kernel_rfl) Try.func3
    (ChangeSpec.witness6 (enc := enc) (C := Try.checked) false ⟨#[], #[.int .u32 0, .int .i64 0, .int .i64 0], []⟩ 8 (by kernel_rfl) (by kernel_rfl) (by kernel_rfl) (by kernel_rfl)) ?_
  intro W base args ds gs before hval0 hW hcnd _
  have hval : ∀ (j : Nat) t v, Try.f3.params[j]? = some t → args[j]? = some v → Value.okWide Try.prog W .any base t v := hval0
  have hW' := hW
  obtain ⟨p, q, hA0, hV, rfl, hfz, hnd⟩ := hW
  have hA : DataW.TrodAll enc Try.prog W 0 (fun _ => true) true Try.f3.params.toList args.toList ds p := hA0
  rw [Try.params3] at hA hval
  obtain ⟨v0, vs0, d0, ds0, p0, q0, hargs, rfl, rfl, h0, r0⟩ := trodAll_cons hA
  obtain ⟨v1, vs1, d1, ds1, p1, q1, rfl, rfl, rfl, h1, r1⟩ := trodAll_cons r0
  obtain ⟨v2, vs2, d2, ds2, p2, q2, rfl, rfl, rfl, h2, r2⟩ := trodAll_cons r1
  obtain ⟨rfl, rfl, rfl⟩ := trodAll_nil r2
  obtain rfl : args = #[v0, v1, v2] := by cases args; simp_all
  obtain ⟨rfl, rfl⟩ := trodVars_none hV
  obtain ⟨a0, rfl, rfl, rfl, w0⟩ := open_int Try.underlying22 (hval 0 22 v0 rfl rfl) h0
  obtain ⟨a1, rfl, rfl, rfl, w1⟩ := open_int Try.underlying3 (hval 1 3 v1 rfl rfl) h1
  obtain ⟨a2, rfl, rfl, rfl, w2⟩ := open_int Try.underlying3 (hval 2 3 v2 rfl rfl) h2
  clear hA0 hval0
  simp only [List.append_nil] at hW'
  refine (walk a0 a1 a2 w0 w1 w2 W).mono fun e W' ⟨he, hg⟩ => ?_
  subst he
  exact ⟨_, rfl, post_of_same (pa := []) (pv := []) hW' (fun _ _ _ => (trodAll_cons_mk (shut_bool Try.underlying4 _) trodAll_mk0)) (fun sp _ => (trodAll_cons_mk (shut_int Try.underlying22 w0) (trodAll_cons_mk (shut_int Try.underlying3 w1) (trodAll_cons_mk (shut_int Try.underlying3 w2) trodAll_mk0)))) (fun _ _ => rfl) rfl
    (hg.frame _) hg.2.1 (ok_one (by kernel_rfl) rfl (okWide_bool_mk Try.underlying4 _))⟩

theorem over : Rows.parityTurnsRow.holds Try.pinned (OpenSpec.ofChange Rows.parityTurnsSpec) :=
  OpenClaim.holds_of_wide 3 Try.f3 rfl rfl rfl rfl rfl rfl rfl ⟨rfl, rfl, rfl, rfl, rfl⟩ rfl rfl rfl rfl rfl (by kernel_rfl) Try.func3 (by kernel_rfl)
    (of_decide_eq_true (by kernel_rfl)) (by unfold Func.isWrapper; first | (rw [if_pos (by decide +kernel)]; kernel_rfl) | (rw [if_neg (by decide +kernel)]; exact ⟨rfl, rfl⟩))
    (fun os started H enc _ => lifted os started H enc)

/-- ████ THE STATEMENT ████ -/
theorem proved : Rows.ParityTurnsSaid :=
  over
#print axioms proved
end Go.Proofs.Ytcfhjdioilaadaa.parityTurns
