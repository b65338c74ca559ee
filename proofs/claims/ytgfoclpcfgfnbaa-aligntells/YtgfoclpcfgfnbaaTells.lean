/- Proved: for every int op, mask and all uint32 addr, a, b the call AlignTells(op, addr, a, b, mask) returns true and leaves its arguments as they were. No condition. -/
import Derived.Test.YtgfoclpcfgfnbaaRows
import Derived.Test.YtgfoclpcfgfnbaaSame
import Derived.Test.YtgfoclpcfgfnbaaSet
import Derived.WalkKit
import Derived.ProofKit
import Derived.OpenShut
namespace Go.Proofs.Ytgfoclpcfgfnbaa.alignTells
open Go.ChangeShapes Go.WideShapes Go.ChangeAt Go.RowKit Walks
set_option linter.unusedVariables false      -- a walk need not use every 'w<i>' (that an integer argument fits its kind)

theorem own : ownKnob Try.prog.godebug = none := by kernel_rfl

theorem and_small (k n : Int) (m : Nat) (hk : ((2 ^ m - 1 : Nat) : Int) = k) (hm : m ≤ 5) : ∃ c : Int, bits .and .i64 n k = c ∧ 0 ≤ c ∧ c ≤ k := by
  subst hk
  have p : (2 : Nat) ^ m ≤ 2 ^ 5 := Nat.pow_le_pow_right (by decide) hm
  have h : (BitVec.ofInt 64 n &&& BitVec.ofInt 64 ((2 ^ m - 1 : Nat) : Int)).toNat ≤ 2 ^ m - 1 := by
    rw [BitVec.toNat_and]
    refine Nat.le_trans Nat.and_le_right ?_
    rw [ofInt_u64 _ (by omega)]
    exact Nat.le_refl _
  refine ⟨((BitVec.ofInt 64 n &&& BitVec.ofInt 64 ((2 ^ m - 1 : Nat) : Int)).toNat : Int), ?_, by omega, by omega⟩
  show IntKind.i64.wrap ((BitVec.ofInt 64 n &&& BitVec.ofInt 64 ((2 ^ m - 1 : Nat) : Int)).toNat : Int) = _
  rw [IntKind.wrap_i64]
  omega
set_option maxHeartbeats 1000000 in
theorem core (op x a b m c q p : Int) (x0 : 0 ≤ x) (x1 : x ≤ 4294967295) (a0 : 0 ≤ a) (a1 : a ≤ 4294967295) (b0 : 0 ≤ b) (b1 : b ≤ 4294967295) (p0 : 0 ≤ p) (p1 : p ≤ 4294967295) (hc : bits .and .i64 op 7 = c) (c0 : 0 ≤ c) (c1 : c ≤ 7)
    (T : (c + 8).tmod 8 = c) (hq : bits .and .i64 m 15 = q) (hp : bits .and .u32 x 3 = p) (w : World) :
    Calls Try.prog 4 #[.int .i64 op, .int .u32 x, .int .u32 a, .int .u32 b, .int .i64 m] w fun e w' => e = .returned (.bool true) ∧ Fr w w' := by
  go_enter Try.func4, Try.ntmps4
  go_wp2_with fail
  refine (same_as _ _ _ _ _ x0 x1 a0 a1 b0 b1 _).mono ?_; rintro e w1 ⟨rfl, ha⟩
  have HA : Hid (w1.Alike _) := ha
  clear ha
  go_wp2_with fail
  refine (same_as _ _ _ _ _ x0 x1 a0 a1 b0 b1 _).mono ?_; rintro e w2 ⟨rfl, ha⟩
  have HB : Hid (w2.Alike _) := ha
  clear ha
  go_wp2_with fail
  refine (same_as _ _ _ _ _ p0 p1 a0 a1 b0 b1 _).mono ?_; rintro e w3 ⟨rfl, ha⟩
  have HC : Hid (w3.Alike _) := ha
  clear ha
  go_wp2_with fail
  refine (known _).mono ?_; rintro e w4 ⟨rfl, ha⟩
  have HD : Hid (w4.Alike _) := ha
  clear ha
  go_wp2_with fail
  go_ret
  exact ⟨rfl, (Fr.refl w).alike (alike_trans HD.out (alike_trans HC.out (alike_trans HB.out HA.out)))⟩
theorem walk (a0 : Int) (a1 : Int) (a2 : Int) (a3 : Int) (a4 : Int) (w0 : (Lit.int .i64 a0).wf = true) (w1 : (Lit.int .u32 a1).wf = true) (w2 : (Lit.int .u32 a2).wf = true) (w3 : (Lit.int .u32 a3).wf = true) (w4 : (Lit.int .i64 a4).wf = true) (w : World) :
    Calls Try.prog 4 #[.int .i64 a0, .int .u32 a1, .int .u32 a2, .int .u32 a3, .int .i64 a4] w fun e w' => e = .returned (.bool true) ∧ Fr w w' := by
  obtain ⟨x0, x1⟩ := bounds_u32 w1
  obtain ⟨h0, h1⟩ := bounds_u32 w2
  obtain ⟨k0, k1⟩ := bounds_u32 w3
  obtain ⟨c, hc, c0, c1⟩ := and_small 7 a0 3 (by decide) (by decide)
  refine core a0 a1 a2 a3 a4 c _ _ x0 (by omega) h0 (by omega) k0 (by omega) ?_ ?_ hc c0 c1 ?_ rfl (Num.and3 a1 x0 (by omega)) w
  · omega
  · omega
  · rw [Int.tmod_eq_emod_of_nonneg (by omega)]; omega

/-! ### THE ROW's STEP: WRITTEN OUT: LEAVE IT -/
set_option maxRecDepth 100000 in
theorem lifted (os : Os) (started : os.Started) (H : Type) (enc : TypeId × Value → H) :
    ReturnsInHanded {} Try.checked os 4 .any (Rows.alignTellsSpec.pre6 enc Try.prog Try.f4 Rows.alignTellsRow.domain false) (Rows.alignTellsSpec.post enc Try.prog Try.f4 false true false false) := by
  refine returnsInHanded_of_change (C := Try.checked) own started (by kernel_rfl) Try.func4
    (ChangeSpec.witness6 (enc := enc) (C := Try.checked) false ⟨#[], #[.int .i64 0, .int .u32 0, .int .u32 0, .int .u32 0, .int .i64 0], []⟩ 8 (by kernel_rfl) (by kernel_rfl) (by kernel_rfl) (by kernel_rfl)) ?_
  intro W base args ds gs before hval0 hW hcnd _
  have hval : ∀ (j : Nat) t v, Try.f4.params[j]? = some t → args[j]? = some v → Value.okWide Try.prog W .any base t v := hval0
  have hW' := hW
  obtain ⟨p, q, hA0, hV, rfl, hfz, hnd⟩ := hW
  have hA : DataW.TrodAll enc Try.prog W 0 (fun _ => true) true Try.f4.params.toList args.toList ds p := hA0
  rw [Try.params4] at hA hval
  obtain ⟨v0, vs0, d0, ds0, p0, q0, hargs, rfl, rfl, h0, r0⟩ := trodAll_cons hA
  obtain ⟨v1, vs1, d1, ds1, p1, q1, rfl, rfl, rfl, h1, r1⟩ := trodAll_cons r0
  obtain ⟨v2, vs2, d2, ds2, p2, q2, rfl, rfl, rfl, h2, r2⟩ := trodAll_cons r1
  obtain ⟨v3, vs3, d3, ds3, p3, q3, rfl, rfl, rfl, h3, r3⟩ := trodAll_cons r2
  obtain ⟨v4, vs4, d4, ds4, p4, q4, rfl, rfl, rfl, h4, r4⟩ := trodAll_cons r3
  obtain ⟨rfl, rfl, rfl⟩ := trodAll_nil r4
  obtain rfl : args = #[v0, v1, v2, v3, v4] := by cases args; simp_all
  obtain ⟨rfl, rfl⟩ := trodVars_none hV
  obtain ⟨a0, rfl, rfl, rfl, w0⟩ := open_int Try.underlying3 (hval 0 3 v0 rfl rfl) h0
  obtain ⟨a1, rfl, rfl, rfl, w1⟩ := open_int Try.underlying22 (hval 1 22 v1 rfl rfl) h1
  obtain ⟨a2, rfl, rfl, rfl, w2⟩ := open_int Try.underlying22 (hval 2 22 v2 rfl rfl) h2
  obtain ⟨a3, rfl, rfl, rfl, w3⟩ := open_int Try.underlying22 (hval 3 22 v3 rfl rfl) h3
  obtain ⟨a4, rfl, rfl, rfl, w4⟩ := open_int Try.underlying3 (hval 4 3 v4 rfl rfl) h4
  clear hA0 hval0
  simp only [List.append_nil] at hW'
  refine (walk a0 a1 a2 a3 a4 w0 w1 w2 w3 w4 W).mono fun e W' ⟨he, hg⟩ => ?_
  subst he
  exact ⟨_, rfl, _, _, _, [], [], [], hW', (trodAll_cons_mk (shut_bool Try.underlying4 _) trodAll_mk0), (trodAll_cons_mk (shut_int Try.underlying3 w0) (trodAll_cons_mk (shut_int Try.underlying22 w1) (trodAll_cons_mk (shut_int Try.underlying22 w2) (trodAll_cons_mk (shut_int Try.underlying22 w3) (trodAll_cons_mk (shut_int Try.underlying3 w4) trodAll_mk0))))), rfl, hg.kept _, fun h => by cases h⟩

theorem over : Rows.alignTellsRow.holds Try.pinned (OpenSpec.ofChange Rows.alignTellsSpec) :=
  OpenClaim.holds_of_wide 4 Try.f4 rfl rfl rfl rfl rfl rfl rfl ⟨rfl, rfl, rfl, rfl, rfl⟩ rfl rfl rfl rfl rfl (by kernel_rfl) Try.func4 (by kernel_rfl)
    (of_decide_eq_true (by kernel_rfl)) (by unfold Func.isWrapper; first | (rw [if_pos (by decide +kernel)]; kernel_rfl) | (rw [if_neg (by decide +kernel)]; exact ⟨rfl, rfl⟩))
    (fun os started H enc _ => lifted os started H enc)

/-- ████ THE STATEMENT ████ -/
theorem proved : Rows.AlignTellsSaid :=
  over
#print axioms proved
end Go.Proofs.Ytgfoclpcfgfnbaa.alignTells
