/- Proved: for every int op and all uint32 addr, n, old the call AlignBack(op, addr, n, old) returns true and leaves its arguments as they were. No condition. -/
import Derived.Test.YtgfoclpcfgfnbaaRows
import Derived.Test.YtgfoclpcfgfnbaaBackWalk
import Derived.WalkKit
import Derived.ProofKit
import Derived.OpenShut
namespace Go.Proofs.Ytgfoclpcfgfnbaa.alignBack
open Go.ChangeShapes Go.WideShapes Go.ChangeAt Go.RowKit Walks
set_option linter.unusedVariables false      -- a walk need not use every 'w<i>' (that an integer argument fits its kind)

theorem own : ownKnob Try.prog.godebug = none := by kernel_rfl

theorem and_all (x : Int) (h0 : 0 ≤ x) (h1 : x ≤ 4294967295) : bits .and .u32 x 4294967295 = x := by
  obtain ⟨n, rfl⟩ := Int.eq_ofNat_of_zero_le h0
  rw [show (4294967295 : Int) = ((4294967295 : Nat) : Int) from rfl, u32_and_nat _ _ (by omega) (by decide), show (4294967295 : Nat) = 2 ^ 32 - 1 from rfl, Nat.and_two_pow_sub_one_eq_mod, Nat.mod_eq_of_lt (by omega)]
theorem thirds (op : Int) : -2 ≤ op.tmod 3 ∧ op.tmod 3 ≤ 2 ∧ ((op.tmod 3 + 3).tmod 3 = 0 ∨ (op.tmod 3 + 3).tmod 3 = 1 ∨ (op.tmod 3 + 3).tmod 3 = 2) := by
  have h : (op.tmod 3).natAbs = op.natAbs % 3 := by rw [Int.natAbs_tmod]; rfl
  generalize op.tmod 3 = r at h ⊢
  have h' : -2 ≤ r ∧ r ≤ 2 := by omega
  rw [Int.tmod_eq_emod_of_nonneg (by omega)]
  omega
theorem walk (a0 : Int) (a1 : Int) (a2 : Int) (a3 : Int) (w0 : (Lit.int .i64 a0).wf = true) (w1 : (Lit.int .u32 a1).wf = true) (w2 : (Lit.int .u32 a2).wf = true) (w3 : (Lit.int .u32 a3).wf = true) (w : World) :
    Calls Try.prog 5 #[.int .i64 a0, .int .u32 a1, .int .u32 a2, .int .u32 a3] w fun e w' => e = .returned (.bool true) ∧ Fr w w' := by
  obtain ⟨x0, x1'⟩ := bounds_u32 w1
  obtain ⟨n0, n1'⟩ := bounds_u32 w2
  obtain ⟨o0, o1'⟩ := bounds_u32 w3
  have x1 : a1 ≤ 4294967295 := by omega
  have n1 : a2 ≤ 4294967295 := by omega
  have o1 : a3 ≤ 4294967295 := by omega
  obtain ⟨r0, r1, hi⟩ := thirds a0
  obtain ⟨b0, b1, b2, b3, hb0, hb1, hb2, hb3, hn⟩ := Num.cmp_of a2 n0 n1
  obtain ⟨c0, c1, c2, c3, hc0, hc1, hc2, hc3, ho⟩ := Num.cmp_of a3 o0 o1
  have z1 : bits .and .u32 a2 255 = b0 := by rw [Num.and8 a2 n0 n1, hn]; exact Num.cmp0 _ _ _ _ hb0 hb1 hb2 hb3
  have z2 : bits .and .u32 a2 65535 = Num.cmp b0 b1 0 0 := by rw [Num.and16 a2 n0 n1, hn]; exact Num.cmp_lo _ _ _ _ hb0 hb1 hb2 hb3
  have z4 : bits .and .u32 a2 4294967295 = Num.cmp b0 b1 b2 b3 := by rw [and_all a2 n0 n1, hn]
  clear w0 w1 w2 w3 x1' n1' o1'
  subst hn ho
  rcases hi with hi | hi | hi <;> rcases Num.quarter a1 with h | h | h | h
  · exact back16 _ _ _ _ _ _ _ _ _ _ x0 x1 n0 n1 o0 o1 rfl r0 r1 hi h rfl z1 (Num.bk16_0 _ _ _ _ _ _ _ _ hb0 hb1 hb2 hb3 hc0 hc1 hc2 hc3) w
  · exact back16 _ _ _ _ _ _ _ _ _ _ x0 x1 n0 n1 o0 o1 rfl r0 r1 hi h rfl z1 (Num.bk16_1 _ _ _ _ _ _ _ _ hb0 hb1 hb2 hb3 hc0 hc1 hc2 hc3) w
  · exact back16 _ _ _ _ _ _ _ _ _ _ x0 x1 n0 n1 o0 o1 rfl r0 r1 hi h rfl z1 (Num.bk16_2 _ _ _ _ _ _ _ _ hb0 hb1 hb2 hb3 hc0 hc1 hc2 hc3) w
  · exact back16 _ _ _ _ _ _ _ _ _ _ x0 x1 n0 n1 o0 o1 rfl r0 r1 hi h rfl z1 (Num.bk16_3 _ _ _ _ _ _ _ _ hb0 hb1 hb2 hb3 hc0 hc1 hc2 hc3) w
  · exact back17 _ _ _ _ _ _ _ _ _ _ x0 x1 n0 n1 o0 o1 rfl r0 r1 hi h rfl z2 (Num.bk17_0 _ _ _ _ _ _ _ _ hb0 hb1 hb2 hb3 hc0 hc1 hc2 hc3) w
  · exact not17 _ _ _ _ _ _ x0 x1 n0 n1 rfl r0 r1 hi h rfl rfl rfl w
  · exact back17 _ _ _ _ _ _ _ _ _ _ x0 x1 n0 n1 o0 o1 rfl r0 r1 hi h rfl z2 (Num.bk17_2 _ _ _ _ _ _ _ _ hb0 hb1 hb2 hb3 hc0 hc1 hc2 hc3) w
  · exact not17 _ _ _ _ _ _ x0 x1 n0 n1 rfl r0 r1 hi h rfl rfl rfl w
  · exact back18 _ _ _ _ _ _ _ _ _ _ x0 x1 n0 n1 o0 o1 rfl r0 r1 hi h rfl z4 (Num.bk18_0 _ _ _ _ _ _ _ _ hb0 hb1 hb2 hb3 hc0 hc1 hc2 hc3) w
  · exact not18 _ _ _ _ _ _ x0 x1 n0 n1 rfl r0 r1 hi h rfl rfl rfl w
  · exact not18 _ _ _ _ _ _ x0 x1 n0 n1 rfl r0 r1 hi h rfl rfl rfl w
  · exact not18 _ _ _ _ _ _ x0 x1 n0 n1 rfl r0 r1 hi h rfl rfl rfl w

/-! ### THE ROW's STEP: WRITTEN OUT: LEAVE IT -/
set_option maxRecDepth 100000 in
theorem lifted (os : Os) (started : os.Started) (H : Type) (enc : TypeId × Value → H) :
    ReturnsInHanded {} Try.checked os 5 .any (Rows.alignBackSpec.pre6 enc Try.prog Try.f5 Rows.alignBackRow.domain false) (Rows.alignBackSpec.post enc Try.prog Try.f5 false true false false) := by
  refine returnsInHanded_of_change (C := Try.checked) own started (by kernel_rfl) Try.func5
    (ChangeSpec.witness6 (enc := enc) (C := Try.checked) false ⟨#[], #[.int .i64 0, .int .u32 0, .int .u32 0, .int .u32 0], []⟩ 8 (by kernel_rfl) (by kernel_rfl) (by kernel_rfl) (by kernel_rfl)) ?_
  intro W base args ds gs before hval0 hW hcnd _
  have hval : ∀ (j : Nat) t v, Try.f5.params[j]? = some t → args[j]? = some v → Value.okWide Try.prog W .any base t v := hval0
  have hW' := hW
  obtain ⟨p, q, hA0, hV, rfl, hfz, hnd⟩ := hW
  have hA : DataW.TrodAll enc Try.prog W 0 (fun _ => true) true Try.f5.params.toList args.toList ds p := hA0
  rw [Try.params5] at hA hval
  obtain ⟨v0, vs0, d0, ds0, p0, q0, hargs, rfl, rfl, h0, r0⟩ := trodAll_cons hA
  obtain ⟨v1, vs1, d1, ds1, p1, q1, rfl, rfl, rfl, h1, r1⟩ := trodAll_cons r0
  obtain ⟨v2, vs2, d2, ds2, p2, q2, rfl, rfl, rfl, h2, r2⟩ := trodAll_cons r1
  obtain ⟨v3, vs3, d3, ds3, p3, q3, rfl, rfl, rfl, h3, r3⟩ := trodAll_cons r2
  obtain ⟨rfl, rfl, rfl⟩ := trodAll_nil r3
  obtain rfl : args = #[v0, v1, v2, v3] := by cases args; simp_all
  obtain ⟨rfl, rfl⟩ := trodVars_none hV
  obtain ⟨a0, rfl, rfl, rfl, w0⟩ := open_int Try.underlying3 (hval 0 3 v0 rfl rfl) h0
  obtain ⟨a1, rfl, rfl, rfl, w1⟩ := open_int Try.underlying22 (hval 1 22 v1 rfl rfl) h1
  obtain ⟨a2, rfl, rfl, rfl, w2⟩ := open_int Try.underlying22 (hval 2 22 v2 rfl rfl) h2
  obtain ⟨a3, rfl, rfl, rfl, w3⟩ := open_int Try.underlying22 (hval 3 22 v3 rfl rfl) h3
  clear hA0 hval0
  simp only [List.append_nil] at hW'
  refine (walk a0 a1 a2 a3 w0 w1 w2 w3 W).mono fun e W' ⟨he, hg⟩ => ?_
  subst he
  exact ⟨_, rfl, _, _, _, [], [], [], hW', (trodAll_cons_mk (shut_bool Try.underlying4 _) trodAll_mk0), (trodAll_cons_mk (shut_int Try.underlying3 w0) (trodAll_cons_mk (shut_int Try.underlying22 w1) (trodAll_cons_mk (shut_int Try.underlying22 w2) (trodAll_cons_mk (shut_int Try.underlying22 w3) trodAll_mk0)))), rfl, hg.kept _, fun h => by cases h⟩

theorem over : Rows.alignBackRow.holds Try.pinned (OpenSpec.ofChange Rows.alignBackSpec) :=
  OpenClaim.holds_of_wide 5 Try.f5 rfl rfl rfl rfl rfl rfl rfl ⟨rfl, rfl, rfl, rfl, rfl⟩ rfl rfl rfl rfl rfl (by kernel_rfl) Try.func5 (by kernel_rfl)
    (of_decide_eq_true (by kernel_rfl)) (by unfold Func.isWrapper; first | (rw [if_pos (by decide +kernel)]; kernel_rfl) | (rw [if_neg (by decide +kernel)]; exact ⟨rfl, rfl⟩))
    (fun os started H enc _ => lifted os started H enc)

/-- ████ THE STATEMENT ████ -/
theorem proved : Rows.AlignBackSaid :=
  over
#print axioms proved
end Go.Proofs.Ytgfoclpcfgfnbaa.alignBack
