/- Proved: for every int op, csr and every uint32 addr the call TrapTells(op, addr, csr) returns true and leaves its arguments as they were. No condition. -/
import Derived.Test.YtbkhemgkhlonhaaRows
import Derived.Test.YtbkhemgkhlonhaaAnds
import Derived.WalkKit
import Derived.ProofKit
import Derived.OpenShut
namespace Go.Proofs.Ytbkhemgkhlonhaa.trapTells
open Go.ChangeShapes Go.WideShapes Go.ChangeAt Go.RowKit Walks
set_option linter.unusedVariables false      -- a walk need not use every 'w<i>' (that an integer argument fits its kind)

theorem own : ownKnob Try.prog.godebug = none := by kernel_rfl

set_option maxHeartbeats 1000000 in
theorem core (op x y o q p r : Int) (x0 : 0 ≤ x) (q0 : 0 ≤ q) (p0 : 0 ≤ p) (p1 : p ≤ 15) (hq : bits .and .u32 x 8191 = q) (hp : bits .and .u32 x 15 = p) (ho : bits .and .i64 op 7 = o) (o0 : 0 ≤ o) (o1 : o ≤ 7) (hr : bits .and .i64 op 63 = r) (w : World) :
    Calls Try.prog 4 #[.int .i64 op, .int .u32 x, .int .i64 y] w fun e w' => e = .returned (.bool true) ∧ Fr w w' := by
  go_enter Try.func4, Try.ntmps4
  go_wp2_with fail
  refine (same_as _ _ _ x0 _).mono ?_; rintro e w1 ⟨rfl, ha⟩
  have HA : Hid (Fr w w1) := ha
  clear ha
  go_wp2_with fail
  refine (same_as _ _ _ q0 _).mono ?_; rintro e w2 ⟨rfl, ha⟩
  have HB : Hid (Fr w1 w2) := ha
  clear ha
  go_wp2_with fail
  refine (same_as _ _ _ q0 _).mono ?_; rintro e w3 ⟨rfl, ha⟩
  have HC : Hid (Fr w2 w3) := ha
  clear ha
  go_wp2_with fail
  refine (same_as _ _ _ (by omega) _).mono ?_; rintro e w4 ⟨rfl, ha⟩
  have HD : Hid (Fr w3 w4) := ha
  clear ha
  go_wp2_with fail
  refine (known _).mono ?_; rintro e w4 ⟨rfl, rfl⟩
  go_wp2_with fail
  go_ret
  exact ⟨rfl, HA.out.trans (HB.out.trans (HC.out.trans HD.out))⟩
theorem walk (a0 : Int) (a1 : Int) (a2 : Int) (w0 : (Lit.int .i64 a0).wf = true) (w1 : (Lit.int .u32 a1).wf = true) (w2 : (Lit.int .i64 a2).wf = true) (w : World) :
    Calls Try.prog 4 #[.int .i64 a0, .int .u32 a1, .int .i64 a2] w fun e w' => e = .returned (.bool true) ∧ Fr w w' := by
  obtain ⟨x0, x1⟩ := bounds_u32 w1
  obtain ⟨o, ho, o0, o1⟩ := Num.and_small 7 a0 3 (by decide) (by decide)
  obtain ⟨q, hq, q0, q1⟩ := Num.and_word a1 8191 x0 (by omega) (by decide)
  obtain ⟨p, hp, p0, p1⟩ := Num.and_word a1 15 x0 (by omega) (by decide)
  exact core a0 a1 a2 o q p _ x0 q0 p0 p1 hq hp ho o0 o1 rfl w

/-! ### THE ROW's STEP: WRITTEN OUT: LEAVE IT -/
set_option maxRecDepth 100000 in
theorem lifted (os : Os) (started : os.Started) (H : Type) (enc : TypeId × Value → H) :
    ReturnsInHanded {} Try.checked os 4 .any (Rows.trapTellsSpec.pre6 enc Try.prog Try.f4 Rows.trapTellsRow.domain false) (Rows.trapTellsSpec.post enc Try.prog Try.f4 false true false false) := by
  refine returnsInHanded_of_change (C := Try.checked) own started (by kernel_rfl) Try.func4
    (ChangeSpec.witness6 (enc := enc) (C := Try.checked) false ⟨#[], #[.int .i64 0, .int .u32 0, .int .i64 0], []⟩ 8 (by kernel_rfl) (by kernel_rfl) (by kernel_rfl) (by kernel_rfl)) ?_
  intro W base args ds gs before hval0 hW hcnd _
  have hval : ∀ (j : Nat) t v, Try.f4.params[j]? = some t → args[j]? = some v → Value.okWide Try.prog W .any base t v := hval0
  have hW' := hW
  obtain ⟨p, q, hA0, hV, rfl, hfz, hnd⟩ := hW
  have hA : DataW.TrodAll enc Try.prog W 0 (fun _ => true) true Try.f4.params.toList args.toList ds p := hA0
  rw [Try.params4] at hA hval
  obtain ⟨v0, vs0, d0, ds0, p0, q0, hargs, rfl, rfl, h0, r0⟩ := trodAll_cons hA
  obtain ⟨v1, vs1, d1, ds1, p1, q1, rfl, rfl, rfl, h1, r1⟩ := trodAll_cons r0
  obtain ⟨v2, vs2, d2, ds2, p2, q2, rfl, rfl, rfl, h2, r2⟩ := trodAll_cons r1
  obtain ⟨rfl, rfl, rfl⟩ := trodAll_nil r2
  obtain rfl : args = #[v0, v1, v2] := by cases args; simp_all
  obtain ⟨rfl, rfl⟩ := trodVars_none hV
  obtain ⟨a0, rfl, rfl, rfl, w0⟩ := open_int Try.underlying3 (hval 0 3 v0 rfl rfl) h0
  obtain ⟨a1, rfl, rfl, rfl, w1⟩ := open_int Try.underlying22 (hval 1 22 v1 rfl rfl) h1
  obtain ⟨a2, rfl, rfl, rfl, w2⟩ := open_int Try.underlying3 (hval 2 3 v2 rfl rfl) h2
  clear hA0 hval0
  simp only [List.append_nil] at hW'
  refine (walk a0 a1 a2 w0 w1 w2 W).mono fun e W' ⟨he, hg⟩ => ?_
  subst he
  exact ⟨_, rfl, _, _, _, [], [], [], hW', (trodAll_cons_mk (shut_bool Try.underlying4 _) trodAll_mk0), (trodAll_cons_mk (shut_int Try.underlying3 w0) (trodAll_cons_mk (shut_int Try.underlying22 w1) (trodAll_cons_mk (shut_int Try.underlying3 w2) trodAll_mk0))), rfl, hg.kept _, fun h => by cases h⟩

theorem over : Rows.trapTellsRow.holds Try.pinned (OpenSpec.ofChange Rows.trapTellsSpec) :=
  OpenClaim.holds_of_wide 4 Try.f4 rfl rfl rfl rfl rfl rfl rfl ⟨rfl, rfl, rfl, rfl, rfl⟩ rfl rfl rfl rfl rfl (by kernel_rfl) Try.func4 (by kernel_rfl)
    (of_decide_eq_true (by kernel_rfl)) (by unfold Func.isWrapper; first | (rw [if_pos (by decide +kernel)]; kernel_rfl) | (rw [if_neg (by decide +kernel)]; exact ⟨rfl, rfl⟩))
    (fun os started H enc _ => lifted os started H enc)

/-- ████ THE STATEMENT ████ -/
theorem proved : Rows.TrapTellsSaid :=
  over
#print axioms proved
end Go.Proofs.Ytbkhemgkhlonhaa.trapTells
