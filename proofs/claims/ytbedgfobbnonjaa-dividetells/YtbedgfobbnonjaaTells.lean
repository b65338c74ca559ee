/- Proved: for every int op and all uint32 a, b the call DivideTells(op, a, b) returns true and leaves its arguments as they were. No condition. -/
import Derived.Test.YtbedgfobbnonjaaRows
import Derived.Test.YtbedgfobbnonjaaSame
import Derived.Test.YtbedgfobbnonjaaKnown
import Derived.Test.YtbedgfobbnonjaaAnds
import Derived.WalkKit
import Derived.ProofKit
import Derived.OpenShut
namespace Go.Proofs.Ytbedgfobbnonjaa.divideTells
open Go.ChangeShapes Go.WideShapes Go.ChangeAt Go.RowKit Walks
set_option linter.unusedVariables false      -- a walk need not use every 'w<i>' (that an integer argument fits its kind)

theorem own : ownKnob Try.prog.godebug = none := by kernel_rfl

set_option maxHeartbeats 1000000 in
theorem core (op a b k x y : Int) (a0 : 0 ≤ a) (a1 : a ≤ 4294967295) (b0 : 0 ≤ b) (b1 : b ≤ 4294967295) (hk : bits .and .i64 op 7 = k) (k0 : 0 ≤ k) (k1 : k ≤ 7) (hx : bits .and .u32 a 15 = x) (hy : bits .and .u32 b 15 = y)
    (x0 : 0 ≤ x) (x1 : x ≤ 4294967295) (y0 : 0 ≤ y) (y1 : y ≤ 4294967295) (w : World) :
    Calls Try.prog 4 #[.int .i64 op, .int .u32 a, .int .u32 b] w fun e w' => e = .returned (.bool true) ∧ Fr w w' := by
  go_enter Try.func4, Try.ntmps4
  go_wp2_with fail
  refine (same_as _ _ _ a0 a1 b0 b1 _).mono ?_; rintro e w1 ⟨rfl, hF⟩
  have F1 := hideP hF
  clear hF
  go_wp2_with fail
  refine (same_as _ _ _ a0 a1 y0 y1 _).mono ?_; rintro e w2 ⟨rfl, hF⟩
  have F2 := hideP (F1.out.trans hF)
  clear hF
  go_wp2_with fail
  refine (same_as _ _ _ x0 x1 b0 b1 _).mono ?_; rintro e w3 ⟨rfl, hF⟩
  have F3 := hideP (F2.out.trans hF)
  clear hF
  go_wp2_with fail
  refine (same_as _ _ _ a0 a1 b0 b1 _).mono ?_; rintro e w4 ⟨rfl, hF⟩
  have F4 := hideP (F3.out.trans hF)
  clear hF
  go_wp2_with fail
  refine (known _).mono ?_; rintro e w5 ⟨rfl, hF⟩
  have F5 := hideP (F4.out.trans hF)
  clear hF
  go_wp2_with fail
  go_ret
  exact ⟨rfl, F5.out⟩
theorem walk (a0 : Int) (a1 : Int) (a2 : Int) (w0 : (Lit.int .i64 a0).wf = true) (w1 : (Lit.int .u32 a1).wf = true) (w2 : (Lit.int .u32 a2).wf = true) (w : World) :
    Calls Try.prog 4 #[.int .i64 a0, .int .u32 a1, .int .u32 a2] w fun e w' => e = .returned (.bool true) ∧ Fr w w' := by
  obtain ⟨h0, h1⟩ := bounds_u32 w1
  obtain ⟨h2, h3⟩ := bounds_u32 w2
  obtain ⟨k, hk, k0, k1⟩ := Num.and_small 7 a0 3 rfl (by decide)
  exact core a0 a1 a2 k _ _ h0 (by omega) h2 (by omega) hk k0 k1 (Num.and15 a1 h0 (by omega)) (Num.and15 a2 h2 (by omega)) (by omega) (by omega) (by omega) (by omega) w

/-! ### THE ROW's STEP: WRITTEN OUT: LEAVE IT -/
set_option maxRecDepth 100000 in
theorem lifted (os : Os) (started : os.Started) (H : Type) (enc : TypeId × Value → H) :
    ReturnsInHanded {} Try.checked os 4 .any (Rows.divideTellsSpec.pre6 enc Try.prog Try.f4 Rows.divideTellsRow.domain false) (Rows.divideTellsSpec.post enc Try.prog Try.f4 false true false false) := by
  refine returnsInHanded_of_change (C := Try.checked) own started (by kernel_rfl) Try.func4
    (ChangeSpec.witness6 (enc := enc) (C := Try.checked) false ⟨#[], #[.int .i64 0, .int .u32 0, .int .u32 0], []⟩ 8 (by kernel_rfl) (by kernel_rfl) (by kernel_rfl) (by kernel_rfl)) ?_
  intro W base args ds gs before hval0 hW hcnd _
  have hval : ∀ (j : Nat) t v, Try.f4.params[j]? = some t → args[j]? = some v → Value.okWide Try.prog W .any base t v := hval0
  have hW' := hW
  obtain ⟨p, q, hA0, hV, rfl, hfz, hnd⟩ := hW
  have hA : DataW.TrodAll enc Try.prog W 0 (fun _ => true) true Try.f4.params.toList args.toList ds p := hA0
  rw [Try.params4] at hA hval
  obtain ⟨v0, vs0, d0, ds0, p0, q0, hargs, rfl, rfl, h0, r0⟩ := trodAll_cons hA
  obtain ⟨v1, vs1, d1, ds1, p1, q1, rfl, rfl, rfl, h1, r1⟩ := trodAll_cons r0
  obtain ⟨v2, vs2, d2, ds2, p2, q2, rfl, rfl, rfl, h2, r2⟩ := trodAll_cons r1
  obtain ⟨rfl, rfl, rfl⟩ := trodAll_nil r2
  obtain rfl : args = #[v0, v1, v2] := by cases args; simp_all
  obtain ⟨rfl, rfl⟩ := trodVars_none hV
  obtain ⟨a0, rfl, rfl, rfl, w0⟩ := open_int Try.underlying3 (hval 0 3 v0 rfl rfl) h0
  obtain ⟨a1, rfl, rfl, rfl, w1⟩ := open_int Try.underlying22 (hval 1 22 v1 rfl rfl) h1
  obtain ⟨a2, rfl, rfl, rfl, w2⟩ := open_int Try.underlying22 (hval 2 22 v2 rfl rfl) h2
  clear hA0 hval0
  simp only [List.append_nil] at hW'
  refine (walk a0 a1 a2 w0 w1 w2 W).mono fun e W' ⟨he, hg⟩ => ?_
  subst he
  exact ⟨_, rfl, _, _, _, [], [], [], hW', (trodAll_cons_mk (shut_bool Try.underlying4 _) trodAll_mk0), (trodAll_cons_mk (shut_int Try.underlying3 w0) (trodAll_cons_mk (shut_int Try.underlying22 w1) (trodAll_cons_mk (shut_int Try.underlying22 w2) trodAll_mk0))), rfl, hg.kept _, fun h => by cases h⟩

theorem over : Rows.divideTellsRow.holds Try.pinned (OpenSpec.ofChange Rows.divideTellsSpec) :=
  OpenClaim.holds_of_wide 4 Try.f4 rfl rfl rfl rfl rfl rfl rfl ⟨rfl, rfl, rfl, rfl, rfl⟩ rfl rfl rfl rfl rfl (by kernel_rfl) Try.func4 (by kernel_rfl)
    (of_decide_eq_true (by kernel_rfl)) (by unfold Func.isWrapper; first | (rw [if_pos (by decide +kernel)]; kernel_rfl) | (rw [if_neg (by decide +kernel)]; exact ⟨rfl, rfl⟩))
    (fun os started H enc _ => lifted os started H enc)

/-- ████ THE STATEMENT ████ -/
theorem proved : Rows.DivideTellsSaid :=
  over
#print axioms proved
end Go.Proofs.Ytbedgfobbnonjaa.divideTells
