/- Proved: for every int op and all uint32 a, b the call DivideSame(op, a, b) returns true and leaves its arguments as they were. No condition. -/
import Derived.Test.YtbedgfobbnonjaaRows
import Derived.Test.YtbedgfobbnonjaaKnown
import Derived.Test.YtbedgfobbnonjaaAnds
import Derived.WalkKit
import Derived.ProofKit
import Derived.OpenShut
namespace Go.Proofs.Ytbedgfobbnonjaa.divideSame
open Go.ChangeShapes Go.WideShapes Go.ChangeAt Go.RowKit Walks
set_option linter.unusedVariables false      -- a walk need not use every 'w<i>' (that an integer argument fits its kind)

theorem own : ownKnob Try.prog.godebug = none := by kernel_rfl

set_option maxRecDepth 100000 in
set_option maxHeartbeats 4000000 in
theorem core (op a b k : Int) (a0 : 0 ≤ a) (a1 : a ≤ 4294967295) (b0 : 0 ≤ b) (b1 : b ≤ 4294967295) (hk : bits .and .i64 op 7 = k) (k0 : 0 ≤ k) (k1 : k ≤ 7) (w : World) :
    Calls Try.prog 5 #[.int .i64 op, .int .u32 a, .int .u32 b] w fun e w' => e = .returned (.bool true) ∧ Fr w w' := by
  have q0 : 38 ≤ 38 + k := by omega
  have q1 : 38 + k ≤ 45 := by omega
  have Q0 := hideP q0
  have Q1 := hideP q1
  clear q0 q1
  go_enter Try.func5, Try.ntmps5
  go_wp2_with fail
  refine (new_as (38 + k) a b Q0.out Q1.out a0 a1 b0 b1 _).mono ?_; rintro e w1 ⟨rfl, hF⟩
  have F1 := hideP hF
  clear hF
  go_wp2_with fail
  refine (new_as (38 + k) a b Q0.out Q1.out a0 a1 b0 b1 _).mono ?_; rintro e w2 ⟨rfl, hF⟩
  have U2 := hideP (F1.out.fr_ hF.fr)
  have V2 := hideP (hF.base F1.out.fr)
  have NE : Hid (w.heap.size ≠ w1.heap.size) := by have := F1.out.hi; unfold Hid; omega
  clear hF
  go_wp2_with fail
  go_loopw [10] (fun t wr => ∃ j : Nat, (j : Int) ≤ 40 ∧ t = .int .i64 j ∧ Hid (Born w.heap.size (38 + k) a b (min j 8) w wr ∧ Born w1.heap.size (38 + k) a b (min j 8) w wr)) (fun t _ => 40 - (intOf t).toNat)
  case atStart => exact ⟨0, by decide, rfl, U2.out, V2.out⟩
  case round =>
    obtain ⟨j, hj, rfl, HF⟩ := hrel
    have HU := hideP HF.out.1
    have HV := hideP HF.out.2
    clear HF
    by_cases hlt : (j : Int) < 40
    · obtain ⟨g, G⟩ : ∃ g : Bool, Hid (decide (7 ≤ min j 8) = g) := ⟨_, rfl⟩
      obtain ⟨n, N⟩ : ∃ n : Nat, Hid (min (j + 1) 8 = n) := ⟨_, rfl⟩
      have n8 : Hid (n ≤ 8) := by have := N.out; unfold Hid; omega
      obtain ⟨c, C⟩ : ∃ c : Int, Hid ((if n = 8 then Num.ad (38 + k) a b else 0) = c) := ⟨_, rfl⟩
      obtain ⟨d, D⟩ : ∃ d : Bool, Hid (decide (n = 8) = d) := ⟨_, rfl⟩
      go_wp2_with fail
      refine (step_as _ (38 + k) a b (min j 8) g (by omega) G a0 a1 b0 b1 _ HU.out.at_).mono ?_; rintro e w3 ⟨rfl, hF⟩
      have U3 := hideP (HU.out.now hF)
      have V3 := hideP (HV.out.far hF.2 HU.out.lo (Ne.symm NE.out))
      rw [min_next, N.out] at U3
      clear hF
      go_wp2_with fail
      refine (step_as _ (38 + k) a b (min j 8) g (by omega) G a0 a1 b0 b1 _ V3.out.at_).mono ?_; rintro e w4 ⟨rfl, hF⟩
      have V4 := hideP (V3.out.now hF)
      have U4 := hideP (U3.out.far hF.2 V3.out.lo NE.out)
      rw [min_next, N.out] at V4
      clear hF
      go_wp2_with fail
      refine (count_as _ (38 + k) a b n _ U4.out.at_).mono ?_; rintro e w4 ⟨rfl, rfl⟩
      go_wp2_with fail
      refine (count_as _ (38 + k) a b n _ V4.out.at_).mono ?_; rintro e w4 ⟨rfl, rfl⟩
      go_wp2_with fail
      refine (res_as _ (38 + k) a b c n d n8.out Q0.out Q1.out a0 a1 b0 b1 C D _ U4.out.at_).mono ?_; rintro e w5 ⟨rfl, hF⟩
      have U5 := hideP (U4.out.now hF)
      have V5 := hideP (V4.out.far hF.2 U4.out.lo (Ne.symm NE.out))
      clear hF
      go_wp2_with fail
      refine (res_as _ (38 + k) a b c n d n8.out Q0.out Q1.out a0 a1 b0 b1 C D _ V5.out.at_).mono ?_; rintro e w6 ⟨rfl, hF⟩
      have V6 := hideP (V5.out.now hF)
      have U6 := hideP (U5.out.far hF.2 V5.out.lo NE.out)
      clear hF
      go_wp2_with fail
      exact ⟨⟨j + 1, by omega, by rw [Int.natCast_add]; rfl, by rw [N.out]; exact ⟨U6.out, V6.out⟩⟩, by simp [intOf]; omega⟩
    · have e8 : min j 8 = 8 := by omega
      rw [e8] at HU
      clear e8 HV
      obtain ⟨c, C⟩ : ∃ c : Int, Hid (Num.ad (38 + k) a b = c) := ⟨_, rfl⟩
      go_wp2_with fail
      refine (late_as _ (38 + k) a b c Q0.out Q1.out a0 a1 b0 b1 C _ HU.out.at_).mono ?_; rintro e w3 ⟨rfl, hF⟩
      have U3 := hideP (HU.out.now hF)
      clear hF
      go_wp2_with fail
      refine (known _).mono ?_; rintro e w4 ⟨rfl, hF⟩
      have F4 := hideP (U3.out.fr.trans hF)
      clear hF
      go_wp2_with fail
      go_ret
      exact ⟨rfl, F4.out⟩
theorem walk (a0 : Int) (a1 : Int) (a2 : Int) (w0 : (Lit.int .i64 a0).wf = true) (w1 : (Lit.int .u32 a1).wf = true) (w2 : (Lit.int .u32 a2).wf = true) (w : World) :
    Calls Try.prog 5 #[.int .i64 a0, .int .u32 a1, .int .u32 a2] w fun e w' => e = .returned (.bool true) ∧ Fr w w' := by
  obtain ⟨h0, h1⟩ := bounds_u32 w1
  obtain ⟨h2, h3⟩ := bounds_u32 w2
  obtain ⟨k, hk, k0, k1⟩ := Num.and_small 7 a0 3 rfl (by decide)
  exact core a0 a1 a2 k h0 (by omega) h2 (by omega) hk k0 k1 w

/-! ### THE ROW's STEP: WRITTEN OUT: LEAVE IT -/
set_option maxRecDepth 100000 in
theorem lifted (os : Os) (started : os.Started) (H : Type) (enc : TypeId × Value → H) :
    ReturnsInHanded {} Try.checked os 5 .any (Rows.divideSameSpec.pre6 enc Try.prog Try.f5 Rows.divideSameRow.domain false) (Rows.divideSameSpec.post enc Try.prog Try.f5 false true false false) := by
  refine returnsInHanded_of_change (C := Try.checked) own started (by kernel_rfl) Try.func5
    (ChangeSpec.witness6 (enc := enc) (C := Try.checked) false ⟨#[], #[.int .i64 0, .int .u32 0, .int .u32 0], []⟩ 8 (by kernel_rfl) (by kernel_rfl) (by kernel_rfl) (by kernel_rfl)) ?_
  intro W base args ds gs before hval0 hW hcnd _
  have hval : ∀ (j : Nat) t v, Try.f5.params[j]? = some t → args[j]? = some v → Value.okWide Try.prog W .any base t v := hval0
  have hW' := hW
  obtain ⟨p, q, hA0, hV, rfl, hfz, hnd⟩ := hW
  have hA : DataW.TrodAll enc Try.prog W 0 (fun _ => true) true Try.f5.params.toList args.toList ds p := hA0
  rw [Try.params5] at hA hval
  obtain ⟨v0, vs0, d0, ds0, p0, q0, hargs, rfl, rfl, h0, r0⟩ := trodAll_cons hA
  obtain ⟨v1, vs1, d1, ds1, p1, q1, rfl, rfl, rfl, h1, r1⟩ := trodAll_cons r0
  obtain ⟨v2, vs2, d2, ds2, p2, q2, rfl, rfl, rfl, h2, r2⟩ := trodAll_cons r1
  obtain ⟨rfl, rfl, rfl⟩ := trodAll_nil r2
  obtain rfl : args = #[v0, v1, v2] := by cases args; simp_all
  obtain ⟨rfl, rfl⟩ := trodVars_none hV
  obtain ⟨a0, rfl, rfl, rfl, w0⟩ := open_int Try.underlying3 (hval 0 3 v0 rfl rfl) h0
  obtain ⟨a1, rfl, rfl, rfl, w1⟩ := open_int Try.underlying22 (hval 1 22 v1 rfl rfl) h1
  obtain ⟨a2, rfl, rfl, rfl, w2⟩ := open_int Try.underlying22 (hval 2 22 v2 rfl rfl) h2
  clear hA0 hval0
  simp only [List.append_nil] at hW'
  refine (walk a0 a1 a2 w0 w1 w2 W).mono fun e W' ⟨he, hg⟩ => ?_
  subst he
  exact ⟨_, rfl, _, _, _, [], [], [], hW', (trodAll_cons_mk (shut_bool Try.underlying4 _) trodAll_mk0), (trodAll_cons_mk (shut_int Try.underlying3 w0) (trodAll_cons_mk (shut_int Try.underlying22 w1) (trodAll_cons_mk (shut_int Try.underlying22 w2) trodAll_mk0))), rfl, hg.kept _, fun h => by cases h⟩

theorem over : Rows.divideSameRow.holds Try.pinned (OpenSpec.ofChange Rows.divideSameSpec) :=
  OpenClaim.holds_of_wide 5 Try.f5 rfl rfl rfl rfl rfl rfl rfl ⟨rfl, rfl, rfl, rfl, rfl⟩ rfl rfl rfl rfl rfl (by kernel_rfl) Try.func5 (by kernel_rfl)
    (of_decide_eq_true (by kernel_rfl)) (by unfold Func.isWrapper; first | (rw [if_pos (by decide +kernel)]; kernel_rfl) | (rw [if_neg (by decide +kernel)]; exact ⟨rfl, rfl⟩))
    (fun os started H enc _ => lifted os started H enc)

/-- ████ THE STATEMENT ████ -/
theorem proved : Rows.DivideSameSaid :=
  over
#print axioms proved
end Go.Proofs.Ytbedgfobbnonjaa.divideSame
