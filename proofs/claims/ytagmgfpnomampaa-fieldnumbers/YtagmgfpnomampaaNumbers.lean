/- Proved: the call FieldNumbers() returns true. No condition. -/
import Derived.Test.YtagmgfpnomampaaRows
import Derived.Test.YtagmgfpnomampaaSame
import Derived.WalkKit
import Derived.ProofKit
import Derived.OpenShut
namespace Go.Proofs.Ytagmgfpnomampaa.fieldNumbers
open Go.ChangeShapes Go.WideShapes Go.ChangeAt Go.RowKit Walks
set_option linter.unusedVariables false      -- a walk need not use every 'w<i>' (that an integer argument fits its kind)

theorem own : ownKnob Try.prog.godebug = none := by kernel_rfl

theorem u32_in (x : Int) : ∃ q : Int, x % 4294967296 = q ∧ 0 ≤ q ∧ q ≤ 4294967295 := ⟨_, rfl, by omega, by omega⟩
theorem xor_in (x y : Int) : ∃ q : Int, bits .xor .u32 x y = q ∧ 0 ≤ q ∧ q ≤ 4294967295 := by
  refine ⟨_, rfl, ?_⟩
  have e : bits .xor .u32 x y = IntKind.u32.wrap ((BitVec.ofInt 32 x ^^^ BitVec.ofInt 32 y).toNat : Int) := rfl
  rw [e, IntKind.wrap_u32']
  omega
set_option maxHeartbeats 1000000 in
theorem core (w : World) : Calls Try.prog 3 #[] w fun e w' => e = .returned (.bool true) ∧ Grown w w' := by
  have sgn : IntKind.u32.signed = false := rfl
  go_enter Try.func3, Try.ntmps3
  go_wp2_with fail
  go_loopw [1] (fun t wr => ∃ p : Nat, (p : Int) ≤ 32 ∧ t = .int .u64 p ∧ Hid (Grown w wr)) (fun t _ => 32 - (intOf t).toNat)
  case atStart => exact ⟨0, by decide, rfl, Grown.refl _⟩
  case round =>
    obtain ⟨p, hp, rfl, HP⟩ := hrel
    by_cases hpl : (p : Int) < 32
    · obtain ⟨q1, e1, l1, m1⟩ := u32_in (2 ^ p)
      obtain ⟨q2, e2, l2, m2⟩ := xor_in IntKind.u32.max q1
      obtain ⟨q3, e3, l3, m3⟩ := u32_in (3735928559 * 2 ^ p)
      obtain ⟨q4, e4, l4, m4⟩ := u32_in (q1 - 1)
      go_wp2_with fail
      go_loop [21] (fun i => ∃ k : Nat, (k : Int) ≤ 4 ∧ i = .int .i64 k) (fun i => 4 - (intOf i).toNat)
      case atStart => exact ⟨0, by decide, rfl⟩
      case round =>
        obtain ⟨k, hk, rfl⟩ := hrel
        by_cases hkl : (k : Int) < 4
        · rcases (show k = 0 ∨ k = 1 ∨ k = 2 ∨ k = 3 by omega) with rfl | rfl | rfl | rfl
          all_goals
            go_wp2_with fail
            go_loop [4] (fun i => ∃ m : Int, -1 ≤ m ∧ m ≤ 35 ∧ i = .int .i64 m) (fun i => (35 - intOf i).toNat)
            case atStart => exact ⟨-1, by decide, by decide, rfl⟩
            case round =>
              obtain ⟨m, hm0, hm1, rfl⟩ := hrel
              by_cases hml : m < 35
              · go_wp2_with fail
                refine (same_as _ _ _ (by omega) (by omega) _).mono ?_; rintro e w3 ⟨rfl, rfl⟩
                go_wp2_with fail
                refine (same_as _ _ _ (by omega) (by omega) _).mono ?_; rintro e w3 ⟨rfl, rfl⟩
                go_wp2_with fail
                exact ⟨⟨m + 1, by omega, by omega, rfl⟩, by simp [intOf]; omega⟩
              · go_wp2_with fail
                first
                  | exact ⟨⟨_, _, _, _, ⟨1, by decide, rfl⟩, rfl, rfl, rfl, rfl⟩, by decide⟩
                  | exact ⟨⟨_, _, _, _, ⟨2, by decide, rfl⟩, rfl, rfl, rfl, rfl⟩, by decide⟩
                  | exact ⟨⟨_, _, _, _, ⟨3, by decide, rfl⟩, rfl, rfl, rfl, rfl⟩, by decide⟩
                  | exact ⟨⟨_, _, _, _, ⟨4, by decide, rfl⟩, rfl, rfl, rfl, rfl⟩, by decide⟩
        · go_wp2_with fail
          exact ⟨⟨p + 1, by omega, by rw [Int.natCast_add]; rfl, Grown.alloc HP.out _ _⟩, by simp [intOf]; omega⟩
    · go_wp2_with fail
      refine (same_as _ _ _ (by decide) (by decide) _).mono ?_; rintro e w3 ⟨rfl, rfl⟩
      go_wp2_with fail
      refine (same_as _ _ _ (by decide) (by decide) _).mono ?_; rintro e w3 ⟨rfl, rfl⟩
      go_wp2_with fail
      refine (known _).mono ?_; rintro e w3 ⟨rfl, rfl⟩
      go_wp2_with fail
      go_ret
      exact ⟨rfl, HP.out⟩
theorem walk (w : World) : Calls Try.prog 3 #[] w fun e w' => e = .returned (.bool true) ∧ Grown w w' := core w

/-! ### THE ROW's STEP: WRITTEN OUT: LEAVE IT -/
set_option maxRecDepth 100000 in
theorem lifted (os : Os) (started : os.Started) (H : Type) (enc : TypeId × Value → H) :
    ReturnsInHanded {} Try.checked os 3 .any (Rows.fieldNumbersSpec.pre6 enc Try.prog Try.f3 Rows.fieldNumbersRow.domain false) (Rows.fieldNumbersSpec.post enc Try.prog Try.f3 false true false false) := by
  refine returnsInHanded_of_change (C := Try.checked) own started (by kernel_rfl) Try.func3
    (ChangeSpec.witness6 (enc := enc) (C := Try.checked) false ⟨#[], #[], []⟩ 8 (by kernel_rfl) (by kernel_rfl) (by kernel_rfl) (by kernel_rfl)) ?_
  intro W base args ds gs before hval0 hW hcnd _
  have hval : ∀ (j : Nat) t v, Try.f3.params[j]? = some t → args[j]? = some v → Value.okWide Try.prog W .any base t v := hval0
  have hW' := hW
  obtain ⟨p, q, hA0, hV, rfl, hfz, hnd⟩ := hW
  have hA : DataW.TrodAll enc Try.prog W 0 (fun _ => true) true Try.f3.params.toList args.toList ds p := hA0
  rw [Try.params3] at hA hval
  obtain ⟨rfl, rfl, rfl⟩ := trodAll_none hA
  obtain ⟨rfl, rfl⟩ := trodVars_none hV
  clear hA0 hval0
  simp only [List.append_nil] at hW'
  refine (walk  W).mono fun e W' ⟨he, hg⟩ => ?_
  subst he
  exact ⟨_, rfl, post_of_same (pa := []) (pv := []) hW' (fun _ _ _ => (trodAll_cons_mk (shut_bool Try.underlying4 _) trodAll_mk0)) (fun sp _ => rfl) (fun _ _ => rfl) rfl
    (hg.frame _) hg.2.1 (ok_one (by kernel_rfl) rfl (okWide_bool_mk Try.underlying4 _))⟩

theorem over : Rows.fieldNumbersRow.holds Try.pinned (OpenSpec.ofChange Rows.fieldNumbersSpec) :=
  OpenClaim.holds_of_wide 3 Try.f3 rfl rfl rfl rfl rfl rfl rfl ⟨rfl, rfl, rfl, rfl, rfl⟩ rfl rfl rfl rfl rfl (by kernel_rfl) Try.func3 (by kernel_rfl)
    (of_decide_eq_true (by kernel_rfl)) (by unfold Func.isWrapper; first | (rw [if_pos (by decide +kernel)]; kernel_rfl) | (rw [if_neg (by decide +kernel)]; exact ⟨rfl, rfl⟩))
    (fun os started H enc _ => lifted os started H enc)

/-- ████ THE STATEMENT ████ -/
theorem proved : Rows.FieldNumbersSaid :=
  over
#print axioms proved
end Go.Proofs.Ytagmgfpnomampaa.fieldNumbers
