/- Proved: the call DivideNumbers() returns true. No condition. -/
import Derived.Test.YtbedgfobbnonjaaRows
import Derived.Test.YtbedgfobbnonjaaSame
import Derived.Test.YtbedgfobbnonjaaKnown
import Derived.Test.YtbedgfobbnonjaaAnds
import Derived.WalkKit
import Derived.ProofKit
import Derived.OpenShut
namespace Go.Proofs.Ytbedgfobbnonjaa.divideNumbers
open Go.ChangeShapes Go.WideShapes Go.ChangeAt Go.RowKit Walks
set_option linter.unusedVariables false      -- a walk need not use every 'w<i>' (that an integer argument fits its kind)

theorem own : ownKnob Try.prog.godebug = none := by kernel_rfl

abbrev tab : Array Value := #[.int .u32 0, .int .u32 1, .int .u32 2, .int .u32 3, .int .u32 7, .int .u32 2147483647, .int .u32 2147483648, .int .u32 2147483649, .int .u32 4294967294, .int .u32 4294967295, .int .u32 3735928559]
theorem tab_at (k : Nat) (h : k < 11) : ∃ t : Int, 0 ≤ t ∧ t ≤ 4294967295 ∧ tab[k]? = some (.int .u32 t) := by
  have : k = 0 ∨ k = 1 ∨ k = 2 ∨ k = 3 ∨ k = 4 ∨ k = 5 ∨ k = 6 ∨ k = 7 ∨ k = 8 ∨ k = 9 ∨ k = 10 := by omega
  rcases this with rfl | rfl | rfl | rfl | rfl | rfl | rfl | rfl | rfl | rfl | rfl <;> exact ⟨_, by decide, by decide, rfl⟩
set_option maxRecDepth 100000 in
set_option maxHeartbeats 4000000 in
theorem core (w : World) : Calls Try.prog 3 #[] w fun e w' => e = .returned (.bool true) ∧ Fr w w' := by
  go_enter Try.func3, Try.ntmps3
  go_wp2_with fail
  go_loopw [2] (fun t wr => ∃ m : Int, 36 ≤ m ∧ m ≤ 48 ∧ t = .int .i64 m ∧ Hid (Fr (w.alloc (.cells tab 22)) wr)) (fun t _ => (48 - intOf t).toNat)
  case atStart => exact ⟨36, by decide, by decide, rfl, Fr.refl _⟩
  case round =>
    obtain ⟨m, hm0, hm1, rfl, HM⟩ := hrel
    by_cases hml : m < 48
    · go_wp2_with fail
      go_loopw [14] (fun t wr => ∃ k : Nat, (k : Int) ≤ 11 ∧ t = .int .i64 k ∧ Hid (Fr (w.alloc (.cells tab 22)) wr)) (fun t _ => 11 - (intOf t).toNat)
      case atStart => exact ⟨0, by decide, rfl, HM⟩
      case round =>
        rename World => wr2
        obtain ⟨k, hk, rfl, HK⟩ := hrel
        by_cases hkl : (k : Int) < 11
        · obtain ⟨a, a0, a1, hc⟩ := tab_at k (by omega)
          have k0 : (0 : Int) ≤ k := by omega
          have hr : wr2.cell? ⟨w.heap.size, k, none⟩ = some (.int .u32 a) := (box_cell _ _ _ _ HK.out k).trans hc
          go_wp2_with fail
          go_loopw [20] (fun t wr => ∃ j : Nat, (j : Int) ≤ 11 ∧ t = .int .i64 j ∧ Hid (Fr (w.alloc (.cells tab 22)) wr)) (fun t _ => 11 - (intOf t).toNat)
          case atStart => exact ⟨0, by decide, rfl, HK⟩
          case round =>
            rename World => wr3
            obtain ⟨j, hj, rfl, HJ⟩ := hrel
            by_cases hjl : (j : Int) < 11
            · obtain ⟨b, b0, b1, bc⟩ := tab_at j (by omega)
              have j0 : (0 : Int) ≤ j := by omega
              have rr : wr3.cell? ⟨w.heap.size, j, none⟩ = some (.int .u32 b) := (box_cell _ _ _ _ HJ.out j).trans bc
              go_wp2_with fail
              refine (same_as _ _ _ a0 a1 b0 b1 _).mono ?_; rintro e w5 ⟨rfl, hF⟩
              have HS := hideP (HJ.out.trans hF)
              clear hF
              go_wp2_with fail
              exact ⟨⟨j + 1, by omega, by rw [Int.natCast_add]; rfl, HS⟩, by simp [intOf]; omega⟩
            · go_wp2_with fail
              exact ⟨⟨k + 1, by omega, by rw [Int.natCast_add]; rfl, HJ⟩, by simp [intOf]; omega⟩
        · go_wp2_with fail
          exact ⟨⟨m + 1, by omega, by omega, rfl, HK⟩, by simp [intOf]; omega⟩
    · go_wp2_with fail
      refine (known _).mono ?_; rintro e w5 ⟨rfl, hF⟩
      have HS := hideP (HM.out.trans hF)
      clear hF
      go_wp2_with fail
      go_ret
      exact ⟨rfl, ((Fr.refl w).alloc _).trans HS.out⟩
theorem walk (w : World) : Calls Try.prog 3 #[] w fun e w' => e = .returned (.bool true) ∧ Fr w w' := core w

/-! ### THE ROW's STEP: WRITTEN OUT: LEAVE IT -/
set_option maxRecDepth 100000 in
theorem lifted (os : Os) (started : os.Started) (H : Type) (enc : TypeId × Value → H) :
    ReturnsInHanded {} Try.checked os 3 .any (Rows.divideNumbersSpec.pre6 enc Try.prog Try.f3 Rows.divideNumbersRow.domain false) (Rows.divideNumbersSpec.post enc Try.prog Try.f3 false true false false) := by
  refine returnsInHanded_of_change (C := Try.checked) own started (by kernel_rfl) Try.func3
    (ChangeSpec.witness6 (enc := enc) (C := Try.checked) false ⟨#[], #[], []⟩ 8 (by kernel_rfl) (by kernel_rfl) (by kernel_rfl) (by kernel_rfl)) ?_
  intro W base args ds gs before hval0 hW hcnd _
  have hval : ∀ (j : Nat) t v, Try.f3.params[j]? = some t → args[j]? = some v → Value.okWide Try.prog W .any base t v := hval0
  have hW' := hW
  obtain ⟨p, q, hA0, hV, rfl, hfz, hnd⟩ := hW
  have hA : DataW.TrodAll enc Try.prog W 0 (fun _ => true) true Try.f3.params.toList args.toList ds p := hA0
  rw [Try.params3] at hA hval
  obtain ⟨rfl, rfl, rfl⟩ := trodAll_none hA
  obtain ⟨rfl, rfl⟩ := trodVars_none hV
  clear hA0 hval0
  simp only [List.append_nil] at hW'
  refine (walk  W).mono fun e W' ⟨he, hg⟩ => ?_
  subst he
  exact ⟨_, rfl, _, _, _, [], [], [], hW', (trodAll_cons_mk (shut_bool Try.underlying4 _) trodAll_mk0), rfl, rfl, hg.kept _, fun h => by cases h⟩

theorem over : Rows.divideNumbersRow.holds Try.pinned (OpenSpec.ofChange Rows.divideNumbersSpec) :=
  OpenClaim.holds_of_wide 3 Try.f3 rfl rfl rfl rfl rfl rfl rfl ⟨rfl, rfl, rfl, rfl, rfl⟩ rfl rfl rfl rfl rfl (by kernel_rfl) Try.func3 (by kernel_rfl)
    (of_decide_eq_true (by kernel_rfl)) (by unfold Func.isWrapper; first | (rw [if_pos (by decide +kernel)]; kernel_rfl) | (rw [if_neg (by decide +kernel)]; exact ⟨rfl, rfl⟩))
    (fun os started H enc _ => lifted os started H enc)

/-- ████ THE STATEMENT ████ -/
theorem proved : Rows.DivideNumbersSaid :=
  over
#print axioms proved
end Go.Proofs.Ytbedgfobbnonjaa.divideNumbers
