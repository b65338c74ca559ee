/- Proved: the call AlignNumbers() returns true. No condition. -/
import Derived.Test.YtgfoclpcfgfnbaaRows
import Derived.Test.YtgfoclpcfgfnbaaSame
import Derived.Test.YtgfoclpcfgfnbaaSet
import Derived.WalkKit
import Derived.ProofKit
import Derived.OpenShut
namespace Go.Proofs.Ytgfoclpcfgfnbaa.alignNumbers
open Go.ChangeShapes Go.WideShapes Go.ChangeAt Go.RowKit Walks
set_option linter.unusedVariables false      -- a walk need not use every 'w<i>' (that an integer argument fits its kind)

theorem own : ownKnob Try.prog.godebug = none := by kernel_rfl

abbrev tab : Array Value := #[.int .u32 0, .int .u32 4294967295, .int .u32 128, .int .u32 32768, .int .u32 305419896, .int .u32 2309737967]
theorem tab_at (k : Nat) (h : k < 6) : ∃ t : Int, 0 ≤ t ∧ t ≤ 4294967295 ∧ tab[k]? = some (.int .u32 t) := by
  have : k = 0 ∨ k = 1 ∨ k = 2 ∨ k = 3 ∨ k = 4 ∨ k = 5 := by omega
  rcases this with rfl | rfl | rfl | rfl | rfl | rfl <;> exact ⟨_, by decide, by decide, rfl⟩
theorem xor_in (k : Nat) (h : (k : Int) ≤ 9) : ∃ y : Int, bits .xor .u32 IntKind.u32.max (k : Int) = y ∧ 0 ≤ y ∧ y ≤ 4294967295 := by
  have l : 4294967295 ^^^ k < 2 ^ 32 := Nat.xor_lt_two_pow (by decide) (by omega)
  have l' : 4294967295 ^^^ k < 4294967296 := l
  exact ⟨((4294967295 ^^^ k : Nat) : Int), u32_xor_nat 4294967295 k (by decide) (by omega), by omega, by omega⟩
set_option maxRecDepth 100000 in
set_option maxHeartbeats 4000000 in
theorem core (w : World) : Calls Try.prog 3 #[] w fun e w' => e = .returned (.bool true) ∧ Fr w w' := by
  have sg : IntKind.u32.signed = false := rfl
  go_enter Try.func3, Try.ntmps3
  go_wp2_with fail
  go_loopw [1] (fun t wr => ∃ m : Int, -1 ≤ m ∧ m ≤ 60 ∧ t = .int .i64 m ∧ Hid (Fr w wr)) (fun t _ => (60 - intOf t).toNat)
  case atStart => exact ⟨-1, by decide, by decide, rfl, Fr.refl _⟩
  case round =>
    obtain ⟨m, hm0, hm1, rfl, HM⟩ := hrel
    by_cases hml : m < 60
    · go_wp2_with fail
      go_loopw [2] (fun t wr => ∃ k : Nat, (k : Int) ≤ 9 ∧ t = .int .u32 k ∧ Hid (Fr w wr)) (fun t _ => 9 - (intOf t).toNat)
      case atStart => exact ⟨0, by decide, rfl, HM⟩
      case round =>
        rename World => wr2
        obtain ⟨k, hk, rfl, HK⟩ := hrel
        by_cases hkl : (k : Int) < 9
        · have k0 : (0 : Int) ≤ k := by omega
          obtain ⟨y, Y, y0, y1⟩ := xor_in k hk
          go_wp2_with fail
          go_loopw [15] (fun t wr => ∃ j : Nat, (j : Int) ≤ 6 ∧ t = .int .i64 j ∧ Hid (Fr (wr2.alloc (.cells tab 22)) wr)) (fun t _ => 6 - (intOf t).toNat)
          case atStart => exact ⟨0, by decide, rfl, Fr.refl _⟩
          case round =>
            rename World => wr3
            obtain ⟨j, hj, rfl, HJ⟩ := hrel
            by_cases hjl : (j : Int) < 6
            · obtain ⟨b, b0, b1, bc⟩ := tab_at j (by omega)
              have j0 : (0 : Int) ≤ j := by omega
              have rr : wr3.cell? ⟨wr2.heap.size, j, none⟩ = some (.int .u32 b) := (box_cell _ _ _ _ HJ.out j).trans bc
              go_wp2_with fail
              refine (same_as _ _ _ _ _ (by omega) (by omega) b0 b1 (by omega) (by omega) _).mono ?_; rintro e w5 ⟨rfl, ha⟩
              have HA : Hid (w5.Alike _) := ha
              clear ha
              go_wp2_with fail
              refine (same_as _ _ _ _ _ (by omega) (by omega) b0 b1 (by omega) (by omega) _).mono ?_; rintro e w6 ⟨rfl, ha⟩
              have HB : Hid (w6.Alike _) := ha
              clear ha
              go_wp2_with fail
              exact ⟨⟨j + 1, by omega, by rw [Int.natCast_add]; rfl, (HJ.out.alike HA.out).alike HB.out⟩, by simp [intOf]; omega⟩
            · go_wp2_with fail
              exact ⟨⟨k + 1, by omega, by rw [Int.natCast_add]; rfl, (HK.out.alloc _).trans HJ.out⟩, by simp [intOf]; omega⟩
        · go_wp2_with fail
          exact ⟨⟨m + 1, by omega, by omega, rfl, HK⟩, by simp [intOf]; omega⟩
    · go_wp2_with fail
      refine (same_as _ _ _ _ _ (by decide) (by decide) (by decide) (by decide) (by decide) (by decide) _).mono ?_; rintro e w5 ⟨rfl, ha⟩
      have HA : Hid (w5.Alike _) := ha
      clear ha
      go_wp2_with fail
      refine (known _).mono ?_; rintro e w6 ⟨rfl, ha⟩
      have HB : Hid (w6.Alike _) := ha
      clear ha
      go_wp2_with fail
      go_ret
      exact ⟨rfl, (HM.out.alike HA.out).alike HB.out⟩
theorem walk (w : World) : Calls Try.prog 3 #[] w fun e w' => e = .returned (.bool true) ∧ Fr w w' := core w

/-! ### THE ROW's STEP: WRITTEN OUT: LEAVE IT -/
set_option maxRecDepth 100000 in
theorem lifted (os : Os) (started : os.Started) (H : Type) (enc : TypeId × Value → H) :
    ReturnsInHanded {} Try.checked os 3 .any (Rows.alignNumbersSpec.pre6 enc Try.prog Try.f3 Rows.alignNumbersRow.domain false) (Rows.alignNumbersSpec.post enc Try.prog Try.f3 false true false false) := by
  refine returnsInHanded_of_change (C := Try.checked) own started (by kernel_rfl) Try.func3
    (ChangeSpec.witness6 (enc := enc) (C := Try.checked) false ⟨#[], #[], []⟩ 8 (by kernel_rfl) (by kernel_rfl) (by kernel_rfl) (by kernel_rfl)) ?_
  intro W base args ds gs before hval0 hW hcnd _
  have hval : ∀ (j : Nat) t v, Try.f3.params[j]? = some t → args[j]? = some v → Value.okWide Try.prog W .any base t v := hval0
  have hW' := hW
  obtain ⟨p, q, hA0, hV, rfl, hfz, hnd⟩ := hW
  have hA : DataW.TrodAll enc Try.prog W 0 (fun _ => true) true Try.f3.params.toList args.toList ds p := hA0
  rw [Try.params3] at hA hval
  obtain ⟨rfl, rfl, rfl⟩ := trodAll_none hA
  obtain ⟨rfl, rfl⟩ := trodVars_none hV
  clear hA0 hval0
  simp only [List.append_nil] at hW'
  refine (walk  W).mono fun e W' ⟨he, hg⟩ => ?_
  subst he
  exact ⟨_, rfl, _, _, _, [], [], [], hW', (trodAll_cons_mk (shut_bool Try.underlying4 _) trodAll_mk0), rfl, rfl, hg.kept _, fun h => by cases h⟩

theorem over : Rows.alignNumbersRow.holds Try.pinned (OpenSpec.ofChange Rows.alignNumbersSpec) :=
  OpenClaim.holds_of_wide 3 Try.f3 rfl rfl rfl rfl rfl rfl rfl ⟨rfl, rfl, rfl, rfl, rfl⟩ rfl rfl rfl rfl rfl (by kernel_rfl) Try.func3 (by kernel_rfl)
    (of_decide_eq_true (by kernel_rfl)) (by unfold Func.isWrapper; first | (rw [if_pos (by decide +kernel)]; kernel_rfl) | (rw [if_neg (by decide +kernel)]; exact ⟨rfl, rfl⟩))
    (fun os started H enc _ => lifted os started H enc)

/-- ████ THE STATEMENT ████ -/
theorem proved : Rows.AlignNumbersSaid :=
  over
#print axioms proved
end Go.Proofs.Ytgfoclpcfgfnbaa.alignNumbers
