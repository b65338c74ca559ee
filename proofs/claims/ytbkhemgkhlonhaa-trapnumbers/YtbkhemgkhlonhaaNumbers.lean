/- Proved: the call TrapNumbers() returns true. No condition. -/
import Derived.Test.YtbkhemgkhlonhaaRows
import Derived.Test.YtbkhemgkhlonhaaSame
import Derived.WalkKit
import Derived.ProofKit
import Derived.OpenShut
namespace Go.Proofs.Ytbkhemgkhlonhaa.trapNumbers
open Go.ChangeShapes Go.WideShapes Go.ChangeAt Go.RowKit Walks
set_option linter.unusedVariables false      -- a walk need not use every 'w<i>' (that an integer argument fits its kind)

theorem own : ownKnob Try.prog.godebug = none := by kernel_rfl

abbrev tab : Array Value := #[.int .u32 0, .int .u32 1, .int .u32 2, .int .u32 3, .int .u32 4, .int .u32 4092, .int .u32 4095, .int .u32 4096, .int .u32 4098, .int .u32 268435452, .int .u32 268435456, .int .u32 268435457, .int .u32 268435458, .int .u32 268435460, .int .u32 268435464, .int .u32 4294967292, .int .u32 4294967295]
theorem tab_at (k : Nat) (h : k < 17) : ∃ t : Int, 0 ≤ t ∧ t ≤ 4294967295 ∧ tab[k]? = some (.int .u32 t) := by
  have : k = 0 ∨ k = 1 ∨ k = 2 ∨ k = 3 ∨ k = 4 ∨ k = 5 ∨ k = 6 ∨ k = 7 ∨ k = 8 ∨ k = 9 ∨ k = 10 ∨ k = 11 ∨ k = 12 ∨ k = 13 ∨ k = 14 ∨ k = 15 ∨ k = 16 := by omega
  rcases this with rfl | rfl | rfl | rfl | rfl | rfl | rfl | rfl | rfl | rfl | rfl | rfl | rfl | rfl | rfl | rfl | rfl <;> exact ⟨_, by decide, by decide, rfl⟩
set_option maxRecDepth 100000 in
set_option maxHeartbeats 4000000 in
theorem core (w : World) : Calls Try.prog 3 #[] w fun e w' => e = .returned (.bool true) ∧ Fr w w' := by
  go_enter Try.func3, Try.ntmps3
  go_wp2_with fail
  go_loopw [1] (fun t wr => ∃ m : Int, -1 ≤ m ∧ m ≤ 60 ∧ t = .int .i64 m ∧ Hid (Fr w wr)) (fun t _ => (60 - intOf t).toNat)
  case atStart => exact ⟨-1, by decide, by decide, rfl, Fr.refl _⟩
  case round =>
    obtain ⟨m, hm0, hm1, rfl, HM⟩ := hrel
    by_cases hml : m < 60
    · go_wp2_with fail
      go_loopw [11] (fun t wv => ∃ j : Nat, (j : Int) ≤ 17 ∧ t = .int .i64 j ∧ Hid (Fr (wr.alloc (.cells tab 22)) wv)) (fun t _ => 17 - (intOf t).toNat)
      case atStart => exact ⟨0, by decide, rfl, Fr.refl _⟩
      case round =>
        rename World => wr3
        obtain ⟨j, hj, rfl, HJ⟩ := hrel
        by_cases hjl : (j : Int) < 17
        · obtain ⟨b, b0, b1, bc⟩ := tab_at j (by omega)
          have j0 : (0 : Int) ≤ j := by omega
          have rr : wr3.cell? ⟨wr.heap.size, j, none⟩ = some (.int .u32 b) := (box_cell _ _ _ _ HJ.out j).trans bc
          go_wp2_with fail
          refine (same_as _ _ _ b0 _).mono ?_; rintro e w5 ⟨rfl, ha⟩
          have HA : Hid (Fr wr3 w5) := ha
          clear ha
          go_wp2_with fail
          exact ⟨⟨j + 1, by omega, by rw [Int.natCast_add]; rfl, HJ.out.trans HA.out⟩, by simp [intOf]; omega⟩
        · go_wp2_with fail
          exact ⟨⟨m + 1, by omega, by omega, rfl, (HM.out.alloc _).trans HJ.out⟩, by simp [intOf]; omega⟩
    · go_wp2_with fail
      go_loopw [4] (fun t wv => ∃ c : Int, -1 ≤ c ∧ c ≤ 4100 ∧ t = .int .i64 c ∧ Hid (Fr w wv)) (fun t _ => (4100 - intOf t).toNat)
      case atStart => exact ⟨-1, by decide, by decide, rfl, HM⟩
      case round =>
        rename World => wr4
        obtain ⟨c, hc0, hc1, rfl, HC⟩ := hrel
        by_cases hcl : c < 4100
        · obtain ⟨n, X⟩ : ∃ n, Hid (Num.ix c = n) := ⟨_, rfl⟩
          go_wp2_with fail
          refine (index_as _ _ X _).mono ?_; rintro e wr4 ⟨rfl, rfl⟩
          go_wp2_with fail
          refine (rindex_as _ _ X _).mono ?_; rintro e w5 ⟨rfl, ha⟩
          have HA : Hid (Fr wr4 w5) := ha
          clear ha
          go_wp2_with fail
          exact ⟨⟨c + 1, by omega, by omega, rfl, HC.out.trans HA.out⟩, by simp [intOf]; omega⟩
        · go_wp2_with fail
          refine (known _).mono ?_; rintro e w6 ⟨rfl, rfl⟩
          go_wp2_with fail
          go_ret
          exact ⟨rfl, HC.out⟩
theorem walk (w : World) : Calls Try.prog 3 #[] w fun e w' => e = .returned (.bool true) ∧ Fr w w' := core w

/-! ### THE ROW's STEP: WRITTEN OUT: LEAVE IT -/
set_option maxRecDepth 100000 in
theorem lifted (os : Os) (started : os.Started) (H : Type) (enc : TypeId × Value → H) :
    ReturnsInHanded {} Try.checked os 3 .any (Rows.trapNumbersSpec.pre6 enc Try.prog Try.f3 Rows.trapNumbersRow.domain false) (Rows.trapNumbersSpec.post enc Try.prog Try.f3 false true false false) := by
  refine returnsInHanded_of_change (C := Try.checked) own started (by kernel_rfl) Try.func3
    (ChangeSpec.witness6 (enc := enc) (C := Try.checked) false ⟨#[], #[], []⟩ 8 (by kernel_rfl) (by kernel_rfl) (by kernel_rfl) (by kernel_rfl)) ?_
  intro W base args ds gs before hval0 hW hcnd _
  have hval : ∀ (j : Nat) t v, Try.f3.params[j]? = some t → args[j]? = some v → Value.okWide Try.prog W .any base t v := hval0
  have hW' := hW
  obtain ⟨p, q, hA0, hV, rfl, hfz, hnd⟩ := hW
  have hA : DataW.TrodAll enc Try.prog W 0 (fun _ => true) true Try.f3.params.toList args.toList ds p := hA0
  rw [Try.params3] at hA hval
  obtain ⟨rfl, rfl, rfl⟩ := trodAll_none hA
  obtain ⟨rfl, rfl⟩ := trodVars_none hV
  clear hA0 hval0
  simp only [List.append_nil] at hW'
  refine (walk  W).mono fun e W' ⟨he, hg⟩ => ?_
  subst he
  exact ⟨_, rfl, _, _, _, [], [], [], hW', (trodAll_cons_mk (shut_bool Try.underlying4 _) trodAll_mk0), rfl, rfl, hg.kept _, fun h => by cases h⟩

theorem over : Rows.trapNumbersRow.holds Try.pinned (OpenSpec.ofChange Rows.trapNumbersSpec) :=
  OpenClaim.holds_of_wide 3 Try.f3 rfl rfl rfl rfl rfl rfl rfl ⟨rfl, rfl, rfl, rfl, rfl⟩ rfl rfl rfl rfl rfl (by kernel_rfl) Try.func3 (by kernel_rfl)
    (of_decide_eq_true (by kernel_rfl)) (by unfold Func.isWrapper; first | (rw [if_pos (by decide +kernel)]; kernel_rfl) | (rw [if_neg (by decide +kernel)]; exact ⟨rfl, rfl⟩))
    (fun os started H enc _ => lifted os started H enc)

/-- ████ THE STATEMENT ████ -/
theorem proved : Rows.TrapNumbersSaid :=
  over
#print axioms proved
end Go.Proofs.Ytbkhemgkhlonhaa.trapNumbers
