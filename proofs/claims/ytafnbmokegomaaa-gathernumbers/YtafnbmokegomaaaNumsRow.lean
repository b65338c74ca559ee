/- Proved: the call GatherNumbers() returns true under every schedule. Conditions: those that the row itself names, no other. -/
import Derived.Test.YtafnbmokegomaaaRun
import Derived.Test.YtafnbmokegomaaaNumsC
import Derived.Test.YtafnbmokegomaaaOpen
import Derived.Test.YtafnbmokegomaaaMem
import Derived.Conc.LeavingOf
import Derived.Conc.Holds
import Derived.WalkKit
import Derived.ProofKit
import Derived.OpenShut
import Derived.SizedLaws
namespace Go.Proofs.Ytafnbmokegomaaa.gatherNumbers
open Go.Conc Go.ChangeShapes Go.WideShapes Go.ChangeAt Go.RowKit Go.Proofs.Ytafnbmokegomaaa.Walks Go.Proofs.Ytafnbmokegomaaa
set_option linter.unusedVariables false
theorem own : ownKnob Try.prog.godebug = none := by kernel_rfl
theorem laidOut : laidOutB Try.prog = true := by kernel_rfl
theorem noInit : Try.prog.inits.idxOf? 3 = none := by kernel_rfl
set_option maxRecDepth 100000 in
theorem lifted (os : Os) (started : os.Started) (H : Type) (enc : TypeId × Value → H) :
    ReturnsInLeavingWide {} Try.checked os 3 .any (Rows.gatherNumbersSpec.pre6 enc Try.prog Try.f3 Rows.gatherNumbersRow.domain false) (Rows.gatherNumbersSpec.post enc Try.prog Try.f3 false true false false) := by
  refine returnsInLeavingWide_of_change_sized (C := Try.checked) own started Try.func3
    (ChangeSpec.witness6 (enc := enc) (C := Try.checked) false ⟨#[], #[], []⟩ 8 (by kernel_rfl) (by kernel_rfl) (by kernel_rfl) (by kernel_rfl)) ?_
  intro W base args ds gs before hval0 hW hcnd hsz0 _
  have hval : ∀ (j : Nat) t v, Try.f3.params[j]? = some t → args[j]? = some v → Value.okWide Try.prog W .any base t v := hval0
  have hW' := hW
  obtain ⟨p, q, hA0, hV, rfl, hfz, hnd⟩ := hW
  have hA : DataW.TrodAll enc Try.prog W 0 (fun _ => true) true Try.f3.params.toList args.toList ds p := hA0
  rw [Try.params3] at hA hval
  obtain ⟨hargs, rfl, rfl⟩ := trodAll_nil hA
  obtain rfl : args = #[] := by cases args; simp_all
  obtain ⟨rfl, rfl⟩ := trodVars_none hV
  clear hA0 hval0
  simp only [List.append_nil] at hW'
  have hc : letI : Io := ⟨W⟩; CallsJ Try.prog (fun v w => v = .bool true ∧ Fr W w) 3 #[] (.out (fun _ => False) (fun _ => False) false none) (fun β => W.heap[β]?) (fun s' m' v => (∃ sh sf, s' = .out sh sf false none) ∧ (v = .bool true ∧ Ext (fun β => W.heap[β]?) m')) := by
    letI : Io := ⟨W⟩
    exact numbers_j
  obtain ⟨M, last, o, w', t', e1, e2, e3, e4⟩ := run_of_calls hc noInit fun m' v w hp hH ho hout => ⟨hp.1, ho, hout, by
      rcases Nat.lt_or_ge w.heap.size W.heap.size with h | h
      · exfalso
        have h' : w.heap.size < W.heap.size := h
        have := hH _ _ (hp.2 w.heap.size _ (Array.getElem?_eq_getElem h'))
        have := (Array.getElem?_eq_some_iff.1 this).1
        omega
      · exact h, fun k hk => by rw [Array.getElem?_eq_getElem hk]; exact hH _ _ (hp.2 k _ (Array.getElem?_eq_getElem hk))⟩
  refine ⟨M, last, o, w', t', e1, e2, e3, e4.mono fun v hF => ?_⟩
  obtain ⟨rfl, hg⟩ := hF
  exact ⟨_, _, _, [], _, [], hW', (trodAll_cons_mk (shut_bool Try.underlying4 _) trodAll_mk0), trodAll_mk0, rfl, hg.kept _, fun h => by cases h⟩
theorem over : Rows.gatherNumbersRow.holds Try.pinned (OpenSpec.ofChange Rows.gatherNumbersSpec) :=
  OpenClaim.holds_of_wide_leaving 3 Try.f3 rfl rfl rfl rfl rfl rfl rfl ⟨rfl, rfl, rfl, rfl, rfl⟩ rfl rfl rfl rfl rfl (by kernel_rfl) Try.func3 (by kernel_rfl)
    (of_decide_eq_true (by kernel_rfl)) (by unfold Func.isWrapper; first | (rw [if_pos (by decide +kernel)]; kernel_rfl) | (rw [if_neg (by decide +kernel)]; exact ⟨rfl, rfl⟩))
    (fun os started H enc _ => lifted os started H enc)
/-- the statement -/
theorem proved : Rows.GatherNumbersSaid := over
#print axioms proved
end Go.Proofs.Ytafnbmokegomaaa.gatherNumbers
