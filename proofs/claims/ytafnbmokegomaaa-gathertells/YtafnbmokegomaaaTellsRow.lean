/- Proved: for all slices a and b of instructions that were done and every int n, the call GatherTells(a, b, n) returns true under every schedule and leaves a and b as they were. Conditions: those that the row itself names, no other. -/
import Derived.Test.YtafnbmokegomaaaRun
import Derived.Test.YtafnbmokegomaaaTells
import Derived.Test.YtafnbmokegomaaaOpen
import Derived.Test.YtafnbmokegomaaaMem
import Derived.Conc.LeavingOf
import Derived.Conc.Holds
import Derived.WalkKit
import Derived.ProofKit
import Derived.OpenShut
import Derived.SizedLaws
namespace Go.Proofs.Ytafnbmokegomaaa.gatherTells
open Go.Conc Go.ChangeShapes Go.WideShapes Go.ChangeAt Go.RowKit Go.Proofs.Ytafnbmokegomaaa.Walks Go.Proofs.Ytafnbmokegomaaa
set_option linter.unusedVariables false
theorem own : ownKnob Try.prog.godebug = none := by kernel_rfl
theorem laidOut : laidOutB Try.prog = true := by kernel_rfl
theorem noInit : Try.prog.inits.idxOf? 4 = none := by kernel_rfl
set_option maxRecDepth 100000 in
theorem lifted (os : Os) (started : os.Started) (H : Type) (enc : TypeId × Value → H) :
    ReturnsInLeavingWide {} Try.checked os 4 .any (Rows.gatherTellsSpec.pre6 enc Try.prog Try.f4 Rows.gatherTellsRow.domain false) (Rows.gatherTellsSpec.post enc Try.prog Try.f4 false true false false) := by
  refine returnsInLeavingWide_of_change_sized (C := Try.checked) own started Try.func4
    (ChangeSpec.witness6 (enc := enc) (C := Try.checked) false ⟨#[], #[.slice none 0 0, .slice none 0 0, .int .i64 0], []⟩ 8 (by kernel_rfl) (by kernel_rfl) (by kernel_rfl) (by kernel_rfl)) ?_
  intro W base args ds gs before hval0 hW hcnd hsz0 _
  have hval : ∀ (j : Nat) t v, Try.f4.params[j]? = some t → args[j]? = some v → Value.okWide Try.prog W .any base t v := hval0
  have hW' := hW
  obtain ⟨p, q, hA0, hV, rfl, hfz, hnd⟩ := hW
  have hA : DataW.TrodAll enc Try.prog W 0 (fun _ => true) true Try.f4.params.toList args.toList ds p := hA0
  rw [Try.params4] at hA hval
  obtain ⟨v0, vs0, d0, ds0, p0, q0, hargs, rfl, rfl, h0, r0⟩ := trodAll_cons hA
  obtain ⟨v1, vs1, d1, ds1, p1, q1, rfl, rfl, rfl, h1, r1⟩ := trodAll_cons r0
  obtain ⟨v2, vs2, d2, ds2, p2, q2, rfl, rfl, rfl, h2, r2⟩ := trodAll_cons r1
  obtain ⟨rfl, rfl, rfl⟩ := trodAll_nil r2
  obtain rfl : args = #[v0, v1, v2] := by cases args; simp_all
  obtain ⟨rfl, rfl⟩ := trodVars_none hV
  obtain ⟨A0, len0, cap0, rfl⟩ := okWide_slice Try.underlying22 (hval 0 22 v0 rfl rfl)
  obtain ⟨A1, len1, cap1, rfl⟩ := okWide_slice Try.underlying22 (hval 1 22 v1 rfl rfl)
  obtain ⟨a2, rfl, rfl, rfl, w2⟩ := open_int Try.underlying3 (hval 2 3 v2 rfl rfl) h2
  clear hA0 hval0
  simp only [List.append_nil] at hW'
  have hlt0 : ∀ x ∈ p0, x.block < W.heap.size := fun x hx => by simpa using hW'.lt x (by simp [hx])
  have hlt1 : ∀ x ∈ p1, x.block < W.heap.size := fun x hx => by simpa using hW'.lt x (by simp [hx])
  obtain ⟨lo2, hi2⟩ := bounds_i64 w2
  obtain ⟨n0, f0, g0⟩ := rows_open h0
  obtain ⟨n1, f1, g1⟩ := rows_open h1
  have hc : letI : Io := ⟨W⟩; CallsJ Try.prog (fun v w => v = .bool true ∧ Fr W w) 4 #[.slice A0 len0 cap0, .slice A1 len1 cap1, .int .i64 a2] (.out (fun _ => False) (fun _ => False) false none) (fun β => W.heap[β]?) (fun s' m' v => (∃ sh sf, s' = .out sh sf false none) ∧ (v = .bool true ∧ Ext (fun β => W.heap[β]?) m')) := by
    letI : Io := ⟨W⟩
    exact tells_j g0 g1 n0 n1 ⟨by omega, by omega⟩
  obtain ⟨M, last, o, w', t', e1, e2, e3, e4⟩ := run_of_calls hc noInit fun m' v w hp hH ho hout => ⟨hp.1, ho, hout, by
      rcases Nat.lt_or_ge w.heap.size W.heap.size with h | h
      · exfalso
        have h' : w.heap.size < W.heap.size := h
        have := hH _ _ (hp.2 w.heap.size _ (Array.getElem?_eq_getElem h'))
        have := (Array.getElem?_eq_some_iff.1 this).1
        omega
      · exact h, fun k hk => by rw [Array.getElem?_eq_getElem hk]; exact hH _ _ (hp.2 k _ (Array.getElem?_eq_getElem hk))⟩
  refine ⟨M, last, o, w', t', e1, e2, e3, e4.mono fun v hF => ?_⟩
  obtain ⟨rfl, hg⟩ := hF
  exact ⟨_, _, _, [], _, [], hW', (trodAll_cons_mk (shut_bool Try.underlying4 _) trodAll_mk0), (trodAll_cons_mk (Fr.trod laidOut (by kernel_rfl) (of_decide_eq_true (by kernel_rfl)) h0 hg hlt0) (trodAll_cons_mk (Fr.trod laidOut (by kernel_rfl) (of_decide_eq_true (by kernel_rfl)) h1 hg hlt1) (trodAll_cons_mk (shut_int Try.underlying3 w2) trodAll_mk0))), rfl, hg.kept _, fun h => by cases h⟩
theorem over : Rows.gatherTellsRow.holds Try.pinned (OpenSpec.ofChange Rows.gatherTellsSpec) :=
  OpenClaim.holds_of_wide_leaving 4 Try.f4 rfl rfl rfl rfl rfl rfl rfl ⟨rfl, rfl, rfl, rfl, rfl⟩ rfl rfl rfl rfl rfl (by kernel_rfl) Try.func4 (by kernel_rfl)
    (of_decide_eq_true (by kernel_rfl)) (by unfold Func.isWrapper; first | (rw [if_pos (by decide +kernel)]; kernel_rfl) | (rw [if_neg (by decide +kernel)]; exact ⟨rfl, rfl⟩))
    (fun os started H enc _ => lifted os started H enc)
/-- the statement -/
theorem proved : Rows.GatherTellsSaid := over
#print axioms proved
end Go.Proofs.Ytafnbmokegomaaa.gatherTells
