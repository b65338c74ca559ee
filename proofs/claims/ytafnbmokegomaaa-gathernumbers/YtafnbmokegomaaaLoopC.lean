/-
  meet's loop: the pair is handed on (a region that draws its order, with the call last).
-/
import Derived.Test.YtafnbmokegomaaaLoopB
import Derived.Test.YtafnbmokegomaaaDraw
set_option linter.unusedSimpArgs false
set_option linter.unusedVariables false
set_option linter.unusedSectionVars false
namespace Go.Proofs.Ytafnbmokegomaaa
open Go.Conc Go.RowKit
open Go.ConcR (KK wgBlock WgAt stA smA rd wr)


section
variable [Io] {Fin : Value → World → Prop}
set_option maxRecDepth 100000 in
set_option maxHeartbeats 4000000 in
theorem reg12_j {Q : QJ} {s : Gh} {m : PM} {A B : Value} {f : FuncId} {cap : Array Value} {W b0 b1 c0 c1 : Nat} {n0 n1 : Rt} {w0 w1 e0 e1 : Bool} {l : Int} {x : Nat → Value} {Post : Gh → PM → Value → Prop} (h0 : m b0 = some (.cells (stC c0 n0 w0 e0) 55 (0, 0))) (h1 : m b1 = some (.cells (stC c1 n1 w1 e1) 55 (0, 0)))
    (hcall : CallsJ Try.prog Fin f (#[.agg n0.cs.toArray, .agg n1.cs.toArray] ++ cap) s m Post)
    (hq : ∀ s' m' v x', Post s' m' v → Q s' m' .normal (actL A B (.func (.func f) #[] cap) W b0 b1 l x')) :
    wpJ Try.prog Fin 10 reg12 Q s m (actL A B (.func (.func f) #[] cap) W b0 b1 l x) := by
  rw [actL_lit]
  refine wpJ_region_draw (id := 12) (by kernel_rfl) ?_
  simp only [List.size_toArray, List.length_cons, List.length_nil, Nat.reduceAdd, Nat.zero_add]
  ((refine anyJ_take (i := 0) (v := (.func (.func f) #[] cap)) rfl (by first | kernel_rfl | decide +kernel) (by first | kernel_rfl | decide +kernel) (by first | kernel_rfl | decide +kernel) (by first | kernel_rfl | decide +kernel) (yld_pure (by rfl) (fun w => by go_simp) (fun w => by simp [go_sem])) ?_; walk_nrm))
  ((refine anyJ_take (i := 1) (v := (.pointer (some ⟨b0, 0, none⟩))) rfl (by first | kernel_rfl | decide +kernel) (by first | kernel_rfl | decide +kernel) (by first | kernel_rfl | decide +kernel) (by first | kernel_rfl | decide +kernel) (yld_pure (by rfl) (fun w => by go_simp) (fun w => by simp [go_sem])) ?_; walk_nrm))
  ((refine anyJ_take (i := 2) (v := (.pointer (some ⟨b0, 0, none⟩))) rfl (by first | kernel_rfl | decide +kernel) (by first | kernel_rfl | decide +kernel) (by first | kernel_rfl | decide +kernel) (by first | kernel_rfl | decide +kernel) (yld_pure (by rfl) (fun w => by go_simp) (fun w => by simp [go_sem])) ?_; walk_nrm))
  ((refine anyJ_take (i := 3) (v := (.pointer (some ⟨b0, 1, none⟩))) rfl (by first | kernel_rfl | decide +kernel) (by first | kernel_rfl | decide +kernel) (by first | kernel_rfl | decide +kernel) (by first | kernel_rfl | decide +kernel) (yld_pure (by rfl) (fun w => by go_simp) (fun w => by simp [go_sem])) ?_; walk_nrm))
  ((refine anyJ_take (i := 4) rfl (by first | kernel_rfl | decide +kernel) (by first | kernel_rfl | decide +kernel) (by first | kernel_rfl | decide +kernel) (by first | kernel_rfl | decide +kernel) (yld_ldN (cs := n0.cs) (by rfl) rfl rfl h0 (fun j v e => by rcases j with _ | _ | _ | _ | _ | _ | _ | j <;> first | exact e | (simp [Rt.cs] at e)) Try.underlying25 rfl size25) ?_; walk_nrm))
  ((refine anyJ_take (i := 5) (v := (.pointer (some ⟨b1, 0, none⟩))) rfl (by first | kernel_rfl | decide +kernel) (by first | kernel_rfl | decide +kernel) (by first | kernel_rfl | decide +kernel) (by first | kernel_rfl | decide +kernel) (yld_pure (by rfl) (fun w => by go_simp) (fun w => by simp [go_sem])) ?_; walk_nrm))
  ((refine anyJ_take (i := 6) (v := (.pointer (some ⟨b1, 0, none⟩))) rfl (by first | kernel_rfl | decide +kernel) (by first | kernel_rfl | decide +kernel) (by first | kernel_rfl | decide +kernel) (by first | kernel_rfl | decide +kernel) (yld_pure (by rfl) (fun w => by go_simp) (fun w => by simp [go_sem])) ?_; walk_nrm))
  ((refine anyJ_take (i := 7) (v := (.pointer (some ⟨b1, 1, none⟩))) rfl (by first | kernel_rfl | decide +kernel) (by first | kernel_rfl | decide +kernel) (by first | kernel_rfl | decide +kernel) (by first | kernel_rfl | decide +kernel) (yld_pure (by rfl) (fun w => by go_simp) (fun w => by simp [go_sem])) ?_; walk_nrm))
  ((refine anyJ_take (i := 8) rfl (by first | kernel_rfl | decide +kernel) (by first | kernel_rfl | decide +kernel) (by first | kernel_rfl | decide +kernel) (by first | kernel_rfl | decide +kernel) (yld_ldN (cs := n1.cs) (by rfl) rfl rfl h1 (fun j v e => by rcases j with _ | _ | _ | _ | _ | _ | _ | j <;> first | exact e | (simp [Rt.cs] at e)) Try.underlying25 rfl size25) ?_; walk_nrm))
  refine anyJ_last (j := 9) (by first | kernel_rfl | decide +kernel) ⟨_, rfl, fun S hd ht i hi hne => ?_⟩ (by first | kernel_rfl | decide +kernel) ?_
  · have s0 : S 0 := hd ⟨0, .data⟩ (by simp) rfl
    have s4 : S 4 := hd ⟨4, .data⟩ (by simp) rfl
    have s8 : S 8 := hd ⟨8, .data⟩ (by simp) rfl
    have s3 : S 3 := ht 4 _ s4 rfl ⟨3, .data⟩ (by simp) rfl
    have s2 : S 2 := ht 3 _ s3 rfl ⟨2, .data⟩ (by simp) rfl
    have s1 : S 1 := ht 2 _ s2 rfl ⟨1, .data⟩ (by simp) rfl
    have s7 : S 7 := ht 8 _ s8 rfl ⟨7, .data⟩ (by simp) rfl
    have s6 : S 6 := ht 7 _ s7 rfl ⟨6, .data⟩ (by simp) rfl
    have s5 : S 5 := ht 6 _ s6 rfl ⟨5, .data⟩ (by simp) rfl
    have hi' : i < 10 := hi
    have : i = 0 ∨ i = 1 ∨ i = 2 ∨ i = 3 ∨ i = 4 ∨ i = 5 ∨ i = 6 ∨ i = 7 ∨ i = 8 := by omega
    rcases this with rfl | rfl | rfl | rfl | rfl | rfl | rfl | rfl | rfl <;> assumption
  · intro b k cs hb hk hc
    refine JM.callV (x := .tmp 50) (f := f) (cap := cap) rfl (by rfl) hk rfl (by rfl) (by walk_nrm; exact hcall) fun s' m' v hp => ?_
    refine opsJ_nil (Q := Q) ?_ b k cs hb hk hc
    walk_nrm
    exact q_actL (Q := fun a => Q s' m' .normal a) (l := l) _ (by rfl) (by rfl) (by rfl) (by rfl) (by rfl) (by rfl) (by rfl) (by rfl) (by rfl) (by rfl) (by rfl) (by rfl) (hq s' m' v _ hp)
end
end Go.Proofs.Ytafnbmokegomaaa
