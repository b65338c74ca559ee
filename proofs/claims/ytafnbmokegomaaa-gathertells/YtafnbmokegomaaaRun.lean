/-
  FROM A CONTRACT IN THE CALCULUS TO A GOOD RUN.
-/
import Derived.Test.YtafnbmokegomaaaPairs
set_option linter.unusedSimpArgs false
set_option linter.unusedVariables false
set_option linter.unusedSectionVars false
namespace Go.Proofs.Ytafnbmokegomaaa
open Go.Conc Go.RowKit

theorem ti_start (P : Program) (g : Goroutine) (w : World) : TI P (fun _ => False) (fun _ => False) false #[g] w #[] (fun _ => 0) :=
  ⟨leavers_one P g, ⟨fun said => by rintro ⟨i, j, _, ⟨a, b, ha, _⟩, _⟩; simp [Trace.act?] at ha, fun i a ha => by simp [touchAt, Trace.act?] at ha, fun i a ha => by simp [touchAt, Trace.act?] at ha, fun i a ha => by simp [touchAt, Trace.act?] at ha, fun i g hg => by simp [Trace.g?] at hg, fun i a g ha => by simp [touchAt, Trace.act?] at ha, by simp⟩, rfl, fun _ h => h⟩

theorem stepG_fin {P : Program} {f : FuncId} {fn : Func} {a : Act} {todo : List Item} {v : Value} {w : World} (hf : P.funcs[f]? = some fn) (hi : P.inits.idxOf? f = none) (hd : a.defers = []) (hr : (results fn a.tmps).run P w = .ok v w) (he : (results fn a.tmps).events P w #[] = #[]) :
    stepG P true (G { (base f).at a todo with mode := .returning } []) w = .ended (.done v) w #[] := by
  simp [G, stepG, unwind, doReturn, Frame.at, base, hd, hf, hi, hr, he, seen, GStep.after]

theorem run_of_calls {P : Program} {Fin : Value → World → Prop} {f : FuncId} {args : Array Value} {W : World} {Post : PM → Value → Prop}
    (h : letI : Io := ⟨W⟩; CallsJ P Fin f args (.out (fun _ => False) (fun _ => False) false none) (fun β => W.heap[β]?) fun s' m' v => (∃ sh sf, s' = .out sh sf false none) ∧ Post m' v)
    (hi : P.inits.idxOf? f = none) (hFin : ∀ m' v w, Post m' v → Has m' w → w.os = W.os → w.output = W.output → Fin v w) :
    ∃ M last o w' t', runNT P (M + 1) (solo (G (Frame.enter P f args .normal) []) W) #[] = (.ended o w', t') ∧ runN P M (solo (G (Frame.enter P f args .normal) []) W) = .next last ∧
        step P last = .ended o w' ∧ Conc.Good P Fin last o w' t' := by
  letI : Io := ⟨W⟩
  obtain ⟨fn, c, hf, hname, hb, hwp⟩ := h
  rw [enter_at args hf hb]
  have fin : ∀ (s' : Gh) (m' : PM) (a' : Act) (todo : List Item), (a'.defers = [] ∧ ∃ v, ResultsJ P fn a'.tmps v ∧ (∃ sh sf, s' = .out sh sf false none) ∧ Post m' v) → JM P Fin s' m' (G { (base f).at a' todo with mode := .returning } []) := by
    rintro _ m' a' todo ⟨hd, v, hr, ⟨sh, sf, rfl⟩, hp⟩
    exact JM.last rfl fun w hH hio => ⟨v, #[], stepG_fin hf hi hd (hr w).1 (hr w).2, by simp, hFin m' v w hp hH hio.1 hio.2⟩
  have hJ : JM P Fin (.out (fun _ => False) (fun _ => False) false none) (fun β => W.heap[β]?) (G ((base f).at { tmps := args ++ Array.replicate (fn.ntmps - args.size) undef, defers := [] } [.code c]) []) := by
    refine hwp (base f) [] [] rfl (by simp [base]) fun s' m' e a' q => ?_
    cases e with
    | normal => exact .quiet rfl (fun _ => stepG_end) (fin s' m' a' [] q)
    | ret => exact fun todo => fin s' m' a' todo q
    | exit id => exact q.elim
    | goto l => exact q.elim
    | panic ch => exact q.elim
    | outgrown => exact q.elim
  have hT := top_ends (hJ W ⟨Nat.zero_le _, fun _ h => h.elim, fun β o e => e, fun _ _ _ h => h, fun _ _ e => (by cases e), fun _ h => h, ⟨rfl, rfl⟩⟩)
  have hE := hT.2 #[_] #[] (fun _ => 0) none _ W.drawn (ti_start P _ _) rfl (Sim.refl _) rfl
  exact hE
end Go.Proofs.Ytafnbmokegomaaa
