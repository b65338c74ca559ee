/-
  WHAT A COMPARISON OF TWO STRUCTS LISTS: nothing.
-/
import Derived.Laws.StructEq
import Derived.ChangeKeysEq
import Derived.Conc.EventLaws2
set_option linter.unusedSimpArgs false
set_option linter.unusedVariables false
namespace Go.Proofs.Ytafnbmokegomaaa
open Go.Conc

section
variable {P : Program}
theorem events_equalIn_struct (w : World) (es : Array Event) (d : Nat) (t : TypeId) (xs ys : Array Value) (ht : P.underlying t = some (.struct (P.fieldsOf t))) (hp : P.stoodInHeld t = false) :
    (Op.equalIn (d + 1) t (.agg xs) (.agg ys)).events P w es = (Op.eqFields d xs ys (P.fieldsOf t).toList).events P w es := by
  simp only [Op.equalIn, Sem.events_bind, run_underlying ht, events_underlying, Result.evThen_ok, run_program, events_program, hp, Bool.false_eq_true, if_false]
  rw [← Array.forIn_toList]
  generalize (P.fieldsOf t).toList = fs
  clear ht
  induction fs generalizing w es with
  | nil => simp [Op.eqFields]
  | cons f fs ih =>
    simp only [List.forIn_cons, Op.eqFields, Sem.events_bind, Sem.run_bind, Sem.run_ite, Sem.events_ite]
    split
    · generalize (part f.type xs f.offset).events P w es = e1
      generalize (part f.type xs f.offset).run P w = r1
      cases r1 with
      | ok a w1 =>
        simp only [Result.andThen_ok, Result.evThen_ok]
        generalize (part f.type ys f.offset).events P w1 e1 = e2
        generalize (part f.type ys f.offset).run P w1 = r2
        cases r2 with
        | ok b w2 =>
          simp only [Result.andThen_ok, Result.evThen_ok]
          generalize (Op.equalIn d f.type a b).events P w2 e2 = e3
          generalize (Op.equalIn d f.type a b).run P w2 = r3
          cases r3 with
          | ok r w3 =>
            cases r
            · simp only [Result.andThen_ok, Result.evThen_ok, Bool.not_false, if_true, Sem.run_pure, Sem.events_pure]
            · simp only [Result.andThen_ok, Result.evThen_ok, Bool.not_true, Bool.false_eq_true, if_false, Sem.run_pure, Sem.events_pure]
              exact ih w3 e3
          | halt x w3 => simp [Result.andThen, Result.evThen]
        | halt x w2 => simp [Result.andThen, Result.evThen]
      | halt x w1 => simp [Result.andThen, Result.evThen]
    · simp only [Sem.run_pure, Sem.events_pure, Result.andThen_ok, Result.evThen_ok]
      exact ih w es

theorem events_part_plain (w : World) (es : Array Event) {e : TypeId} (he : P.plainKey e = true) {xs : Array Value} {off : Nat} {v : Value} (hx : xs[off]? = some v) : (part e xs off).events P w es = es := by
  unfold Program.plainKey at he
  cases hu : P.underlying e with
  | none => simp [hu] at he
  | some d => cases d <;> simp [hu] at he <;> simp [part, isAgg, run_underlying hu, hx, Sem.events_bind]
theorem events_equalIn_int (w : World) (es : Array Event) (d : Nat) (t : TypeId) (k k' : IntKind) (a b : Int) (h : P.underlying t = some (.int k')) : (Op.equalIn (d + 1) t (.int k a) (.int k b)).events P w es = es := by
  simp [Op.equalIn, run_underlying h, Sem.events_bind]
theorem events_equalIn_bool (w : World) (es : Array Event) (d : Nat) (t : TypeId) (a b : Bool) (h : P.underlying t = some .bool) : (Op.equalIn (d + 1) t (.bool a) (.bool b)).events P w es = es := by
  simp [Op.equalIn, run_underlying h, Sem.events_bind]
theorem events_eql_struct (w : World) (es : Array Event) (t : TypeId) (xs ys : Array Value) : (binOp .eql t (.agg xs) (.agg ys)).events P w es = (Op.equalIn 10000 t (.agg xs) (.agg ys)).events P w es := by
  simp only [binOp]
  simp [Op.equal, Op.maxDepth, Sem.events_bind]
theorem events_neq_struct (w : World) (es : Array Event) (t : TypeId) (xs ys : Array Value) : (binOp .neq t (.agg xs) (.agg ys)).events P w es = (Op.equalIn 10000 t (.agg xs) (.agg ys)).events P w es := by
  simp only [binOp]
  simp [Op.equal, Op.maxDepth, Sem.events_bind]
theorem events_eqGuard_agg (w : World) (es : Array Event) (op : BinOp) (t : TypeId) (x y : Operand) (xs ys : Array Value) (hm : P.eqGuardType P.depth t = false) : (eqGuard op t x y (.agg xs) (.agg ys)).events P w es = es := by
  cases op <;> simp [eqGuard, run_program, hm, Sem.events_bind]
end
end Go.Proofs.Ytafnbmokegomaaa
