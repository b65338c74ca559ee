/-
  THE SMALL FUNCTIONS: Same, open, take.
-/
import Derived.Test.YtafnbmokegomaaaJMem
import Derived.Test.YtafnbmokegomaaaProg
import Derived.Test.YtafnbmokegomaaaEqEv
import Derived.ChangeKeysEq
import Derived.WalkKit
import Derived.KernelRfl
set_option linter.unusedSimpArgs false
set_option linter.unusedVariables false
set_option linter.unusedSectionVars false
namespace Go.Proofs.Ytafnbmokegomaaa
open Go.Conc Go.RowKit

/-- an instruction that was done -/
structure Rt where
  p : Int
  v : Int
  d : Int
  s : Bool
  a : Int
  t : Int
  m : Int
/-- its cells -/
def Rt.cs (r : Rt) : List Value := [.int .u32 r.p, .int .u32 r.v, .int .i64 r.d, .bool r.s, .int .u32 r.a, .int .u32 r.t, .int .i64 r.m]
/-- are they the same? -/
def Rt.eq (x y : Rt) : Bool := x.p == y.p && (x.v == y.v && (x.d == y.d && (x.s == y.s && (x.a == y.a && (x.t == y.t && x.m == y.m)))))
theorem Rt.eq_iff (x y : Rt) : x.eq y = true ↔ x = y := by
  cases x; cases y
  simp [Rt.eq]

def Ext (m m' : PM) : Prop := ∀ β o, m β = some o → m' β = some o
theorem Ext.refl (m : PM) : Ext m m := fun _ _ h => h
theorem Ext.trans {a b c : PM} (h : Ext a b) (k : Ext b c) : Ext a c := fun β o x => k β o (h β o x)
theorem Ext.set {m : PM} {β : Nat} (h : m β = none) (o : Obj) : Ext m (m.set β o) := fun γ o' x => by
  rw [PM.set_ne _ _ (fun e => by subst e; rw [h] at x; cases x)]; exact x
theorem fields25 : (Try.prog.fieldsOf 25).toList = [{ name := "PC", type := 23, offset := 0, embedded := false, tag := "", pkgPath := "", byteOffset := 0 },
        { name := "Value", type := 23, offset := 1, embedded := false, tag := "", pkgPath := "", byteOffset := 4 },
        { name := "Rd", type := 3, offset := 2, embedded := false, tag := "", pkgPath := "", byteOffset := 8 },
        { name := "Store", type := 4, offset := 3, embedded := false, tag := "", pkgPath := "", byteOffset := 16 },
        { name := "Addr", type := 23, offset := 4, embedded := false, tag := "", pkgPath := "", byteOffset := 20 },
        { name := "Data", type := 23, offset := 5, embedded := false, tag := "", pkgPath := "", byteOffset := 24 },
        { name := "Mask", type := 3, offset := 6, embedded := false, tag := "", pkgPath := "", byteOffset := 32 }] := by
  simp only [Program.fieldsOf, Try.underlying25]
theorem under25 : Try.prog.underlying 25 = some (.struct (Try.prog.fieldsOf 25)) := by
  rw [Program.fieldsOf, Try.underlying25]
theorem held25 : Try.prog.stoodInHeld 25 = false := by kernel_rfl
theorem plain23 : Try.prog.plainKey 23 = true := by kernel_rfl
theorem plain3 : Try.prog.plainKey 3 = true := by kernel_rfl
theorem plain4 : Try.prog.plainKey 4 = true := by kernel_rfl
theorem equal25 (x y : Rt) (W : World) : (Op.equalIn 10000 25 (.agg x.cs.toArray) (.agg y.cs.toArray)).run Try.prog W = .ok (x.eq y) W := by
  rw [run_equalIn_struct W 9999 25 _ _ under25 held25, fields25]
  have pt : ∀ (r : Rt) (W : World), (part 23 r.cs.toArray 0).run Try.prog W = .ok (.int .u32 r.p) W ∧ (part 23 r.cs.toArray 1).run Try.prog W = .ok (.int .u32 r.v) W ∧ (part 3 r.cs.toArray 2).run Try.prog W = .ok (.int .i64 r.d) W ∧ (part 4 r.cs.toArray 3).run Try.prog W = .ok (.bool r.s) W ∧ (part 23 r.cs.toArray 4).run Try.prog W = .ok (.int .u32 r.a) W ∧ (part 23 r.cs.toArray 5).run Try.prog W = .ok (.int .u32 r.t) W ∧ (part 3 r.cs.toArray 6).run Try.prog W = .ok (.int .i64 r.m) W := fun r W =>
    ⟨run_part_plain W plain23 rfl, run_part_plain W plain23 rfl, run_part_plain W plain3 rfl, run_part_plain W plain4 rfl, run_part_plain W plain23 rfl, run_part_plain W plain23 rfl, run_part_plain W plain3 rfl⟩
  have qi : ∀ (a b : Int) (W : World), (Op.equalIn 9999 23 (.int .u32 a) (.int .u32 b)).run Try.prog W = .ok (a == b) W := fun a b W => run_equalIn_int W 9998 23 .u32 .u32 a b Try.underlying23
  have qj : ∀ (a b : Int) (W : World), (Op.equalIn 9999 3 (.int .i64 a) (.int .i64 b)).run Try.prog W = .ok (a == b) W := fun a b W => run_equalIn_int W 9998 3 .i64 .i64 a b Try.underlying3
  have qb : ∀ (a b : Bool) (W : World), (Op.equalIn 9999 4 (.bool a) (.bool b)).run Try.prog W = .ok (a == b) W := fun a b W => run_equalIn_bool W 9998 4 a b Try.underlying4
  have ifn : ∀ (c : Bool) (k : Sem Bool) (W : World), (if (!c) = true then (pure false : Sem Bool) else k).run Try.prog W = if c = true then k.run Try.prog W else .ok false W := fun c k W => by cases c <;> simp
  simp only [Op.eqFields, ne_eq, not_false_eq_true, if_true, Sem.run_bind, (pt x W).1, (pt x W).2.1, (pt x W).2.2.1, (pt x W).2.2.2.1, (pt x W).2.2.2.2.1, (pt x W).2.2.2.2.2.1, (pt x W).2.2.2.2.2.2, (pt y W).1, (pt y W).2.1, (pt y W).2.2.1, (pt y W).2.2.2.1, (pt y W).2.2.2.2.1, (pt y W).2.2.2.2.2.1, (pt y W).2.2.2.2.2.2, Result.andThen_ok, qi, qj, qb, ifn, Sem.run_pure, String.reduceEq]
  unfold Rt.eq
  cases x.p == y.p <;> cases x.v == y.v <;> cases x.d == y.d <;> cases x.s == y.s <;> cases x.a == y.a <;> cases x.t == y.t <;> cases x.m == y.m <;> rfl
theorem eql25 (x y : Rt) (W : World) : (binOp .eql 25 (.agg x.cs.toArray) (.agg y.cs.toArray)).run Try.prog W = .ok (.bool (x.eq y)) W := by
  rw [run_eql_struct, equal25]; rfl
theorem neq25 (x y : Rt) (W : World) : (binOp .neq 25 (.agg x.cs.toArray) (.agg y.cs.toArray)).run Try.prog W = .ok (.bool (!x.eq y)) W := by
  rw [run_neq_struct, equal25]; rfl
theorem size25 : (Try.prog.info? 25).map (·.size) = some 7 := by kernel_rfl
theorem size4 : (Try.prog.info? 4).map (·.size) = some 1 := by kernel_rfl
theorem size3 : (Try.prog.info? 3).map (·.size) = some 1 := by kernel_rfl

theorem evEqual25 (x y : Rt) (W : World) (es : Array Event) : (Op.equalIn 10000 25 (.agg x.cs.toArray) (.agg y.cs.toArray)).events Try.prog W es = es := by
  rw [events_equalIn_struct W es 9999 25 _ _ under25 held25, fields25]
  have pt : ∀ (r : Rt) (W : World), (part 23 r.cs.toArray 0).run Try.prog W = .ok (.int .u32 r.p) W ∧ (part 23 r.cs.toArray 1).run Try.prog W = .ok (.int .u32 r.v) W ∧ (part 3 r.cs.toArray 2).run Try.prog W = .ok (.int .i64 r.d) W ∧ (part 4 r.cs.toArray 3).run Try.prog W = .ok (.bool r.s) W ∧ (part 23 r.cs.toArray 4).run Try.prog W = .ok (.int .u32 r.a) W ∧ (part 23 r.cs.toArray 5).run Try.prog W = .ok (.int .u32 r.t) W ∧ (part 3 r.cs.toArray 6).run Try.prog W = .ok (.int .i64 r.m) W := fun r W =>
    ⟨run_part_plain W plain23 rfl, run_part_plain W plain23 rfl, run_part_plain W plain3 rfl, run_part_plain W plain4 rfl, run_part_plain W plain23 rfl, run_part_plain W plain23 rfl, run_part_plain W plain3 rfl⟩
  have pe : ∀ (r : Rt) (W : World) (es : Array Event), (part 23 r.cs.toArray 0).events Try.prog W es = es ∧ (part 23 r.cs.toArray 1).events Try.prog W es = es ∧ (part 3 r.cs.toArray 2).events Try.prog W es = es ∧ (part 4 r.cs.toArray 3).events Try.prog W es = es ∧ (part 23 r.cs.toArray 4).events Try.prog W es = es ∧ (part 23 r.cs.toArray 5).events Try.prog W es = es ∧ (part 3 r.cs.toArray 6).events Try.prog W es = es := fun r W es =>
    ⟨events_part_plain W es plain23 rfl, events_part_plain W es plain23 rfl, events_part_plain W es plain3 rfl, events_part_plain W es plain4 rfl, events_part_plain W es plain23 rfl, events_part_plain W es plain23 rfl, events_part_plain W es plain3 rfl⟩
  have qi : ∀ (a b : Int) (W : World), (Op.equalIn 9999 23 (.int .u32 a) (.int .u32 b)).run Try.prog W = .ok (a == b) W := fun a b W => run_equalIn_int W 9998 23 .u32 .u32 a b Try.underlying23
  have qj : ∀ (a b : Int) (W : World), (Op.equalIn 9999 3 (.int .i64 a) (.int .i64 b)).run Try.prog W = .ok (a == b) W := fun a b W => run_equalIn_int W 9998 3 .i64 .i64 a b Try.underlying3
  have qb : ∀ (a b : Bool) (W : World), (Op.equalIn 9999 4 (.bool a) (.bool b)).run Try.prog W = .ok (a == b) W := fun a b W => run_equalIn_bool W 9998 4 a b Try.underlying4
  have ei : ∀ (a b : Int) (W : World) (es : Array Event), (Op.equalIn 9999 23 (.int .u32 a) (.int .u32 b)).events Try.prog W es = es := fun a b W es => events_equalIn_int W es 9998 23 .u32 .u32 a b Try.underlying23
  have ej : ∀ (a b : Int) (W : World) (es : Array Event), (Op.equalIn 9999 3 (.int .i64 a) (.int .i64 b)).events Try.prog W es = es := fun a b W es => events_equalIn_int W es 9998 3 .i64 .i64 a b Try.underlying3
  have eb : ∀ (a b : Bool) (W : World) (es : Array Event), (Op.equalIn 9999 4 (.bool a) (.bool b)).events Try.prog W es = es := fun a b W es => events_equalIn_bool W es 9998 4 a b Try.underlying4
  have ifn : ∀ (c : Bool) (k : Sem Bool) (W : World) (es : Array Event), (if (!c) = true then (pure false : Sem Bool) else k).events Try.prog W es = if c = true then k.events Try.prog W es else es := fun c k W es => by cases c <;> simp
  simp only [Op.eqFields, ne_eq, not_false_eq_true, if_true, Sem.events_bind, (pt x W).1, (pt x W).2.1, (pt x W).2.2.1, (pt x W).2.2.2.1, (pt x W).2.2.2.2.1, (pt x W).2.2.2.2.2.1, (pt x W).2.2.2.2.2.2, (pt y W).1, (pt y W).2.1, (pt y W).2.2.1, (pt y W).2.2.2.1, (pt y W).2.2.2.2.1, (pt y W).2.2.2.2.2.1, (pt y W).2.2.2.2.2.2,
    (pe x W _).1, (pe x W _).2.1, (pe x W _).2.2.1, (pe x W _).2.2.2.1, (pe x W _).2.2.2.2.1, (pe x W _).2.2.2.2.2.1, (pe x W _).2.2.2.2.2.2, (pe y W _).1, (pe y W _).2.1, (pe y W _).2.2.1, (pe y W _).2.2.2.1, (pe y W _).2.2.2.2.1, (pe y W _).2.2.2.2.2.1, (pe y W _).2.2.2.2.2.2,
    Result.evThen_ok, qi, qj, qb, ei, ej, eb, ifn, Sem.events_pure, String.reduceEq, ite_self]
theorem evEql25 (x y : Rt) (W : World) (es : Array Event) : (binOp .eql 25 (.agg x.cs.toArray) (.agg y.cs.toArray)).events Try.prog W es = es := by
  rw [events_eql_struct, evEqual25]
theorem evNeq25 (x y : Rt) (W : World) (es : Array Event) : (binOp .neq 25 (.agg x.cs.toArray) (.agg y.cs.toArray)).events Try.prog W es = es := by
  rw [events_neq_struct, evEqual25]
theorem guard25 : Try.prog.eqGuardType Try.prog.depth 25 = false := by kernel_rfl
theorem evGuard25 (op : BinOp) (x y : Operand) (xs ys : Array Value) (W : World) (es : Array Event) : (eqGuard op 25 x y (.agg xs) (.agg ys)).events Try.prog W es = es := events_eqGuard_agg W es op 25 x y xs ys guard25
theorem runGuard25 (op : BinOp) (x y : Operand) (xs ys : Array Value) (W : World) : (eqGuard op 25 x y (.agg xs) (.agg ys)).run Try.prog W = .ok () W := run_eqGuard_agg W op 25 x y xs ys guard25
section
variable [Io] {Fin : Value → World → Prop}

theorem resultsJ_tmp {P : Program} {fn : Func} {t : Tmp} (h : fn.results = #[.tmp t]) (tmps : Array Value) : ResultsJ P fn tmps (tmps.getD t undef) := fun w => resultsC_tmp h tmps w
theorem resultsJ_none {P : Program} {fn : Func} (h : fn.results = #[]) (tmps : Array Value) : ResultsJ P fn tmps (.tuple #[]) := fun w => resultsC_none h tmps w
theorem resultsJ_tmp2 {P : Program} {fn : Func} {t u : Tmp} (h : fn.results = #[.tmp t, .tmp u]) (tmps : Array Value) : ResultsJ P fn tmps (.tuple #[tmps.getD t undef, tmps.getD u undef]) := fun w => resultsC_tmp2 h tmps w

set_option maxRecDepth 100000 in
theorem same_j (x y : Rt) (s : Gh) (m : PM) : CallsJ Try.prog Fin 12 #[.agg x.cs.toArray, .agg y.cs.toArray] s m fun s' m' v => s' = s ∧ v = .bool (x.eq y) ∧ Ext m m' := by
  refine callsJ_of Try.func12 (by rfl) rfl ?_
  simp only [Try.ntmps12, List.size_toArray, List.length_cons, List.length_nil, Nat.reduceAdd, Nat.reduceSub, Array.replicate_succ, Array.replicate_zero, List.push_toArray, List.append_toArray, List.nil_append, List.cons_append]
  ((first | refine wpJ_seq ?_ | refine wpJ_block ?_ | refine wpJ_skip ?_ | refine wpJ_label ?_ | refine wpJ_ret ?_ | refine wpJ_exit ?_ | refine opsJ_nil ?_))
  ((refine wpJ_region ?_; simp only [List.size_toArray, List.length_cons, List.length_nil, Nat.reduceAdd, Nat.zero_add, List.range, List.range.loop]))
  ((refine opsJ_new rfl (by rfl) (f := fun β => (.pointer (some ⟨β, 0, none⟩))) (ob := (.cells x.cs.toArray 25)) (fun w => by go_simp) (fun w => by simp [go_sem]) (fun β hβ hm => ?_); try walk_nrm))
  ((refine opsJ_new rfl (by rfl) (f := fun γ => (.pointer (some ⟨γ, 0, none⟩))) (ob := (.cells y.cs.toArray 25)) (fun w => by go_simp) (fun w => by simp [go_sem]) (fun γ hγ hm' => ?_); try walk_nrm))
  have hne : β ≠ γ := fun e => by subst e; rw [PM.set_same] at hm'; cases hm'
  have e1 : ((m.set β (.cells x.cs.toArray 25)).set γ (.cells y.cs.toArray 25)) β = some (.cells x.cs.toArray 25 (0, 0)) := by rw [PM.set_ne _ _ hne, PM.set_same]
  have e2 : ((m.set β (.cells x.cs.toArray 25)).set γ (.cells y.cs.toArray 25)) γ = some (.cells y.cs.toArray 25 (0, 0)) := by rw [PM.set_same]
  have hx : Ext m ((m.set β (.cells x.cs.toArray 25)).set γ (.cells y.cs.toArray 25)) := (Ext.set hm _).trans (Ext.set hm' _)
  generalize ((m.set β (.cells x.cs.toArray 25)).set γ (.cells y.cs.toArray 25)) = m' at e1 e2 hx ⊢
  ((refine opsJ_pure rfl (by rfl) (fun w => run_eqv (fun K hK => by go_simp; exact hK)) (fun w => by simp [go_sem]) ?_; try walk_nrm))
  ((first | refine wpJ_seq ?_ | refine wpJ_block ?_ | refine wpJ_skip ?_ | refine wpJ_label ?_ | refine wpJ_ret ?_ | refine wpJ_exit ?_ | refine opsJ_nil ?_))
  (simp only [QJ.then, QJ.inBlock, if_true, if_false, reduceIte, Nat.reduceEqDiff])
  ((first | refine wpJ_seq ?_ | refine wpJ_block ?_ | refine wpJ_skip ?_ | refine wpJ_label ?_ | refine wpJ_ret ?_ | refine wpJ_exit ?_ | refine opsJ_nil ?_))
  ((refine wpJ_region ?_; simp only [List.size_toArray, List.length_cons, List.length_nil, Nat.reduceAdd, Nat.zero_add, List.range, List.range.loop]))
  ((refine opsJ_ldN rfl (by rfl) rfl rfl e1 (cs := x.cs) (fun j v h => by first | (rw [Nat.zero_add, List.getElem?_toArray]; exact h) | simpa using h) Try.underlying25 rfl size25 ?_; try walk_nrm))
  ((refine opsJ_ldN rfl (by rfl) rfl rfl e2 (cs := y.cs) (fun j v h => by first | (rw [Nat.zero_add, List.getElem?_toArray]; exact h) | simpa using h) Try.underlying25 rfl size25 ?_; try walk_nrm))
  have E := eql25 x y
  refine opsJ_pure rfl (by rfl) (fun w => run_eqv (fun K hK => by go_simp; exact hK)) (fun w => by simp [go_sem, runGuard25, evGuard25, evEql25]) ?_
  try walk_nrm
  ((refine opsJ_pure rfl (by rfl) (fun w => run_eqv (fun K hK => by go_simp; exact hK)) (fun w => by simp [go_sem]) ?_; try walk_nrm))
  ((first | refine wpJ_seq ?_ | refine wpJ_block ?_ | refine wpJ_skip ?_ | refine wpJ_label ?_ | refine wpJ_ret ?_ | refine wpJ_exit ?_ | refine opsJ_nil ?_))
  (simp only [QJ.then, QJ.inBlock, if_true, if_false, reduceIte, Nat.reduceEqDiff])
  ((first | refine wpJ_seq ?_ | refine wpJ_block ?_ | refine wpJ_skip ?_ | refine wpJ_label ?_ | refine wpJ_ret ?_ | refine wpJ_exit ?_ | refine opsJ_nil ?_))
  exact ⟨rfl, _, resultsJ_tmp Try.results12 _, rfl, rfl, hx⟩

/-- A stream's cells. -/
def stC (c : Nat) (r : Rt) (wt en : Bool) : Array Value := #[.chan (some c), .int .u32 r.p, .int .u32 r.v, .int .i64 r.d, .bool r.s, .int .u32 r.a, .int .u32 r.t, .int .i64 r.m, .bool wt, .bool en]


set_option maxRecDepth 100000 in
theorem open_j (s : Gh) (m : PM) (β c : Nat) (r : Rt) (wt en : Bool) (hm : m β = some (.cells (stC c r wt en) 55 (0, 0))) :
    CallsJ Try.prog Fin 15 #[.pointer (some ⟨β, 0, none⟩)] s m fun s' m' v => s' = s ∧ m' = m ∧ v = .chan (if wt || en then none else some c) := by
  ((refine callsJ_of Try.func15 (by rfl) rfl ?_; simp only [Try.ntmps15, List.size_toArray, List.length_cons, List.length_nil, Nat.reduceAdd, Nat.reduceSub, Array.replicate_succ, Array.replicate_zero, List.push_toArray, List.append_toArray, List.nil_append, List.cons_append]))
  (repeat (first | ((refine wpJ_region ?_; simp only [List.size_toArray, List.length_cons, List.length_nil, Nat.reduceAdd, Nat.zero_add, List.range, List.range.loop])) | ((refine opsJ_pure rfl (by rfl) (fun w => run_eqv (fun K hK => by go_simp; exact hK)) (fun w => by simp [go_sem]) ?_; try walk_nrm)) | (refine opsJ_unwanted rfl (by rfl) ?_; try walk_nrm) | (((first | refine wpJ_seq ?_ | refine wpJ_block ?_ | refine wpJ_skip ?_ | refine wpJ_label ?_ | refine wpJ_ret ?_ | refine wpJ_exit ?_ | refine opsJ_nil ?_)); try (simp only [QJ.then, QJ.inBlock, if_true, if_false, reduceIte, Nat.reduceEqDiff])) | ((refine wpJ_cond (by rfl) ?_; simp only [if_true, if_false, reduceIte, Bool.false_eq_true]))))
  ((refine opsJ_ld (v := (.bool wt)) rfl (by rfl) rfl rfl hm (by rfl) Try.underlying4 rfl ?_; try walk_nrm))
  cases wt with
  | true =>
    (repeat (first | ((refine wpJ_region ?_; simp only [List.size_toArray, List.length_cons, List.length_nil, Nat.reduceAdd, Nat.zero_add, List.range, List.range.loop])) | ((refine opsJ_pure rfl (by rfl) (fun w => run_eqv (fun K hK => by go_simp; exact hK)) (fun w => by simp [go_sem]) ?_; try walk_nrm)) | (refine opsJ_unwanted rfl (by rfl) ?_; try walk_nrm) | (((first | refine wpJ_seq ?_ | refine wpJ_block ?_ | refine wpJ_skip ?_ | refine wpJ_label ?_ | refine wpJ_ret ?_ | refine wpJ_exit ?_ | refine opsJ_nil ?_)); try (simp only [QJ.then, QJ.inBlock, if_true, if_false, reduceIte, Nat.reduceEqDiff])) | ((refine wpJ_cond (by rfl) ?_; simp only [if_true, if_false, reduceIte, Bool.false_eq_true]))))
    exact ⟨rfl, _, resultsJ_tmp Try.results15 _, rfl, rfl, rfl⟩
  | false =>
    (repeat (first | ((refine wpJ_region ?_; simp only [List.size_toArray, List.length_cons, List.length_nil, Nat.reduceAdd, Nat.zero_add, List.range, List.range.loop])) | ((refine opsJ_pure rfl (by rfl) (fun w => run_eqv (fun K hK => by go_simp; exact hK)) (fun w => by simp [go_sem]) ?_; try walk_nrm)) | (refine opsJ_unwanted rfl (by rfl) ?_; try walk_nrm) | (((first | refine wpJ_seq ?_ | refine wpJ_block ?_ | refine wpJ_skip ?_ | refine wpJ_label ?_ | refine wpJ_ret ?_ | refine wpJ_exit ?_ | refine opsJ_nil ?_)); try (simp only [QJ.then, QJ.inBlock, if_true, if_false, reduceIte, Nat.reduceEqDiff])) | ((refine wpJ_cond (by rfl) ?_; simp only [if_true, if_false, reduceIte, Bool.false_eq_true]))))
    ((refine opsJ_ld (v := (.bool en)) rfl (by rfl) rfl rfl hm (by rfl) Try.underlying4 rfl ?_; try walk_nrm))
    cases en with
    | true =>
      (repeat (first | ((refine wpJ_region ?_; simp only [List.size_toArray, List.length_cons, List.length_nil, Nat.reduceAdd, Nat.zero_add, List.range, List.range.loop])) | ((refine opsJ_pure rfl (by rfl) (fun w => run_eqv (fun K hK => by go_simp; exact hK)) (fun w => by simp [go_sem]) ?_; try walk_nrm)) | (refine opsJ_unwanted rfl (by rfl) ?_; try walk_nrm) | (((first | refine wpJ_seq ?_ | refine wpJ_block ?_ | refine wpJ_skip ?_ | refine wpJ_label ?_ | refine wpJ_ret ?_ | refine wpJ_exit ?_ | refine opsJ_nil ?_)); try (simp only [QJ.then, QJ.inBlock, if_true, if_false, reduceIte, Nat.reduceEqDiff])) | ((refine wpJ_cond (by rfl) ?_; simp only [if_true, if_false, reduceIte, Bool.false_eq_true]))))
      exact ⟨rfl, _, resultsJ_tmp Try.results15 _, rfl, rfl, rfl⟩
    | false =>
      (repeat (first | ((refine wpJ_region ?_; simp only [List.size_toArray, List.length_cons, List.length_nil, Nat.reduceAdd, Nat.zero_add, List.range, List.range.loop])) | ((refine opsJ_pure rfl (by rfl) (fun w => run_eqv (fun K hK => by go_simp; exact hK)) (fun w => by simp [go_sem]) ?_; try walk_nrm)) | (refine opsJ_unwanted rfl (by rfl) ?_; try walk_nrm) | (((first | refine wpJ_seq ?_ | refine wpJ_block ?_ | refine wpJ_skip ?_ | refine wpJ_label ?_ | refine wpJ_ret ?_ | refine wpJ_exit ?_ | refine opsJ_nil ?_)); try (simp only [QJ.then, QJ.inBlock, if_true, if_false, reduceIte, Nat.reduceEqDiff])) | ((refine wpJ_cond (by rfl) ?_; simp only [if_true, if_false, reduceIte, Bool.false_eq_true]))))
      ((refine opsJ_ld (v := (.chan (some c))) rfl (by rfl) rfl rfl hm (by rfl) Try.underlying51 rfl ?_; try walk_nrm))
      (repeat (first | ((refine wpJ_region ?_; simp only [List.size_toArray, List.length_cons, List.length_nil, Nat.reduceAdd, Nat.zero_add, List.range, List.range.loop])) | ((refine opsJ_pure rfl (by rfl) (fun w => run_eqv (fun K hK => by go_simp; exact hK)) (fun w => by simp [go_sem]) ?_; try walk_nrm)) | (refine opsJ_unwanted rfl (by rfl) ?_; try walk_nrm) | (((first | refine wpJ_seq ?_ | refine wpJ_block ?_ | refine wpJ_skip ?_ | refine wpJ_label ?_ | refine wpJ_ret ?_ | refine wpJ_exit ?_ | refine opsJ_nil ?_)); try (simp only [QJ.then, QJ.inBlock, if_true, if_false, reduceIte, Nat.reduceEqDiff])) | ((refine wpJ_cond (by rfl) ?_; simp only [if_true, if_false, reduceIte, Bool.false_eq_true]))))
      exact ⟨rfl, _, resultsJ_tmp Try.results15 _, rfl, rfl, rfl⟩

def ExtBut (B : Nat → Prop) (m m' : PM) : Prop := ∀ β o, ¬ B β → m β = some o → m' β = some o

theorem Ext.but {B : Nat → Prop} {m m' : PM} (h : Ext m m') : ExtBut B m m' := fun β o _ e => h β o e
theorem ExtBut.set {β : Nat} {m m' : PM} (h : ExtBut (· = β) m m') (o : Obj) : ExtBut (· = β) m (m'.set β o) := fun γ o' hn e => by
  rw [PM.set_ne _ _ hn]; exact h γ o' hn e
theorem one_cs (r : Rt) : ∀ u ∈ r.cs.toArray.toList, u.oneCell' = true := by
  intro u hu
  simp only [Rt.cs, List.mem_cons, List.not_mem_nil, or_false] at hu
  rcases hu with rfl | rfl | rfl | rfl | rfl | rfl | rfl <;> rfl

set_option maxRecDepth 100000 in
set_option maxHeartbeats 1600000 in
theorem take_j (s : Gh) (m : PM) (β c : Nat) (r x : Rt) (wt en more : Bool) (hm : m β = some (.cells (stC c r wt en) 55 (0, 0))) :
    CallsJ Try.prog Fin 16 #[.pointer (some ⟨β, 0, none⟩), .agg x.cs.toArray, .bool more] s m fun s' m' v => s' = s ∧ v = .tuple #[] ∧ m' β = some (.cells (stC c x more (!more)) 55 (0, 0)) ∧ ExtBut (· = β) m m' := by
  ((refine callsJ_of Try.func16 (by rfl) rfl ?_; simp only [Try.ntmps16, List.size_toArray, List.length_cons, List.length_nil, Nat.reduceAdd, Nat.reduceSub, Array.replicate_succ, Array.replicate_zero, List.push_toArray, List.append_toArray, List.nil_append, List.cons_append]))
  ((first | refine wpJ_seq ?_ | refine wpJ_block ?_ | refine wpJ_skip ?_ | refine wpJ_label ?_ | refine wpJ_ret ?_ | refine wpJ_exit ?_ | refine opsJ_nil ?_))
  ((refine wpJ_region ?_; simp only [List.size_toArray, List.length_cons, List.length_nil, Nat.reduceAdd, Nat.zero_add, List.range, List.range.loop]))
  ((refine opsJ_new rfl (by rfl) (f := fun γ => (.pointer (some ⟨γ, 0, none⟩))) (ob := (.cells x.cs.toArray 25)) (fun w => by go_simp) (fun w => by simp [go_sem]) (fun γ hγ hmγ => ?_); try walk_nrm))
  have hne : β ≠ γ := fun e => by subst e; rw [hm] at hmγ; cases hmγ
  have e1 : (m.set γ (.cells x.cs.toArray 25)) γ = some (.cells x.cs.toArray 25 (0, 0)) := PM.set_same _ _ _
  have e2 : (m.set γ (.cells x.cs.toArray 25)) β = some (.cells (stC c r wt en) 55 (0, 0)) := by rw [PM.set_ne _ _ hne]; exact hm
  have hx : Ext m (m.set γ (.cells x.cs.toArray 25)) := Ext.set hmγ _
  generalize (m.set γ (.cells x.cs.toArray 25)) = m' at e1 e2 hx ⊢
  (repeat (first | ((refine wpJ_region ?_; simp only [List.size_toArray, List.length_cons, List.length_nil, Nat.reduceAdd, Nat.zero_add, List.range, List.range.loop])) | ((refine opsJ_pure rfl (by rfl) (fun w => run_eqv (fun K hK => by go_simp; exact hK)) (fun w => by simp [go_sem]) ?_; try walk_nrm)) | (refine opsJ_unwanted rfl (by rfl) ?_; try walk_nrm) | (((first | refine wpJ_seq ?_ | refine wpJ_block ?_ | refine wpJ_skip ?_ | refine wpJ_label ?_ | refine wpJ_ret ?_ | refine wpJ_exit ?_ | refine opsJ_nil ?_)); try (simp only [QJ.then, QJ.inBlock, if_true, if_false, reduceIte, Nat.reduceEqDiff])) | ((refine wpJ_cond (by rfl) ?_; simp only [if_true, if_false, reduceIte, Bool.false_eq_true]))))
  ((refine opsJ_ldN rfl (by rfl) rfl rfl e1 (cs := x.cs) (fun j v h => by first | (rw [Nat.zero_add, List.getElem?_toArray]; exact h) | simpa using h) Try.underlying25 rfl size25 ?_; try walk_nrm))
  (repeat (first | ((refine wpJ_region ?_; simp only [List.size_toArray, List.length_cons, List.length_nil, Nat.reduceAdd, Nat.zero_add, List.range, List.range.loop])) | ((refine opsJ_pure rfl (by rfl) (fun w => run_eqv (fun K hK => by go_simp; exact hK)) (fun w => by simp [go_sem]) ?_; try walk_nrm)) | (refine opsJ_unwanted rfl (by rfl) ?_; try walk_nrm) | (((first | refine wpJ_seq ?_ | refine wpJ_block ?_ | refine wpJ_skip ?_ | refine wpJ_label ?_ | refine wpJ_ret ?_ | refine wpJ_exit ?_ | refine opsJ_nil ?_)); try (simp only [QJ.then, QJ.inBlock, if_true, if_false, reduceIte, Nat.reduceEqDiff])) | ((refine wpJ_cond (by rfl) ?_; simp only [if_true, if_false, reduceIte, Bool.false_eq_true]))))
  ((refine opsJ_stN rfl (by rfl) rfl rfl rfl e2 (of_decide_eq_true rfl) (one_cs x) size25 ?_; try walk_nrm))
  have p1 : putAll (stC c r wt en) 1 x.cs.toArray.toList = stC c x wt en := rfl
  rw [p1]
  have e3 : (m'.set β (.cells (stC c x wt en) 55 (0, 0))) β = some (.cells (stC c x wt en) 55 (0, 0)) := PM.set_same _ _ _
  have hx' : ExtBut (· = β) m (m'.set β (.cells (stC c x wt en) 55 (0, 0))) := hx.but.set _
  generalize (m'.set β (.cells (stC c x wt en) 55 (0, 0))) = m'' at e3 hx' ⊢
  (repeat (first | ((refine wpJ_region ?_; simp only [List.size_toArray, List.length_cons, List.length_nil, Nat.reduceAdd, Nat.zero_add, List.range, List.range.loop])) | ((refine opsJ_pure rfl (by rfl) (fun w => run_eqv (fun K hK => by go_simp; exact hK)) (fun w => by simp [go_sem]) ?_; try walk_nrm)) | (refine opsJ_unwanted rfl (by rfl) ?_; try walk_nrm) | (((first | refine wpJ_seq ?_ | refine wpJ_block ?_ | refine wpJ_skip ?_ | refine wpJ_label ?_ | refine wpJ_ret ?_ | refine wpJ_exit ?_ | refine opsJ_nil ?_)); try (simp only [QJ.then, QJ.inBlock, if_true, if_false, reduceIte, Nat.reduceEqDiff])) | ((refine wpJ_cond (by rfl) ?_; simp only [if_true, if_false, reduceIte, Bool.false_eq_true]))))
  ((refine opsJ_st (v := (.bool more)) rfl (by rfl) rfl rfl rfl e3 (of_decide_eq_true rfl) rfl size4 ?_; try walk_nrm))
  have p2 : (stC c x wt en).setIfInBounds 8 (.bool more) = stC c x more en := rfl
  rw [p2]
  have e4 : (m''.set β (.cells (stC c x more en) 55 (0, 0))) β = some (.cells (stC c x more en) 55 (0, 0)) := PM.set_same _ _ _
  replace hx' : ExtBut (· = β) m (m''.set β (.cells (stC c x more en) 55 (0, 0))) := hx'.set _
  generalize (m''.set β (.cells (stC c x more en) 55 (0, 0))) = m₃ at e4 hx' ⊢
  (repeat (first | ((refine wpJ_region ?_; simp only [List.size_toArray, List.length_cons, List.length_nil, Nat.reduceAdd, Nat.zero_add, List.range, List.range.loop])) | ((refine opsJ_pure rfl (by rfl) (fun w => run_eqv (fun K hK => by go_simp; exact hK)) (fun w => by simp [go_sem]) ?_; try walk_nrm)) | (refine opsJ_unwanted rfl (by rfl) ?_; try walk_nrm) | (((first | refine wpJ_seq ?_ | refine wpJ_block ?_ | refine wpJ_skip ?_ | refine wpJ_label ?_ | refine wpJ_ret ?_ | refine wpJ_exit ?_ | refine opsJ_nil ?_)); try (simp only [QJ.then, QJ.inBlock, if_true, if_false, reduceIte, Nat.reduceEqDiff])) | ((refine wpJ_cond (by rfl) ?_; simp only [if_true, if_false, reduceIte, Bool.false_eq_true]))))
  ((refine opsJ_st (v := (.bool (!more))) rfl (by rfl) rfl rfl rfl e4 (of_decide_eq_true rfl) rfl size4 ?_; try walk_nrm))
  have p3 : (stC c x more en).setIfInBounds 9 (.bool (!more)) = stC c x more (!more) := rfl
  rw [p3]
  (repeat (first | ((refine wpJ_region ?_; simp only [List.size_toArray, List.length_cons, List.length_nil, Nat.reduceAdd, Nat.zero_add, List.range, List.range.loop])) | ((refine opsJ_pure rfl (by rfl) (fun w => run_eqv (fun K hK => by go_simp; exact hK)) (fun w => by simp [go_sem]) ?_; try walk_nrm)) | (refine opsJ_unwanted rfl (by rfl) ?_; try walk_nrm) | (((first | refine wpJ_seq ?_ | refine wpJ_block ?_ | refine wpJ_skip ?_ | refine wpJ_label ?_ | refine wpJ_ret ?_ | refine wpJ_exit ?_ | refine opsJ_nil ?_)); try (simp only [QJ.then, QJ.inBlock, if_true, if_false, reduceIte, Nat.reduceEqDiff])) | ((refine wpJ_cond (by rfl) ?_; simp only [if_true, if_false, reduceIte, Bool.false_eq_true]))))
  exact ⟨rfl, _, resultsJ_none Try.results16 _, rfl, rfl, PM.set_same _ _ _, hx'.set _⟩
end
end Go.Proofs.Ytafnbmokegomaaa
