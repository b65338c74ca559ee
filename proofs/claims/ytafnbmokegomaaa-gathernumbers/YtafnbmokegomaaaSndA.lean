/-
  A SENDER's Done: Add(-1), as far as the atomic subtraction.
-/
import Derived.Test.YtafnbmokegomaaaSndR
import Derived.Test.YtafnbmokegomaaaWgAdd
set_option linter.unusedSimpArgs false
set_option linter.unusedVariables false
namespace Go.Proofs.Ytafnbmokegomaaa
open Go.Conc Go.RowKit
open Go.ConcR (KK wgBlock WgAt stA smA rd wr mk)

/-- who stands at an entry may wake another -/
theorem mw_entry {P : Program} {b : Frame} {a : Act} {ops : Array Oper} {i : Nat} {rest : List Nat} {k : List Item} {cs : List Frame} {o : Oper} {f : FuncId} {fn : Func} {xs : Array Operand} {ats : Array TypeId}
    (ho : ops[i]? = some o) (hop : o.op = .call { callee := .value (.func f), args := xs, argTypes := ats }) (hf : P.funcs[f]? = some fn) (hb : fn.body.isNone = true) : mayWake P (G (b.at a (.inRegion ops (i :: rest) :: k)) cs) = true := by
  have h2 : fn.body = none := by simpa using hb
  have ef : (b.at a (.inRegion ops (i :: rest) :: k)).eval (.func f) = .func (.func f) #[] #[] := rfl
  simp [mayWake, G, Frame.at, ho, hop] at ef ⊢
  simp [ef, hf, h2]

set_option maxRecDepth 100000 in
set_option maxHeartbeats 8000000 in
theorem addneg_s {X : Cfg} {bb : Bool} {c m : Nat} (hP : X.P = Try.prog) {W : Nat} (hW : X.Wg = W) (hT : X.ty = WTy) {b₀ : Frame} {a₀ : Act} {ops₀ : Array Oper} {i₀ : Nat} {rest₀ : List Nat} {k₀ : List Item} {cs : List Frame}
    (hQ : QuitsD Try.prog m 0 (G (b₀.at (a₀.put ((ops₀[i₀]?).bind (·.dst)) (.tuple #[])) (.inRegion ops₀ rest₀ :: k₀)) cs)) :
    Snd X bb c (m + 400) .sil none (G ((base 18).at { tmps := #[.pointer (some ⟨W, 0, none⟩), .int .i64 (-1)] ++ Array.replicate (Try.f18.ntmps - 2) undef, defers := [] } [.code (Try.f18.body.get (by rfl))]) (b₀.at a₀ (.inRegion ops₀ (i₀ :: rest₀) :: k₀) :: cs)) := by
  have hso := SOk.sil
  have e1 : Try.f18.ntmps = 117 := Try.ntmps18
  simp only [e1, Nat.reduceSub, Array.replicate_succ, Array.replicate_zero, List.push_toArray, List.append_toArray, List.nil_append, List.cons_append]
  (refine Snd.ctl (by assumption) (by assumption) rfl (fun _ => stepG_seq) ?_)
  ((refine Snd.ctl (by assumption) (by assumption) rfl (fun _ => stepG_cond (t := true) rfl) ?_; simp only [if_true, if_false, Bool.false_eq_true, ↓reduceIte]))
  (refine Snd.ctl (by assumption) (by assumption) rfl (fun _ => stepG_seq) ?_)
  (refine Snd.ctl (by assumption) (by assumption) rfl (fun _ => stepG_seq) ?_)
  ((refine Snd.ctl (by assumption) (by assumption) rfl (fun _ => stepG_region) ?_; simp only [List.size_toArray, List.length_cons, List.length_nil, Nat.reduceAdd, Nat.zero_add, List.range, List.range.loop]))
  ((refine Snd.value (by assumption) (by assumption) _ rfl rfl (by decide) (fun w => run_eqv (fun K hK => by go_simp; exact hK)) (fun _ => by simp [go_sem]) ?_; try walk_nrm))
  ((refine Snd.value (by assumption) (by assumption) _ rfl rfl (by decide) (fun w => run_eqv (fun K hK => by go_simp; exact hK)) (fun _ => by simp [go_sem]) ?_; try walk_nrm))
  (refine Snd.ctl (by assumption) (by assumption) rfl (fun _ => stepG_region_end) ?_)
  ((refine Snd.ctl (by assumption) (by assumption) rfl (fun _ => stepG_cond (t := true) rfl) ?_; simp only [if_true, if_false, Bool.false_eq_true, ↓reduceIte]))
  ((refine Snd.ctl (by assumption) (by assumption) rfl (fun _ => stepG_region) ?_; simp only [List.size_toArray, List.length_cons, List.length_nil, Nat.reduceAdd, Nat.zero_add, List.range, List.range.loop]))
  ((refine Snd.value (by assumption) (by assumption) _ rfl rfl (by decide) (fun w => run_eqv (fun K hK => by go_simp; exact hK)) (fun _ => by simp [go_sem]) ?_; try walk_nrm))
  refine Snd.conv hso hP hT rfl rfl (by decide) rfl (by rw [hW]; rfl) (by decide) Try.underlying49 Try.underlying62 size46n ?_
  walk_nrm
  refine Snd.merge hP e30 rfl rfl (by decide) rfl (by rw [hW]; simp [Act.eval, stA]) ?_
  walk_nrm
  (refine Snd.ctl (by assumption) (by assumption) rfl (fun _ => stepG_region_end) ?_)
  (refine Snd.ctl (by assumption) (by assumption) rfl (fun _ => stepG_seq) ?_)
  ((refine Snd.ctl (by assumption) (by assumption) rfl (fun _ => stepG_region) ?_; simp only [List.size_toArray, List.length_cons, List.length_nil, Nat.reduceAdd, Nat.zero_add, List.range, List.range.loop]))
  refine Snd.dis hP e20 rfl rfl (by decide) rfl ?_
  clear hso
  have hso := SOk.deaf
  walk_nrm
  (refine Snd.ctl (by assumption) (by assumption) rfl (fun _ => stepG_region_end) ?_)
  ((refine Snd.ctl (by assumption) (by assumption) rfl (fun _ => stepG_region) ?_; simp only [List.size_toArray, List.length_cons, List.length_nil, Nat.reduceAdd, Nat.zero_add, List.range, List.range.loop]))
  refine Snd.defer hso hP rfl rfl (by decide) rfl ?_
  walk_nrm
  (refine Snd.ctl (by assumption) (by assumption) rfl (fun _ => stepG_region_end) ?_)
  (refine Snd.ctl (by assumption) (by assumption) rfl (fun _ => stepG_seq) ?_)
  ((refine Snd.ctl (by assumption) (by assumption) rfl (fun _ => stepG_region) ?_; simp only [List.size_toArray, List.length_cons, List.length_nil, Nat.reduceAdd, Nat.zero_add, List.range, List.range.loop]))
  ((refine Snd.value (by assumption) (by assumption) _ rfl rfl (by decide) (fun w => run_eqv (fun K hK => by go_simp; exact hK)) (fun _ => by simp [go_sem]) ?_; try walk_nrm))
  (refine Snd.ctl (by assumption) (by assumption) rfl (fun _ => stepG_region_end) ?_)
  (refine Snd.ctl (by assumption) (by assumption) rfl (fun _ => stepG_seq) ?_)
  (refine Snd.ctl (by assumption) (by assumption) rfl (fun _ => stepG_seq) ?_)
  ((refine Snd.ctl (by assumption) (by assumption) rfl (fun _ => stepG_region) ?_; simp only [List.size_toArray, List.length_cons, List.length_nil, Nat.reduceAdd, Nat.zero_add, List.range, List.range.loop]))
  refine Snd.pure hso hP (.bool false) e28 rfl rfl (by decide) rfl ?_
  walk_nrm
  (refine Snd.ctl (by assumption) (by assumption) rfl (fun _ => stepG_region_end) ?_)
  ((refine Snd.ctl (by assumption) (by assumption) rfl (fun _ => stepG_cond (t := false) rfl) ?_; simp only [if_true, if_false, Bool.false_eq_true, ↓reduceIte]))
  (refine Snd.ctl (by assumption) (by assumption) rfl (fun _ => stepG_skip) ?_)
  (refine Snd.ctl (by assumption) (by assumption) rfl (fun _ => stepG_seq) ?_)
  ((refine Snd.ctl (by assumption) (by assumption) rfl (fun _ => stepG_region) ?_; simp only [List.size_toArray, List.length_cons, List.length_nil, Nat.reduceAdd, Nat.zero_add, List.range, List.range.loop]))
  ((refine Snd.value (by assumption) (by assumption) _ rfl rfl (by decide) (fun w => run_eqv (fun K hK => by go_simp; exact hK)) (fun _ => by simp [go_sem]) ?_; try walk_nrm))
  ((refine Snd.value (by assumption) (by assumption) _ rfl rfl (by decide) (fun w => run_eqv (fun K hK => by go_simp; exact hK)) (fun _ => by simp [go_sem]) ?_; try walk_nrm))
  ((refine Snd.value (by assumption) (by assumption) _ rfl rfl (by decide) (fun w => run_eqv (fun K hK => by go_simp; exact hK)) (fun _ => by simp [go_sem]) ?_; try walk_nrm))
  ((refine Snd.value (by assumption) (by assumption) _ rfl rfl (by decide) (fun w => run_eqv (fun K hK => by go_simp; exact hK)) (fun _ => by simp [go_sem]) ?_; try walk_nrm))
  ((refine Snd.value (by assumption) (by assumption) (.int .u64 18446744073709551615) rfl rfl (by decide) (fun w => by go_simp; try (first | rfl | decide | (simp [*, IntKind.wrap_u64, IntKind.wrap_u32, IntKind.wrap_i32, IntKind.wrap_i64] <;> omega))) (fun _ => by simp [go_sem, *]) ?_; try walk_nrm))
  ((refine Snd.value (by assumption) (by assumption) (.int .u64 18446744069414584320) rfl rfl (by decide) (fun w => by go_simp; try (first | rfl | decide | (simp [*, IntKind.wrap_u64, IntKind.wrap_u32, IntKind.wrap_i32, IntKind.wrap_i64] <;> omega))) (fun _ => by simp [go_sem, *]) ?_; try walk_nrm))
  refine Snd.call hso hP rfl rfl (by decide) rfl Try.func34 (by rfl) rfl ?_
  have e2 : Try.f34.ntmps = 10 := Try.ntmps34
  simp only [e2, List.map_toArray, List.map_cons, List.map_nil, List.size_toArray, List.length_cons, List.length_nil, Nat.reduceAdd, Nat.reduceSub, Array.replicate_succ, Array.replicate_zero, List.push_toArray, List.append_toArray, List.nil_append, List.cons_append]
  walk_nrm
  (refine Snd.ctl (by assumption) (by assumption) rfl (fun _ => stepG_seq) ?_)
  ((refine Snd.ctl (by assumption) (by assumption) rfl (fun _ => stepG_region) ?_; simp only [List.size_toArray, List.length_cons, List.length_nil, Nat.reduceAdd, Nat.zero_add, List.range, List.range.loop]))
  ((refine Snd.value (by assumption) (by assumption) _ rfl rfl (by decide) (fun w => run_eqv (fun K hK => by go_simp; exact hK)) (fun _ => by simp [go_sem]) ?_; try walk_nrm))
  (refine Snd.ctl (by assumption) (by assumption) rfl (fun _ => stepG_region_end) ?_)
  (refine Snd.ctl (by assumption) (by assumption) rfl (fun _ => stepG_seq) ?_)
  ((refine Snd.ctl (by assumption) (by assumption) rfl (fun _ => stepG_region) ?_; simp only [List.size_toArray, List.length_cons, List.length_nil, Nat.reduceAdd, Nat.zero_add, List.range, List.range.loop]))
  ((refine Snd.value (by assumption) (by assumption) _ rfl rfl (by decide) (fun w => run_eqv (fun K hK => by go_simp; exact hK)) (fun _ => by simp [go_sem]) ?_; try walk_nrm))
  ((refine Snd.value (by assumption) (by assumption) _ rfl rfl (by decide) (fun w => run_eqv (fun K hK => by go_simp; exact hK)) (fun _ => by simp [go_sem]) ?_; try walk_nrm))
  ((refine Snd.value (by assumption) (by assumption) _ rfl rfl (by decide) (fun w => run_eqv (fun K hK => by go_simp; exact hK)) (fun _ => by simp [go_sem]) ?_; try walk_nrm))
  ((refine Snd.value (by assumption) (by assumption) _ rfl rfl (by decide) (fun w => run_eqv (fun K hK => by go_simp; exact hK)) (fun _ => by simp [go_sem]) ?_; try walk_nrm))
  refine Snd.sub hP hT rfl rfl (by decide) rfl (by rw [hW]; simp [Act.eval, stA]) (by simp [Act.eval]) ?_ ?_ ?_ ?_
  · clear hso
    have hso := SOk.ld
    walk_nrm
    (repeat (first | ((refine Snd.ctl (by assumption) (by assumption) rfl (fun _ => stepG_region) ?_; simp only [List.size_toArray, List.length_cons, List.length_nil, Nat.reduceAdd, Nat.zero_add, List.range, List.range.loop])) | ((refine Snd.value (by assumption) (by assumption) _ rfl rfl (by decide) (fun w => run_eqv (fun K hK => by go_simp; exact hK)) (fun _ => by simp [go_sem]) ?_; try walk_nrm)) | ((refine Snd.unw (by assumption) (by assumption) rfl rfl ?_; try walk_nrm)) | (refine Snd.ctl (by assumption) (by assumption) rfl (fun _ => stepG_seq) ?_) | (refine Snd.ctl (by assumption) (by assumption) rfl (fun _ => stepG_region_end) ?_) | (refine Snd.ctl (by assumption) (by assumption) rfl (fun _ => stepG_skip) ?_) | ((refine Snd.ctl (by assumption) (by assumption) rfl (fun _ => stepG_cond (t := true) rfl) ?_; simp only [if_true, if_false, Bool.false_eq_true, ↓reduceIte])) | ((refine Snd.ctl (by assumption) (by assumption) rfl (fun _ => stepG_cond (t := false) rfl) ?_; simp only [if_true, if_false, Bool.false_eq_true, ↓reduceIte])) | (refine Snd.ctl (by assumption) (by assumption) rfl (fun _ => stepG_ret') ?_) | (refine Snd.ctl (by assumption) (by assumption) rfl (fun _ => stepG_block) ?_) | (refine Snd.ctl (by assumption) (by assumption) rfl (fun _ => stepG_inBlock) ?_) | (refine Snd.ctl (by assumption) (by assumption) rfl (fun _ => stepG_loop) ?_) | (refine Snd.ctl (by assumption) (by assumption) rfl (fun _ => stepG_end) ?_)))
    refine Snd.leave1 hso hP rfl rfl Try.func34 Try.results34 ?_
    walk_nrm
    ((refine Snd.value (by assumption) (by assumption) _ rfl rfl (by decide) (fun w => run_eqv (fun K hK => by go_simp; exact hK)) (fun _ => by simp [go_sem]) ?_; try walk_nrm))
    (refine Snd.ctl (by assumption) (by assumption) rfl (fun _ => stepG_region_end) ?_)
    (refine Snd.ctl (by assumption) (by assumption) rfl (fun _ => stepG_seq) ?_)
    (refine Snd.ctl (by assumption) (by assumption) rfl (fun _ => stepG_seq) ?_)
    ((refine Snd.ctl (by assumption) (by assumption) rfl (fun _ => stepG_region) ?_; simp only [List.size_toArray, List.length_cons, List.length_nil, Nat.reduceAdd, Nat.zero_add, List.range, List.range.loop]))
    ((refine Snd.value (by assumption) (by assumption) _ rfl rfl (by decide) (fun w => run_eqv (fun K hK => by go_simp; exact hK)) (fun _ => by simp [go_sem]) ?_; try walk_nrm))
    ((refine Snd.value (by assumption) (by assumption) (.int .u64 0) rfl rfl (by decide) (fun w => by go_simp; try (first | rfl | decide | (simp [*, IntKind.wrap_u64, IntKind.wrap_u32, IntKind.wrap_i32, IntKind.wrap_i64] <;> omega))) (fun _ => by simp [go_sem, *]) ?_; try walk_nrm))
    ((refine Snd.value (by assumption) (by assumption) (.bool false) rfl rfl (by decide) (fun w => by go_simp; try (first | rfl | decide | (simp [*, IntKind.wrap_u64, IntKind.wrap_u32, IntKind.wrap_i32, IntKind.wrap_i64] <;> omega))) (fun _ => by simp [go_sem, *]) ?_; try walk_nrm))
    ((refine Snd.value (by assumption) (by assumption) _ rfl rfl (by decide) (fun w => run_eqv (fun K hK => by go_simp; exact hK)) (fun _ => by simp [go_sem]) ?_; try walk_nrm))
    ((refine Snd.unw (by assumption) (by assumption) rfl rfl ?_; try walk_nrm))
    ((refine Snd.unw (by assumption) (by assumption) rfl rfl ?_; try walk_nrm))
    ((refine Snd.value (by assumption) (by assumption) _ rfl rfl (by decide) (fun w => run_eqv (fun K hK => by go_simp; exact hK)) (fun _ => by simp [go_sem]) ?_; try walk_nrm))
    (refine Snd.ctl (by assumption) (by assumption) rfl (fun _ => stepG_region_end) ?_)
    ((refine Snd.ctl (by assumption) (by assumption) rfl (fun _ => stepG_cond (t := false) rfl) ?_; simp only [if_true, if_false, Bool.false_eq_true, ↓reduceIte]))
    (refine Snd.ctl (by assumption) (by assumption) rfl (fun _ => stepG_skip) ?_)
    (refine Snd.ctl (by assumption) (by assumption) rfl (fun _ => stepG_seq) ?_)
    ((refine Snd.ctl (by assumption) (by assumption) rfl (fun _ => stepG_region) ?_; simp only [List.size_toArray, List.length_cons, List.length_nil, Nat.reduceAdd, Nat.zero_add, List.range, List.range.loop]))
    ((refine Snd.value (by assumption) (by assumption) _ rfl rfl (by decide) (fun w => run_eqv (fun K hK => by go_simp; exact hK)) (fun _ => by simp [go_sem]) ?_; try walk_nrm))
    ((refine Snd.value (by assumption) (by assumption) (.int .u64 0) rfl rfl (by decide) (fun w => by go_simp; try (first | rfl | decide | (simp [*, IntKind.wrap_u64, IntKind.wrap_u32, IntKind.wrap_i32, IntKind.wrap_i64] <;> omega))) (fun _ => by simp [go_sem, *]) ?_; try walk_nrm))
    ((refine Snd.value (by assumption) (by assumption) (.int .i32 0) rfl rfl (by decide) (fun w => by go_simp; try (first | rfl | decide | (simp [*, IntKind.wrap_u64, IntKind.wrap_u32, IntKind.wrap_i32, IntKind.wrap_i64] <;> omega))) (fun _ => by simp [go_sem, *]) ?_; try walk_nrm))
    ((refine Snd.value (by assumption) (by assumption) _ rfl rfl (by decide) (fun w => run_eqv (fun K hK => by go_simp; exact hK)) (fun _ => by simp [go_sem]) ?_; try walk_nrm))
    (refine Snd.ctl (by assumption) (by assumption) rfl (fun _ => stepG_region_end) ?_)
    (refine Snd.ctl (by assumption) (by assumption) rfl (fun _ => stepG_seq) ?_)
    ((refine Snd.ctl (by assumption) (by assumption) rfl (fun _ => stepG_region) ?_; simp only [List.size_toArray, List.length_cons, List.length_nil, Nat.reduceAdd, Nat.zero_add, List.range, List.range.loop]))
    ((refine Snd.value (by assumption) (by assumption) _ rfl rfl (by decide) (fun w => run_eqv (fun K hK => by go_simp; exact hK)) (fun _ => by simp [go_sem]) ?_; try walk_nrm))
    ((refine Snd.value (by assumption) (by assumption) (.int .u64 1) rfl rfl (by decide) (fun w => by go_simp; try (first | rfl | decide | (simp [*, IntKind.wrap_u64, IntKind.wrap_u32, IntKind.wrap_i32, IntKind.wrap_i64] <;> omega))) (fun _ => by simp [go_sem, *]) ?_; try walk_nrm))
    ((refine Snd.value (by assumption) (by assumption) (.int .u32 1) rfl rfl (by decide) (fun w => by go_simp; try (first | rfl | decide | (simp [*, IntKind.wrap_u64, IntKind.wrap_u32, IntKind.wrap_i32, IntKind.wrap_i64] <;> omega))) (fun _ => by simp [go_sem, *]) ?_; try walk_nrm))
    ((refine Snd.value (by assumption) (by assumption) _ rfl rfl (by decide) (fun w => run_eqv (fun K hK => by go_simp; exact hK)) (fun _ => by simp [go_sem]) ?_; try walk_nrm))
    (refine Snd.ctl (by assumption) (by assumption) rfl (fun _ => stepG_region_end) ?_)
    (repeat (first | ((refine Snd.ctl (by assumption) (by assumption) rfl (fun _ => stepG_region) ?_; simp only [List.size_toArray, List.length_cons, List.length_nil, Nat.reduceAdd, Nat.zero_add, List.range, List.range.loop])) | ((refine Snd.value (by assumption) (by assumption) _ rfl rfl (by decide) (fun w => run_eqv (fun K hK => by go_simp; exact hK)) (fun _ => by simp [go_sem]) ?_; try walk_nrm)) | ((refine Snd.unw (by assumption) (by assumption) rfl rfl ?_; try walk_nrm)) | (refine Snd.ctl (by assumption) (by assumption) rfl (fun _ => stepG_seq) ?_) | (refine Snd.ctl (by assumption) (by assumption) rfl (fun _ => stepG_region_end) ?_) | (refine Snd.ctl (by assumption) (by assumption) rfl (fun _ => stepG_skip) ?_) | ((refine Snd.ctl (by assumption) (by assumption) rfl (fun _ => stepG_cond (t := true) rfl) ?_; simp only [if_true, if_false, Bool.false_eq_true, ↓reduceIte])) | ((refine Snd.ctl (by assumption) (by assumption) rfl (fun _ => stepG_cond (t := false) rfl) ?_; simp only [if_true, if_false, Bool.false_eq_true, ↓reduceIte])) | (refine Snd.ctl (by assumption) (by assumption) rfl (fun _ => stepG_ret') ?_) | (refine Snd.ctl (by assumption) (by assumption) rfl (fun _ => stepG_block) ?_) | (refine Snd.ctl (by assumption) (by assumption) rfl (fun _ => stepG_inBlock) ?_) | (refine Snd.ctl (by assumption) (by assumption) rfl (fun _ => stepG_loop) ?_) | (refine Snd.ctl (by assumption) (by assumption) rfl (fun _ => stepG_end) ?_)))
    refine Snd.call hso hP rfl rfl (by decide) rfl Try.func21 (by rfl) rfl ?_
    have e21 : Try.f21.ntmps = 7 := Try.ntmps21
    simp only [e21, List.map_toArray, List.map_cons, List.map_nil, List.size_toArray, List.length_cons, List.length_nil, Nat.reduceAdd, Nat.reduceSub, Array.replicate_succ, Array.replicate_zero, List.push_toArray, List.append_toArray, List.nil_append, List.cons_append]
    walk_nrm
    (repeat (first | ((refine Snd.ctl (by assumption) (by assumption) rfl (fun _ => stepG_region) ?_; simp only [List.size_toArray, List.length_cons, List.length_nil, Nat.reduceAdd, Nat.zero_add, List.range, List.range.loop])) | ((refine Snd.value (by assumption) (by assumption) _ rfl rfl (by decide) (fun w => run_eqv (fun K hK => by go_simp; exact hK)) (fun _ => by simp [go_sem]) ?_; try walk_nrm)) | ((refine Snd.unw (by assumption) (by assumption) rfl rfl ?_; try walk_nrm)) | (refine Snd.ctl (by assumption) (by assumption) rfl (fun _ => stepG_seq) ?_) | (refine Snd.ctl (by assumption) (by assumption) rfl (fun _ => stepG_region_end) ?_) | (refine Snd.ctl (by assumption) (by assumption) rfl (fun _ => stepG_skip) ?_) | ((refine Snd.ctl (by assumption) (by assumption) rfl (fun _ => stepG_cond (t := true) rfl) ?_; simp only [if_true, if_false, Bool.false_eq_true, ↓reduceIte])) | ((refine Snd.ctl (by assumption) (by assumption) rfl (fun _ => stepG_cond (t := false) rfl) ?_; simp only [if_true, if_false, Bool.false_eq_true, ↓reduceIte])) | (refine Snd.ctl (by assumption) (by assumption) rfl (fun _ => stepG_ret') ?_) | (refine Snd.ctl (by assumption) (by assumption) rfl (fun _ => stepG_block) ?_) | (refine Snd.ctl (by assumption) (by assumption) rfl (fun _ => stepG_inBlock) ?_) | (refine Snd.ctl (by assumption) (by assumption) rfl (fun _ => stepG_loop) ?_) | (refine Snd.ctl (by assumption) (by assumption) rfl (fun _ => stepG_end) ?_)))
    refine Snd.uld hP hT rfl rfl (by decide) rfl (by rw [hW]; simp [Act.eval, stA]) ?_
    clear hso
    have hso := SOk.st
    walk_nrm
    (repeat (first | ((refine Snd.ctl (by assumption) (by assumption) rfl (fun _ => stepG_region) ?_; simp only [List.size_toArray, List.length_cons, List.length_nil, Nat.reduceAdd, Nat.zero_add, List.range, List.range.loop])) | ((refine Snd.value (by assumption) (by assumption) _ rfl rfl (by decide) (fun w => run_eqv (fun K hK => by go_simp; exact hK)) (fun _ => by simp [go_sem]) ?_; try walk_nrm)) | ((refine Snd.unw (by assumption) (by assumption) rfl rfl ?_; try walk_nrm)) | (refine Snd.ctl (by assumption) (by assumption) rfl (fun _ => stepG_seq) ?_) | (refine Snd.ctl (by assumption) (by assumption) rfl (fun _ => stepG_region_end) ?_) | (refine Snd.ctl (by assumption) (by assumption) rfl (fun _ => stepG_skip) ?_) | ((refine Snd.ctl (by assumption) (by assumption) rfl (fun _ => stepG_cond (t := true) rfl) ?_; simp only [if_true, if_false, Bool.false_eq_true, ↓reduceIte])) | ((refine Snd.ctl (by assumption) (by assumption) rfl (fun _ => stepG_cond (t := false) rfl) ?_; simp only [if_true, if_false, Bool.false_eq_true, ↓reduceIte])) | (refine Snd.ctl (by assumption) (by assumption) rfl (fun _ => stepG_ret') ?_) | (refine Snd.ctl (by assumption) (by assumption) rfl (fun _ => stepG_block) ?_) | (refine Snd.ctl (by assumption) (by assumption) rfl (fun _ => stepG_inBlock) ?_) | (refine Snd.ctl (by assumption) (by assumption) rfl (fun _ => stepG_loop) ?_) | (refine Snd.ctl (by assumption) (by assumption) rfl (fun _ => stepG_end) ?_)))
    refine Snd.leave1 hso hP rfl rfl Try.func21 Try.results21 ?_
    walk_nrm
    (repeat (first | ((refine Snd.ctl (by assumption) (by assumption) rfl (fun _ => stepG_region) ?_; simp only [List.size_toArray, List.length_cons, List.length_nil, Nat.reduceAdd, Nat.zero_add, List.range, List.range.loop])) | ((refine Snd.value (by assumption) (by assumption) _ rfl rfl (by decide) (fun w => run_eqv (fun K hK => by go_simp; exact hK)) (fun _ => by simp [go_sem]) ?_; try walk_nrm)) | ((refine Snd.unw (by assumption) (by assumption) rfl rfl ?_; try walk_nrm)) | (refine Snd.ctl (by assumption) (by assumption) rfl (fun _ => stepG_seq) ?_) | (refine Snd.ctl (by assumption) (by assumption) rfl (fun _ => stepG_region_end) ?_) | (refine Snd.ctl (by assumption) (by assumption) rfl (fun _ => stepG_skip) ?_) | ((refine Snd.ctl (by assumption) (by assumption) rfl (fun _ => stepG_cond (t := true) rfl) ?_; simp only [if_true, if_false, Bool.false_eq_true, ↓reduceIte])) | ((refine Snd.ctl (by assumption) (by assumption) rfl (fun _ => stepG_cond (t := false) rfl) ?_; simp only [if_true, if_false, Bool.false_eq_true, ↓reduceIte])) | (refine Snd.ctl (by assumption) (by assumption) rfl (fun _ => stepG_ret') ?_) | (refine Snd.ctl (by assumption) (by assumption) rfl (fun _ => stepG_block) ?_) | (refine Snd.ctl (by assumption) (by assumption) rfl (fun _ => stepG_inBlock) ?_) | (refine Snd.ctl (by assumption) (by assumption) rfl (fun _ => stepG_loop) ?_) | (refine Snd.ctl (by assumption) (by assumption) rfl (fun _ => stepG_end) ?_)))
    refine Snd.call hso hP rfl rfl (by decide) rfl Try.func36 (by rfl) rfl ?_
    have e36 : Try.f36.ntmps = 9 := Try.ntmps36
    simp only [e36, List.map_toArray, List.map_cons, List.map_nil, List.size_toArray, List.length_cons, List.length_nil, Nat.reduceAdd, Nat.reduceSub, Array.replicate_succ, Array.replicate_zero, List.push_toArray, List.append_toArray, List.nil_append, List.cons_append]
    walk_nrm
    (repeat (first | ((refine Snd.ctl (by assumption) (by assumption) rfl (fun _ => stepG_region) ?_; simp only [List.size_toArray, List.length_cons, List.length_nil, Nat.reduceAdd, Nat.zero_add, List.range, List.range.loop])) | ((refine Snd.value (by assumption) (by assumption) _ rfl rfl (by decide) (fun w => run_eqv (fun K hK => by go_simp; exact hK)) (fun _ => by simp [go_sem]) ?_; try walk_nrm)) | ((refine Snd.unw (by assumption) (by assumption) rfl rfl ?_; try walk_nrm)) | (refine Snd.ctl (by assumption) (by assumption) rfl (fun _ => stepG_seq) ?_) | (refine Snd.ctl (by assumption) (by assumption) rfl (fun _ => stepG_region_end) ?_) | (refine Snd.ctl (by assumption) (by assumption) rfl (fun _ => stepG_skip) ?_) | ((refine Snd.ctl (by assumption) (by assumption) rfl (fun _ => stepG_cond (t := true) rfl) ?_; simp only [if_true, if_false, Bool.false_eq_true, ↓reduceIte])) | ((refine Snd.ctl (by assumption) (by assumption) rfl (fun _ => stepG_cond (t := false) rfl) ?_; simp only [if_true, if_false, Bool.false_eq_true, ↓reduceIte])) | (refine Snd.ctl (by assumption) (by assumption) rfl (fun _ => stepG_ret') ?_) | (refine Snd.ctl (by assumption) (by assumption) rfl (fun _ => stepG_block) ?_) | (refine Snd.ctl (by assumption) (by assumption) rfl (fun _ => stepG_inBlock) ?_) | (refine Snd.ctl (by assumption) (by assumption) rfl (fun _ => stepG_loop) ?_) | (refine Snd.ctl (by assumption) (by assumption) rfl (fun _ => stepG_end) ?_)))
    refine Snd.ust hP hT rfl rfl (by decide) rfl (by rw [hW]; simp [Act.eval, stA]) (by simp [Act.eval]) ?_
    clear hso
    have hso := SOk.sem
    walk_nrm
    (repeat (first | ((refine Snd.ctl (by assumption) (by assumption) rfl (fun _ => stepG_region) ?_; simp only [List.size_toArray, List.length_cons, List.length_nil, Nat.reduceAdd, Nat.zero_add, List.range, List.range.loop])) | ((refine Snd.value (by assumption) (by assumption) _ rfl rfl (by decide) (fun w => run_eqv (fun K hK => by go_simp; exact hK)) (fun _ => by simp [go_sem]) ?_; try walk_nrm)) | ((refine Snd.unw (by assumption) (by assumption) rfl rfl ?_; try walk_nrm)) | (refine Snd.ctl (by assumption) (by assumption) rfl (fun _ => stepG_seq) ?_) | (refine Snd.ctl (by assumption) (by assumption) rfl (fun _ => stepG_region_end) ?_) | (refine Snd.ctl (by assumption) (by assumption) rfl (fun _ => stepG_skip) ?_) | ((refine Snd.ctl (by assumption) (by assumption) rfl (fun _ => stepG_cond (t := true) rfl) ?_; simp only [if_true, if_false, Bool.false_eq_true, ↓reduceIte])) | ((refine Snd.ctl (by assumption) (by assumption) rfl (fun _ => stepG_cond (t := false) rfl) ?_; simp only [if_true, if_false, Bool.false_eq_true, ↓reduceIte])) | (refine Snd.ctl (by assumption) (by assumption) rfl (fun _ => stepG_ret') ?_) | (refine Snd.ctl (by assumption) (by assumption) rfl (fun _ => stepG_block) ?_) | (refine Snd.ctl (by assumption) (by assumption) rfl (fun _ => stepG_inBlock) ?_) | (refine Snd.ctl (by assumption) (by assumption) rfl (fun _ => stepG_loop) ?_) | (refine Snd.ctl (by assumption) (by assumption) rfl (fun _ => stepG_end) ?_)))
    refine Snd.leave0 hso hP rfl rfl Try.func36 Try.results36 ?_
    walk_nrm
    (repeat (first | ((refine Snd.ctl (by assumption) (by assumption) rfl (fun _ => stepG_region) ?_; simp only [List.size_toArray, List.length_cons, List.length_nil, Nat.reduceAdd, Nat.zero_add, List.range, List.range.loop])) | ((refine Snd.value (by assumption) (by assumption) _ rfl rfl (by decide) (fun w => run_eqv (fun K hK => by go_simp; exact hK)) (fun _ => by simp [go_sem]) ?_; try walk_nrm)) | ((refine Snd.unw (by assumption) (by assumption) rfl rfl ?_; try walk_nrm)) | (refine Snd.ctl (by assumption) (by assumption) rfl (fun _ => stepG_seq) ?_) | (refine Snd.ctl (by assumption) (by assumption) rfl (fun _ => stepG_region_end) ?_) | (refine Snd.ctl (by assumption) (by assumption) rfl (fun _ => stepG_skip) ?_) | ((refine Snd.ctl (by assumption) (by assumption) rfl (fun _ => stepG_cond (t := true) rfl) ?_; simp only [if_true, if_false, Bool.false_eq_true, ↓reduceIte])) | ((refine Snd.ctl (by assumption) (by assumption) rfl (fun _ => stepG_cond (t := false) rfl) ?_; simp only [if_true, if_false, Bool.false_eq_true, ↓reduceIte])) | (refine Snd.ctl (by assumption) (by assumption) rfl (fun _ => stepG_ret') ?_) | (refine Snd.ctl (by assumption) (by assumption) rfl (fun _ => stepG_block) ?_) | (refine Snd.ctl (by assumption) (by assumption) rfl (fun _ => stepG_inBlock) ?_) | (refine Snd.ctl (by assumption) (by assumption) rfl (fun _ => stepG_loop) ?_) | (refine Snd.ctl (by assumption) (by assumption) rfl (fun _ => stepG_end) ?_)))
    refine Snd.usem hP hT rfl rfl (by decide) rfl (by rw [hW]; simp [Act.eval, smA]) (mw_entry rfl rfl Try.func37 (by kernel_rfl)) ?_
    walk_nrm
    (refine QuitsD.ctl rfl (fun _ => stepG_region_end) ?_)
    (refine QuitsD.ctl rfl (fun _ => stepG_inBlock) ?_)
    ((refine QuitsD.ctl rfl (fun _ => stepG_region) ?_; simp only [List.size_toArray, List.length_cons, List.length_nil, Nat.reduceAdd, Nat.zero_add, List.range, List.range.loop]))
    ((refine QuitsD.value _ rfl rfl (by decide) (fun w => run_eqv (fun K hK => by go_simp; exact hK)) (fun _ => by simp [go_sem]) ?_; try walk_nrm))
    ((refine QuitsD.value (.int .u32 0) rfl rfl (by decide) (fun w => by go_simp; try (first | rfl | decide | (simp [*, IntKind.wrap_u64, IntKind.wrap_u32, IntKind.wrap_i32, IntKind.wrap_i64] <;> omega))) (fun _ => by simp [go_sem, *]) ?_; try walk_nrm))
    ((refine QuitsD.value _ rfl rfl (by decide) (fun w => run_eqv (fun K hK => by go_simp; exact hK)) (fun _ => by simp [go_sem]) ?_; try walk_nrm))
    (refine QuitsD.ctl rfl (fun _ => stepG_region_end) ?_)
    (refine QuitsD.ctl rfl (fun _ => stepG_inLoop) ?_)
    (repeat (first | ((refine QuitsD.ctl rfl (fun _ => stepG_region) ?_; simp only [List.size_toArray, List.length_cons, List.length_nil, Nat.reduceAdd, Nat.zero_add, List.range, List.range.loop])) | ((refine QuitsD.value _ rfl rfl (by decide) (fun w => run_eqv (fun K hK => by go_simp; exact hK)) (fun _ => by simp [go_sem]) ?_; try walk_nrm)) | ((refine QuitsD.unwanted rfl rfl ?_; try walk_nrm)) | (refine QuitsD.ctl rfl (fun _ => stepG_seq) ?_) | (refine QuitsD.ctl rfl (fun _ => stepG_region_end) ?_) | (refine QuitsD.ctl rfl (fun _ => stepG_skip) ?_) | ((refine QuitsD.ctl rfl (fun _ => stepG_cond (t := true) rfl) ?_; simp only [if_true, if_false, Bool.false_eq_true, ↓reduceIte])) | ((refine QuitsD.ctl rfl (fun _ => stepG_cond (t := false) rfl) ?_; simp only [if_true, if_false, Bool.false_eq_true, ↓reduceIte])) | (refine QuitsD.ctl rfl (fun _ => stepG_ret') ?_) | (refine QuitsD.ctl rfl (fun _ => stepG_block) ?_) | (refine QuitsD.ctl rfl (fun _ => stepG_inBlock) ?_) | (refine QuitsD.ctl rfl (fun _ => stepG_loop) ?_) | (refine QuitsD.ctl rfl (fun _ => stepG_end) ?_)))
    (refine QuitsD.ctl rfl (fun _ => (stepG_exit rfl)) ?_)
    (repeat (first | ((refine QuitsD.ctl rfl (fun _ => stepG_region) ?_; simp only [List.size_toArray, List.length_cons, List.length_nil, Nat.reduceAdd, Nat.zero_add, List.range, List.range.loop])) | ((refine QuitsD.value _ rfl rfl (by decide) (fun w => run_eqv (fun K hK => by go_simp; exact hK)) (fun _ => by simp [go_sem]) ?_; try walk_nrm)) | ((refine QuitsD.unwanted rfl rfl ?_; try walk_nrm)) | (refine QuitsD.ctl rfl (fun _ => stepG_seq) ?_) | (refine QuitsD.ctl rfl (fun _ => stepG_region_end) ?_) | (refine QuitsD.ctl rfl (fun _ => stepG_skip) ?_) | ((refine QuitsD.ctl rfl (fun _ => stepG_cond (t := true) rfl) ?_; simp only [if_true, if_false, Bool.false_eq_true, ↓reduceIte])) | ((refine QuitsD.ctl rfl (fun _ => stepG_cond (t := false) rfl) ?_; simp only [if_true, if_false, Bool.false_eq_true, ↓reduceIte])) | (refine QuitsD.ctl rfl (fun _ => stepG_ret') ?_) | (refine QuitsD.ctl rfl (fun _ => stepG_block) ?_) | (refine QuitsD.ctl rfl (fun _ => stepG_inBlock) ?_) | (refine QuitsD.ctl rfl (fun _ => stepG_loop) ?_) | (refine QuitsD.ctl rfl (fun _ => stepG_end) ?_)))
    obtain ⟨fx, h1, h2, h3, h4, h5⟩ := e22.ex
    refine QuitsD.unwind_mark .enable rfl (by simp) rfl h1 h2 h3 h4 h5 ?_
    refine QuitsD.leave0 rfl rfl Try.func18 Try.results18 ?_
    exact QuitsD.le hQ (by omega)
  · walk_nrm
    (repeat (first | ((refine QuitsD.ctl rfl (fun _ => stepG_region) ?_; simp only [List.size_toArray, List.length_cons, List.length_nil, Nat.reduceAdd, Nat.zero_add, List.range, List.range.loop])) | ((refine QuitsD.value _ rfl rfl (by decide) (fun w => run_eqv (fun K hK => by go_simp; exact hK)) (fun _ => by simp [go_sem]) ?_; try walk_nrm)) | ((refine QuitsD.unwanted rfl rfl ?_; try walk_nrm)) | (refine QuitsD.ctl rfl (fun _ => stepG_seq) ?_) | (refine QuitsD.ctl rfl (fun _ => stepG_region_end) ?_) | (refine QuitsD.ctl rfl (fun _ => stepG_skip) ?_) | ((refine QuitsD.ctl rfl (fun _ => stepG_cond (t := true) rfl) ?_; simp only [if_true, if_false, Bool.false_eq_true, ↓reduceIte])) | ((refine QuitsD.ctl rfl (fun _ => stepG_cond (t := false) rfl) ?_; simp only [if_true, if_false, Bool.false_eq_true, ↓reduceIte])) | (refine QuitsD.ctl rfl (fun _ => stepG_ret') ?_) | (refine QuitsD.ctl rfl (fun _ => stepG_block) ?_) | (refine QuitsD.ctl rfl (fun _ => stepG_inBlock) ?_) | (refine QuitsD.ctl rfl (fun _ => stepG_loop) ?_) | (refine QuitsD.ctl rfl (fun _ => stepG_end) ?_)))
    refine QuitsD.leave1 rfl rfl Try.func34 Try.results34 ?_
    walk_nrm
    ((refine QuitsD.value _ rfl rfl (by decide) (fun w => run_eqv (fun K hK => by go_simp; exact hK)) (fun _ => by simp [go_sem]) ?_; try walk_nrm))
    (refine QuitsD.ctl rfl (fun _ => stepG_region_end) ?_)
    (refine QuitsD.ctl rfl (fun _ => stepG_seq) ?_)
    (refine QuitsD.ctl rfl (fun _ => stepG_seq) ?_)
    ((refine QuitsD.ctl rfl (fun _ => stepG_region) ?_; simp only [List.size_toArray, List.length_cons, List.length_nil, Nat.reduceAdd, Nat.zero_add, List.range, List.range.loop]))
    ((refine QuitsD.value _ rfl rfl (by decide) (fun w => run_eqv (fun K hK => by go_simp; exact hK)) (fun _ => by simp [go_sem]) ?_; try walk_nrm))
    ((refine QuitsD.value (.int .u64 0) rfl rfl (by decide) (fun w => by go_simp; try (first | rfl | decide | (simp [*, IntKind.wrap_u64, IntKind.wrap_u32, IntKind.wrap_i32, IntKind.wrap_i64] <;> omega))) (fun _ => by simp [go_sem, *]) ?_; try walk_nrm))
    ((refine QuitsD.value (.bool false) rfl rfl (by decide) (fun w => by go_simp; try (first | rfl | decide | (simp [*, IntKind.wrap_u64, IntKind.wrap_u32, IntKind.wrap_i32, IntKind.wrap_i64] <;> omega))) (fun _ => by simp [go_sem, *]) ?_; try walk_nrm))
    ((refine QuitsD.value _ rfl rfl (by decide) (fun w => run_eqv (fun K hK => by go_simp; exact hK)) (fun _ => by simp [go_sem]) ?_; try walk_nrm))
    ((refine QuitsD.unwanted rfl rfl ?_; try walk_nrm))
    ((refine QuitsD.unwanted rfl rfl ?_; try walk_nrm))
    ((refine QuitsD.value _ rfl rfl (by decide) (fun w => run_eqv (fun K hK => by go_simp; exact hK)) (fun _ => by simp [go_sem]) ?_; try walk_nrm))
    (refine QuitsD.ctl rfl (fun _ => stepG_region_end) ?_)
    ((refine QuitsD.ctl rfl (fun _ => stepG_cond (t := false) rfl) ?_; simp only [if_true, if_false, Bool.false_eq_true, ↓reduceIte]))
    (refine QuitsD.ctl rfl (fun _ => stepG_skip) ?_)
    (refine QuitsD.ctl rfl (fun _ => stepG_seq) ?_)
    ((refine QuitsD.ctl rfl (fun _ => stepG_region) ?_; simp only [List.size_toArray, List.length_cons, List.length_nil, Nat.reduceAdd, Nat.zero_add, List.range, List.range.loop]))
    ((refine QuitsD.value _ rfl rfl (by decide) (fun w => run_eqv (fun K hK => by go_simp; exact hK)) (fun _ => by simp [go_sem]) ?_; try walk_nrm))
    ((refine QuitsD.value (.int .u64 0) rfl rfl (by decide) (fun w => by go_simp; try (first | rfl | decide | (simp [*, IntKind.wrap_u64, IntKind.wrap_u32, IntKind.wrap_i32, IntKind.wrap_i64] <;> omega))) (fun _ => by simp [go_sem, *]) ?_; try walk_nrm))
    ((refine QuitsD.value (.int .i32 0) rfl rfl (by decide) (fun w => by go_simp; try (first | rfl | decide | (simp [*, IntKind.wrap_u64, IntKind.wrap_u32, IntKind.wrap_i32, IntKind.wrap_i64] <;> omega))) (fun _ => by simp [go_sem, *]) ?_; try walk_nrm))
    ((refine QuitsD.value _ rfl rfl (by decide) (fun w => run_eqv (fun K hK => by go_simp; exact hK)) (fun _ => by simp [go_sem]) ?_; try walk_nrm))
    (refine QuitsD.ctl rfl (fun _ => stepG_region_end) ?_)
    (refine QuitsD.ctl rfl (fun _ => stepG_seq) ?_)
    ((refine QuitsD.ctl rfl (fun _ => stepG_region) ?_; simp only [List.size_toArray, List.length_cons, List.length_nil, Nat.reduceAdd, Nat.zero_add, List.range, List.range.loop]))
    ((refine QuitsD.value _ rfl rfl (by decide) (fun w => run_eqv (fun K hK => by go_simp; exact hK)) (fun _ => by simp [go_sem]) ?_; try walk_nrm))
    ((refine QuitsD.value (.int .u64 0) rfl rfl (by decide) (fun w => by go_simp; try (first | rfl | decide | (simp [*, IntKind.wrap_u64, IntKind.wrap_u32, IntKind.wrap_i32, IntKind.wrap_i64] <;> omega))) (fun _ => by simp [go_sem, *]) ?_; try walk_nrm))
    ((refine QuitsD.value (.int .u32 0) rfl rfl (by decide) (fun w => by go_simp; try (first | rfl | decide | (simp [*, IntKind.wrap_u64, IntKind.wrap_u32, IntKind.wrap_i32, IntKind.wrap_i64] <;> omega))) (fun _ => by simp [go_sem, *]) ?_; try walk_nrm))
    ((refine QuitsD.value _ rfl rfl (by decide) (fun w => run_eqv (fun K hK => by go_simp; exact hK)) (fun _ => by simp [go_sem]) ?_; try walk_nrm))
    (refine QuitsD.ctl rfl (fun _ => stepG_region_end) ?_)
    (repeat (first | ((refine QuitsD.ctl rfl (fun _ => stepG_region) ?_; simp only [List.size_toArray, List.length_cons, List.length_nil, Nat.reduceAdd, Nat.zero_add, List.range, List.range.loop])) | ((refine QuitsD.value _ rfl rfl (by decide) (fun w => run_eqv (fun K hK => by go_simp; exact hK)) (fun _ => by simp [go_sem]) ?_; try walk_nrm)) | ((refine QuitsD.unwanted rfl rfl ?_; try walk_nrm)) | (refine QuitsD.ctl rfl (fun _ => stepG_seq) ?_) | (refine QuitsD.ctl rfl (fun _ => stepG_region_end) ?_) | (refine QuitsD.ctl rfl (fun _ => stepG_skip) ?_) | ((refine QuitsD.ctl rfl (fun _ => stepG_cond (t := true) rfl) ?_; simp only [if_true, if_false, Bool.false_eq_true, ↓reduceIte])) | ((refine QuitsD.ctl rfl (fun _ => stepG_cond (t := false) rfl) ?_; simp only [if_true, if_false, Bool.false_eq_true, ↓reduceIte])) | (refine QuitsD.ctl rfl (fun _ => stepG_ret') ?_) | (refine QuitsD.ctl rfl (fun _ => stepG_block) ?_) | (refine QuitsD.ctl rfl (fun _ => stepG_inBlock) ?_) | (refine QuitsD.ctl rfl (fun _ => stepG_loop) ?_) | (refine QuitsD.ctl rfl (fun _ => stepG_end) ?_)))
    obtain ⟨fx, h1, h2, h3, h4, h5⟩ := e22.ex
    refine QuitsD.unwind_mark .enable rfl (by simp) rfl h1 h2 h3 h4 h5 ?_
    refine QuitsD.leave0 rfl rfl Try.func18 Try.results18 ?_
    exact QuitsD.le hQ (by omega)
  · walk_nrm
    (repeat (first | ((refine QuitsD.ctl rfl (fun _ => stepG_region) ?_; simp only [List.size_toArray, List.length_cons, List.length_nil, Nat.reduceAdd, Nat.zero_add, List.range, List.range.loop])) | ((refine QuitsD.value _ rfl rfl (by decide) (fun w => run_eqv (fun K hK => by go_simp; exact hK)) (fun _ => by simp [go_sem]) ?_; try walk_nrm)) | ((refine QuitsD.unwanted rfl rfl ?_; try walk_nrm)) | (refine QuitsD.ctl rfl (fun _ => stepG_seq) ?_) | (refine QuitsD.ctl rfl (fun _ => stepG_region_end) ?_) | (refine QuitsD.ctl rfl (fun _ => stepG_skip) ?_) | ((refine QuitsD.ctl rfl (fun _ => stepG_cond (t := true) rfl) ?_; simp only [if_true, if_false, Bool.false_eq_true, ↓reduceIte])) | ((refine QuitsD.ctl rfl (fun _ => stepG_cond (t := false) rfl) ?_; simp only [if_true, if_false, Bool.false_eq_true, ↓reduceIte])) | (refine QuitsD.ctl rfl (fun _ => stepG_ret') ?_) | (refine QuitsD.ctl rfl (fun _ => stepG_block) ?_) | (refine QuitsD.ctl rfl (fun _ => stepG_inBlock) ?_) | (refine QuitsD.ctl rfl (fun _ => stepG_loop) ?_) | (refine QuitsD.ctl rfl (fun _ => stepG_end) ?_)))
    refine QuitsD.leave1 rfl rfl Try.func34 Try.results34 ?_
    walk_nrm
    ((refine QuitsD.value _ rfl rfl (by decide) (fun w => run_eqv (fun K hK => by go_simp; exact hK)) (fun _ => by simp [go_sem]) ?_; try walk_nrm))
    (refine QuitsD.ctl rfl (fun _ => stepG_region_end) ?_)
    (refine QuitsD.ctl rfl (fun _ => stepG_seq) ?_)
    (refine QuitsD.ctl rfl (fun _ => stepG_seq) ?_)
    ((refine QuitsD.ctl rfl (fun _ => stepG_region) ?_; simp only [List.size_toArray, List.length_cons, List.length_nil, Nat.reduceAdd, Nat.zero_add, List.range, List.range.loop]))
    ((refine QuitsD.value _ rfl rfl (by decide) (fun w => run_eqv (fun K hK => by go_simp; exact hK)) (fun _ => by simp [go_sem]) ?_; try walk_nrm))
    ((refine QuitsD.value (.int .u64 0) rfl rfl (by decide) (fun w => by go_simp; try (first | rfl | decide | (simp [*, IntKind.wrap_u64, IntKind.wrap_u32, IntKind.wrap_i32, IntKind.wrap_i64] <;> omega))) (fun _ => by simp [go_sem, *]) ?_; try walk_nrm))
    ((refine QuitsD.value (.bool false) rfl rfl (by decide) (fun w => by go_simp; try (first | rfl | decide | (simp [*, IntKind.wrap_u64, IntKind.wrap_u32, IntKind.wrap_i32, IntKind.wrap_i64] <;> omega))) (fun _ => by simp [go_sem, *]) ?_; try walk_nrm))
    ((refine QuitsD.value _ rfl rfl (by decide) (fun w => run_eqv (fun K hK => by go_simp; exact hK)) (fun _ => by simp [go_sem]) ?_; try walk_nrm))
    ((refine QuitsD.unwanted rfl rfl ?_; try walk_nrm))
    ((refine QuitsD.unwanted rfl rfl ?_; try walk_nrm))
    ((refine QuitsD.value _ rfl rfl (by decide) (fun w => run_eqv (fun K hK => by go_simp; exact hK)) (fun _ => by simp [go_sem]) ?_; try walk_nrm))
    (refine QuitsD.ctl rfl (fun _ => stepG_region_end) ?_)
    ((refine QuitsD.ctl rfl (fun _ => stepG_cond (t := false) rfl) ?_; simp only [if_true, if_false, Bool.false_eq_true, ↓reduceIte]))
    (refine QuitsD.ctl rfl (fun _ => stepG_skip) ?_)
    (refine QuitsD.ctl rfl (fun _ => stepG_seq) ?_)
    ((refine QuitsD.ctl rfl (fun _ => stepG_region) ?_; simp only [List.size_toArray, List.length_cons, List.length_nil, Nat.reduceAdd, Nat.zero_add, List.range, List.range.loop]))
    ((refine QuitsD.value _ rfl rfl (by decide) (fun w => run_eqv (fun K hK => by go_simp; exact hK)) (fun _ => by simp [go_sem]) ?_; try walk_nrm))
    ((refine QuitsD.value (.int .u64 1) rfl rfl (by decide) (fun w => by go_simp; try (first | rfl | decide | (simp [*, IntKind.wrap_u64, IntKind.wrap_u32, IntKind.wrap_i32, IntKind.wrap_i64] <;> omega))) (fun _ => by simp [go_sem, *]) ?_; try walk_nrm))
    ((refine QuitsD.value (.int .i32 1) rfl rfl (by decide) (fun w => by go_simp; try (first | rfl | decide | (simp [*, IntKind.wrap_u64, IntKind.wrap_u32, IntKind.wrap_i32, IntKind.wrap_i64] <;> omega))) (fun _ => by simp [go_sem, *]) ?_; try walk_nrm))
    ((refine QuitsD.value _ rfl rfl (by decide) (fun w => run_eqv (fun K hK => by go_simp; exact hK)) (fun _ => by simp [go_sem]) ?_; try walk_nrm))
    (refine QuitsD.ctl rfl (fun _ => stepG_region_end) ?_)
    (refine QuitsD.ctl rfl (fun _ => stepG_seq) ?_)
    ((refine QuitsD.ctl rfl (fun _ => stepG_region) ?_; simp only [List.size_toArray, List.length_cons, List.length_nil, Nat.reduceAdd, Nat.zero_add, List.range, List.range.loop]))
    ((refine QuitsD.value _ rfl rfl (by decide) (fun w => run_eqv (fun K hK => by go_simp; exact hK)) (fun _ => by simp [go_sem]) ?_; try walk_nrm))
    ((refine QuitsD.value (.int .u64 0) rfl rfl (by decide) (fun w => by go_simp; try (first | rfl | decide | (simp [*, IntKind.wrap_u64, IntKind.wrap_u32, IntKind.wrap_i32, IntKind.wrap_i64] <;> omega))) (fun _ => by simp [go_sem, *]) ?_; try walk_nrm))
    ((refine QuitsD.value (.int .u32 0) rfl rfl (by decide) (fun w => by go_simp; try (first | rfl | decide | (simp [*, IntKind.wrap_u64, IntKind.wrap_u32, IntKind.wrap_i32, IntKind.wrap_i64] <;> omega))) (fun _ => by simp [go_sem, *]) ?_; try walk_nrm))
    ((refine QuitsD.value _ rfl rfl (by decide) (fun w => run_eqv (fun K hK => by go_simp; exact hK)) (fun _ => by simp [go_sem]) ?_; try walk_nrm))
    (refine QuitsD.ctl rfl (fun _ => stepG_region_end) ?_)
    (repeat (first | ((refine QuitsD.ctl rfl (fun _ => stepG_region) ?_; simp only [List.size_toArray, List.length_cons, List.length_nil, Nat.reduceAdd, Nat.zero_add, List.range, List.range.loop])) | ((refine QuitsD.value _ rfl rfl (by decide) (fun w => run_eqv (fun K hK => by go_simp; exact hK)) (fun _ => by simp [go_sem]) ?_; try walk_nrm)) | ((refine QuitsD.unwanted rfl rfl ?_; try walk_nrm)) | (refine QuitsD.ctl rfl (fun _ => stepG_seq) ?_) | (refine QuitsD.ctl rfl (fun _ => stepG_region_end) ?_) | (refine QuitsD.ctl rfl (fun _ => stepG_skip) ?_) | ((refine QuitsD.ctl rfl (fun _ => stepG_cond (t := true) rfl) ?_; simp only [if_true, if_false, Bool.false_eq_true, ↓reduceIte])) | ((refine QuitsD.ctl rfl (fun _ => stepG_cond (t := false) rfl) ?_; simp only [if_true, if_false, Bool.false_eq_true, ↓reduceIte])) | (refine QuitsD.ctl rfl (fun _ => stepG_ret') ?_) | (refine QuitsD.ctl rfl (fun _ => stepG_block) ?_) | (refine QuitsD.ctl rfl (fun _ => stepG_inBlock) ?_) | (refine QuitsD.ctl rfl (fun _ => stepG_loop) ?_) | (refine QuitsD.ctl rfl (fun _ => stepG_end) ?_)))
    obtain ⟨fx, h1, h2, h3, h4, h5⟩ := e22.ex
    refine QuitsD.unwind_mark .enable rfl (by simp) rfl h1 h2 h3 h4 h5 ?_
    refine QuitsD.leave0 rfl rfl Try.func18 Try.results18 ?_
    exact QuitsD.le hQ (by omega)
  · walk_nrm
    (repeat (first | ((refine QuitsD.ctl rfl (fun _ => stepG_region) ?_; simp only [List.size_toArray, List.length_cons, List.length_nil, Nat.reduceAdd, Nat.zero_add, List.range, List.range.loop])) | ((refine QuitsD.value _ rfl rfl (by decide) (fun w => run_eqv (fun K hK => by go_simp; exact hK)) (fun _ => by simp [go_sem]) ?_; try walk_nrm)) | ((refine QuitsD.unwanted rfl rfl ?_; try walk_nrm)) | (refine QuitsD.ctl rfl (fun _ => stepG_seq) ?_) | (refine QuitsD.ctl rfl (fun _ => stepG_region_end) ?_) | (refine QuitsD.ctl rfl (fun _ => stepG_skip) ?_) | ((refine QuitsD.ctl rfl (fun _ => stepG_cond (t := true) rfl) ?_; simp only [if_true, if_false, Bool.false_eq_true, ↓reduceIte])) | ((refine QuitsD.ctl rfl (fun _ => stepG_cond (t := false) rfl) ?_; simp only [if_true, if_false, Bool.false_eq_true, ↓reduceIte])) | (refine QuitsD.ctl rfl (fun _ => stepG_ret') ?_) | (refine QuitsD.ctl rfl (fun _ => stepG_block) ?_) | (refine QuitsD.ctl rfl (fun _ => stepG_inBlock) ?_) | (refine QuitsD.ctl rfl (fun _ => stepG_loop) ?_) | (refine QuitsD.ctl rfl (fun _ => stepG_end) ?_)))
    refine QuitsD.leave1 rfl rfl Try.func34 Try.results34 ?_
    walk_nrm
    ((refine QuitsD.value _ rfl rfl (by decide) (fun w => run_eqv (fun K hK => by go_simp; exact hK)) (fun _ => by simp [go_sem]) ?_; try walk_nrm))
    (refine QuitsD.ctl rfl (fun _ => stepG_region_end) ?_)
    (refine QuitsD.ctl rfl (fun _ => stepG_seq) ?_)
    (refine QuitsD.ctl rfl (fun _ => stepG_seq) ?_)
    ((refine QuitsD.ctl rfl (fun _ => stepG_region) ?_; simp only [List.size_toArray, List.length_cons, List.length_nil, Nat.reduceAdd, Nat.zero_add, List.range, List.range.loop]))
    ((refine QuitsD.value _ rfl rfl (by decide) (fun w => run_eqv (fun K hK => by go_simp; exact hK)) (fun _ => by simp [go_sem]) ?_; try walk_nrm))
    ((refine QuitsD.value (.int .u64 0) rfl rfl (by decide) (fun w => by go_simp; try (first | rfl | decide | (simp [*, IntKind.wrap_u64, IntKind.wrap_u32, IntKind.wrap_i32, IntKind.wrap_i64] <;> omega))) (fun _ => by simp [go_sem, *]) ?_; try walk_nrm))
    ((refine QuitsD.value (.bool false) rfl rfl (by decide) (fun w => by go_simp; try (first | rfl | decide | (simp [*, IntKind.wrap_u64, IntKind.wrap_u32, IntKind.wrap_i32, IntKind.wrap_i64] <;> omega))) (fun _ => by simp [go_sem, *]) ?_; try walk_nrm))
    ((refine QuitsD.value _ rfl rfl (by decide) (fun w => run_eqv (fun K hK => by go_simp; exact hK)) (fun _ => by simp [go_sem]) ?_; try walk_nrm))
    ((refine QuitsD.unwanted rfl rfl ?_; try walk_nrm))
    ((refine QuitsD.unwanted rfl rfl ?_; try walk_nrm))
    ((refine QuitsD.value _ rfl rfl (by decide) (fun w => run_eqv (fun K hK => by go_simp; exact hK)) (fun _ => by simp [go_sem]) ?_; try walk_nrm))
    (refine QuitsD.ctl rfl (fun _ => stepG_region_end) ?_)
    ((refine QuitsD.ctl rfl (fun _ => stepG_cond (t := false) rfl) ?_; simp only [if_true, if_false, Bool.false_eq_true, ↓reduceIte]))
    (refine QuitsD.ctl rfl (fun _ => stepG_skip) ?_)
    (refine QuitsD.ctl rfl (fun _ => stepG_seq) ?_)
    ((refine QuitsD.ctl rfl (fun _ => stepG_region) ?_; simp only [List.size_toArray, List.length_cons, List.length_nil, Nat.reduceAdd, Nat.zero_add, List.range, List.range.loop]))
    ((refine QuitsD.value _ rfl rfl (by decide) (fun w => run_eqv (fun K hK => by go_simp; exact hK)) (fun _ => by simp [go_sem]) ?_; try walk_nrm))
    ((refine QuitsD.value (.int .u64 1) rfl rfl (by decide) (fun w => by go_simp; try (first | rfl | decide | (simp [*, IntKind.wrap_u64, IntKind.wrap_u32, IntKind.wrap_i32, IntKind.wrap_i64] <;> omega))) (fun _ => by simp [go_sem, *]) ?_; try walk_nrm))
    ((refine QuitsD.value (.int .i32 1) rfl rfl (by decide) (fun w => by go_simp; try (first | rfl | decide | (simp [*, IntKind.wrap_u64, IntKind.wrap_u32, IntKind.wrap_i32, IntKind.wrap_i64] <;> omega))) (fun _ => by simp [go_sem, *]) ?_; try walk_nrm))
    ((refine QuitsD.value _ rfl rfl (by decide) (fun w => run_eqv (fun K hK => by go_simp; exact hK)) (fun _ => by simp [go_sem]) ?_; try walk_nrm))
    (refine QuitsD.ctl rfl (fun _ => stepG_region_end) ?_)
    (refine QuitsD.ctl rfl (fun _ => stepG_seq) ?_)
    ((refine QuitsD.ctl rfl (fun _ => stepG_region) ?_; simp only [List.size_toArray, List.length_cons, List.length_nil, Nat.reduceAdd, Nat.zero_add, List.range, List.range.loop]))
    ((refine QuitsD.value _ rfl rfl (by decide) (fun w => run_eqv (fun K hK => by go_simp; exact hK)) (fun _ => by simp [go_sem]) ?_; try walk_nrm))
    ((refine QuitsD.value (.int .u64 1) rfl rfl (by decide) (fun w => by go_simp; try (first | rfl | decide | (simp [*, IntKind.wrap_u64, IntKind.wrap_u32, IntKind.wrap_i32, IntKind.wrap_i64] <;> omega))) (fun _ => by simp [go_sem, *]) ?_; try walk_nrm))
    ((refine QuitsD.value (.int .u32 1) rfl rfl (by decide) (fun w => by go_simp; try (first | rfl | decide | (simp [*, IntKind.wrap_u64, IntKind.wrap_u32, IntKind.wrap_i32, IntKind.wrap_i64] <;> omega))) (fun _ => by simp [go_sem, *]) ?_; try walk_nrm))
    ((refine QuitsD.value _ rfl rfl (by decide) (fun w => run_eqv (fun K hK => by go_simp; exact hK)) (fun _ => by simp [go_sem]) ?_; try walk_nrm))
    (refine QuitsD.ctl rfl (fun _ => stepG_region_end) ?_)
    (repeat (first | ((refine QuitsD.ctl rfl (fun _ => stepG_region) ?_; simp only [List.size_toArray, List.length_cons, List.length_nil, Nat.reduceAdd, Nat.zero_add, List.range, List.range.loop])) | ((refine QuitsD.value _ rfl rfl (by decide) (fun w => run_eqv (fun K hK => by go_simp; exact hK)) (fun _ => by simp [go_sem]) ?_; try walk_nrm)) | ((refine QuitsD.unwanted rfl rfl ?_; try walk_nrm)) | (refine QuitsD.ctl rfl (fun _ => stepG_seq) ?_) | (refine QuitsD.ctl rfl (fun _ => stepG_region_end) ?_) | (refine QuitsD.ctl rfl (fun _ => stepG_skip) ?_) | ((refine QuitsD.ctl rfl (fun _ => stepG_cond (t := true) rfl) ?_; simp only [if_true, if_false, Bool.false_eq_true, ↓reduceIte])) | ((refine QuitsD.ctl rfl (fun _ => stepG_cond (t := false) rfl) ?_; simp only [if_true, if_false, Bool.false_eq_true, ↓reduceIte])) | (refine QuitsD.ctl rfl (fun _ => stepG_ret') ?_) | (refine QuitsD.ctl rfl (fun _ => stepG_block) ?_) | (refine QuitsD.ctl rfl (fun _ => stepG_inBlock) ?_) | (refine QuitsD.ctl rfl (fun _ => stepG_loop) ?_) | (refine QuitsD.ctl rfl (fun _ => stepG_end) ?_)))
    obtain ⟨fx, h1, h2, h3, h4, h5⟩ := e22.ex
    refine QuitsD.unwind_mark .enable rfl (by simp) rfl h1 h2 h3 h4 h5 ?_
    refine QuitsD.leave0 rfl rfl Try.func18 Try.results18 ?_
    exact QuitsD.le hQ (by omega)
end Go.Proofs.Ytafnbmokegomaaa
