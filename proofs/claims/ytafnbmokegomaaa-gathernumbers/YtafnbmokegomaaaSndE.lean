/-
  A SENDER's LOOP.
-/
import Derived.Test.YtafnbmokegomaaaSndB
set_option linter.unusedSimpArgs false
set_option linter.unusedVariables false
namespace Go.Proofs.Ytafnbmokegomaaa
open Go.Conc Go.RowKit
open Go.ConcR (KK wgBlock WgAt stA smA rd wr mk)


theorem wrapJ {x : Int} (h : -9223372036854775808 ≤ x) (h' : x < 9223372036854775808) : IntKind.i64.wrap x = x := by
  rw [IntKind.wrap_i64]; omega
/-- the body of the loop -/
def bodyOf : Code → Code
  | .seq _ (.seq _ (.seq _ (.block _ (.loop c)))) => c
  | c => c
noncomputable def L19 : Code := bodyOf (Try.f19.body.get (by rfl))

/-- a row that stands still -/
def RowV (X : Cfg) (row : Value) (n : Nat) (it : Nat → Rt) : Prop :=
  (∃ base cap, row = .slice base n cap) ∧ (0 < n → ∃ β off C ety fr cap, row = .slice (some ⟨β, off, none⟩) n cap ∧ (∀ w, X.K w → w.heap[β]? = some (.cells C ety fr)) ∧ X.StB β ∧ β < X.N0 ∧ ∀ i, i < n → ∀ j v, (it i).cs[j]? = some v → C[off + i * 7 + j]? = some v)

set_option maxRecDepth 100000 in
set_option maxHeartbeats 4000000 in
theorem head_s {X : Cfg} {bb : Bool} {c m : Nat} (hP : X.P = Try.prog) {row pw : Value} {it : Nat → Rt} (hrow : RowV X row (X.n bb) it) (hbig : X.n bb < 1000000000000) (hit : ∀ k, k < X.n bb → X.it bb k = .agg (it k).cs.toArray) {ds : List Deferred} {fs : List Frame}
    (htail : ∀ t7 t13 t14 t15 t16 t17 t18, Snd X bb c m (.snd (X.n bb)) none (G { (baseD 19).at ⟨#[row, .chan (some c), pw, undef, undef, undef, undef, t7, pw, .chan (some c), row, .int .i64 ((X.n bb : Nat) : Int), .int .i64 ((X.n bb : Nat) : Int), t13, t14, t15, t16, t17, t18], ds⟩ [] with mode := .returning } fs)) :
    ∀ d i, i + d = X.n bb → ∀ t7 t13 t14 t15 t16 t17 t18, Snd X bb c (m + 60 * d + 60) (.snd i) none (G ((baseD 19).at ⟨#[row, .chan (some c), pw, undef, undef, undef, undef, t7, pw, .chan (some c), row, .int .i64 ((X.n bb : Nat) : Int), .int .i64 ((i : Nat) : Int), t13, t14, t15, t16, t17, t18], ds⟩ [.code L19, .inLoop L19, .inBlock 0]) fs) := by
  intro d
  induction d with
  | zero =>
    intro i hi t7 t13 t14 t15 t16 t17 t18
    obtain rfl : i = X.n bb := by omega
    have hso := SOk.s (X.n bb) none
    (refine Snd.ctl (by assumption) (by assumption) rfl (fun _ => stepG_seq) ?_)
    ((refine Snd.ctl (by assumption) (by assumption) rfl (fun _ => stepG_region) ?_; simp only [List.size_toArray, List.length_cons, List.length_nil, Nat.reduceAdd, Nat.zero_add, List.range, List.range.loop]))
    ((refine Snd.value (by assumption) (by assumption) (.bool false) rfl rfl (by decide) (fun w => by go_simp; try (first | rfl | decide | (simp [*, IntKind.wrap_u64, IntKind.wrap_u32, IntKind.wrap_i32, IntKind.wrap_i64] <;> omega))) (fun _ => by simp [go_sem, *]) ?_; try walk_nrm))
    (refine Snd.ctl (by assumption) (by assumption) rfl (fun _ => stepG_region_end) ?_)
    (refine Snd.ctl (by assumption) (by assumption) rfl (fun _ => stepG_seq) ?_)
    ((refine Snd.ctl (by assumption) (by assumption) rfl (fun _ => stepG_cond (t := false) rfl) ?_; simp only [if_true, if_false, Bool.false_eq_true, ↓reduceIte]))
    (refine Snd.ctl (by assumption) (by assumption) rfl (fun _ => stepG_exit rfl) ?_)
    (refine Snd.ctl (by assumption) (by assumption) rfl (fun _ => stepG_end) ?_)
    exact Snd.le (htail _ _ _ _ _ _ _) (by omega)
  | succ d ih =>
    intro i hi t7 t13 t14 t15 t16 t17 t18
    have hlt : i < X.n bb := by omega
    obtain ⟨β, off, C, ety, fr, cap, rfl, hK, hs, hN, hC⟩ := hrow.2 (by omega)
    have hso := SOk.s i none
    have hlti : ((i : Nat) : Int) < ((X.n bb : Nat) : Int) := by omega
    (refine Snd.ctl (by assumption) (by assumption) rfl (fun _ => stepG_seq) ?_)
    ((refine Snd.ctl (by assumption) (by assumption) rfl (fun _ => stepG_region) ?_; simp only [List.size_toArray, List.length_cons, List.length_nil, Nat.reduceAdd, Nat.zero_add, List.range, List.range.loop]))
    ((refine Snd.value (by assumption) (by assumption) (.bool true) rfl rfl (by decide) (fun w => by go_simp; try (first | rfl | decide | (simp [*, IntKind.wrap_u64, IntKind.wrap_u32, IntKind.wrap_i32, IntKind.wrap_i64] <;> omega))) (fun _ => by simp [go_sem, *]) ?_; try walk_nrm))
    (refine Snd.ctl (by assumption) (by assumption) rfl (fun _ => stepG_region_end) ?_)
    (refine Snd.ctl (by assumption) (by assumption) rfl (fun _ => stepG_seq) ?_)
    ((refine Snd.ctl (by assumption) (by assumption) rfl (fun _ => stepG_cond (t := true) rfl) ?_; simp only [if_true, if_false, Bool.false_eq_true, ↓reduceIte]))
    (refine Snd.ctl (by assumption) (by assumption) rfl (fun _ => stepG_skip) ?_)
    (refine Snd.ctl (by assumption) (by assumption) rfl (fun _ => stepG_seq) ?_)
    (refine Snd.ctl (by assumption) (by assumption) rfl (fun _ => stepG_block) ?_)
    (refine Snd.ctl (by assumption) (by assumption) rfl (fun _ => stepG_seq) ?_)
    ((refine Snd.ctl (by assumption) (by assumption) rfl (fun _ => stepG_region) ?_; simp only [List.size_toArray, List.length_cons, List.length_nil, Nat.reduceAdd, Nat.zero_add, List.range, List.range.loop]))
    ((refine Snd.value (by assumption) (by assumption) (.pointer (some ⟨β, off + i * 7, none⟩)) rfl rfl (by decide) (fun w => by go_simp; try (first | rfl | decide | (simp [*, IntKind.wrap_u64, IntKind.wrap_u32, IntKind.wrap_i32, IntKind.wrap_i64] <;> omega))) (fun _ => by simp [go_sem, *]) ?_; try walk_nrm))
    refine Snd.ldS hP rfl rfl (by decide) rfl rfl hK hs hN (hC i hlt) Try.underlying25 rfl size25 ?_
    walk_nrm
    refine Snd.new hP rfl rfl (by decide) (ob := .cells (Rt.cs ⟨0, 0, 0, false, 0, 0, 0⟩).toArray 25) (fun w => by go_simp; rfl) (fun w => by simp [go_sem]) fun n => ?_
    walk_nrm
    refine Snd.put hP rfl rfl (by decide) rfl rfl rfl (by show 0 + 7 ≤ 7; decide) (by simp [Rt.cs, Value.oneCell']) size25 ?_
    have q1 : putAll (Rt.cs ⟨0, 0, 0, false, 0, 0, 0⟩).toArray 0 (it i).cs.toArray.toList = (it i).cs.toArray := rfl
    rw [q1]
    walk_nrm
    clear hso
    have hso := SOk.s i (some (n, Obj.cells (it i).cs.toArray 25 (0, 0)))
    (refine Snd.ctl (by assumption) (by assumption) rfl (fun _ => stepG_region_end) ?_)
    ((refine Snd.ctl (by assumption) (by assumption) rfl (fun _ => stepG_region) ?_; simp only [List.size_toArray, List.length_cons, List.length_nil, Nat.reduceAdd, Nat.zero_add, List.range, List.range.loop]))
    ((refine Snd.value (by assumption) (by assumption) _ rfl rfl (by decide) (fun w => run_eqv (fun K hK => by go_simp; exact hK)) (fun _ => by simp [go_sem]) ?_; try walk_nrm))
    refine Snd.ldP hP rfl rfl (by decide) rfl rfl (cs := (it i).cs) (fun j v h => by rw [Nat.zero_add, List.getElem?_toArray]; exact h) Try.underlying25 rfl size25 ?_
    walk_nrm
    refine Snd.send hP rfl rfl (by decide) rfl rfl (by rw [hit i hlt]; rfl) hlt ?_
    clear hso
    have hso := SOk.s (i + 1) none
    walk_nrm
    (refine Snd.ctl (by assumption) (by assumption) rfl (fun _ => stepG_region_end) ?_)
    (refine Snd.ctl (by assumption) (by assumption) rfl (fun _ => stepG_inBlock) ?_)
    ((refine Snd.ctl (by assumption) (by assumption) rfl (fun _ => stepG_region) ?_; simp only [List.size_toArray, List.length_cons, List.length_nil, Nat.reduceAdd, Nat.zero_add, List.range, List.range.loop]))
    have hwr : IntKind.i64.wrap ((i : Int) + 1) = ((i + 1 : Nat) : Int) := by rw [wrapJ (by omega) (by omega)]; omega
    ((refine Snd.value (by assumption) (by assumption) (.int .i64 ((i + 1 : Nat) : Int)) rfl rfl (by decide) (fun w => by go_simp; try (first | rfl | decide | (simp [*, IntKind.wrap_u64, IntKind.wrap_u32, IntKind.wrap_i32, IntKind.wrap_i64] <;> omega))) (fun _ => by simp [go_sem, *]) ?_; try walk_nrm))
    ((refine Snd.value (by assumption) (by assumption) _ rfl rfl (by decide) (fun w => run_eqv (fun K hK => by go_simp; exact hK)) (fun _ => by simp [go_sem]) ?_; try walk_nrm))
    (refine Snd.ctl (by assumption) (by assumption) rfl (fun _ => stepG_region_end) ?_)
    (refine Snd.ctl (by assumption) (by assumption) rfl (fun _ => stepG_inLoop) ?_)
    exact Snd.le (ih (i + 1) (by omega) _ _ _ _ _ _ _) (by omega)
end Go.Proofs.Ytafnbmokegomaaa
