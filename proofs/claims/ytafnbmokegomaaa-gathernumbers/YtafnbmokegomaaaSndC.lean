/-
  A SENDER from its first step to its last.
-/
import Derived.Test.YtafnbmokegomaaaSndE
set_option linter.unusedSimpArgs false
set_option linter.unusedVariables false
namespace Go.Proofs.Ytafnbmokegomaaa
open Go.Conc Go.RowKit
open Go.ConcR (KK wgBlock WgAt stA smA rd wr mk)

/-- what is asked of Add(-1), behind which it only leaves -/
def AddNeg (X : Cfg) (bb : Bool) (c W : Nat) : Prop := ∀ (m : Nat) (b₀ : Frame) (a₀ : Act) (ops₀ : Array Oper) (i₀ : Nat) (rest₀ : List Nat) (k₀ : List Item) (cs : List Frame) (T : Array Value) (cd : Code),
    T = #[.pointer (some ⟨W, 0, none⟩), .int .i64 (-1)] ++ Array.replicate (Try.f18.ntmps - 2) undef → cd = Try.f18.body.get (by rfl) →
    QuitsD Try.prog m 0 (G (b₀.at (a₀.put ((ops₀[i₀]?).bind (·.dst)) (.tuple #[])) (.inRegion ops₀ rest₀ :: k₀)) cs) →
    Snd X bb c (m + 400) .sil none (G ((base 18).at { tmps := T, defers := [] } [.code cd]) (b₀.at a₀ (.inRegion ops₀ (i₀ :: rest₀) :: k₀) :: cs))

set_option maxRecDepth 100000 in
set_option maxHeartbeats 4000000 in
/-- the close, Done, the end -/
theorem tail_s {X : Cfg} {bb : Bool} {c W : Nat} (hP : X.P = Try.prog) (hadd : AddNeg X bb c W) {T : Array Value} {ats : Array TypeId} {ty : TypeId} {cn : Array Bool} :
    Snd X bb c 500 (.snd (X.n bb)) none (G { (baseD 19).at ⟨T, [dclose ats ty cn #[.chan (some c)], dcall 38 #[.pointer (some ⟨W, 0, none⟩)]]⟩ [] with mode := .returning } [nbF Try.prog]) := by
  refine ⟨rfl, .close (by rfl) fun w cap buf s r hK hL hc => ⟨G { (baseD 19).at ⟨T, [dcall 38 #[.pointer (some ⟨W, 0, none⟩)]]⟩ [] with mode := .returning } [nbF Try.prog], rfl, by rw [hP]; exact stepG_unwind_close rfl hc (by kernel_rfl), ?_⟩⟩
  have hso := SOk.sil
  refine Snd.ctl hso hP rfl (fun w => stepG_unwind_enter rfl Try.func38 (by rfl) rfl) ?_
  have e38 : Try.f38.ntmps = 4 := Try.ntmps38
  simp only [e38, List.size_toArray, List.length_cons, List.length_nil, Nat.reduceAdd, Nat.reduceSub, Array.replicate_succ, Array.replicate_zero, List.push_toArray, List.append_toArray, List.nil_append, List.cons_append]
  ((refine Snd.ctl (by assumption) (by assumption) rfl (fun _ => stepG_region) ?_; simp only [List.size_toArray, List.length_cons, List.length_nil, Nat.reduceAdd, Nat.zero_add, List.range, List.range.loop]))
  ((refine Snd.value (by assumption) (by assumption) _ rfl rfl (by decide) (fun w => run_eqv (fun K hK => by go_simp; exact hK)) (fun _ => by simp [go_sem]) ?_; try walk_nrm))
  refine Snd.call hso hP rfl rfl (by decide) rfl Try.func18 (by rfl) rfl ?_
  refine Snd.le (hadd 20 _ _ _ _ _ _ _ _ _ ?_ ?_ ?_) (by omega)
  · simp only [List.map_toArray, List.map_cons, List.map_nil, List.size_toArray, List.length_cons, List.length_nil, Nat.reduceAdd]
    rfl
  · rfl
  refine QuitsD.ctl rfl (fun _ => stepG_region_end) ?_
  refine QuitsD.ctl rfl (fun _ => stepG_end) ?_
  refine QuitsD.ctl rfl (fun w => stepG_leave_deferred rfl rfl Try.func38 (results_none Try.results38 _ Try.prog w) (events_results_none Try.results38 _ _) rfl) ?_
  refine QuitsD.ctl rfl (fun w => stepG_leave_newborn rfl rfl Try.func19 Try.results19) ?_
  refine QuitsD.ctl rfl (fun w => stepG_newborn_end) ?_
  exact .inl ⟨rfl, rfl⟩

set_option maxRecDepth 100000 in
set_option maxHeartbeats 4000000 in
/-- THE SENDER's SCRIPT. -/
theorem born_s {X : Cfg} {bb : Bool} {c W : Nat} (hP : X.P = Try.prog) (hadd : AddNeg X bb c W) {row : Value} {it : Nat → Rt} (hrow : RowV X row (X.n bb) it) (hbig : X.n bb < 1000000000000) (hit : ∀ k, k < X.n bb → X.it bb k = .agg (it k).cs.toArray) :
    ∃ k, Snd X bb c k (.snd 0) none (born Try.prog (dcall 19 #[row, .chan (some c), .pointer (some ⟨W, 0, none⟩)])) := by
  refine ⟨500 + 60 * X.n bb + 60 + 60, ?_⟩
  have hso := SOk.s 0 none
  refine Snd.ctl hso hP rfl (fun w => stepG_newborn Try.func19 (by rfl) rfl) ?_
  have e19 : Try.f19.ntmps = 19 := Try.ntmps19
  simp only [e19, List.size_toArray, List.length_cons, List.length_nil, Nat.reduceAdd, Nat.reduceSub, Array.replicate_succ, Array.replicate_zero, List.push_toArray, List.append_toArray, List.nil_append, List.cons_append]
  (refine Snd.ctl (by assumption) (by assumption) rfl (fun _ => stepG_seq) ?_)
  ((refine Snd.ctl (by assumption) (by assumption) rfl (fun _ => stepG_region) ?_; simp only [List.size_toArray, List.length_cons, List.length_nil, Nat.reduceAdd, Nat.zero_add, List.range, List.range.loop]))
  ((refine Snd.value (by assumption) (by assumption) _ rfl rfl (by decide) (fun w => run_eqv (fun K hK => by go_simp; exact hK)) (fun _ => by simp [go_sem]) ?_; try walk_nrm))
  refine Snd.defer hso hP rfl rfl (by decide) rfl ?_
  walk_nrm
  (refine Snd.ctl (by assumption) (by assumption) rfl (fun _ => stepG_region_end) ?_)
  (refine Snd.ctl (by assumption) (by assumption) rfl (fun _ => stepG_seq) ?_)
  ((refine Snd.ctl (by assumption) (by assumption) rfl (fun _ => stepG_region) ?_; simp only [List.size_toArray, List.length_cons, List.length_nil, Nat.reduceAdd, Nat.zero_add, List.range, List.range.loop]))
  ((refine Snd.value (by assumption) (by assumption) _ rfl rfl (by decide) (fun w => run_eqv (fun K hK => by go_simp; exact hK)) (fun _ => by simp [go_sem]) ?_; try walk_nrm))
  refine Snd.ctl hso hP rfl (fun w => stepG_defer_close rfl rfl (by decide) rfl) ?_
  walk_nrm
  (refine Snd.ctl (by assumption) (by assumption) rfl (fun _ => stepG_region_end) ?_)
  (refine Snd.ctl (by assumption) (by assumption) rfl (fun _ => stepG_seq) ?_)
  ((refine Snd.ctl (by assumption) (by assumption) rfl (fun _ => stepG_region) ?_; simp only [List.size_toArray, List.length_cons, List.length_nil, Nat.reduceAdd, Nat.zero_add, List.range, List.range.loop]))
  ((refine Snd.value (by assumption) (by assumption) _ rfl rfl (by decide) (fun w => run_eqv (fun K hK => by go_simp; exact hK)) (fun _ => by simp [go_sem]) ?_; try walk_nrm))
  obtain ⟨⟨base, cap, hr⟩, _⟩ := id hrow
  subst hr
  ((refine Snd.value (by assumption) (by assumption) (.int .i64 ((X.n bb : Nat) : Int)) rfl rfl (by decide) (fun w => by go_simp; try (first | rfl | decide | (simp [*, IntKind.wrap_u64, IntKind.wrap_u32, IntKind.wrap_i32, IntKind.wrap_i64] <;> omega))) (fun _ => by simp [go_sem, *]) ?_; try walk_nrm))
  ((refine Snd.value (by assumption) (by assumption) _ rfl rfl (by decide) (fun w => run_eqv (fun K hK => by go_simp; exact hK)) (fun _ => by simp [go_sem]) ?_; try walk_nrm))
  (refine Snd.ctl (by assumption) (by assumption) rfl (fun _ => stepG_region_end) ?_)
  (refine Snd.ctl (by assumption) (by assumption) rfl (fun _ => stepG_block) ?_)
  (refine Snd.ctl (by assumption) (by assumption) rfl (fun _ => stepG_loop) ?_)
  exact Snd.le (head_s (m := 500) hP hrow hbig hit (fun _ _ _ _ _ _ _ => tail_s hP hadd) (X.n bb) 0 (by omega) _ _ _ _ _ _ _) (by omega)
end Go.Proofs.Ytafnbmokegomaaa
