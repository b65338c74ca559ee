/-
  Agree, over meet.
-/
import Derived.Test.YtafnbmokegomaaaMeet
set_option linter.unusedSimpArgs false
set_option linter.unusedVariables false
set_option linter.unusedSectionVars false
namespace Go.Proofs.Ytafnbmokegomaaa
open Go.Conc Go.RowKit

/-- Are the first k pairs the same; how many are, from the first one on. -/
def agr (rw' : Bool → Nat → Rt) : Nat → Bool × Nat
  | 0 => (true, 0)
  | k + 1 => let q := agr rw' k; (q.1 && (rw' false k).eq (rw' true k), if q.1 && (rw' false k).eq (rw' true k) then q.2 + 1 else q.2)
theorem agr_le (rw' : Bool → Nat → Rt) : ∀ k, (agr rw' k).2 ≤ k
  | 0 => Nat.le_refl _
  | k + 1 => by
    have := agr_le rw' k
    simp only [agr]
    split <;> omega

theorem dec0 (l : Nat) : decide (l = 0) = ((l : Int) == 0) := by
  cases l with
  | zero => rfl
  | succ l => simp; omega

section
variable [Io] {Fin : Value → World → Prop}
set_option maxRecDepth 100000 in
set_option maxHeartbeats 2000000 in
theorem agree_j {sh sf : Nat → Prop} (rowA rowB : Value) (m rows : PM) (n : Bool → Nat) (rw' : Bool → Nat → Rt)
    (hrows : ∀ γ o, rows γ = some o → m γ = some o) (hbig : ∀ b, n b < 1000000000000)
    (hsnd : ∀ W c (b : Bool), (∀ γ o, rows γ = some o → γ < W) → W ≤ c → ∃ k, Snd (mkX Try.prog Fin (fun x => sh x ∨ x = W) W n (fun b k => .agg (rw' b k).cs.toArray) (.agg r0.cs.toArray) rows) b c k (.snd 0) none (born Try.prog (dcall 19 #[if b then rowB else rowA, .chan (some c), .pointer (some ⟨W, 0, none⟩)]))) :
    CallsJ Try.prog Fin 8 #[rowA, rowB] (.out sh sf false none) m
      fun s' m' v => ∃ W k l, s' = .out (fun x => sh x ∨ x = W) (fun x => x = W) false none ∧ (∃ b, k = n b ∧ n (!b) = k + l) ∧ v = .tuple #[.int .i64 (((agr rw' k).2 : Nat) : Int), .bool ((agr rw' k).1 && decide (l = 0))] ∧ Ext m m' := by
  ((refine callsJ_of Try.func8 (by rfl) rfl ?_; simp only [Try.ntmps8, List.size_toArray, List.length_cons, List.length_nil, Nat.reduceAdd, Nat.reduceSub, Array.replicate_succ, Array.replicate_zero, List.push_toArray, List.append_toArray, List.nil_append, List.cons_append]))
  ((first | refine wpJ_seq ?_ | refine wpJ_block ?_ | refine wpJ_skip ?_ | refine wpJ_label ?_ | refine wpJ_ret ?_ | refine wpJ_exit ?_ | refine opsJ_nil ?_))
  ((refine wpJ_region ?_; simp only [List.size_toArray, List.length_cons, List.length_nil, Nat.reduceAdd, Nat.zero_add, List.range, List.range.loop]))
  ((refine opsJ_pure rfl (by rfl) (fun w => run_eqv (fun K hK => by go_simp; exact hK)) (fun w => by simp [go_sem]) ?_; try walk_nrm))
  ((refine opsJ_pure rfl (by rfl) (fun w => run_eqv (fun K hK => by go_simp; exact hK)) (fun w => by simp [go_sem]) ?_; try walk_nrm))
  refine opsJ_nil ?_
  (simp only [QJ.then, QJ.inBlock, if_true, if_false, reduceIte, Nat.reduceEqDiff])
  ((first | refine wpJ_seq ?_ | refine wpJ_block ?_ | refine wpJ_skip ?_ | refine wpJ_label ?_ | refine wpJ_ret ?_ | refine wpJ_exit ?_ | refine opsJ_nil ?_))
  ((refine wpJ_region ?_; simp only [List.size_toArray, List.length_cons, List.length_nil, Nat.reduceAdd, Nat.zero_add, List.range, List.range.loop]))
  refine opsJ_new rfl (by rfl) (f := fun γ => .pointer (some ⟨γ, 0, none⟩)) (ob := .cells (nC 0) 3) (fun w => by go_simp; rfl) (fun w => by simp [go_sem]) (fun bn hγ hmn => ?_)
  walk_nrm
  refine opsJ_new rfl (by rfl) (f := fun γ => .pointer (some ⟨γ, 0, none⟩)) (ob := .cells (bC false) 4) (fun w => by go_simp; rfl) (fun w => by simp [go_sem]) (fun bb hγ hmb => ?_)
  walk_nrm
  have hne : bb ≠ bn := fun e => by subst e; rw [PM.set_same] at hmb; cases hmb
  have g1 : ((m.set bn (.cells (nC 0) 3)).set bb (.cells (bC false) 4)) bn = some (.cells (nC 0) 3 (0, 0)) := by rw [PM.set_ne _ _ hne.symm, PM.set_same]
  ((refine opsJ_st (v := (.int .i64 0)) rfl (by rfl) rfl rfl rfl g1 (of_decide_eq_true rfl) rfl size3 ?_; try walk_nrm))
  have p1 : (nC 0).setIfInBounds 0 (.int .i64 0) = nC 0 := rfl
  rw [p1]
  have g2 : (((m.set bn (.cells (nC 0) 3)).set bb (.cells (bC false) 4)).set bn (.cells (nC 0) 3)) bb = some (.cells (bC false) 4 (0, 0)) := by rw [PM.set_ne _ _ hne, PM.set_same]
  ((refine opsJ_st (v := (.bool true)) rfl (by rfl) rfl rfl rfl g2 (of_decide_eq_true rfl) rfl size4 ?_; try walk_nrm))
  have p2 : (bC false).setIfInBounds 0 (.bool true) = bC true := rfl
  rw [p2]
  have hb0 : m bb = none := by rwa [PM.set_ne _ _ hne] at hmb
  have e1 : ((((m.set bn (.cells (nC 0) 3)).set bb (.cells (bC false) 4)).set bn (.cells (nC 0) 3)).set bb (.cells (bC true) 4)) bb = some (.cells (bC true) 4 (0, 0)) := PM.set_same _ _ _
  have e2 : ((((m.set bn (.cells (nC 0) 3)).set bb (.cells (bC false) 4)).set bn (.cells (nC 0) 3)).set bb (.cells (bC true) 4)) bn = some (.cells (nC 0) 3 (0, 0)) := by rw [PM.set_ne _ _ hne.symm, PM.set_same]
  have hx : Ext m ((((m.set bn (.cells (nC 0) 3)).set bb (.cells (bC false) 4)).set bn (.cells (nC 0) 3)).set bb (.cells (bC true) 4)) := fun γ o e => by
    have h1 : γ ≠ bn := fun h => by rw [h, hmn] at e; cases e
    have h2 : γ ≠ bb := fun h => by rw [h, hb0] at e; cases e
    rw [PM.set_ne _ _ h2, PM.set_ne _ _ h1, PM.set_ne _ _ h2, PM.set_ne _ _ h1]; exact e
  generalize ((((m.set bn (.cells (nC 0) 3)).set bb (.cells (bC false) 4)).set bn (.cells (nC 0) 3)).set bb (.cells (bC true) 4)) = m1 at e1 e2 hx ⊢
  have rb : rows bb = none := by
    cases e : rows bb with
    | none => rfl
    | some o => have := hrows _ _ e; rw [hb0] at this; cases this
  have rn : rows bn = none := by
    cases e : rows bn with
    | none => rfl
    | some o => have := hrows _ _ e; rw [hmn] at this; cases this
  refine opsJ_nil ?_
  (simp only [QJ.then, QJ.inBlock, if_true, if_false, reduceIte, Nat.reduceEqDiff])
  ((first | refine wpJ_seq ?_ | refine wpJ_block ?_ | refine wpJ_skip ?_ | refine wpJ_label ?_ | refine wpJ_ret ?_ | refine wpJ_exit ?_ | refine opsJ_nil ?_))
  ((refine wpJ_region ?_; simp only [List.size_toArray, List.length_cons, List.length_nil, Nat.reduceAdd, Nat.zero_add, List.range, List.range.loop]))
  ((refine opsJ_pure rfl (by rfl) (fun w => run_eqv (fun K hK => by go_simp; exact hK)) (fun w => by simp [go_sem]) ?_; try walk_nrm))
  ((refine opsJ_pure rfl (by rfl) (fun w => run_eqv (fun K hK => by go_simp; exact hK)) (fun w => by simp [go_sem]) ?_; try walk_nrm))
  ((refine opsJ_pure rfl (by rfl) (fun w => run_eqv (fun K hK => by go_simp; exact hK)) (fun w => by simp [go_sem]) ?_; try walk_nrm))
  refine opsJ_call rfl (by rfl) rfl (by
    walk_nrm
    exact meet_j rowA rowB m1 rows 11 #[.pointer (some ⟨bb, 0, none⟩), .pointer (some ⟨bn, 0, none⟩)] n rw'
      (fun β k m' => (∀ b, β b ≠ bb ∧ β b ≠ bn ∧ m (β b) = none) ∧ m' bb = some (.cells (bC (agr rw' k).1) 4 (0, 0)) ∧ m' bn = some (.cells (nC (((agr rw' k).2 : Nat) : Int)) 3 (0, 0)) ∧ ∀ γ o, m γ = some o → rows γ = none → m' γ = some o)
      (fun γ o e => hx _ _ (hrows γ o e)) hbig hsnd
      (fun β m' h1 h2 => ⟨fun b => ⟨fun e => (by have := h1 b; rw [e, e1] at this; cases this), fun e => (by have := h1 b; rw [e, e2] at this; cases this), (by
          cases e : m (β b) with
          | none => rfl
          | some o => have := hx _ _ e; rw [h1 b] at this; cases this)⟩, h2 _ _ e1 rb, h2 _ _ e2 rn, fun γ o e er => h2 _ _ (hx _ _ e) er⟩)
      (fun β k m' k0 k1 h _ s _ => by
        obtain ⟨h1, h2, h3, h4⟩ := h
        have hk : (agr rw' k).2 ≤ k := agr_le rw' k
        have hbg := hbig false
        obtain ⟨fx, c, q1, q2, q3, q4⟩ := met_agree (Fin := Fin) s m' (rw' false k) (rw' true k) bb bn (agr rw' k).1 (((agr rw' k).2 : Nat) : Int) h2 h3 hne (by omega) (by omega)
        refine ⟨fx, c, q1, q2, q3, wpJ_mono q4 fun s' m2 e a q => ?_⟩
        have post : ∀ {s' : Gh} {m2 : PM}, (s' = s ∧ m2 bb = some (.cells (bC ((agr rw' k).1 && (rw' false k).eq (rw' true k))) 4 (0, 0)) ∧ m2 bn = some (.cells (nC (if (agr rw' k).1 && (rw' false k).eq (rw' true k) then ((agr rw' k).2 : Int) + 1 else ((agr rw' k).2 : Int))) 3 (0, 0)) ∧ ExtBut (fun β => β = bb ∨ β = bn) m' m2) →
            s' = s ∧ ((∀ b, β b ≠ bb ∧ β b ≠ bn ∧ m (β b) = none) ∧ m2 bb = some (.cells (bC (agr rw' (k + 1)).1) 4 (0, 0)) ∧ m2 bn = some (.cells (nC (((agr rw' (k + 1)).2 : Nat) : Int)) 3 (0, 0)) ∧ ∀ γ o, m γ = some o → rows γ = none → m2 γ = some o) ∧ ∀ b o, m' (β b) = some o → m2 (β b) = some o := by
          rintro s' m2 ⟨y1, y2, y3, y4⟩
          refine ⟨y1, ⟨h1, y2, ?_, fun γ o e er => y4 γ o (fun h => ?_) (h4 γ o e er)⟩, fun b o e => y4 _ o (fun h => h.elim (h1 b).1 (h1 b).2.1) e⟩
          · rw [y3]
            show some (Obj.cells (nC _) 3 (0, 0)) = some (Obj.cells (nC (((if _ then _ else _ : Nat)) : Int)) 3 (0, 0))
            split <;> rfl
          · rcases h with h | h
            · rw [h, hb0] at e; cases e
            · rw [h, hmn] at e; cases e
        cases e with
        | normal => exact ⟨q.1, q.2.choose, q.2.choose_spec.1, post q.2.choose_spec.2⟩
        | ret => exact ⟨q.1, q.2.choose, q.2.choose_spec.1, post q.2.choose_spec.2⟩
        | exit id => exact q.elim
        | goto l => exact q.elim
        | panic ch => exact q.elim
        | outgrown => exact q.elim)
      (fun β k m' m2 h hxx => ⟨h.1, hxx _ _ (fun e => e.elim (fun e => (h.1 false).1 e.symm) fun e => (h.1 true).1 e.symm) h.2.1, hxx _ _ (fun e => e.elim (fun e => (h.1 false).2.1 e.symm) fun e => (h.1 true).2.1 e.symm) h.2.2.1, fun γ o e er => hxx _ _ (fun e' => e'.elim (fun e' => (by have := (h.1 false).2.2; rw [← e', e] at this; cases this)) fun e' => (by have := (h.1 true).2.2; rw [← e', e] at this; cases this)) (h.2.2.2 γ o e er)⟩)) ?_
  rintro _ m4 _ ⟨W, β, k, l, m3, rfl, rfl, hkl, ⟨h1, h2, h3, h4⟩, h5, h6⟩
  walk_nrm
  ((refine opsJ_pure rfl (by rfl) (fun w => run_eqv (fun K hK => by go_simp; exact hK)) (fun w => by simp [go_sem]) ?_; try walk_nrm))
  refine opsJ_nil ?_
  (simp only [QJ.then, QJ.inBlock, if_true, if_false, reduceIte, Nat.reduceEqDiff])
  ((first | refine wpJ_seq ?_ | refine wpJ_block ?_ | refine wpJ_skip ?_ | refine wpJ_label ?_ | refine wpJ_ret ?_ | refine wpJ_exit ?_ | refine opsJ_nil ?_))
  ((refine wpJ_region ?_; simp only [List.size_toArray, List.length_cons, List.length_nil, Nat.reduceAdd, Nat.zero_add, List.range, List.range.loop]))
  ((refine opsJ_ld (v := (.int .i64 (((agr rw' k).2 : Nat) : Int))) rfl (by rfl) rfl rfl (h5 _ _ rn h3) (by rfl) Try.underlying3 rfl ?_; try walk_nrm))
  ((refine opsJ_ld (v := (.bool (agr rw' k).1)) rfl (by rfl) rfl rfl (h5 _ _ rb h2) (by rfl) Try.underlying4 rfl ?_; try walk_nrm))
  ((refine opsJ_pure rfl (by rfl) (fun w => run_eqv (fun K hK => by go_simp; exact hK)) (fun w => by simp [go_sem]) ?_; try walk_nrm))
  have hext : Ext m m4 := fun γ o e => by
    cases er : rows γ with
    | none => exact h5 _ _ er (h4 γ o e er)
    | some o' =>
      have e' : m γ = some o' := hrows _ _ er
      rw [e] at e'
      cases e'
      exact h6 _ _ er
  cases hq : (agr rw' k).1 with
  | true =>
    ((refine opsJ_pure rfl (by rfl) (fun w => run_eqv (fun K hK => by go_simp; exact hK)) (fun w => by simp [go_sem]) ?_; try walk_nrm))
    ((refine opsJ_pure (v := (.bool ((l : Int) == 0))) rfl (by rfl) (fun w => by go_simp; try (first | rfl | decide | (simp [*, n_sh, IntKind.wrap_u64, IntKind.wrap_u32, IntKind.wrap_i32, IntKind.wrap_i64] <;> omega))) (fun w => by simp [go_sem, *]) ?_; walk_nrm))
    ((refine opsJ_pure (v := (.bool ((l : Int) == 0))) rfl (by rfl) (fun w => by go_simp; try (first | rfl | decide | (simp [*, n_sh, IntKind.wrap_u64, IntKind.wrap_u32, IntKind.wrap_i32, IntKind.wrap_i64] <;> omega))) (fun w => by simp [go_sem, *]) ?_; walk_nrm))
    ((refine opsJ_pure rfl (by rfl) (fun w => run_eqv (fun K hK => by go_simp; exact hK)) (fun w => by simp [go_sem]) ?_; try walk_nrm))
    ((refine opsJ_pure rfl (by rfl) (fun w => run_eqv (fun K hK => by go_simp; exact hK)) (fun w => by simp [go_sem]) ?_; try walk_nrm))
    refine opsJ_nil ?_
    (simp only [QJ.then, QJ.inBlock, if_true, if_false, reduceIte, Nat.reduceEqDiff])
    refine wpJ_ret ?_
    exact ⟨rfl, _, resultsJ_tmp2 Try.results8 _, W, k, l, rfl, hkl, (by rw [hq, dec0]; rfl), hext⟩
  | false =>
    ((refine opsJ_unwanted rfl (by rfl) ?_; try walk_nrm))
    ((refine opsJ_unwanted rfl (by rfl) ?_; try walk_nrm))
    ((refine opsJ_pure (v := (.bool false)) rfl (by rfl) (fun w => by go_simp; try (first | rfl | decide | (simp [*, n_sh, IntKind.wrap_u64, IntKind.wrap_u32, IntKind.wrap_i32, IntKind.wrap_i64] <;> omega))) (fun w => by simp [go_sem, *]) ?_; walk_nrm))
    ((refine opsJ_pure rfl (by rfl) (fun w => run_eqv (fun K hK => by go_simp; exact hK)) (fun w => by simp [go_sem]) ?_; try walk_nrm))
    ((refine opsJ_pure rfl (by rfl) (fun w => run_eqv (fun K hK => by go_simp; exact hK)) (fun w => by simp [go_sem]) ?_; try walk_nrm))
    refine opsJ_nil ?_
    (simp only [QJ.then, QJ.inBlock, if_true, if_false, reduceIte, Nat.reduceEqDiff])
    refine wpJ_ret ?_
    exact ⟨rfl, _, resultsJ_tmp2 Try.results8 _, W, k, l, rfl, hkl, (by rw [hq]; rfl), hext⟩
end
end Go.Proofs.Ytafnbmokegomaaa
