/-
  Pairs, over meet.
-/
import Derived.Test.YtafnbmokegomaaaAgree
set_option linter.unusedSimpArgs false
set_option linter.unusedVariables false
set_option linter.unusedSectionVars false
namespace Go.Proofs.Ytafnbmokegomaaa
open Go.Conc Go.RowKit

/-- The cells of the first k pairs. -/
def pcs (rw' : Bool → Nat → Rt) : Nat → List Value
  | 0 => []
  | k + 1 => pcs rw' k ++ ((rw' false k).cs ++ (rw' true k).cs)

/-- What Pairs' caller holds behind k pairs. -/
structure PairsAt (m rows : PM) (bp : Nat) (rw' : Bool → Nat → Rt) (β : Bool → Nat) (k : Nat) (m' : PM) (v : Value) : Prop where
  ap : ∀ b, β b ≠ bp ∧ m (β b) = none
  at_ : m' bp = some (.cells #[v] 31 (0, 0))
  own : OwnP m' 34 14 v k (pcs rw' k)
  one : v.oneCell' = true
  far : ∀ g, v.ownBlock = some g → g ≠ bp ∧ (∀ b, g ≠ β b) ∧ rows g = none ∧ m g = none
  kept : ∀ γ o, m γ = some o → rows γ = none → m' γ = some o

section
variable [Io] {Fin : Value → World → Prop}
set_option maxRecDepth 100000 in
set_option maxHeartbeats 2000000 in
theorem pairs_j {sh sf : Nat → Prop} (rowA rowB : Value) (m rows : PM) (n : Bool → Nat) (rw' : Bool → Nat → Rt)
    (hrows : ∀ γ o, rows γ = some o → m γ = some o) (hbig : ∀ b, n b < 1000000000000)
    (hsnd : ∀ W c (b : Bool), (∀ γ o, rows γ = some o → γ < W) → W ≤ c → ∃ k, Snd (mkX Try.prog Fin (fun x => sh x ∨ x = W) W n (fun b k => .agg (rw' b k).cs.toArray) (.agg r0.cs.toArray) rows) b c k (.snd 0) none (born Try.prog (dcall 19 #[if b then rowB else rowA, .chan (some c), .pointer (some ⟨W, 0, none⟩)]))) :
    CallsJ Try.prog Fin 9 #[rowA, rowB] (.out sh sf false none) m
      fun s' m' r => ∃ W k l v, s' = .out (fun x => sh x ∨ x = W) (fun x => x = W) false none ∧ (∃ b, k = n b ∧ n (!b) = k + l) ∧ r = .tuple #[v, .int .i64 ((l : Nat) : Int)] ∧ OwnP m' 34 14 v k (pcs rw' k) ∧ (∀ g, v.ownBlock = some g → m g = none) ∧ Ext m m' := by
  ((refine callsJ_of Try.func9 (by rfl) rfl ?_; simp only [Try.ntmps9, List.size_toArray, List.length_cons, List.length_nil, Nat.reduceAdd, Nat.reduceSub, Array.replicate_succ, Array.replicate_zero, List.push_toArray, List.append_toArray, List.nil_append, List.cons_append]))
  ((first | refine wpJ_seq ?_ | refine wpJ_block ?_ | refine wpJ_skip ?_ | refine wpJ_label ?_ | refine wpJ_ret ?_ | refine wpJ_exit ?_ | refine opsJ_nil ?_))
  ((refine wpJ_region ?_; simp only [List.size_toArray, List.length_cons, List.length_nil, Nat.reduceAdd, Nat.zero_add, List.range, List.range.loop]))
  ((refine opsJ_pure rfl (by rfl) (fun w => run_eqv (fun K hK => by go_simp; exact hK)) (fun w => by simp [go_sem]) ?_; try walk_nrm))
  ((refine opsJ_pure rfl (by rfl) (fun w => run_eqv (fun K hK => by go_simp; exact hK)) (fun w => by simp [go_sem]) ?_; try walk_nrm))
  refine opsJ_nil ?_
  (simp only [QJ.then, QJ.inBlock, if_true, if_false, reduceIte, Nat.reduceEqDiff])
  ((first | refine wpJ_seq ?_ | refine wpJ_block ?_ | refine wpJ_skip ?_ | refine wpJ_label ?_ | refine wpJ_ret ?_ | refine wpJ_exit ?_ | refine opsJ_nil ?_))
  ((refine wpJ_region ?_; simp only [List.size_toArray, List.length_cons, List.length_nil, Nat.reduceAdd, Nat.zero_add, List.range, List.range.loop]))
  refine opsJ_new rfl (by rfl) (f := fun γ => .pointer (some ⟨γ, 0, none⟩)) (ob := .cells #[.slice none 0 0] 31) (fun w => by go_simp) (fun w => by simp [go_sem]) (fun bp hγ hmp => ?_)
  walk_nrm
  have e1 : (m.set bp (.cells #[.slice none 0 0] 31)) bp = some (.cells #[.slice none 0 0] 31 (0, 0)) := PM.set_same _ _ _
  have hx : Ext m (m.set bp (.cells #[.slice none 0 0] 31)) := Ext.set hmp _
  generalize (m.set bp (.cells #[.slice none 0 0] 31)) = m1 at e1 hx ⊢
  have rb : rows bp = none := by
    cases e : rows bp with
    | none => rfl
    | some o => have := hrows _ _ e; rw [hmp] at this; cases this
  refine opsJ_nil ?_
  (simp only [QJ.then, QJ.inBlock, if_true, if_false, reduceIte, Nat.reduceEqDiff])
  ((first | refine wpJ_seq ?_ | refine wpJ_block ?_ | refine wpJ_skip ?_ | refine wpJ_label ?_ | refine wpJ_ret ?_ | refine wpJ_exit ?_ | refine opsJ_nil ?_))
  ((refine wpJ_region ?_; simp only [List.size_toArray, List.length_cons, List.length_nil, Nat.reduceAdd, Nat.zero_add, List.range, List.range.loop]))
  ((refine opsJ_pure rfl (by rfl) (fun w => run_eqv (fun K hK => by go_simp; exact hK)) (fun w => by simp [go_sem]) ?_; try walk_nrm))
  ((refine opsJ_pure rfl (by rfl) (fun w => run_eqv (fun K hK => by go_simp; exact hK)) (fun w => by simp [go_sem]) ?_; try walk_nrm))
  ((refine opsJ_pure rfl (by rfl) (fun w => run_eqv (fun K hK => by go_simp; exact hK)) (fun w => by simp [go_sem]) ?_; try walk_nrm))
  refine opsJ_call rfl (by rfl) rfl (by
    walk_nrm
    exact meet_j rowA rowB m1 rows 13 #[.pointer (some ⟨bp, 0, none⟩)] n rw' (fun β k m' => ∃ v, PairsAt m rows bp rw' β k m' v)
      (fun γ o e => hx _ _ (hrows γ o e)) hbig hsnd
      (fun β m' h1 h2 => ⟨.slice none 0 0, ⟨fun b => ⟨fun e => (by have := h1 b; rw [e, e1] at this; cases this), (by
          cases e : m (β b) with
          | none => rfl
          | some o => have := hx _ _ e; rw [h1 b] at this; cases this)⟩, h2 _ _ e1 rb, ⟨rfl, .inl ⟨rfl, rfl⟩⟩, rfl, fun g e => (by cases e), fun γ o e er => h2 _ _ (hx _ _ e) er⟩⟩)
      (fun β k m' k0 k1 ⟨v, h⟩ hs s hlow => by
        have hbg := hbig false
        obtain ⟨fx, c, q1, q2, q3, q4⟩ := met_pairs (Fin := Fin) s m' (rw' false k) (rw' true k) bp v k (pcs rw' k) h.at_ h.own (fun e => (h.far bp e).1 rfl) (by omega) h.one
        refine ⟨fx, c, q1, q2, q3, wpJ_mono q4 fun s' m2 e a q => ?_⟩
        have post : ∀ {s' : Gh} {m2 : PM}, (s' = s ∧ ∃ v', m2 bp = some (.cells #[v'] 31 (0, 0)) ∧ OwnP m2 34 14 v' (k + 1) (pcs rw' k ++ ((rw' false k).cs ++ (rw' true k).cs)) ∧ v'.ownBlock ≠ some bp ∧ v'.oneCell' = true ∧ (∀ β o, β ≠ bp → some β ≠ v.ownBlock → m' β = some o → m2 β = some o) ∧ (∀ β, v'.ownBlock = some β → v.ownBlock = some β ∨ (m' β = none ∧ s.low ≤ β))) →
            s' = s ∧ (∃ v, PairsAt m rows bp rw' β (k + 1) m2 v) ∧ ∀ b o, m' (β b) = some o → m2 (β b) = some o := by
          rintro s' m2 ⟨y1, v', y2, y3, y4, y5, y6, y7⟩
          refine ⟨y1, ⟨v', ⟨h.ap, y2, y3, y5, fun g hg => ?_, fun γ o e er => ?_⟩⟩, fun b o e => y6 _ o (h.ap b).1 (fun e' => (h.far _ e'.symm).2.1 b rfl) e⟩
          · rcases y7 g hg with h7 | ⟨h7, h8⟩
            · exact h.far g h7
            · have hrg : rows g = none := by
                cases e : rows g with
                | none => rfl
                | some o => have := hlow g o e; omega
              refine ⟨fun e => y4 (by rw [← e]; exact hg), fun b e => hs b (by rw [← e]; exact h7), hrg, ?_⟩
              cases e : m g with
              | none => rfl
              | some o => have := h.kept g o e hrg; rw [h7] at this; cases this
          · refine y6 γ o (fun e' => by rw [e', hmp] at e; cases e) (fun e' => ?_) (h.kept γ o e er)
            have := (h.far γ e'.symm).2.2.2
            rw [e] at this; cases this
        cases e with
        | normal => exact ⟨q.1, q.2.choose, q.2.choose_spec.1, post q.2.choose_spec.2⟩
        | ret => exact ⟨q.1, q.2.choose, q.2.choose_spec.1, post q.2.choose_spec.2⟩
        | exit id => exact q.elim
        | goto l => exact q.elim
        | panic ch => exact q.elim
        | outgrown => exact q.elim)
      (fun β k m' m2 ⟨v, h⟩ hxx => ⟨v, ⟨h.ap, hxx _ _ (fun e => e.elim (fun e => (h.ap false).1 e.symm) fun e => (h.ap true).1 e.symm) h.at_,
        h.own.kept fun g o hg e => hxx _ _ (fun e' => e'.elim ((h.far g hg).2.1 false) ((h.far g hg).2.1 true)) e, h.one, h.far,
        fun γ o e er => hxx _ _ (fun e' => e'.elim (fun e' => (by have := (h.ap false).2; rw [← e', e] at this; cases this)) fun e' => (by have := (h.ap true).2; rw [← e', e] at this; cases this)) (h.kept γ o e er)⟩⟩)) ?_
  rintro _ m4 _ ⟨W, β, k, l, m3, rfl, rfl, hkl, ⟨v, h⟩, h5, h6⟩
  walk_nrm
  ((refine opsJ_pure rfl (by rfl) (fun w => run_eqv (fun K hK => by go_simp; exact hK)) (fun w => by simp [go_sem]) ?_; try walk_nrm))
  refine opsJ_nil ?_
  (simp only [QJ.then, QJ.inBlock, if_true, if_false, reduceIte, Nat.reduceEqDiff])
  ((first | refine wpJ_seq ?_ | refine wpJ_block ?_ | refine wpJ_skip ?_ | refine wpJ_label ?_ | refine wpJ_ret ?_ | refine wpJ_exit ?_ | refine opsJ_nil ?_))
  ((refine wpJ_region ?_; simp only [List.size_toArray, List.length_cons, List.length_nil, Nat.reduceAdd, Nat.zero_add, List.range, List.range.loop]))
  ((refine opsJ_ld (v := v) rfl (by rfl) rfl rfl (h5 _ _ rb h.at_) (by rfl) Try.underlying31 rfl ?_; try walk_nrm))
  ((refine opsJ_pure rfl (by rfl) (fun w => run_eqv (fun K hK => by go_simp; exact hK)) (fun w => by simp [go_sem]) ?_; try walk_nrm))
  ((refine opsJ_pure rfl (by rfl) (fun w => run_eqv (fun K hK => by go_simp; exact hK)) (fun w => by simp [go_sem]) ?_; try walk_nrm))
  ((refine opsJ_pure rfl (by rfl) (fun w => run_eqv (fun K hK => by go_simp; exact hK)) (fun w => by simp [go_sem]) ?_; try walk_nrm))
  refine opsJ_nil ?_
  (simp only [QJ.then, QJ.inBlock, if_true, if_false, reduceIte, Nat.reduceEqDiff])
  refine wpJ_ret ?_
  refine ⟨rfl, _, resultsJ_tmp2 Try.results9 _, W, k, l, v, rfl, hkl, rfl, h.own.kept fun g o hg e => h5 _ _ (h.far g hg).2.2.1 e, fun g hg => (h.far g hg).2.2.2, fun γ o e => ?_⟩
  cases er : rows γ with
  | none => exact h5 _ _ er (h.kept γ o e er)
  | some o' =>
    have e' : m γ = some o' := hrows _ _ er
    rw [e] at e'
    cases e'
    exact h6 _ _ er
end
end Go.Proofs.Ytafnbmokegomaaa
