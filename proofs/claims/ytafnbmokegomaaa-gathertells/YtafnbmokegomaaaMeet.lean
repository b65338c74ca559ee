/-
  meet: its contract, the senders' scripts asked.
-/
import Derived.Test.YtafnbmokegomaaaLoopD
import Derived.Test.YtafnbmokegomaaaWaitW
set_option linter.unusedSimpArgs false
set_option linter.unusedVariables false
set_option linter.unusedSectionVars false
namespace Go.Proofs.Ytafnbmokegomaaa
open Go.Conc Go.RowKit
open Go.ConcR (KK wgBlock WgAt stA smA rd wr)

section
variable [Io] {Fin : Value → World → Prop} {fn : FuncId} {Q : QJ} {m : PM} {a : Act} {ops : Array Oper} {i : Nat} {rest : List Nat} {o : Oper}

/-- The group's variable. -/
theorem opsJ_wg {sh sf : Nat → Prop} {df : Bool} (ho : ops[i]? = some o) (hw : Region.wanted o (yielded ops a.tmps) = true) (hop : o.op = .alloc 46)
    (h : ∀ β, (∀ γ o, m γ = some o → γ < β) → OpsJ Try.prog Fin fn ops rest Q (.out (fun x => sh x ∨ x = β) (fun x => sf x ∨ x = β) df (some (β, 0))) m (a.put o.dst (.pointer (some ⟨β, 0, none⟩)))) : OpsJ Try.prog Fin fn ops (i :: rest) Q (.out sh sf df none) m a := by
  intro b k cs hb hk hc
  refine .allocWg rfl (fun β => G (b.at (a.put o.dst (.pointer (some ⟨β, 0, none⟩))) (.inRegion ops rest :: k)) cs) (fun w => ?_) fun β hβ => h β hβ b k cs hb hk hc
  have hr : (execOp a.eval o).run Try.prog w = .ok (.value (.pointer (some ⟨w.heap.size, 0, none⟩))) (w.alloc (wgBlock WTy 0 0)) := by
    unfold execOp
    rw [hop]
    go_simp
    rfl
  have he : listed Try.prog b.fn a o w = #[] := listed_none (by
    unfold execOp
    simp [hop, go_sem])
  have := stepG_value (P := Try.prog) (main := true) (b := b) (k := k) (cs := cs) (rest := rest) ho hw hk hr
  rw [he] at this
  exact this

/-- All have come home. -/
theorem wpJ_home {sh : Nat → Prop} {W : Nat} {n : Bool → Nat} {it : Bool → Nat → Value} {z : Value} {rows m' : PM} {p : Ph} {c : Code} (h2 : p.two = true) (he : ∀ b, p.e b = true) (hd : p.df = false) (hw : p.w = 2) (hsh : sh W)
    (hm : ∀ β o, m' β = some o → m β = some o ∨ rows β = some o) (h : wpJ Try.prog Fin fn c Q (.out sh (fun β => β = W) false none) m' a) : wpJ Try.prog Fin fn c Q (.inn sh (mkX Try.prog Fin sh W n it z rows) p) m a := by
  intro b k cs hb hk hc
  exact .done rfl h2 he hd hw hsh hm (h b k cs hb hk hc)




set_option maxRecDepth 100000 in
set_option maxHeartbeats 4000000 in
/-- ████ meet. ████ -/
theorem meet_j {sh sf : Nat → Prop} (rowA rowB : Value) (m rows : PM) (f : FuncId) (cap : Array Value) (n : Bool → Nat) (rw' : Bool → Nat → Rt) (MI : (Bool → Nat) → Nat → PM → Prop)
    (hrows : ∀ γ o, rows γ = some o → m γ = some o) (hbig : ∀ b, n b < 1000000000000)
    (hsnd : ∀ W c (b : Bool), (∀ γ o, rows γ = some o → γ < W) → W ≤ c → ∃ k, Snd (mkX Try.prog Fin (fun x => sh x ∨ x = W) W n (fun b k => .agg (rw' b k).cs.toArray) (.agg r0.cs.toArray) rows) b c k (.snd 0) none (born Try.prog (dcall 19 #[if b then rowB else rowA, .chan (some c), .pointer (some ⟨W, 0, none⟩)])))
    (hmi : ∀ β m', (∀ b, m (β b) = none) → (∀ γ o, m γ = some o → rows γ = none → m' γ = some o) → MI β 0 m')
    (hmet : ∀ β k m, k < n false → k < n true → MI β k m → (∀ b, m (β b) ≠ none) → ∀ s : Gh, (∀ γ o, rows γ = some o → γ < s.low) → CallsJ Try.prog Fin f (#[.agg (rw' false k).cs.toArray, .agg (rw' true k).cs.toArray] ++ cap) s m fun s' m' _ => s' = s ∧ MI β (k + 1) m' ∧ ∀ b o, m (β b) = some o → m' (β b) = some o)
    (hfr : ∀ β k m m', MI β k m → ExtBut (fun γ => γ = β false ∨ γ = β true) m m' → MI β k m') :
    CallsJ Try.prog Fin 10 #[rowA, rowB, .func (.func f) #[] cap] (.out sh sf false none) m
      fun s' m' v => ∃ W β k l m'', s' = .out (fun x => sh x ∨ x = W) (fun x => x = W) false none ∧ v = .int .i64 ((l : Nat) : Int) ∧ (∃ b, k = n b ∧ n (!b) = k + l) ∧ MI β k m'' ∧ (∀ γ o, rows γ = none → m'' γ = some o → m' γ = some o) ∧ (∀ γ o, rows γ = some o → m' γ = some o) := by
  ((refine callsJ_of Try.func10 (by rfl) rfl ?_; simp only [Try.ntmps10, List.size_toArray, List.length_cons, List.length_nil, Nat.reduceAdd, Nat.reduceSub, Array.replicate_succ, Array.replicate_zero, List.push_toArray, List.append_toArray, List.nil_append, List.cons_append]))
  ((first | refine wpJ_seq ?_ | refine wpJ_block ?_ | refine wpJ_skip ?_ | refine wpJ_label ?_ | refine wpJ_ret ?_ | refine wpJ_exit ?_ | refine opsJ_nil ?_))
  ((refine wpJ_region ?_; simp only [List.size_toArray, List.length_cons, List.length_nil, Nat.reduceAdd, Nat.zero_add, List.range, List.range.loop]))
  ((refine opsJ_pure rfl (by rfl) (fun w => run_eqv (fun K hK => by go_simp; exact hK)) (fun w => by simp [go_sem]) ?_; try walk_nrm))
  refine opsJ_nil ?_
  (simp only [QJ.then, QJ.inBlock, if_true, if_false, reduceIte, Nat.reduceEqDiff])
  refine wpJ_scope ?_
  ((first | refine wpJ_seq ?_ | refine wpJ_block ?_ | refine wpJ_skip ?_ | refine wpJ_label ?_ | refine wpJ_ret ?_ | refine wpJ_exit ?_ | refine opsJ_nil ?_))
  ((refine wpJ_region ?_; simp only [List.size_toArray, List.length_cons, List.length_nil, Nat.reduceAdd, Nat.zero_add, List.range, List.range.loop]))
  refine opsJ_wg rfl (by rfl) rfl fun W hW => ?_
  walk_nrm
  refine opsJ_nil ?_
  (simp only [QJ.then, QJ.inBlock, if_true, if_false, reduceIte, Nat.reduceEqDiff])
  ((first | refine wpJ_seq ?_ | refine wpJ_block ?_ | refine wpJ_skip ?_ | refine wpJ_label ?_ | refine wpJ_ret ?_ | refine wpJ_exit ?_ | refine opsJ_nil ?_))
  ((refine wpJ_region ?_; simp only [List.size_toArray, List.length_cons, List.length_nil, Nat.reduceAdd, Nat.zero_add, List.range, List.range.loop]))
  ((refine opsJ_pure rfl (by rfl) (fun w => run_eqv (fun K hK => by go_simp; exact hK)) (fun w => by simp [go_sem]) ?_; try walk_nrm))
  refine opsJ_call rfl (by rfl) rfl (by walk_nrm; exact begin1 (n := n) (it := fun b k => .agg (rw' b k).cs.toArray) (z := .agg r0.cs.toArray) (rows := rows) rowA m (fun γ o e => hW γ o (hrows γ o e)) hrows (.inr rfl) (fun c hc => hsnd W c false (fun γ o e => hW γ o (hrows γ o e)) (Nat.le_of_lt hc))) ?_
  rintro _ m1 _ ⟨c0, b0, rfl, hc0, rfl, k1, k2, k3, k4⟩
  walk_nrm
  ((refine opsJ_pure rfl (by rfl) (fun w => run_eqv (fun K hK => by go_simp; exact hK)) (fun w => by simp [go_sem]) ?_; try walk_nrm))
  refine opsJ_call rfl (by rfl) rfl (by walk_nrm; exact begin2 rowB m1 (fun γ o e => hW γ o (hrows γ o e)) (fun c hc => hsnd W c true (fun γ o e => hW γ o (hrows γ o e)) hc)) ?_
  rintro _ m2 _ ⟨c1, b1, rfl, rfl, q1, q2, q3, q4, q5⟩
  walk_nrm
  have hb : b0 ≠ b1 := fun e => by subst e; rw [k1] at q4; cases q4
  have hm1 : m b1 = none := by
    cases e : m b1 with
    | none => rfl
    | some o =>
      cases e' : rows b1 with
      | none => have := k3 b1 o e e'; rw [q4] at this; cases this
      | some o' => have := hW b1 o e; omega
  ((refine opsJ_pure rfl (by rfl) (fun w => run_eqv (fun K hK => by go_simp; exact hK)) (fun w => by simp [go_sem]) ?_; try walk_nrm))
  ((refine opsJ_pure rfl (by rfl) (fun w => run_eqv (fun K hK => by go_simp; exact hK)) (fun w => by simp [go_sem]) ?_; try walk_nrm))
  refine opsJ_nil ?_
  (simp only [QJ.then, QJ.inBlock, if_true, if_false, reduceIte, Nat.reduceEqDiff])
  ((first | refine wpJ_seq ?_ | refine wpJ_block ?_ | refine wpJ_skip ?_ | refine wpJ_label ?_ | refine wpJ_ret ?_ | refine wpJ_exit ?_ | refine opsJ_nil ?_))
  ((refine wpJ_region ?_; simp only [List.size_toArray, List.length_cons, List.length_nil, Nat.reduceAdd, Nat.zero_add, List.range, List.range.loop]))
  ((refine opsJ_pure rfl (by rfl) (fun w => run_eqv (fun K hK => by go_simp; exact hK)) (fun w => by simp [go_sem]) ?_; try walk_nrm))
  refine opsJ_nil ?_
  (simp only [QJ.then, QJ.inBlock, if_true, if_false, reduceIte, Nat.reduceEqDiff])
  ((first | refine wpJ_seq ?_ | refine wpJ_block ?_ | refine wpJ_skip ?_ | refine wpJ_label ?_ | refine wpJ_ret ?_ | refine wpJ_exit ?_ | refine opsJ_nil ?_))
  ((first | refine wpJ_seq ?_ | refine wpJ_block ?_ | refine wpJ_skip ?_ | refine wpJ_label ?_ | refine wpJ_ret ?_ | refine wpJ_exit ?_ | refine opsJ_nil ?_))
  (simp only [QJ.then, QJ.inBlock, if_true, if_false, reduceIte, Nat.reduceEqDiff])
  refine wpJ_seq_l meetLoop rfl ?_
  refine loop_j (β := fun b => if b then b1 else b0) (rw' := rw') (MI := MI (fun b => if b then b1 else b0)) (W := W) (A := rowA) (B := rowB) (f := f) (cap := cap) (cc := updB (p0 c0).c true c1) (by simpa using hb) (fun _ _ => rfl) rfl hbig (fun k m k0 k1 hm hs s hlow => hmet _ k m k0 k1 hm hs s fun γ o e => by rw [hlow]; exact hW γ o (hrows γ o e)) (hfr _) (fun p' m' k l x' h2 hd hw he hkl hmi' => ?_)
    ⟨_, fun _ => r0, fun _ => false, fun _ => false, 0, 0, _, rfl, rfl, rfl, rfl, rfl, fun b => ?_, fun b => rfl, hmi _ _ (fun b => ?_) (fun γ o e1 e2 => q3 γ o (k3 γ o e1 e2)), fun b h => (by cases h), .none (fun _ => rfl) (fun _ => rfl) (fun _ => Nat.zero_le _) ⟨false, rfl⟩, actL_of _ (by rfl) (by rfl) (by rfl) (by rfl) (by rfl) (by rfl) (by rfl) (by rfl) (by rfl) (by rfl) (by rfl) (by rfl)⟩
  · rw [actL_lit]
    refine wpJ_seq ?_
    ((refine wpJ_region ?_; simp only [List.size_toArray, List.length_cons, List.length_nil, Nat.reduceAdd, Nat.zero_add, List.range, List.range.loop]))
    refine opsJ_call rfl (by rfl) rfl (by walk_nrm; exact wait_j m' rfl h2 he hd hw) ?_
    rintro _ m3 _ ⟨rfl, hm3⟩
    replace hm3 := hm3.symm
    subst hm3
    walk_nrm
    refine opsJ_nil ?_
    (simp only [QJ.then, QJ.inBlock, if_true, if_false, reduceIte, Nat.reduceEqDiff])
    refine wpJ_home (p := { p' with df := false, w := 2 }) (m' := fun γ => match rows γ with | some o => some o | none => m' γ) h2 he rfl rfl (.inr rfl) (fun γ o e => ?_) ?_
    · cases e' : rows γ with
      | none => simp only [e'] at e; exact .inl e
      | some o' => simp only [e'] at e; exact .inr e
    · ((first | refine wpJ_seq ?_ | refine wpJ_block ?_ | refine wpJ_skip ?_ | refine wpJ_label ?_ | refine wpJ_ret ?_ | refine wpJ_exit ?_ | refine opsJ_nil ?_))
      ((refine wpJ_region ?_; simp only [List.size_toArray, List.length_cons, List.length_nil, Nat.reduceAdd, Nat.zero_add, List.range, List.range.loop]))
      ((refine opsJ_pure rfl (by rfl) (fun w => run_eqv (fun K hK => by go_simp; exact hK)) (fun w => by simp [go_sem]) ?_; try walk_nrm))
      ((refine opsJ_pure rfl (by rfl) (fun w => run_eqv (fun K hK => by go_simp; exact hK)) (fun w => by simp [go_sem]) ?_; try walk_nrm))
      refine opsJ_nil ?_
      (simp only [QJ.then, QJ.inBlock, if_true, if_false, reduceIte, Nat.reduceEqDiff])
      refine wpJ_ret ?_
      exact ⟨rfl, _, resultsJ_tmp Try.results10 _, W, _, k, l, m', rfl, rfl, hkl, hmi', fun γ o e e' => (by simp only [e, e']), fun γ o e => (by simp only [e])⟩
  · cases b
    · exact q3 _ _ k1
    · exact q1
  · cases b
    · exact k4
    · exact hm1
end
end Go.Proofs.Ytafnbmokegomaaa
