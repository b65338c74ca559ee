/-
  AN APPEND ONTO A ROW OF ONE's OWN, IN THE CALCULUS; Pairs' closure.
-/
import Derived.Test.YtafnbmokegomaaaMet
import Derived.Maps.AppendAt
import Derived.Conc.AppendWalk
set_option linter.unusedSimpArgs false
set_option linter.unusedVariables false
set_option linter.unusedSectionVars false
namespace Go.Proofs.Ytafnbmokegomaaa
open Go.Conc Go.RowKit

/-- The slice v is a row of one's own: n items, their cells xs. -/
def OwnP (m : PM) (e : TypeId) (size : Nat) (v : Value) (n : Nat) (xs : List Value) : Prop :=
  xs.length = n * size ∧ ((v = .slice none 0 0 ∧ n = 0) ∨
    ∃ g cap cur, v = .slice (some ⟨g, 0, none⟩) n cap ∧ m g = some (.cells cur e (0, 0)) ∧ n ≤ cap ∧ cap ≤ maxLen ∧ cur.size = cap * size ∧ cur.toList.take (n * size) = xs)

theorem OwnP.rows {m : PM} {e : TypeId} {size : Nat} {v : Value} {n : Nat} {xs : List Value} {w : World} (h : OwnP m e size v n xs) (hH : Has m w) : w.ownsRow 0 e size v n xs := by
  refine ⟨h.1, h.2.imp id ?_⟩
  rintro ⟨g, cap, cur, h1, h2, h3⟩
  exact ⟨g, cap, cur, h1, Nat.zero_le _, hH _ _ h2, h3⟩

theorem OwnP.some {m : PM} {e : TypeId} {size : Nat} {v : Value} {n : Nat} {xs : List Value} (h : OwnP m e size v n xs) {g : Nat} (hg : v.ownBlock = some g) : m g ≠ none := by
  rcases h.2 with ⟨rfl, _⟩ | ⟨g', cap, cur, rfl, hm, _⟩
  · simp [Value.ownBlock] at hg
  · simp [Value.ownBlock] at hg
    subst hg
    rw [hm]; simp

theorem OwnP.kept {m m' : PM} {e : TypeId} {size : Nat} {v : Value} {n : Nat} {xs : List Value} (h : OwnP m e size v n xs) (hk : ∀ g o, v.ownBlock = Option.some g → m g = Option.some o → m' g = Option.some o) : OwnP m' e size v n xs := by
  refine ⟨h.1, h.2.imp id ?_⟩
  rintro ⟨g, cap, cur, rfl, h2, h3⟩
  exact ⟨g, cap, cur, rfl, hk g _ rfl h2, h3⟩

section
variable {P : Program} [Io] {Fin : Value → World → Prop} {fn : FuncId} {Q : QJ} {s : Gh} {m : PM} {a : Act} {ops : Array Oper} {i : Nat} {rest : List Nat} {o : Oper}

theorem opsJ_append (ho : ops[i]? = some o) (hw : Region.wanted o (yielded ops a.tmps) = true) (sx x : Operand) (t : TypeId)
    (hop : o.op = .call { callee := .builtin .append, args := #[sx, x], argTypes := #[t, t] }) (e : TypeId) (ti : TypeInfo) (z : Value) (size bytes : Nat) (ht : P.underlying t = some (.slice e)) (hi : P.info? e = some ti) (hz : ti.zero = some z)
    (hsize : ti.size = size) (hby : ti.bytes = bytes) (hzs : z.cells.size = size) (hsz : 0 < size)
    {v : Value} {n : Nat} {xs : List Value} (hs : a.eval sx = v) (hown : OwnP m e size v n xs)
    {γ mm c : Nat} {C : Array Value} {ety : TypeId} {fr : Nat × Nat} {news : List Value} (hx : a.eval x = .slice (some ⟨γ, 0, none⟩) mm c) (hm : m γ = some (.cells C ety fr)) (hl : news.length = mm * size) (hnews : ∀ (j : Nat) (u : Value), news[j]? = Option.some u → C[j]? = Option.some u) (h1 : ∀ u ∈ news, u.oneCell' = true)
    (h63 : n + mm ≤ maxLen) (hbytes : (n + mm) * bytes ≤ 140737488355328)
    (h : ∀ v' m', OwnP m' e size v' (n + mm) (xs ++ news) → (∀ β o, some β ≠ v.ownBlock → m β = some o → m' β = some o) → (∀ β, v'.ownBlock = some β → v.ownBlock = some β ∨ (m β = none ∧ s.low ≤ β)) → OpsJ P Fin fn ops rest Q s m' (a.put o.dst v')) : OpsJ P Fin fn ops (i :: rest) Q s m a := by
  refine opsJ_val ho hw fun w hl0 hH => ?_
  have hlt : ∀ β o, m β = some o → β < w.heap.size := fun β o e => (Array.getElem?_eq_some_iff.1 (hH β o e)).1
  have hn' : ∀ j u, news[j]? = some u → w.cell? ((⟨γ, 0, none⟩ : Addr).add j) = some u := fun j u hu => by
    rw [Addr.add_mid, Nat.zero_add]; exact has_cell hH hm (hnews j u hu)
  obtain ⟨v', w', hr, hrow, hgr, _, hwhere⟩ := run_append_own_at (P := P) w 0 t o.type e ti z size bytes ht hi hz hsize hby hzs hsz v n xs (hown.rows hH) ⟨γ, 0, none⟩ mm c news hl hn' h1 h63 hbytes (Nat.zero_le _)
  have hev := events_append_where (P := P) w 0 t o.type e ti z size bytes ht hi hz hsize hby v n xs (hown.rows hH) ⟨γ, 0, none⟩ mm c news hl hn' h1 h63 hbytes
  let m' : PM := fun β => if v'.ownBlock = some β then w'.heap[β]? else if v.ownBlock = some β then none else m β
  have hfresh : ∀ β, v'.ownBlock = some β → v.ownBlock = some β ∨ w.heap.size ≤ β := fun β hb => by
    rcases hwhere with e' | e'
    · exact .inl (by rw [← e']; exact hb)
    · rw [e'] at hb; cases hb; exact .inr (Nat.le_refl _)
  have hnone : ∀ β, w.heap.size ≤ β → m β = none := fun β hb => by
    cases e' : m β with
    | none => rfl
    | some ob => have := hlt _ _ e'; omega
  refine ⟨v', w', m', ?_, ⟨hgr.size, fun β hb hn => ?_, fun β ob e' => ?_, fun ev he => ?_, ⟨hgr.os, hgr.output⟩⟩, h v' m' ?_ (fun β ob hne e' => ?_) fun β hb => (hfresh β hb).imp id fun h => ⟨hnone β h, Nat.le_trans hl0 h⟩⟩
  · unfold execOp
    simp only [hop, resolve, invoke, builtin, Sem.run_bind, Sem.run_pure, Result.andThen_ok, List.map_toArray, List.map_cons, List.map_nil, hs, hx, hr]
  · exact hgr.block β hb fun e' => hown.some e'.symm hn
  · have e2 : (if v'.ownBlock = some β then w'.heap[β]? else if v.ownBlock = some β then none else m β) = some ob := e'
    by_cases hb : v'.ownBlock = some β
    · rw [if_pos hb] at e2
      exact ⟨e2, (hfresh β hb).imp hown.some id⟩
    · rw [if_neg hb] at e2
      by_cases hb2 : v.ownBlock = some β
      · rw [if_pos hb2] at e2; cases e2
      · rw [if_neg hb2] at e2
        exact ⟨(hgr.block β (hlt _ _ e2) fun e => hb2 e.symm).trans (hH _ _ e2), .inl (by rw [e2]; simp)⟩
  · have he := mem_listed he
    rw [events_append_op (P := P) sx x t hop hs hx] at he
    rcases hev ev he with ⟨ad, h2, h3⟩ | hmk
    · have hown' : m ad.block ≠ none := by
        rcases h3 with ⟨_, h3⟩ | h3
        · rw [h3]; show m γ ≠ none; rw [hm]; simp
        · exact hown.some h3.symm
      refine .inl ⟨ad, h2, .inl hown', ?_⟩
      cases e' : m ad.block with
      | none => exact absurd e' hown'
      | some ob => exact Nat.lt_of_lt_of_le (hlt _ _ e') hgr.size
    · exact .inr hmk
  · refine ⟨hrow.1, hrow.2.imp id ?_⟩
    rintro ⟨g, cap, cur, rfl, _, k2, k3⟩
    exact ⟨g, cap, cur, rfl, (if_pos rfl).trans k2, k3⟩
  · show (if v'.ownBlock = some β then w'.heap[β]? else if v.ownBlock = some β then none else m β) = some ob
    have hb2 : v.ownBlock ≠ some β := fun e => hne e.symm
    by_cases hb : v'.ownBlock = some β
    · exfalso
      rcases hfresh β hb with h4 | h4
      · exact hb2 h4
      · rw [hnone β h4] at e'; cases e'
    · rw [if_neg hb, if_neg hb2]; exact e'
end

theorem info34 : (Try.prog.info? 34).map (fun i => (i.zero.map fun z => z.cells.size, i.size, i.bytes)) = some (some 14, 14, 80) := by kernel_rfl
theorem size31 : (Try.prog.info? 31).map (·.size) = some 1 := by kernel_rfl
theorem info34_parts : ∃ (i : TypeInfo) (z : Value), Try.prog.info? 34 = some i ∧ i.zero = some z ∧ z.cells.size = 14 ∧ i.size = 14 ∧ i.bytes = 80 := by
  have h := info34
  cases hi : Try.prog.info? 34 with
  | none => rw [hi] at h; simp at h
  | some i =>
    rw [hi] at h
    cases hz : i.zero with
    | none => simp [hz] at h
    | some z => simp [hz] at h; exact ⟨i, z, rfl, hz, h.1, h.2.1, h.2.2⟩

section
variable [Io] {Fin : Value → World → Prop}
set_option maxRecDepth 100000 in
set_option maxHeartbeats 1600000 in
/-- Pairs' closure. -/
theorem met_pairs (s : Gh) (m : PM) (x y : Rt) (bp : Nat) (v : Value) (n : Nat) (xs : List Value) (hb : m bp = some (.cells #[v] 31 (0, 0))) (ho : OwnP m 34 14 v n xs) (hne : v.ownBlock ≠ some bp) (hn : n < 1000000000000) (hv : v.oneCell' = true) :
    CallsJ Try.prog Fin 13 #[.agg x.cs.toArray, .agg y.cs.toArray, .pointer (some ⟨bp, 0, none⟩)] s m
      fun s' m' _ => s' = s ∧ ∃ v', m' bp = some (.cells #[v'] 31 (0, 0)) ∧ OwnP m' 34 14 v' (n + 1) (xs ++ (x.cs ++ y.cs)) ∧ v'.ownBlock ≠ some bp ∧ v'.oneCell' = true ∧ (∀ β o, β ≠ bp → some β ≠ v.ownBlock → m β = some o → m' β = some o) ∧ (∀ β, v'.ownBlock = some β → v.ownBlock = some β ∨ (m β = none ∧ s.low ≤ β)) := by
  ((refine callsJ_of Try.func13 (by rfl) rfl ?_; simp only [Try.ntmps13, List.size_toArray, List.length_cons, List.length_nil, Nat.reduceAdd, Nat.reduceSub, Array.replicate_succ, Array.replicate_zero, List.push_toArray, List.append_toArray, List.nil_append, List.cons_append]))
  ((first | refine wpJ_seq ?_ | refine wpJ_block ?_ | refine wpJ_skip ?_ | refine wpJ_label ?_ | refine wpJ_ret ?_ | refine wpJ_exit ?_ | refine opsJ_nil ?_))
  ((refine wpJ_region ?_; simp only [List.size_toArray, List.length_cons, List.length_nil, Nat.reduceAdd, Nat.zero_add, List.range, List.range.loop]))
  ((refine opsJ_new rfl (by rfl) (f := fun γ => (.pointer (some ⟨γ, 0, none⟩))) (ob := (.cells x.cs.toArray 25)) (fun w => by go_simp) (fun w => by simp [go_sem]) (fun γ hγ hmγ => ?_); try walk_nrm))
  have k1 : γ ≠ bp := fun e => by subst e; rw [hb] at hmγ; cases hmγ
  have e1 : (m.set γ (.cells x.cs.toArray 25)) γ = some (.cells x.cs.toArray 25 (0, 0)) := PM.set_same _ _ _
  have hx : Ext m (m.set γ (.cells x.cs.toArray 25)) := Ext.set hmγ _
  have hy : ∀ β, (m.set γ (.cells x.cs.toArray 25)) β = none → m β = none := fun β h => by
    by_cases e : β = γ
    · subst e; exact hmγ
    · rwa [PM.set_ne _ _ e] at h
  generalize (m.set γ (.cells x.cs.toArray 25)) = m1 at e1 hx hy ⊢
  ((refine opsJ_new rfl (by rfl) (f := fun δ => (.pointer (some ⟨δ, 0, none⟩))) (ob := (.cells y.cs.toArray 25)) (fun w => by go_simp) (fun w => by simp [go_sem]) (fun δ hδ hmδ => ?_); try walk_nrm))
  have k5 : δ ≠ γ := fun e => by subst e; rw [e1] at hmδ; cases hmδ
  have f1 : (m1.set δ (.cells y.cs.toArray 25)) γ = some (.cells x.cs.toArray 25 (0, 0)) := by rw [PM.set_ne _ _ k5.symm]; exact e1
  have f2 : (m1.set δ (.cells y.cs.toArray 25)) δ = some (.cells y.cs.toArray 25 (0, 0)) := PM.set_same _ _ _
  have hy' : ∀ β, (m1.set δ (.cells y.cs.toArray 25)) β = none → m β = none := fun β h => by
    by_cases e : β = δ
    · subst e; exact hy _ hmδ
    · rw [PM.set_ne _ _ e] at h; exact hy _ h
  replace hx : Ext m (m1.set δ (.cells y.cs.toArray 25)) := hx.trans (Ext.set hmδ _)
  generalize (m1.set δ (.cells y.cs.toArray 25)) = m2 at f1 f2 hx hy' ⊢
  clear e1 hmδ hmγ hy
  ((first | refine wpJ_seq ?_ | refine wpJ_block ?_ | refine wpJ_skip ?_ | refine wpJ_label ?_ | refine wpJ_ret ?_ | refine wpJ_exit ?_ | refine opsJ_nil ?_))
  (simp only [QJ.then, QJ.inBlock, if_true, if_false, reduceIte, Nat.reduceEqDiff])
  ((refine wpJ_region ?_; simp only [List.size_toArray, List.length_cons, List.length_nil, Nat.reduceAdd, Nat.zero_add, List.range, List.range.loop]))
  ((refine opsJ_ld (v := v) rfl (by rfl) rfl rfl (hx _ _ hb) (by rfl) Try.underlying31 rfl ?_; try walk_nrm))
  ((refine opsJ_ldN rfl (by rfl) rfl rfl f1 (cs := x.cs) (fun j v h => by first | (rw [Nat.zero_add, List.getElem?_toArray]; exact h) | simpa using h) Try.underlying25 rfl size25 ?_; try walk_nrm))
  ((refine opsJ_ldN rfl (by rfl) rfl rfl f2 (cs := y.cs) (fun j v h => by first | (rw [Nat.zero_add, List.getElem?_toArray]; exact h) | simpa using h) Try.underlying25 rfl size25 ?_; try walk_nrm))
  refine opsJ_pure (v := .agg (x.cs ++ y.cs).toArray) rfl (by rfl) (fun w => by go_simp; simp [Rt.cs, List.zipIdx]) (fun w => by simp [go_sem, Rt.cs, List.zipIdx]) ?_
  try walk_nrm
  refine opsJ_new rfl (by rfl) (f := fun β => .slice (some ⟨β, 0, none⟩) 1 1) (ob := .cells (x.cs ++ y.cs).toArray 34) (fun w => by go_simp; simp [Rt.cs, List.zipIdx]) (fun w => by simp [go_sem, Rt.cs, List.zipIdx]) (fun η hη hmη => ?_)
  try walk_nrm
  have g0 : (m2.set η (.cells (x.cs ++ y.cs).toArray 34)) η = some (.cells (x.cs ++ y.cs).toArray 34 (0, 0)) := PM.set_same _ _ _
  have hx3 : Ext m (m2.set η (.cells (x.cs ++ y.cs).toArray 34)) := hx.trans (Ext.set hmη _)
  have hy3 : ∀ β, (m2.set η (.cells (x.cs ++ y.cs).toArray 34)) β = none → m β = none := fun β h => by
    by_cases e : β = η
    · subst e; exact hy' _ hmη
    · rw [PM.set_ne _ _ e] at h; exact hy' _ h
  generalize (m2.set η (.cells (x.cs ++ y.cs).toArray 34)) = m3 at g0 hx3 hy3 ⊢
  obtain ⟨ti, z, hi, hz, hzs, hsz, hby⟩ := info34_parts
  refine opsJ_append rfl (by rfl) _ _ 31 rfl 34 ti z 14 80 Try.underlying31 hi hz hsz hby hzs (by decide) rfl (ho.kept fun g o _ e => hx3 g o e) (γ := η) (mm := 1) (c := 1) rfl g0 (news := x.cs ++ y.cs) rfl (fun j u h => by rw [List.getElem?_toArray]; exact h)
    (fun u hu => by rcases List.mem_append.1 hu with h | h; exact one_cs x u (by simpa using h); exact one_cs y u (by simpa using h)) (by simp only [maxLen]; omega) (by omega) fun v' m4 hown' hk hfr => ?_
  try walk_nrm
  have hv' : v'.oneCell' = true := by
    rcases hown'.2 with ⟨rfl, _⟩ | ⟨g, cap, cur, rfl, _⟩ <;> rfl
  have hne' : v'.ownBlock ≠ some bp := fun e => by
    rcases hfr bp e with h | h
    · exact hne h
    · have := hy3 _ h.1; rw [hb] at this; cases this
  have hb4 : m4 bp = some (.cells #[v] 31 (0, 0)) := hk bp _ (fun e => hne e.symm) (hx3 _ _ hb)
  refine opsJ_st (v := v') rfl (by rfl) rfl rfl rfl hb4 (of_decide_eq_true rfl) hv' size31 ?_
  try walk_nrm
  ((first | refine wpJ_seq ?_ | refine wpJ_block ?_ | refine wpJ_skip ?_ | refine wpJ_label ?_ | refine wpJ_ret ?_ | refine wpJ_exit ?_ | refine opsJ_nil ?_))
  refine ⟨rfl, _, resultsJ_none Try.results13 _, rfl, v', PM.set_same _ _ _, hown'.kept fun g o hg e => ?_, hne', hv', fun β o h1 h2 e => ?_, fun β e => (hfr β e).imp id fun h => ⟨hy3 β h.1, h.2⟩⟩
  · rw [PM.set_ne _ _ (fun h => hne' (by rw [← h]; exact hg))]; exact e
  · rw [PM.set_ne _ _ h1]; exact hk β o h2 (hx3 _ _ e)
end
end Go.Proofs.Ytafnbmokegomaaa
