/-
  ONE'S OWN MEMORY IN THE CALCULUS: loads, stores, new blocks.
-/
import Derived.Test.YtafnbmokegomaaaWp
import Derived.Conc.AppendEvents3
import Derived.Deep.MidRow
import Derived.RowKit
set_option linter.unusedSimpArgs false
set_option linter.unusedVariables false
set_option linter.unusedSectionVars false
namespace Go.Proofs.Ytafnbmokegomaaa
open Go.Conc

section
variable {P : Program} [Io] {Fin : Value → World → Prop} {fn : FuncId} {Q : QJ} {s : Gh} {m : PM} {a : Act} {ops : Array Oper} {i : Nat} {rest : List Nat} {o : Oper}

theorem setCells_io (g : Nat) : ∀ (vs : List Value) (o : Nat) (w : World), (w.setCells g o vs).os = w.os ∧ (w.setCells g o vs).output = w.output
  | [], _, _ => ⟨rfl, rfl⟩
  | v :: r, o, w => by
    obtain ⟨a, b⟩ := setCells_io g r (o + 1) (w.setCell ⟨g, o, none⟩ v)
    exact ⟨a.trans rfl, b.trans rfl⟩

theorem Turns.reads {w : World} {es : Array Event} (h : Has m w) (hr : ∀ e ∈ es, ∃ ad, e.loc = .cell ad ∧ m ad.block ≠ none) : Turns w m w m es := by
  refine ⟨Nat.le_refl _, fun _ _ _ => rfl, fun β o e => ⟨h β o e, .inl (by rw [e]; simp)⟩, fun e he => ?_, ⟨rfl, rfl⟩⟩
  obtain ⟨ad, h1, h2⟩ := hr e he
  refine .inl ⟨ad, h1, .inl h2, ?_⟩
  cases e' : m ad.block with
  | none => exact absurd e' h2
  | some ob => exact (Array.getElem?_eq_some_iff.1 (h _ _ e')).1

theorem Turns.new {w : World} (h : Has m w) (ob : Obj) : Turns w m (w.alloc ob) (m.set w.heap.size ob) #[] := by
  have hlt : ∀ β o, m β = some o → β < w.heap.size := fun β o e => (Array.getElem?_eq_some_iff.1 (h β o e)).1
  refine ⟨?_, fun β hb _ => ?_, fun β o e => ?_, fun e he => by simp at he, ⟨rfl, rfl⟩⟩
  · show w.heap.size ≤ (w.heap.push ob).size; simp
  · show (w.heap.push ob)[β]? = _
    rw [Array.getElem?_push_lt hb, ← Array.getElem?_eq_getElem]
  · by_cases hb : β = w.heap.size
    · subst hb
      rw [PM.set_same] at e
      cases e
      refine ⟨?_, .inr (Nat.le_refl _)⟩
      show (w.heap.push ob)[w.heap.size]? = _
      simp
    · rw [PM.set_ne _ _ hb] at e
      refine ⟨?_, .inl (by rw [e]; simp)⟩
      show (w.heap.push ob)[β]? = _
      rw [Array.getElem?_push_lt (hlt β o e), ← Array.getElem?_eq_getElem]
      exact h β o e

/-- A block of one's own is written. -/
theorem Turns.put {w w' : World} {β : Nat} {o o' : Obj} {es : Array Event} (h : Has m w) (hm : m β = some o) (hsz : w'.heap.size = w.heap.size) (hb : ∀ γ, γ ≠ β → w'.heap[γ]? = w.heap[γ]?) (hn : w'.heap[β]? = some o')
    (hr : ∀ e ∈ es, ∃ ad, e.loc = .cell ad ∧ m ad.block ≠ none) (hio : w'.os = w.os ∧ w'.output = w.output := by exact ⟨rfl, rfl⟩) : Turns w m w' (m.set β o') es := by
  have hlt : ∀ β o, m β = some o → β < w.heap.size := fun β o e => (Array.getElem?_eq_some_iff.1 (h β o e)).1
  refine ⟨by rw [hsz]; exact Nat.le_refl _, fun γ hg hm' => hb γ (fun e => by subst e; rw [hm] at hm'; cases hm'), fun γ o₁ e => ?_, fun e he => ?_, hio⟩
  · by_cases hg : γ = β
    · subst hg
      rw [PM.set_same] at e
      cases e
      exact ⟨hn, .inl (by rw [hm]; simp)⟩
    · rw [PM.set_ne _ _ hg] at e
      exact ⟨(hb γ hg).trans (h γ _ e), .inl (by rw [e]; simp)⟩
  · obtain ⟨ad, h1, h2⟩ := hr e he
    refine .inl ⟨ad, h1, .inl h2, ?_⟩
    rw [hsz]
    cases e' : m ad.block with
    | none => exact absurd e' h2
    | some ob => exact hlt _ _ e'

/-- An operation that yields a value, whatever it does to one's own memory. -/
theorem opsJ_val (ho : ops[i]? = some o) (hw : Region.wanted o (yielded ops a.tmps) = true)
    (h : ∀ w, s.low ≤ w.heap.size → Has m w → ∃ v w' m', (execOp a.eval o).run P w = .ok (.value v) w' ∧ Turns w m w' m' (listed P fn a o w) ∧ OpsJ P Fin fn ops rest Q s m' (a.put o.dst v)) : OpsJ P Fin fn ops (i :: rest) Q s m a :=
  opsJ_cons ho hw fun w hl hH K hK => by
    obtain ⟨v, w', m', h1, h2, h3⟩ := h w hl hH
    rw [h1]
    exact hK _ _ m' h2 h3
theorem opsJ_unit (ho : ops[i]? = some o) (hw : Region.wanted o (yielded ops a.tmps) = true)
    (h : ∀ w, s.low ≤ w.heap.size → Has m w → ∃ w' m', (execOp a.eval o).run P w = .ok .skip w' ∧ Turns w m w' m' (listed P fn a o w) ∧ OpsJ P Fin fn ops rest Q s m' (a.put o.dst undef)) : OpsJ P Fin fn ops (i :: rest) Q s m a :=
  opsJ_cons ho hw fun w hl hH K hK => by
    obtain ⟨w', m', h1, h2, h3⟩ := h w hl hH
    rw [h1]
    exact hK _ _ m' h2 h3

theorem has_cell {w : World} (h : Has m w) {β off : Nat} {C : Array Value} {ety : TypeId} {fr : Nat × Nat} {v : Value} (hm : m β = some (.cells C ety fr)) (hv : C[off]? = some v) : w.cell? ⟨β, off, none⟩ = some v := by
  simp [World.cell?, h β _ hm, hv]

theorem events_loadAt_cell {w : World} {t : TypeId} {ad : Addr} {d : TypeDesc} {v : Value} (hu : P.underlying t = some d) (hd : d.isRow = false) (hc : w.cell? ad = some v) :
    (Instr.loadAt t (.pointer (some ad))).run P w = .ok v w ∧ (Instr.loadAt t (.pointer (some ad))).events P w #[] = #[⟨.cell ad, false, false⟩] := by
  have hagg : (isAgg t).run P w = .ok false w := by
    unfold isAgg
    rw [Sem.run_bind, run_underlying hu w]
    cases d <;> simp_all
  have hage : (isAgg t).events P w #[] = #[] := by
    unfold isAgg
    rw [Sem.events_bind, run_underlying hu w]
    cases d <;> simp_all [underlying]
  constructor
  · simp [Instr.loadAt, Instr.sureAddr, loadVar, Sem.run_bind, hagg, hc]
  · simp [Instr.loadAt, Instr.sureAddr, loadVar, Sem.events_bind, Sem.run_bind, hagg, hage, hc]

/-- A LOAD OF ONE CELL. -/
theorem opsJ_ld (ho : ops[i]? = some o) (hw : Region.wanted o (yielded ops a.tmps) = true) {t : TypeId} {x : Operand} (hop : o.op = .load t x) {β off : Nat} {C : Array Value} {ety : TypeId} {fr : Nat × Nat} {v : Value} {d : TypeDesc}
    (hx : a.eval x = .pointer (some ⟨β, off, none⟩)) (hm : m β = some (.cells C ety fr)) (hv : C[off]? = some v) (hu : P.underlying t = some d) (hd : d.isRow = false) (h : OpsJ P Fin fn ops rest Q s m (a.put o.dst v)) : OpsJ P Fin fn ops (i :: rest) Q s m a := by
  refine opsJ_val ho hw fun w hl hH => ?_
  obtain ⟨e1, e2⟩ := events_loadAt_cell (P := P) hu hd (has_cell hH hm hv)
  refine ⟨v, w, m, ?_, .reads hH fun e he => ?_, h⟩
  · unfold execOp
    simp only [hop, hx, Sem.run_bind, e1, Result.andThen_ok, Sem.run_pure]
  · have he := mem_listed he
    unfold execOp at he
    simp only [hop, hx, Sem.events_bind, e1, e2, Result.evThen_ok, Sem.events_pure] at he
    simp only [List.mem_toArray, List.mem_singleton] at he
    subst he
    exact ⟨_, rfl, by rw [hm]; simp⟩

theorem events_loadVar_mid {w : World} {ty : TypeId} {b off : Nat} {cs : List Value} {d : TypeDesc} (hc : w.rangeAt b off cs) (hu : P.underlying ty = some d) (hd : d.isRow = true) (hi : (P.info? ty).map (·.size) = some cs.length) :
    ∀ e ∈ (loadVar ty ⟨b, off, none⟩).events P w #[], ∃ ad, e.loc = .cell ad ∧ ad.block = b := by
  intro e he
  have hagg : (isAgg ty).run P w = .ok true w := by
    unfold isAgg
    rw [Sem.run_bind, run_underlying hu w]
    cases d <;> simp_all
  have hage : (isAgg ty).events P w #[] = #[] := by
    unfold isAgg
    rw [Sem.events_bind, run_underlying hu w]
    cases d <;> simp_all [underlying]
  cases hq : P.info? ty with
  | none => simp [hq] at hi
  | some i =>
    have hs : i.size = cs.length := by simpa [hq] using hi
    have hl : (loadCells ⟨b, off, none⟩ cs.length).run P w = .ok cs.toArray w :=
      run_loadCells_list (P := P) w ⟨b, off, none⟩ cs (fun j v hv => by rw [Addr.add_mid]; exact hc j v hv)
    simp [loadVar, Sem.events_bind, Sem.run_bind, hagg, hage, sizeOf, typeInfo, hq, hs, hl] at he
    rcases events_loadCellsFrom_at (P := P) ⟨b, off, none⟩ (fun x => x = b) rfl cs.length 0 #[] w #[] (fun j hj => by
      rw [Nat.zero_add, Addr.add_mid, hc j cs[j] (List.getElem?_eq_getElem hj)]; rfl) e he with h | ⟨ad, h1, _, h2⟩
    · simp at h
    · exact ⟨ad, h1, h2⟩

theorem has_range {w : World} (h : Has m w) {β off : Nat} {C : Array Value} {ety : TypeId} {fr : Nat × Nat} {cs : List Value} (hm : m β = some (.cells C ety fr)) (hv : ∀ j v, cs[j]? = some v → C[off + j]? = some v) : w.rangeAt β off cs :=
  fun j v e => has_cell h hm (hv j v e)

/-- A LOAD OF A ROW. -/
theorem opsJ_ldN (ho : ops[i]? = some o) (hw : Region.wanted o (yielded ops a.tmps) = true) {t : TypeId} {x : Operand} (hop : o.op = .load t x) {β off : Nat} {C : Array Value} {ety : TypeId} {fr : Nat × Nat} {cs : List Value} {d : TypeDesc}
    (hx : a.eval x = .pointer (some ⟨β, off, none⟩)) (hm : m β = some (.cells C ety fr)) (hv : ∀ j v, cs[j]? = some v → C[off + j]? = some v) (hu : P.underlying t = some d) (hd : d.isRow = true) (hi : (P.info? t).map (·.size) = some cs.length)
    (h : OpsJ P Fin fn ops rest Q s m (a.put o.dst (.agg cs.toArray))) : OpsJ P Fin fn ops (i :: rest) Q s m a := by
  refine opsJ_val ho hw fun w hl hH => ?_
  have hr := has_range hH hm hv
  have e1 := run_loadVar_mid w β off t cs d hr hu hd hi
  refine ⟨.agg cs.toArray, w, m, ?_, .reads hH fun e he => ?_, h⟩
  · unfold execOp
    simp only [hop, hx, Instr.loadAt, Instr.sureAddr, Sem.run_bind, e1, Result.andThen_ok, Sem.run_pure]
  · have he := mem_listed he
    unfold execOp at he
    simp only [hop, hx, Instr.loadAt, Instr.sureAddr, Sem.events_bind, Sem.run_bind, Sem.run_pure, Sem.events_pure, Result.andThen_ok, e1, Result.evThen_ok] at he
    obtain ⟨ad, h1, h2⟩ := events_loadVar_mid hr hu hd hi e he
    exact ⟨ad, h1, by rw [h2, hm]; simp⟩

def Obj.put (o : Obj) (off : Nat) (v : Value) : Obj := match o with
  | .cells C t fr => .cells (C.setIfInBounds off v) t fr
  | o => o

theorem storeVar_one {w : World} {t : TypeId} {ad : Addr} {u v : Value} (hc : w.cell? ad = some u) (hf : w.frozen? ad = false) (h1 : v.oneCell' = true) (hi : (P.info? t).map (·.size) = some 1) :
    (Instr.storeAt t (.pointer (some ad)) v).run P w = .ok () (w.setCell ad v) ∧ (Instr.storeAt t (.pointer (some ad)) v).events P w #[] = #[⟨.cell ad, true, false⟩] := by
  have hv : v.cells = #[v] := by cases v <;> simp_all [Value.oneCell', Value.cells]
  cases hq : P.info? t with
  | none => simp [hq] at hi
  | some i =>
    have hs : i.size = 1 := by simpa [hq] using hi
    have ha : ad.add 0 = ad := by unfold Addr.add; split <;> simp_all
    have hr : (store ad v .plain).run P w = .ok () (w.setCell ad v) := by rw [run_store P w _ v _ h1, hc]; simp [hf]
    have he : (store ad v .plain).events P w #[] = #[⟨.cell ad, true, false⟩] := by rw [events_store P w #[] _ v _ h1, hc]; simp [hf]
    constructor
    · simp [Instr.storeAt, Instr.sureAddr, storeVar, sizeOf, typeInfo, hq, hs, hv, storeCells, Sem.run_bind, ha, hr]
    · simp [Instr.storeAt, Instr.sureAddr, storeVar, sizeOf, typeInfo, hq, hs, hv, storeCells, Sem.events_bind, Sem.run_bind, ha, hr, he]

theorem setCell_heap {w : World} {β off : Nat} {C : Array Value} {ety : TypeId} {fr : Nat × Nat} {v : Value} (h : w.heap[β]? = some (.cells C ety fr)) :
    (w.setCell ⟨β, off, none⟩ v).heap[β]? = some (.cells (C.setIfInBounds off v) ety fr) ∧ (w.setCell ⟨β, off, none⟩ v).heap.size = w.heap.size ∧ ∀ γ, γ ≠ β → (w.setCell ⟨β, off, none⟩ v).heap[γ]? = w.heap[γ]? := by
  refine ⟨?_, by simp [World.setCell], fun γ hg => heap_setCell_ne hg⟩
  rw [setCell_eq_setRow w β off C ety fr v h]
  exact setRow_heap w β C _ ety fr h

/-- A STORE OF ONE CELL. -/
theorem opsJ_st (ho : ops[i]? = some o) (hw : Region.wanted o (yielded ops a.tmps) = true) {t : TypeId} {x y : Operand} (hop : o.op = .store t x y) {β off : Nat} {C : Array Value} {ety : TypeId} {v : Value}
    (hx : a.eval x = .pointer (some ⟨β, off, none⟩)) (hy : a.eval y = v) (hm : m β = some (.cells C ety (0, 0))) (hl : off < C.size) (h1 : v.oneCell' = true) (hi : (P.info? t).map (·.size) = some 1)
    (h : OpsJ P Fin fn ops rest Q s (m.set β (.cells (C.setIfInBounds off v) ety (0, 0))) (a.put o.dst undef)) : OpsJ P Fin fn ops (i :: rest) Q s m a := by
  refine opsJ_unit ho hw fun w _ hH => ?_
  have hb := hH β _ hm
  obtain ⟨e1, e2⟩ := storeVar_one (P := P) (w := w) (ad := ⟨β, off, none⟩) (t := t) (v := v) (has_cell hH hm (Array.getElem?_eq_getElem hl)) (by simp [World.frozen?, hb]) h1 hi
  obtain ⟨k1, k2, k3⟩ := setCell_heap (off := off) (v := v) hb
  refine ⟨w.setCell ⟨β, off, none⟩ v, _, ?_, .put hH hm k2 k3 k1 (fun e he => ?_), h⟩
  · unfold execOp
    simp only [hop, hx, hy, Sem.run_bind, e1, Result.andThen_ok, Sem.run_pure]
  · have he := mem_listed he
    unfold execOp at he
    simp only [hop, hx, hy, Sem.events_bind, e1, e2, Result.evThen_ok, Sem.events_pure] at he
    simp only [List.mem_toArray, List.mem_singleton] at he
    subst he
    exact ⟨_, rfl, by rw [hm]; simp⟩

def putAll (C : Array Value) (off : Nat) : List Value → Array Value
  | [] => C
  | v :: r => putAll (C.setIfInBounds off v) (off + 1) r
theorem putAll_size (off : Nat) (vs : List Value) : ∀ C : Array Value, (putAll C off vs).size = C.size := by
  induction vs generalizing off with
  | nil => intro C; rfl
  | cons v r ih => intro C; rw [putAll, ih]; simp

theorem setCells_heap {β : Nat} {ety : TypeId} {fr : Nat × Nat} : ∀ (vs : List Value) (off : Nat) (C : Array Value) (w : World), w.heap[β]? = some (.cells C ety fr) →
    (w.setCells β off vs).heap[β]? = some (.cells (putAll C off vs) ety fr) ∧ (w.setCells β off vs).heap.size = w.heap.size ∧ ∀ γ, γ ≠ β → (w.setCells β off vs).heap[γ]? = w.heap[γ]?
  | [], off, C, w, h => ⟨h, rfl, fun _ _ => rfl⟩
  | v :: r, off, C, w, h => by
    obtain ⟨k1, k2, k3⟩ := setCell_heap (off := off) (v := v) h
    obtain ⟨j1, j2, j3⟩ := setCells_heap r (off + 1) (C.setIfInBounds off v) (w.setCell ⟨β, off, none⟩ v) k1
    exact ⟨j1, j2.trans k2, fun γ hg => (j3 γ hg).trans (k3 γ hg)⟩

/-- A STORE OF A ROW. -/
theorem opsJ_stN (ho : ops[i]? = some o) (hw : Region.wanted o (yielded ops a.tmps) = true) {t : TypeId} {x y : Operand} (hop : o.op = .store t x y) {β off : Nat} {C cells : Array Value} {ety : TypeId}
    (hx : a.eval x = .pointer (some ⟨β, off, none⟩)) (hy : a.eval y = .agg cells) (hm : m β = some (.cells C ety (0, 0))) (hl : off + cells.size ≤ C.size) (h1 : ∀ v ∈ cells.toList, v.oneCell' = true) (hi : (P.info? t).map (·.size) = some cells.size)
    (h : OpsJ P Fin fn ops rest Q s (m.set β (.cells (putAll C off cells.toList) ety (0, 0))) (a.put o.dst undef)) : OpsJ P Fin fn ops (i :: rest) Q s m a := by
  refine opsJ_unit ho hw fun w _ hH => ?_
  have hb := hH β _ hm
  have h1' : cells.all (·.oneCell') = true := Array.all_eq_true_iff_forall_mem.2 fun v hv => h1 v (by simpa using hv)
  have e1 := run_storeVar_mid (P := P) w β off t cells (fun j hj => ⟨by rw [has_cell hH hm (Array.getElem?_eq_getElem (show off + j < C.size by omega))]; rfl, by simp [World.frozen?, hb]⟩) hi h1'
  obtain ⟨k1, k2, k3⟩ := setCells_heap cells.toList off C w hb
  refine ⟨w.setCells β off cells.toList, _, ?_, .put hH hm k2 k3 k1 (fun e he => ?_) (setCells_io _ _ _ _), h⟩
  · unfold execOp
    simp only [hop, hx, hy, Instr.storeAt, Instr.sureAddr, Sem.run_bind, Sem.run_pure, Result.andThen_ok, e1]
  · have he := mem_listed he
    unfold execOp at he
    simp only [hop, hx, hy, Instr.storeAt, Instr.sureAddr, Sem.events_bind, Sem.run_bind, Sem.run_pure, Sem.events_pure, Result.andThen_ok, e1, Result.evThen_ok] at he
    cases hq : P.info? t with
    | none => simp [hq] at hi
    | some i =>
      have hs : cells.size = i.size := by simp [hq] at hi; omega
      simp [storeVar, sizeOf, typeInfo, hq, Value.cells, hs, Sem.events_bind, Sem.run_bind] at he
      rcases events_storeCells_at (P := P) β off ety cells.toList 0 C w #[] hb (by simpa using hl) h1 e he with h | ⟨ad, h1, h2⟩
      · simp at h
      · exact ⟨ad, h1, by rw [h2, hm]; simp⟩

theorem listed_none {w : World} (h : (execOp a.eval o).events P w #[] = #[]) : listed P fn a o w = #[] := listed_nil h

/-- An operation that looks at nothing. -/
theorem opsJ_pure (ho : ops[i]? = some o) (hw : Region.wanted o (yielded ops a.tmps) = true) {v : Value} (hr : ∀ w, (execOp a.eval o).run P w = .ok (.value v) w) (he : ∀ w, (execOp a.eval o).events P w #[] = #[])
    (h : OpsJ P Fin fn ops rest Q s m (a.put o.dst v)) : OpsJ P Fin fn ops (i :: rest) Q s m a :=
  opsJ_val ho hw fun w _ hH => ⟨v, w, m, hr w, by rw [listed_none (he w)]; exact .idle hH, h⟩

/-- A NEW BLOCK. -/
theorem opsJ_new (ho : ops[i]? = some o) (hw : Region.wanted o (yielded ops a.tmps) = true) {f : Nat → Value} {ob : Obj} (hr : ∀ w, (execOp a.eval o).run P w = .ok (.value (f w.heap.size)) (w.alloc ob)) (he : ∀ w, (execOp a.eval o).events P w #[] = #[])
    (h : ∀ β, s.low ≤ β → m β = none → OpsJ P Fin fn ops rest Q s (m.set β ob) (a.put o.dst (f β))) : OpsJ P Fin fn ops (i :: rest) Q s m a :=
  opsJ_val ho hw fun w hl hH => ⟨f w.heap.size, w.alloc ob, m.set w.heap.size ob, hr w, by rw [listed_none (he w)]; exact .new hH ob, h _ hl (by
    cases e : m w.heap.size with
    | none => rfl
    | some o => have := (Array.getElem?_eq_some_iff.1 (hH _ _ e)).1; omega)⟩
end

/-! ### words -/
theorem run_eqv {r : Result Next} {v : Value} {w : World} (h : ∀ K : Result Next → Prop, K (.ok (.value v) w) → K r) : r = .ok (.value v) w := h (· = .ok (.value v) w) rfl

end Go.Proofs.Ytafnbmokegomaaa
