/-
  A SENDER's MEMORY: a load of still cells; a block of its own; the send.
-/
import Derived.Test.YtafnbmokegomaaaSndD
import Derived.Test.YtafnbmokegomaaaMet
set_option linter.unusedSimpArgs false
set_option linter.unusedVariables false
namespace Go.Proofs.Ytafnbmokegomaaa
open Go.Conc Go.RowKit
open Go.ConcR (KK wgBlock WgAt stA smA rd wr mk)

section
variable {P : Program}
theorem evLoadCells (a : Addr) : ∀ (n i : Nat) (acc : Array Value) (w : World) (es : Array Event), (∀ j, j < n → (w.cell? (a.add (i + j))).isSome) →
    ∀ ev ∈ (loadCellsFrom a i n acc).events P w es, ev ∈ es ∨ ∃ ad, ev = ⟨.cell ad, false, false⟩ ∧ ad.block = a.block
  | 0, _, _, _, _, _ => fun ev h => .inl (by simpa [loadCellsFrom] using h)
  | n + 1, i, acc, w, es, hc => fun ev h => by
    simp only [loadCellsFrom, Sem.events_bind] at h
    obtain ⟨u, hu⟩ := Option.isSome_iff_exists.1 (hc 0 (by omega))
    simp only [Nat.add_zero] at hu
    have hr : (load (a.add i)).run P w = .ok u w := by simp [hu]
    have hev : (load (a.add i)).events P w es = es.push ⟨.cell (a.add i), false, false⟩ := by rw [events_load, hu]; rfl
    rw [hr, hev] at h
    rcases evLoadCells a n (i + 1) (acc.push u) w _ (fun j hj => by have := hc (j + 1) (by omega); rwa [show i + (j + 1) = i + 1 + j by omega] at this) ev h with h | h
    · rcases Array.mem_push.1 h with h | rfl
      · exact .inl h
      · exact .inr ⟨_, rfl, addBlock a i⟩
    · exact .inr h
theorem evStoreCells (g o : Nat) (t : TypeId) : ∀ (vs : List Value) (i : Nat) (cur : Array Value) (w : World) (es : Array Event), w.heap[g]? = some (.cells cur t (0, 0)) → o + i + vs.length ≤ cur.size → (∀ v ∈ vs, v.oneCell' = true) →
    ∀ ev ∈ (storeCells ⟨g, o, none⟩ vs i).events P w es, ev ∈ es ∨ ∃ ad, ev = ⟨.cell ad, true, false⟩ ∧ ad.block = g
  | [], _, _, _, _, _, _, _ => fun ev h => .inl (by simpa [storeCells] using h)
  | v :: rest, i, cur, w, es, hg, hl, h1 => fun ev h => by
    have hi : o + i < cur.size := by simp at hl; omega
    have hadd : (⟨g, o, none⟩ : Addr).add i = ⟨g, o + i, none⟩ := Addr.add_mid g o i
    have hcell : w.cell? ⟨g, o + i, none⟩ = some cur[o + i] := by simp [World.cell?, hg, hi]
    have hfro : w.frozen? ⟨g, o + i, none⟩ = false := by simp [World.frozen?, hg]
    have hst : (store ((⟨g, o, none⟩ : Addr).add i) v).run P w = .ok () (w.setRow g (cur.setIfInBounds (o + i) v)) := by
      rw [hadd, run_store P w _ v _ (h1 v (by simp)), hcell]
      simp [hfro, setCell_eq_setRow w g (o + i) cur t (0, 0) v hg]
    have hev : (store ((⟨g, o, none⟩ : Addr).add i) v).events P w es = es.push ⟨.cell ⟨g, o + i, none⟩, true, false⟩ := by
      rw [hadd, events_store P w es _ v _ (h1 v (by simp)), hcell]
      simp only [hfro, Bool.false_eq_true, if_false]
      rfl
    simp only [storeCells, Sem.events_bind, hst, Result.evThen_ok, hev] at h
    rcases evStoreCells g o t rest (i + 1) (cur.setIfInBounds (o + i) v) (w.setRow g (cur.setIfInBounds (o + i) v)) _ (setRow_heap w g cur _ t _ hg) (by simp at hl ⊢; omega) (fun x hx => h1 x (by simp [hx])) ev h with h | h
    · rcases Array.mem_push.1 h with h | rfl
      · exact .inl h
      · exact .inr ⟨_, rfl, rfl⟩
    · exact .inr h
theorem evLoadVar {w : World} {ty : TypeId} {b off : Nat} {cs : List Value} {d : TypeDesc} (hc : w.rangeAt b off cs) (hu : P.underlying ty = some d) (hd : d.isRow = true) (hi : (P.info? ty).map (·.size) = some cs.length) :
    ∀ e ∈ (loadVar ty ⟨b, off, none⟩).events P w #[], ∃ ad, e = ⟨.cell ad, false, false⟩ ∧ ad.block = b := by
  intro e he
  have hagg : (isAgg ty).run P w = .ok true w := by
    unfold isAgg
    rw [Sem.run_bind, run_underlying hu w]
    cases d <;> simp_all
  have hage : (isAgg ty).events P w #[] = #[] := by
    unfold isAgg
    rw [Sem.events_bind, run_underlying hu w]
    cases d <;> simp_all [underlying]
  cases hq : P.info? ty with
  | none => simp [hq] at hi
  | some i =>
    have hs : i.size = cs.length := by simpa [hq] using hi
    have hl : (loadCells ⟨b, off, none⟩ cs.length).run P w = .ok cs.toArray w :=
      run_loadCells_list (P := P) w ⟨b, off, none⟩ cs (fun j v hv => by rw [Addr.add_mid]; exact hc j v hv)
    simp [loadVar, Sem.events_bind, Sem.run_bind, hagg, hage, sizeOf, typeInfo, hq, hs, hl] at he
    rcases evLoadCells (P := P) ⟨b, off, none⟩ cs.length 0 #[] w #[] (fun j hj => by
      rw [Nat.zero_add, Addr.add_mid, hc j cs[j] (List.getElem?_eq_getElem hj)]; rfl) e he with h | h
    · simp at h
    · exact h
theorem setCells_rest (g : Nat) : ∀ (vs : List Value) (o : Nat) (w : World), (w.setCells g o vs).tape = w.tape ∧ (w.setCells g o vs).os = w.os ∧ (w.setCells g o vs).output = w.output
  | [], _, _ => ⟨rfl, rfl, rfl⟩
  | v :: r, o, w => by
    obtain ⟨a, b, c⟩ := setCells_rest g r (o + 1) (w.setCell ⟨g, o, none⟩ v)
    have : (w.setCell ⟨g, o, none⟩ v).tape = w.tape ∧ (w.setCell ⟨g, o, none⟩ v).os = w.os ∧ (w.setCell ⟨g, o, none⟩ v).output = w.output := ⟨rfl, rfl, rfl⟩
    exact ⟨a.trans this.1, b.trans this.2.1, c.trans this.2.2⟩
end

section
variable {X : Cfg} {bb : Bool} {c m k0 : Nat} {M : Pm} {b : Frame} {a : Act} {k : List Item} {fs : List Frame} {ops : Array Oper} {i : Nat} {rest : List Nat} {o : Oper}

/-- a load of a row that stands still -/
theorem Snd.ldS (hP : X.P = Try.prog) (ho : ops[i]? = some o) (hw : Region.wanted o (yielded ops a.tmps) = true) (hk : b.kind ≠ .early) {t : TypeId} {x : Operand} (hop : o.op = .load t x) {β off : Nat} {C : Array Value} {ety : TypeId} {fr : Nat × Nat} {cs : List Value} {d : TypeDesc}
    (hx : a.eval x = .pointer (some ⟨β, off, none⟩)) (hK : ∀ w, X.K w → w.heap[β]? = some (.cells C ety fr)) (hs : X.StB β) (hlt : β < X.N0) (hv : ∀ j v, cs[j]? = some v → C[off + j]? = some v)
    (hu : Try.prog.underlying t = some d) (hd : d.isRow = true) (hi : (Try.prog.info? t).map (·.size) = some cs.length)
    (hq : Snd X bb c m (.snd k0) M (G (b.at (a.put o.dst (.agg cs.toArray)) (.inRegion ops rest :: k)) fs)) : Snd X bb c (m + 1) (.snd k0) M (G (b.at a (.inRegion ops (i :: rest) :: k)) fs) := by
  refine ⟨rfl, .own fun w hKw hL hM => ?_⟩
  have hr : w.rangeAt β off cs := fun j v e => by simp [World.cell?, hK w hKw, hv j v e]
  have e1 := run_loadVar_mid w β off t cs d hr hu hd hi
  refine ⟨_, w, _, M, by rw [hP]; exact stepG_value (v := .agg cs.toArray) ho hw hk (by unfold execOp; simp only [hop, hx, Instr.loadAt, Instr.sureAddr, Sem.run_bind, e1, Result.andThen_ok, Sem.run_pure]), .still fun e he => .inl ?_, hq⟩
  have he := mem_listed he
  unfold execOp at he
  simp only [hop, hx, Instr.loadAt, Instr.sureAddr, Sem.events_bind, Sem.run_bind, Sem.run_pure, Sem.events_pure, Result.andThen_ok, e1, Result.evThen_ok] at he
  obtain ⟨ad, h1, h2⟩ := evLoadVar hr hu hd hi e he
  exact ⟨ad, h1, ⟨ad, rfl, by rw [h2]; exact hs⟩, by rw [h2]; exact hlt⟩
/-- a new block -/
theorem Snd.new (hP : X.P = Try.prog) (ho : ops[i]? = some o) (hw : Region.wanted o (yielded ops a.tmps) = true) (hk : b.kind ≠ .early) {ob : Obj} (hr : ∀ w, (execOp a.eval o).run Try.prog w = .ok (.value (.pointer (some ⟨w.heap.size, 0, none⟩))) (w.alloc ob)) (he : ∀ w, (execOp a.eval o).events Try.prog w #[] = #[])
    (hq : ∀ n, Snd X bb c m (.snd k0) (some (n, ob)) (G (b.at (a.put o.dst (.pointer (some ⟨n, 0, none⟩))) (.inRegion ops rest :: k)) fs)) : Snd X bb c (m + 1) (.snd k0) M (G (b.at a (.inRegion ops (i :: rest) :: k)) fs) := by
  refine ⟨rfl, .own fun w hKw hL hM => ⟨_, w.alloc ob, #[], some (w.heap.size, ob), ?_, .new ob, hq _⟩⟩
  rw [hP, stepG_value ho hw hk (hr w)]
  unfold listed
  rw [he w, seen_none]
/-- it writes a row into the block of its own -/
theorem Snd.put (hP : X.P = Try.prog) (ho : ops[i]? = some o) (hw : Region.wanted o (yielded ops a.tmps) = true) (hk : b.kind ≠ .early) {t : TypeId} {x y : Operand} (hop : o.op = .store t x y) {n : Nat} {C cells : Array Value} {ety : TypeId}
    (hx : a.eval x = .pointer (some ⟨n, 0, none⟩)) (hy : a.eval y = .agg cells) (hl : 0 + cells.size ≤ C.size) (h1 : ∀ v ∈ cells.toList, v.oneCell' = true) (hi : (Try.prog.info? t).map (·.size) = some cells.size)
    (hq : Snd X bb c m (.snd k0) (some (n, .cells (putAll C 0 cells.toList) ety (0, 0))) (G (b.at (a.put o.dst undef) (.inRegion ops rest :: k)) fs)) : Snd X bb c (m + 1) (.snd k0) (some (n, .cells C ety (0, 0))) (G (b.at a (.inRegion ops (i :: rest) :: k)) fs) := by
  refine ⟨rfl, .own fun w hKw hL hM => ?_⟩
  have hb := hM n _ rfl
  have h1' : cells.all (·.oneCell') = true := Array.all_eq_true_iff_forall_mem.2 fun v hv => h1 v (by simpa using hv)
  have e1 := run_storeVar_mid (P := Try.prog) w n 0 t cells (fun j hj => ⟨by simp [World.cell?, hb, show j < C.size by omega], by simp [World.frozen?, hb]⟩) hi h1'
  letI : Io := ⟨w⟩
  obtain ⟨k1, k2, k3⟩ := setCells_heap cells.toList 0 C w hb
  obtain ⟨j1, j2, j3⟩ := setCells_rest n cells.toList 0 w
  refine ⟨_, w.setCells n 0 cells.toList, _, _, by rw [hP]; exact stepG_none ho hw hk (by unfold execOp; simp only [hop, hx, hy, Instr.storeAt, Instr.sureAddr, Sem.run_bind, Sem.run_pure, Result.andThen_ok, e1]), .put _ rfl (fun e he => ?_) j1 j2 j3 k2 k3 k1, hq⟩
  have he := mem_listed he
  unfold execOp at he
  simp only [hop, hx, hy, Instr.storeAt, Instr.sureAddr, Sem.events_bind, Sem.run_bind, Sem.run_pure, Sem.events_pure, Result.andThen_ok, e1, Result.evThen_ok] at he
  cases hq : Try.prog.info? t with
  | none => simp [hq] at hi
  | some i =>
    have hs : cells.size = i.size := by simp [hq] at hi; omega
    simp [storeVar, sizeOf, typeInfo, hq, Value.cells, hs, Sem.events_bind, Sem.run_bind] at he
    rcases evStoreCells (P := Try.prog) n 0 ety cells.toList 0 C w #[] hb (by simpa using hl) h1 e he with h | ⟨ad, h1, h2⟩
    · simp at h
    · exact ⟨ad, true, h1, h2⟩
/-- it reads it -/
theorem Snd.ldP (hP : X.P = Try.prog) (ho : ops[i]? = some o) (hw : Region.wanted o (yielded ops a.tmps) = true) (hk : b.kind ≠ .early) {t : TypeId} {x : Operand} (hop : o.op = .load t x) {n : Nat} {C : Array Value} {ety : TypeId} {fr : Nat × Nat} {cs : List Value} {d : TypeDesc}
    (hx : a.eval x = .pointer (some ⟨n, 0, none⟩)) (hv : ∀ j v, cs[j]? = some v → C[0 + j]? = some v)
    (hu : Try.prog.underlying t = some d) (hd : d.isRow = true) (hi : (Try.prog.info? t).map (·.size) = some cs.length)
    (hq : Snd X bb c m (.snd k0) (some (n, .cells C ety fr)) (G (b.at (a.put o.dst (.agg cs.toArray)) (.inRegion ops rest :: k)) fs)) : Snd X bb c (m + 1) (.snd k0) (some (n, .cells C ety fr)) (G (b.at a (.inRegion ops (i :: rest) :: k)) fs) := by
  refine ⟨rfl, .own fun w hKw hL hM => ?_⟩
  have hb := hM n _ rfl
  have hr : w.rangeAt n 0 cs := fun j v e => by have := hv j v e; simp only [World.cell?, hb]; simpa using this
  have e1 := run_loadVar_mid w n 0 t cs d hr hu hd hi
  refine ⟨_, w, _, _, by rw [hP]; exact stepG_value (v := .agg cs.toArray) ho hw hk (by unfold execOp; simp only [hop, hx, Instr.loadAt, Instr.sureAddr, Sem.run_bind, e1, Result.andThen_ok, Sem.run_pure]), .still fun e he => .inr ?_, hq⟩
  have he := mem_listed he
  unfold execOp at he
  simp only [hop, hx, Instr.loadAt, Instr.sureAddr, Sem.events_bind, Sem.run_bind, Sem.run_pure, Sem.events_pure, Result.andThen_ok, e1, Result.evThen_ok] at he
  obtain ⟨ad, h1, h2⟩ := evLoadVar hr hu hd hi e he
  exact ⟨n, _, ad, rfl, h1, h2⟩
/-- it sends -/
theorem Snd.send (hP : X.P = Try.prog) (ho : ops[i]? = some o) (hw : Region.wanted o (yielded ops a.tmps) = true) (hk : b.kind ≠ .early) {x y : Operand} (hop : o.op = .send x y) (hx : a.eval x = .chan (some c)) (hy : a.eval y = X.it bb k0) (hlt : k0 < X.n bb)
    (hq : Snd X bb c m (.snd (k0 + 1)) none (G (b.at (a.put o.dst undef) (.inRegion ops rest :: k)) fs)) : Snd X bb c (m + 1) (.snd k0) M (G (b.at a (.inRegion ops (i :: rest) :: k)) fs) := by
  refine ⟨rfl, .send hlt (G (b.at a (.inRegion ops (i :: rest) :: k)) fs) (.tuple #[]) (fun w _ _ _ => ?_) ?_⟩
  · rw [hP, stepG_comm (cases := #[scase c (X.it bb k0) (.tuple #[])]) (blocking := true) (shape := .send) (w' := w) ho hw hk (by simp [execOp, hop, hx, hy, scase])]
    have he : (execOp a.eval o).events Try.prog w #[] = #[] := by
      unfold execOp
      simp only [hop]
      rfl
    unfold listed
    rw [he, seen_none]
  · have e : Go.Conc.served (G (b.at a (.inRegion ops (i :: rest) :: k)) fs) undef = G (b.at (a.put o.dst undef) (.inRegion ops rest :: k)) fs := by
      rw [served_G]
      simp [ho]
    rw [e]; exact hq
end
end Go.Proofs.Ytafnbmokegomaaa
