/-
  A REGION THAT DRAWS ITS ORDER, IN THE CALCULUS: operations that yield, and one last that is a call.
-/
import Derived.Test.YtafnbmokegomaaaJMem
import Derived.OrdersHeld
set_option linter.unusedSimpArgs false
set_option linter.unusedVariables false
set_option linter.unusedSectionVars false
namespace Go.Proofs.Ytafnbmokegomaaa
open Go.Conc

section
variable {P : Program} [Io] {Fin : Value → World → Prop} {fn : FuncId} {Q : QJ} {s : Gh} {m : PM} {ops : Array Oper} {md : Region.Mode}

/-- In state a the operation leaves v in its temporary and turns nothing. -/
def YldJ (P : Program) (fn : FuncId) (ops : Array Oper) (m : PM) (o : Oper) (v : Value) (a : Act) : Prop :=
  (Region.wanted o (yielded ops a.tmps) = true ∧ ∀ w, Has m w → (execOp a.eval o).run P w = .ok (.value v) w ∧ Turns w m w m (listed P fn a o w)) ∨
  (Region.wanted o (yielded ops a.tmps) = false ∧ v = undef)

theorem YldJ.of_same {o : Oper} {v : Value} {a a' : Act} (hy : YldJ P fn ops m o v a) (he : execOp a'.eval o = execOp a.eval o)
    (hw : Region.wanted o (yielded ops a'.tmps) = Region.wanted o (yielded ops a.tmps)) : YldJ P fn ops m o v a' := by
  unfold YldJ listed at *
  rw [he, hw]
  exact hy

/-- It waits, link by link, for all others. -/
def WaitsAll (md : Region.Mode) (ops : Array Oper) (j : Nat) : Prop := ∃ o, ops[j]? = some o ∧ ∀ S : Nat → Prop, (∀ e ∈ o.after, Region.binds md e = true → S e.on) →
  (∀ (k : Nat) (ok : Oper), S k → ops[k]? = some ok → ∀ e ∈ ok.after, Region.binds md e = true → S e.on) → ∀ i, i < ops.size → i ≠ j → S i
/-- What has come up came up behind what it waits for. -/
def ClosedL (md : Region.Mode) (ops : Array Oper) (listed : Array Bool) : Prop := ∀ (k : Nat) (ok : Oper), listed[k]? = some true → ops[k]? = some ok → ∀ e ∈ ok.after, Region.binds md e = true → listed[e.on]? = some true
def closedB (md : Region.Mode) (ops : Array Oper) (listed : Array Bool) : Bool := (List.range listed.size).all fun k => match ops[k]? with
  | some ok => !(listed[k]? == some true) || ok.after.all fun e => !(Region.binds md e) || (listed[e.on]? == some true)
  | none => true
theorem get_true {listed : Array Bool} {i : Nat} (h : listed.getD i false = true) : listed[i]? = some true := by
  rw [Array.getD_eq_getD_getElem?] at h
  cases e : listed[i]? with
  | none => rw [e] at h; cases h
  | some b => rw [e] at h; simp at h; rw [h]
theorem closed_of {listed : Array Bool} (h : closedB md ops listed = true) : ClosedL md ops listed := by
  intro k ok hk ho e he hb
  have hlt : k < listed.size := (Array.getElem?_eq_some_iff.1 hk).1
  have := List.all_eq_true.1 h k (List.mem_range.2 hlt)
  simp only [ho, hk, beq_self_eq_true, Bool.not_true, Bool.false_or] at this
  have := (Array.all_eq_true_iff_forall_mem.1 this) e he
  simpa [hb] using this

def AnyJ (P : Program) (Fin : Value → World → Prop) (fn : FuncId) (md : Region.Mode) (ops : Array Oper) (Q : QJ) (s : Gh) (m : PM) : Nat → Array Bool → Act → Prop
  | 0, listed, a => Region.ready md ops listed = [] ∧ Q s m .normal a
  | fuel + 1, listed, a =>
    (Region.ready md ops listed = [] → Q s m .normal a) ∧
    ((∃ j, Region.ready md ops listed = [j] ∧ WaitsAll md ops j ∧ Region.ready md ops (listed.setIfInBounds j true) = [] ∧ OpsJ P Fin fn ops [j] Q s m a) ∨
     ∀ i ∈ Region.ready md ops listed, ∃ o v, ops[i]? = some o ∧ YldJ P fn ops m o v a ∧ AnyJ P Fin fn md ops Q s m fuel (listed.setIfInBounds i true) (a.put o.dst v))

theorem opsJ_yld {i : Nat} {rest : List Nat} {o : Oper} {v : Value} {a : Act} (ho : ops[i]? = some o) (hy : YldJ P fn ops m o v a) (h : OpsJ P Fin fn ops rest Q s m (a.put o.dst v)) : OpsJ P Fin fn ops (i :: rest) Q s m a := by
  rcases hy with ⟨hw, hv⟩ | ⟨hw, rfl⟩
  · exact opsJ_val ho hw fun w _ hH => ⟨v, w, m, (hv w hH).1, (hv w hH).2, h⟩
  · exact opsJ_unwanted ho hw h

theorem go_nil {fuel t : Nat} {listed : Array Bool} (h : Region.ready md ops listed = []) : Region.linearise.go md ops fuel t listed [] = [] := by
  cases fuel with
  | zero => simp [Region.linearise.go]
  | succ fuel =>
    simp only [Region.linearise.go]
    change (match (Region.ready md ops listed)[t % (Region.ready md ops listed).length]? with
      | some i => Region.linearise.go md ops fuel (t / (Region.ready md ops listed).length) (listed.setIfInBounds i true) [i]
      | none => [].reverse) = []
    rw [h]
    simp

theorem anyJ_sound : ∀ (fuel t : Nat) (listed : Array Bool) (a : Act), AnyJ P Fin fn md ops Q s m fuel listed a → OpsJ P Fin fn ops (Region.linearise.go md ops fuel t listed []) Q s m a := by
  intro fuel
  induction fuel with
  | zero => intro t listed a h; simpa [Region.linearise.go] using opsJ_nil h.2
  | succ fuel ih =>
    intro t listed a h
    obtain ⟨h₀, h₁⟩ := h
    simp only [Region.linearise.go]
    change OpsJ P Fin fn ops (match (Region.ready md ops listed)[t % (Region.ready md ops listed).length]? with
      | some i => Region.linearise.go md ops fuel (t / (Region.ready md ops listed).length) (listed.setIfInBounds i true) [i]
      | none => [].reverse) Q s m a
    cases hi : (Region.ready md ops listed)[t % (Region.ready md ops listed).length]? with
    | none =>
      have hnil : Region.ready md ops listed = [] := by
        cases hr : Region.ready md ops listed with
        | nil => rfl
        | cons x xs =>
          rw [hr] at hi
          have hlt : t % (x :: xs).length < (x :: xs).length := Nat.mod_lt _ (by simp)
          simp at hi
          simp at hlt
          omega
      simpa using opsJ_nil (h₀ hnil)
    | some i =>
      simp only []
      rw [linearise_go_acc, List.reverse_singleton, List.singleton_append]
      have hmem := List.mem_of_getElem? hi
      rcases h₁ with ⟨j, hr, _, hn, hO⟩ | h₁
      · rw [hr] at hmem
        obtain rfl : i = j := by simpa using hmem
        rw [go_nil hn]
        exact hO
      · obtain ⟨o, v, ho, hy, hA⟩ := h₁ i hmem
        exact opsJ_yld ho hy (ih _ _ _ hA)

theorem anyJ_first {i : Nat} {oi : Oper} {v : Value} (hi : ops[i]? = some oi) (hsel : ∀ (j : Nat) (o : Oper) cs b, ops[j]? = some o → o.op ≠ .select cs b) :
    ∀ (fuel : Nat) (listed : Array Bool) (a : Act),
      (∀ j oj, ops[j]? = some oj → j ≠ i → listed.getD j true = false → (∀ e ∈ oj.after, Region.binds md e = true → e.on ≠ i) → oi.apart ops oj = true) →
      ClosedL md ops listed → i ∈ Region.ready md ops listed → YldJ P fn ops m oi v a →
      AnyJ P Fin fn md ops Q s m fuel (listed.setIfInBounds i true) (a.put oi.dst v) → AnyJ P Fin fn md ops Q s m (fuel + 1) listed a := by
  intro fuel
  have hnot' : ∀ {listed : Array Bool} {j : Nat}, i ∈ Region.ready md ops listed → j ∈ Region.ready md ops listed → ∀ oj, ops[j]? = some oj → ∀ e ∈ oj.after, Region.binds md e = true → e.on ≠ i := by
    intro listed j hr hj oj hoj e he hb heq
    obtain ⟨hjun, oj', hoj', hall⟩ := mem_ready.1 hj
    rw [hoj] at hoj'
    obtain rfl := Option.some.inj hoj'
    have h1 := hall e he hb
    have h0 := (mem_ready.1 hr).1
    rw [heq] at h1
    rcases Nat.lt_or_ge i listed.size with h' | h'
    · simp [h'] at h0 h1; rw [h0] at h1; cases h1
    · simp [Array.getElem?_eq_none h'] at h1
  induction fuel with
  | zero =>
    intro listed a _ hcl hr hy H
    refine ⟨fun h => (by rw [h] at hr; cases hr), .inr fun j hj => ?_⟩
    by_cases hji : j = i
    · subst hji; exact ⟨oi, v, hi, hy, H⟩
    · have := ready_mono hj hji
      rw [H.1] at this
      cases this
  | succ fuel ih =>
    intro listed a hfree hcl hr hy H
    refine ⟨fun h => (by rw [h] at hr; cases hr), .inr fun j hj => ?_⟩
    by_cases hji : j = i
    · subst hji; exact ⟨oi, v, hi, hy, H⟩
    · have hjr := ready_mono hj hji
      rcases H.2 with ⟨j', hr', ⟨oj', hoj', hall⟩, _, _⟩ | H2
      · rw [hr'] at hjr
        obtain rfl : j = j' := by simpa using hjr
        have hilt : i < ops.size := (Array.getElem?_eq_some_iff.1 hi).1
        obtain ⟨hjun, oj'', hoj'', hjall⟩ := mem_ready.1 hj
        rw [hoj'] at hoj''
        obtain rfl := Option.some.inj hoj''
        have := hall (fun k => listed[k]? = some true) (fun e he hb => get_true (by simpa using hjall e he hb)) (fun k ok hk ho e he hb => hcl k ok hk ho e he hb) i hilt (fun h => hji h.symm)
        have h0 := (mem_ready.1 hr).1
        simp [this] at h0
      · obtain ⟨oj, vj, hoj, hyj, hA⟩ := H2 j hjr
        have hjun := (mem_ready.1 hj).1
        have hap := hfree j oj hoj hji (by
          have := (mem_ready.1 hj).1
          simpa using this) (hnot' hr hj oj hoj)
        obtain ⟨h1, h2, h3⟩ := Oper.apart_spec hap
        have hsi := fun cs b => hsel i oi cs b hi
        have hsj := fun cs b => hsel j oj cs b hoj
        have hyj' : YldJ P fn ops m oj vj a := hyj.of_same (execOp_put oj hsj a oi.dst v h1).symm (wanted_put oj a oi.dst v h1).symm
        have hyi' : YldJ P fn ops m oi v (a.put oj.dst vj) := hy.of_same (execOp_put oi hsi a oj.dst vj h3) (wanted_put oi a oj.dst vj h3)
        refine ⟨oj, vj, hoj, hyj', ih (listed.setIfInBounds j true) (a.put oj.dst vj) (fun k ok hk hki hun hno => ?_) ?_ (ready_mono hr (Ne.symm hji)) hyi' ?_⟩
        · refine hfree k ok hk hki ?_ hno
          by_cases hjk : j = k
          · subst hjk; simpa using hjun
          · rw [getD_set_ne true hjk] at hun; exact hun
        · intro k ok hk ho e he hb
          obtain ⟨_, oj'', hoj'', hjall⟩ := mem_ready.1 hj
          have up : ∀ q, listed[q]? = some true → (listed.setIfInBounds j true)[q]? = some true := fun q hq => by
            by_cases hqj : j = q
            · subst hqj; rw [Array.getElem?_setIfInBounds_self_of_lt (Array.getElem?_eq_some_iff.1 hq).1]
            · rw [Array.getElem?_setIfInBounds_ne hqj]; exact hq
          by_cases hkj : j = k
          · subst hkj
            rw [hoj''] at ho
            obtain rfl := Option.some.inj ho
            exact up _ (get_true (by simpa using hjall e he hb))
          · rw [Array.getElem?_setIfInBounds_ne hkj] at hk
            exact up _ (hcl k ok hk ho e he hb)
        · rw [Array.setIfInBounds_comm _ _ hji, Act.put_comm a v vj h2] at *
          exact hA

/-! ### the moves -/
theorem stepG_region_draw' {main : Bool} {b : Frame} {a : Act} {k : List Item} {cs : List Frame} {w : World} {id : Nat} :
    stepG P main (G (b.at a (.code (.region id ops true) :: k)) cs) w =
      .go (G (b.at a (.inRegion ops (Region.schedule (P.follows .mixedOrders) ops (w.tape w.drawn (.order b.fn id))) :: k)) cs) { w with drawn := w.drawn + 1 } := stepG_region_draw

theorem wpJ_region_draw {id : Nat} {a : Act} (hm : P.follows .mixedOrders = true) (h : AnyJ P Fin fn .any ops Q s m ops.size (Array.replicate ops.size false) a) : wpJ P Fin fn (.region id ops true) Q s m a := by
  intro b k cs hb hk hc
  refine .own rfl fun w _ hH => ?_
  rw [stepG_region_draw', goes_go]
  refine ⟨m, ⟨Nat.le_refl _, fun _ _ _ => rfl, fun β o e => ⟨hH β o e, .inl (by rw [e]; simp)⟩, fun e he => by simp at he, ⟨rfl, rfl⟩⟩, ?_⟩
  simp only [Region.schedule, hm, Bool.true_or, if_true]
  exact anyJ_sound ops.size _ _ a h b k cs hb hk hc

theorem anyJ_take {i : Nat} {oi : Oper} {v : Value} {fuel : Nat} {listed : Array Bool} {a : Act} (hi : ops[i]? = some oi) (hs : Region.noSelect ops = true) (hf : Region.free md ops listed i = true) (hr : (Region.ready md ops listed).contains i = true) (hcl : closedB md ops listed = true)
    (hy : YldJ P fn ops m oi v a) (h : AnyJ P Fin fn md ops Q s m fuel (listed.setIfInBounds i true) (a.put oi.dst v)) : AnyJ P Fin fn md ops Q s m (fuel + 1) listed a :=
  anyJ_first hi (Region.noSelect_spec hs) fuel listed a (Region.free_spec hi hf) (closed_of hcl) (by simpa using hr) hy h

theorem anyJ_done {listed : Array Bool} {a : Act} (hr : Region.ready md ops listed = []) (h : Q s m .normal a) : ∀ fuel, AnyJ P Fin fn md ops Q s m fuel listed a
  | 0 => ⟨hr, h⟩
  | _ + 1 => ⟨fun _ => h, .inr fun i hi => by rw [hr] at hi; cases hi⟩

theorem anyJ_last {j : Nat} {fuel : Nat} {listed : Array Bool} {a : Act} (hr : Region.ready md ops listed = [j]) (hw : WaitsAll md ops j) (hn : Region.ready md ops (listed.setIfInBounds j true) = []) (h : OpsJ P Fin fn ops [j] Q s m a) : AnyJ P Fin fn md ops Q s m (fuel + 1) listed a :=
  ⟨fun h0 => (by rw [hr] at h0; cases h0), .inl ⟨j, hr, hw, hn, h⟩⟩

theorem yld_pure {a : Act} {o : Oper} {v : Value} (hw : Region.wanted o (yielded ops a.tmps) = true) (hr : ∀ w, (execOp a.eval o).run P w = .ok (.value v) w) (he : ∀ w, (execOp a.eval o).events P w #[] = #[]) : YldJ P fn ops m o v a :=
  .inl ⟨hw, fun w hH => ⟨hr w, by rw [listed_none (he w)]; exact .idle hH⟩⟩

theorem yld_ldN {a : Act} {o : Oper} (hw : Region.wanted o (yielded ops a.tmps) = true) {t : TypeId} {x : Operand} (hop : o.op = .load t x) {β off : Nat} {C : Array Value} {ety : TypeId} {fr : Nat × Nat} {cs : List Value} {d : TypeDesc}
    (hx : a.eval x = .pointer (some ⟨β, off, none⟩)) (hm : m β = some (.cells C ety fr)) (hv : ∀ (j : Nat) (v : Value), cs[j]? = some v → C[off + j]? = some v) (hu : P.underlying t = some d) (hd : d.isRow = true) (hi : (P.info? t).map (·.size) = some cs.length) : YldJ P fn ops m o (.agg cs.toArray) a := by
  refine .inl ⟨hw, fun w hH => ?_⟩
  have hr := has_range hH hm hv
  have e1 := run_loadVar_mid w β off t cs d hr hu hd hi
  refine ⟨?_, .reads hH fun e he => ?_⟩
  · unfold execOp
    simp only [hop, hx, Instr.loadAt, Instr.sureAddr, Sem.run_bind, e1, Result.andThen_ok, Sem.run_pure]
  · have he := mem_listed he
    unfold execOp at he
    simp only [hop, hx, Instr.loadAt, Instr.sureAddr, Sem.events_bind, Sem.run_bind, Sem.run_pure, Sem.events_pure, Result.andThen_ok, e1, Result.evThen_ok] at he
    obtain ⟨ad, h1, h2⟩ := events_loadVar_mid hr hu hd hi e he
    exact ⟨ad, h1, by rw [h2, hm]; simp⟩
end
end Go.Proofs.Ytafnbmokegomaaa
