/-
  A REGION THAT DRAWS ITS ORDER AND MAKES BLOCKS, IN THE CALCULUS: every order is walked.
-/
import Derived.Test.YtafnbmokegomaaaCat
import Derived.Test.YtafnbmokegomaaaSameB
import Derived.Laws.MakeOwn
set_option linter.unusedSimpArgs false
set_option linter.unusedVariables false
set_option linter.unusedSectionVars false
namespace Go.Proofs.Ytafnbmokegomaaa
open Go.Conc Go.RowKit

section
variable {P : Program} [Io] {Fin : Value → World → Prop} {fn : FuncId} {Q : QJ} {s : Gh} {ops : Array Oper} {md : Region.Mode}

/-- An operation as a step of goroutine 0's own, whatever the world. -/
def StepJ (P : Program) (fn : FuncId) (ops : Array Oper) (s : Gh) (m : PM) (a : Act) (o : Oper) (K : PM → Act → Prop) : Prop :=
  Region.wanted o (yielded ops a.tmps) = true ∧ ∀ w, s.low ≤ w.heap.size → Has m w → ∃ v w' m', (execOp a.eval o).run P w = .ok (.value v) w' ∧ Turns w m w' m' (listed P fn a o w) ∧ K m' (a.put o.dst v)

/-- All orders of what is left. -/
def DrwJ (P : Program) (fn : FuncId) (md : Region.Mode) (ops : Array Oper) (Q : QJ) (s : Gh) : Nat → Array Bool → PM → Act → Prop
  | 0, listed, m, a => Region.ready md ops listed = [] ∧ Q s m .normal a
  | fuel + 1, listed, m, a => (Region.ready md ops listed = [] → Q s m .normal a) ∧
    ∀ i ∈ Region.ready md ops listed, ∃ o, ops[i]? = some o ∧ StepJ P fn ops s m a o (DrwJ P fn md ops Q s fuel (listed.setIfInBounds i true))

theorem drwJ_sound : ∀ (fuel t : Nat) (listed : Array Bool) (m : PM) (a : Act), DrwJ P fn md ops Q s fuel listed m a → OpsJ P Fin fn ops (Region.linearise.go md ops fuel t listed []) Q s m a := by
  intro fuel
  induction fuel with
  | zero => intro t listed m a h; simpa [Region.linearise.go] using opsJ_nil h.2
  | succ fuel ih =>
    intro t listed m a h
    obtain ⟨h₀, h₁⟩ := h
    simp only [Region.linearise.go]
    change OpsJ P Fin fn ops (match (Region.ready md ops listed)[t % (Region.ready md ops listed).length]? with
      | some i => Region.linearise.go md ops fuel (t / (Region.ready md ops listed).length) (listed.setIfInBounds i true) [i]
      | none => [].reverse) Q s m a
    cases hi : (Region.ready md ops listed)[t % (Region.ready md ops listed).length]? with
    | none =>
      have hnil : Region.ready md ops listed = [] := by
        cases hr : Region.ready md ops listed with
        | nil => rfl
        | cons x xs =>
          rw [hr] at hi
          have hlt : t % (x :: xs).length < (x :: xs).length := Nat.mod_lt _ (by simp)
          simp at hi
          simp at hlt
          omega
      simpa using opsJ_nil (h₀ hnil)
    | some i =>
      simp only []
      rw [linearise_go_acc, List.reverse_singleton, List.singleton_append]
      obtain ⟨o, ho, hw, hs⟩ := h₁ i (List.mem_of_getElem? hi)
      exact opsJ_val ho hw fun w hl hH => by
        obtain ⟨v, w', m', e1, e2, e3⟩ := hs w hl hH
        exact ⟨v, w', m', e1, e2, ih _ _ _ _ e3⟩

theorem wpJ_region_drw {id : Nat} {m : PM} {a : Act} (hm : P.follows .mixedOrders = true) (h : DrwJ P fn .any ops Q s ops.size (Array.replicate ops.size false) m a) : wpJ P Fin fn (.region id ops true) Q s m a := by
  intro b k cs hb hk hc
  refine .own rfl fun w _ hH => ?_
  rw [stepG_region_draw', goes_go]
  refine ⟨m, ⟨Nat.le_refl _, fun _ _ _ => rfl, fun β o e => ⟨hH β o e, .inl (by rw [e]; simp)⟩, fun e he => by simp at he, ⟨rfl, rfl⟩⟩, ?_⟩
  simp only [Region.schedule, hm, Bool.true_or, if_true]
  exact drwJ_sound ops.size _ _ m a h b k cs hb hk hc

variable {m : PM} {a : Act} {fuel : Nat} {listed' : Array Bool}
theorem drwJ_done (hr : Region.ready md ops listed' = []) (h : Q s m .normal a) : ∀ fuel, DrwJ P fn md ops Q s fuel listed' m a
  | 0 => ⟨hr, h⟩
  | _ + 1 => ⟨fun _ => h, fun i hi => by rw [hr] at hi; cases hi⟩
theorem drwJ_one {i : Nat} {o : Oper} (hr : Region.ready md ops listed' = [i]) (ho : ops[i]? = some o) (h : StepJ P fn ops s m a o (DrwJ P fn md ops Q s fuel (listed'.setIfInBounds i true))) : DrwJ P fn md ops Q s (fuel + 1) listed' m a :=
  ⟨fun e => (by rw [hr] at e; cases e), fun k hk => by
    rw [hr] at hk
    obtain rfl : k = i := by simpa using hk
    exact ⟨o, ho, h⟩⟩
theorem drwJ_two {i j : Nat} {o o' : Oper} (hr : Region.ready md ops listed' = [i, j]) (ho : ops[i]? = some o) (ho' : ops[j]? = some o') (h : StepJ P fn ops s m a o (DrwJ P fn md ops Q s fuel (listed'.setIfInBounds i true)))
    (h' : StepJ P fn ops s m a o' (DrwJ P fn md ops Q s fuel (listed'.setIfInBounds j true))) : DrwJ P fn md ops Q s (fuel + 1) listed' m a :=
  ⟨fun e => (by rw [hr] at e; cases e), fun k hk => by
    rw [hr] at hk
    rcases (by simpa using hk : k = i ∨ k = j) with rfl | rfl
    · exact ⟨o, ho, h⟩
    · exact ⟨o', ho', h'⟩⟩
theorem stepJ_pure {o : Oper} {K : PM → Act → Prop} {v : Value} (hw : Region.wanted o (yielded ops a.tmps) = true) (hr : ∀ w, (execOp a.eval o).run P w = .ok (.value v) w) (he : ∀ w, (execOp a.eval o).events P w #[] = #[]) (h : K m (a.put o.dst v)) : StepJ P fn ops s m a o K :=
  ⟨hw, fun w _ hH => ⟨v, w, m, hr w, by rw [listed_none (he w)]; exact .idle hH, h⟩⟩
theorem stepJ_new {o : Oper} {K : PM → Act → Prop} (hw : Region.wanted o (yielded ops a.tmps) = true) {f : Nat → Value} {ob : Obj} (hr : ∀ w, (execOp a.eval o).run P w = .ok (.value (f w.heap.size)) (w.alloc ob)) (he : ∀ w, (execOp a.eval o).events P w #[] = #[])
    (h : ∀ β, s.low ≤ β → m β = none → K (m.set β ob) (a.put o.dst (f β))) : StepJ P fn ops s m a o K :=
  ⟨hw, fun w hl hH => ⟨f w.heap.size, w.alloc ob, m.set w.heap.size ob, hr w, by rw [listed_none (he w)]; exact .new hH ob, h _ hl (by
    cases e : m w.heap.size with
    | none => rfl
    | some o => have := (Array.getElem?_eq_some_iff.1 (hH _ _ e)).1; omega)⟩⟩
end

/-! ### rows that are made -/
/-- A block of n items of instructions that were done. -/
def BlkP (m : PM) (β n : Nat) : Prop := ∃ (C : Array Value) (it : Nat → Rt), m β = some (.cells C 25 (0, 0)) ∧ C.size = n * 7 ∧ ∀ i, i < n → ∀ j v, (Rt.cs (it i))[j]? = some v → C[i * 7 + j]? = some v
theorem BlkP.row {m : PM} {β n cap : Nat} (h : BlkP m β n) : ∃ it, RowP m (.slice (some ⟨β, 0, none⟩) n cap) n it := by
  obtain ⟨C, it, h1, _, h3⟩ := h
  exact ⟨it, ⟨_, _, rfl⟩, fun _ => ⟨β, 0, C, 25, (0, 0), cap, rfl, h1, fun i hi j v e => by rw [Nat.zero_add]; exact h3 i hi j v e⟩⟩
theorem BlkP.ext {m m' : PM} {β n : Nat} (h : BlkP m β n) (hx : Ext m m') : BlkP m' β n := by
  obtain ⟨C, it, h1, h2⟩ := h
  exact ⟨C, it, hx _ _ h1, h2⟩
theorem BlkP.same {m m' : PM} {β n : Nat} (h : BlkP m β n) (hx : m' β = m β) : BlkP m' β n := by
  obtain ⟨C, it, h1, h2⟩ := h
  exact ⟨C, it, by rw [hx]; exact h1, h2⟩
def z25 : Rt := ⟨0, 0, 0, false, 0, 0, 0⟩
theorem zer25 : (Try.prog.info? 25).map (·.zero) = some (some (.agg z25.cs.toArray)) := by kernel_rfl
theorem BlkP.zero {m : PM} {β : Nat} (n : Nat) : BlkP (m.set β (.cells (madeCells z25.cs.toArray (n * 7)) 25 (0, 0))) β n := by
  refine ⟨_, fun _ => z25, PM.set_same _ _ _, size_madeCells _ _, fun i hi j v e => ?_⟩
  have hj : j < 7 := by
    have := (List.getElem?_eq_some_iff.1 e).1
    rwa [cs_len] at this
  unfold madeCells
  rw [Array.getElem?_map, Array.getElem?_range]
  have h7 : z25.cs.toArray.size = 7 := rfl
  have hm : (i * 7 + j) % z25.cs.toArray.size = j := by rw [h7]; omega
  rw [if_pos (by omega)]
  simp only [Option.map_some, hm]
  rw [List.getElem?_eq_some_iff] at e
  obtain ⟨h1, h2⟩ := e
  rw [← h2]
  congr 1
  have hj' : j < z25.cs.toArray.size := by rw [h7]; exact hj
  rw [getElem!_pos z25.cs.toArray j hj']
  rfl
/-- PC or Value of an item is stored. -/
theorem BlkP.put {m : PM} {β n i f : Nat} {x : Int} (h : BlkP m β n) (hi : i < n) (hf : f < 2) : ∃ C, m β = some (.cells C 25 (0, 0)) ∧ i * 7 + f < C.size ∧ BlkP (m.set β (.cells (C.setIfInBounds (i * 7 + f) (.int .u32 x)) 25 (0, 0))) β n := by
  obtain ⟨C, it, h1, h2, h3⟩ := h
  refine ⟨C, h1, by omega, _, fun q => if q = i then (if f = 0 then { it i with p := x } else { it i with v := x }) else it q, PM.set_same _ _ _, by rw [Array.size_setIfInBounds]; exact h2, fun q hq j v e => ?_⟩
  have hj : j < 7 := by
    have := (List.getElem?_eq_some_iff.1 e).1
    rwa [cs_len] at this
  by_cases hqi : q = i
  · subst hqi
    simp only [if_true] at e
    by_cases hjf : j = f
    · subst hjf
      rw [Array.getElem?_setIfInBounds_self_of_lt (by omega)]
      rcases (by omega : j = 0 ∨ j = 1) with rfl | rfl
      · rw [if_pos rfl] at e; exact e
      · rw [if_neg (by decide)] at e; exact e
    · rw [Array.getElem?_setIfInBounds_ne (by omega)]
      refine h3 q hi j v ?_
      rw [← e]
      rcases (by omega : f = 0 ∨ f = 1) with rfl | rfl
      · rw [if_pos rfl]
        rcases j with _ | j
        · exact absurd rfl hjf
        · rfl
      · rw [if_neg (by decide)]
        rcases j with _ | _ | j
        · rfl
        · exact absurd rfl hjf
        · rfl
  · simp only [hqi, if_false] at e
    rw [Array.getElem?_setIfInBounds_ne (by omega)]
    exact h3 q hq j v e
/-- make([]api.Retired, n) -/
theorem run_mk (n : Nat) (hn : n < 1000) (w : World) : (Instr.makeSlice 22 (.int .i64 (n : Int)) (.int .i64 (n : Int))).run Try.prog w = .ok (.slice (some ⟨w.heap.size, 0, none⟩) n n) (w.alloc (.cells (madeCells z25.cs.toArray (n * 7)) 25)) := by
  obtain ⟨ti, z, hi, hz, hzs, hsz, hby⟩ := info25_parts
  have e := zer25
  rw [hi] at e
  simp only [Option.map_some, Option.some.injEq] at e
  rw [hz] at e
  obtain rfl : z = .agg z25.cs.toArray := Option.some.inj e
  have := run_make (P := Try.prog) w 22 25 ti _ Try.underlying22 hi hz .i64 .i64 (n : Int) (n : Int) (by omega) (Int.le_refl _) (by rw [hby]; omega) (by omega)
  rw [this, hsz]
  rfl
theorem ev_mk (n : Nat) (hn : n < 1000) (w : World) (es : Array Event) : (Instr.makeSlice 22 (.int .i64 (n : Int)) (.int .i64 (n : Int))).events Try.prog w es = es := by
  obtain ⟨ti, z, hi, hz, hzs, hsz, hby⟩ := info25_parts
  exact events_make w 22 25 ti z Try.underlying22 hi hz .i64 .i64 (n : Int) (n : Int) (by omega) (Int.le_refl _) (by rw [hby]; omega) (by omega) (by rw [hby]; show n * 40 ≤ _; omega) es
end Go.Proofs.Ytafnbmokegomaaa
