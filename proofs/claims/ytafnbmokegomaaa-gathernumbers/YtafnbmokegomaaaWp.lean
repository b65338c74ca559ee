/-
  THE CALCULUS OVER 'JM': rule for rule as the kit's walk in company, without counts, the world hidden behind one's own memory.
-/
import Derived.Test.YtafnbmokegomaaaJm
import Derived.Conc.CompanyDraw
set_option linter.unusedSimpArgs false
set_option linter.unusedVariables false
set_option linter.unusedSectionVars false
namespace Go.Proofs.Ytafnbmokegomaaa
open Go.Conc

section
variable {P : Program} [Io] {Fin : Value → World → Prop}

def Aft (P : Program) (Fin : Value → World → Prop) (s : Gh) (m : PM) (b : Frame) (k : List Item) (cs : List Frame) : Exit → Act → Prop
  | .normal, a => JM P Fin s m (G (b.at a k) cs)
  | .exit id, a => ∃ k', exitTo id k = some k' ∧ JM P Fin s m (G (b.at a k') cs)
  | .ret, a => ∀ todo, JM P Fin s m (G { b.at a todo with mode := .returning } cs)
  | _, _ => False

theorem Aft.push {s : Gh} {m : PM} {b : Frame} {x : Item} {k : List Item} {cs : List Frame} {e : Exit} {a : Act} (hx : x.plain = true) (he : e ≠ .normal) (h : Aft P Fin s m b k cs e a) : Aft P Fin s m b (x :: k) cs e a := by
  cases e with
  | normal => exact absurd rfl he
  | exit id => obtain ⟨k', hk, hg⟩ := h; exact ⟨k', by cases x <;> simp_all [exitTo, Item.plain], hg⟩
  | ret => exact h
  | goto l => exact h
  | panic ch => exact h
  | outgrown => exact h

/-- What is asked of the ways out. -/
abbrev QJ := Gh → PM → Exit → Act → Prop

/-- ████ THE JUDGEMENT OF A PIECE OF CODE. ████ -/
def wpJ (P : Program) (Fin : Value → World → Prop) (fn : FuncId) (c : Code) (Q : QJ) (s : Gh) (m : PM) (a : Act) : Prop :=
  ∀ (b : Frame) (k : List Item) (cs : List Frame), b.fn = fn → b.kind ≠ .early → (∀ s' m' e a', Q s' m' e a' → Aft P Fin s' m' b k cs e a') → JM P Fin s m (G (b.at a (.code c :: k)) cs)

def OpsJ (P : Program) (Fin : Value → World → Prop) (fn : FuncId) (ops : Array Oper) (todo : List Nat) (Q : QJ) (s : Gh) (m : PM) (a : Act) : Prop :=
  ∀ (b : Frame) (k : List Item) (cs : List Frame), b.fn = fn → b.kind ≠ .early → (∀ s' m' e a', Q s' m' e a' → Aft P Fin s' m' b k cs e a') → JM P Fin s m (G (b.at a (.inRegion ops todo :: k)) cs)

def QJ.then (K : Gh → PM → Act → Prop) (Q : QJ) : QJ
  | s, m, .normal, a => K s m a
  | s, m, e, a => Q s m e a
def QJ.inBlock (id : Nat) (Q : QJ) : QJ
  | s, m, .normal, a => Q s m .normal a
  | s, m, .exit i, a => if i = id then Q s m .normal a else Q s m (.exit i) a
  | s, m, e, a => Q s m e a

variable {fn : FuncId} {Q : QJ} {s : Gh} {m : PM} {a : Act}

theorem wpJ_mono {c : Code} {Q' : QJ} (h : wpJ P Fin fn c Q s m a) (hq : ∀ s m e a, Q s m e a → Q' s m e a) : wpJ P Fin fn c Q' s m a :=
  fun b k cs hb hk hc => h b k cs hb hk fun s' m' e a' q => hc _ _ _ _ (hq _ _ _ _ q)

theorem wpJ_skip (h : Q s m .normal a) : wpJ P Fin fn .skip Q s m a := fun b k cs _ _ hc => .quiet rfl (fun _ => stepG_skip) (hc _ _ _ _ h)
theorem wpJ_label {l : Nat} (h : Q s m .normal a) : wpJ P Fin fn (.label l) Q s m a := fun b k cs _ _ hc => .quiet rfl (fun _ => stepG_label) (hc _ _ _ _ h)
theorem wpJ_ret (h : Q s m .ret a) : wpJ P Fin fn .ret Q s m a := fun b k cs _ _ hc => .quiet rfl (fun _ => stepG_ret') (hc _ _ _ _ h _)
theorem wpJ_exit {id : Nat} (h : Q s m (.exit id) a) : wpJ P Fin fn (.exit id) Q s m a := fun b k cs _ _ hc => by
  obtain ⟨k', hk', hg⟩ := hc _ _ _ _ h
  exact .quiet rfl (fun _ => stepG_exit hk') hg

theorem wpJ_seq {x y : Code} (h : wpJ P Fin fn x (QJ.then (fun s' m' a' => wpJ P Fin fn y Q s' m' a') Q) s m a) : wpJ P Fin fn (.seq x y) Q s m a := by
  intro b k cs hb hk hc
  refine .quiet rfl (fun _ => stepG_seq) (h b (.code y :: k) cs hb hk fun s' m' e a' q => ?_)
  cases e with
  | normal => exact q b k cs hb hk hc
  | exit id => exact (hc _ _ _ _ q).push rfl (by simp)
  | ret => exact (hc _ _ _ _ q).push (x := .code y) rfl (by simp)
  | goto l => exact hc _ _ _ _ q
  | panic ch => exact hc _ _ _ _ q
  | outgrown => exact hc _ _ _ _ q

theorem wpJ_cond {c : Operand} {x y : Code} {t : Bool} (hc : a.eval c = .bool t) (h : wpJ P Fin fn (if t then x else y) Q s m a) : wpJ P Fin fn (.cond c x y) Q s m a :=
  fun b k cs hb hk hq => .quiet rfl (fun _ => stepG_cond hc) (h b k cs hb hk hq)

theorem wpJ_block {id : Nat} {c : Code} (h : wpJ P Fin fn c (QJ.inBlock id Q) s m a) : wpJ P Fin fn (.block id c) Q s m a := by
  intro b k cs hb hk hc
  refine .quiet rfl (fun _ => stepG_block) (h b (.inBlock id :: k) cs hb hk fun s' m' e a' q => ?_)
  cases e with
  | normal => exact .quiet rfl (fun _ => stepG_inBlock) (hc _ _ _ _ q)
  | exit id' =>
    by_cases hid : id' = id
    · simp only [QJ.inBlock, hid, if_true] at q
      exact ⟨k, by simp [exitTo, hid], hc _ _ _ _ q⟩
    · simp only [QJ.inBlock, hid, if_false] at q
      obtain ⟨k', hk', hg⟩ := hc _ _ _ _ q
      have : (id == id') = false := by simp; exact fun h => hid h.symm
      exact ⟨k', by simp [exitTo, this, hk'], hg⟩
  | ret => exact fun todo => hc _ _ _ _ q todo
  | goto l => exact hc _ _ _ _ q
  | panic ch => exact hc _ _ _ _ q
  | outgrown => exact hc _ _ _ _ q

theorem stepG_scope' {main : Bool} {b : Frame} {a : Act} {k : List Item} {cs : List Frame} {w : World} {c : Code} : stepG P main (G (b.at a (.code (.scope c) :: k)) cs) w = .go (G (b.at a (.code c :: .inScope c :: k)) cs) w := by simp [G, stepG, stepG.exec, Frame.at]
theorem stepG_inScope' {main : Bool} {b : Frame} {a : Act} {k : List Item} {cs : List Frame} {w : World} {c : Code} : stepG P main (G (b.at a (.inScope c :: k)) cs) w = .go (G (b.at a k) cs) w := by simp [G, stepG, stepG.exec, Frame.at]

/-- What may leave a scope: its end, a return. -/
def QJ.inScope (Q : QJ) : QJ
  | s, m, .normal, a => Q s m .normal a
  | s, m, .ret, a => Q s m .ret a
  | _, _, _, _ => False

theorem wpJ_scope {c : Code} (h : wpJ P Fin fn c (QJ.inScope Q) s m a) : wpJ P Fin fn (.scope c) Q s m a := by
  intro b k cs hb hk hc
  refine .quiet rfl (fun _ => stepG_scope') (h b (.inScope c :: k) cs hb hk fun s' m' e a' q => ?_)
  cases e with
  | normal => exact .quiet rfl (fun _ => stepG_inScope') (hc _ _ _ _ q)
  | ret => exact fun todo => hc _ _ _ _ q todo
  | exit id => exact q.elim
  | goto l => exact q.elim
  | panic ch => exact q.elim
  | outgrown => exact q.elim

/-- A loop, by a measure that every round lowers. -/
theorem wpJ_loop {c : Code} (I : Gh → PM → Act → Prop) (μ : Gh → PM → Act → Nat) (h₀ : I s m a)
    (round : ∀ s m a, I s m a → wpJ P Fin fn c (QJ.then (fun s' m' a' => I s' m' a' ∧ μ s' m' a' < μ s m a) Q) s m a) : wpJ P Fin fn (.loop c) Q s m a := by
  intro b k cs hb hk hc
  have key : ∀ N s m a, μ s m a ≤ N → I s m a → JM P Fin s m (G (b.at a (.code c :: .inLoop c :: k)) cs) := by
    intro N
    induction N with
    | zero =>
      intro s m a hμ hI
      refine round s m a hI b (.inLoop c :: k) cs hb hk fun s' m' e a' q => ?_
      cases e with
      | normal => exact absurd q.2 (by omega)
      | exit id => exact (hc _ _ _ _ q).push rfl (by simp)
      | ret => exact (hc _ _ _ _ q).push (x := .inLoop c) rfl (by simp)
      | goto l => exact hc _ _ _ _ q
      | panic ch => exact hc _ _ _ _ q
      | outgrown => exact hc _ _ _ _ q
    | succ N ih =>
      intro s m a hμ hI
      refine round s m a hI b (.inLoop c :: k) cs hb hk fun s' m' e a' q => ?_
      cases e with
      | normal => exact .quiet rfl (fun _ => stepG_inLoop) (ih s' m' a' (by have := q.2; omega) q.1)
      | exit id => exact (hc _ _ _ _ q).push rfl (by simp)
      | ret => exact (hc _ _ _ _ q).push (x := .inLoop c) rfl (by simp)
      | goto l => exact hc _ _ _ _ q
      | panic ch => exact hc _ _ _ _ q
      | outgrown => exact hc _ _ _ _ q
  exact .quiet rfl (fun _ => stepG_loop) (key _ s m a (Nat.le_refl _) h₀)

theorem wpJ_region {id : Nat} {ops : Array Oper} (h : OpsJ P Fin fn ops (List.range ops.size) Q s m a) : wpJ P Fin fn (.region id ops false) Q s m a :=
  fun b k cs hb hk hc => .quiet rfl (fun _ => stepG_region) (h b k cs hb hk hc)

theorem opsJ_nil {ops : Array Oper} (h : Q s m .normal a) : OpsJ P Fin fn ops [] Q s m a := fun b k cs _ _ hc => .quiet rfl (fun _ => stepG_region_end) (hc _ _ _ _ h)

/-- ████ ONE OPERATION. ████ -/
theorem opsJ_cons {ops : Array Oper} {i : Nat} {rest : List Nat} {o : Oper} (ho : ops[i]? = some o) (hw : Region.wanted o (yielded ops a.tmps) = true)
    (h : ∀ w, s.low ≤ w.heap.size → Has m w → ∀ K : Act → World → Prop, (∀ a' w' m', Turns w m w' m' (listed P fn a o w) → OpsJ P Fin fn ops rest Q s m' a' → K a' w') → uponK o a K ((execOp a.eval o).run P w)) : OpsJ P Fin fn ops (i :: rest) Q s m a := by
  intro b k cs hb hk hc
  refine .own rfl fun w hl hH => goes_oper_k ho hw hk fun K hK => ?_
  exact h w hl hH K fun a' w' m' T hO => hK a' w' ⟨m', hb ▸ T, hO b k cs hb hk hc⟩

theorem opsJ_unwanted {ops : Array Oper} {i : Nat} {rest : List Nat} {o : Oper} (ho : ops[i]? = some o) (hw : Region.wanted o (yielded ops a.tmps) = false)
    (h : OpsJ P Fin fn ops rest Q s m (a.put o.dst undef)) : OpsJ P Fin fn ops (i :: rest) Q s m a :=
  fun b k cs hb hk hc => .quiet rfl (fun _ => stepG_unwanted ho hw) (h b k cs hb hk hc)

/-! ### calls -/
def ResultsJ (P : Program) (fn : Func) (tmps : Array Value) (v : Value) : Prop := ∀ w, (results fn tmps).run P w = .ok v w ∧ (results fn tmps).events P w #[] = #[]

def bodyJ (P : Program) (fn : Func) (Post : Gh → PM → Value → Prop) : QJ
  | s, m, .normal, a | s, m, .ret, a => a.defers = [] ∧ ∃ v, ResultsJ P fn a.tmps v ∧ Post s m v
  | _, _, _, _ => False

/-- ████ A CONTRACT. ████ -/
def CallsJ (P : Program) (Fin : Value → World → Prop) (f : FuncId) (args : Array Value) (s : Gh) (m : PM) (Post : Gh → PM → Value → Prop) : Prop :=
  ∃ fn c, P.funcs[f]? = some fn ∧ (fn.name == "runtime.NumGoroutine") = false ∧ fn.body = some c ∧
    wpJ P Fin f c (bodyJ P fn Post) s m { tmps := args ++ Array.replicate (fn.ntmps - args.size) undef, defers := [] }

theorem callsJ_of {f : FuncId} {fn : Func} {c : Code} {args : Array Value} {Post : Gh → PM → Value → Prop} (hf : P.funcs[f]? = some fn) (hname : (fn.name == "runtime.NumGoroutine") = false) (hb : fn.body = some c)
    (h : wpJ P Fin f c (bodyJ P fn Post) s m { tmps := args ++ Array.replicate (fn.ntmps - args.size) undef, defers := [] }) : CallsJ P Fin f args s m Post := ⟨fn, c, hf, hname, hb, h⟩

/-- Through a call, at the model's own grain. -/
theorem JM.call {b : Frame} {k : List Item} {cs : List Frame} {ops : Array Oper} {i : Nat} {rest : List Nat} {o : Oper} {f : FuncId} {args : Array Operand} {ats : Array TypeId} {Post : Gh → PM → Value → Prop}
    (ho : ops[i]? = some o) (hw : Region.wanted o (yielded ops a.tmps) = true) (hk : b.kind ≠ .early) (hop : o.op = .call { callee := .value (.func f), args, argTypes := ats })
    (hcall : CallsJ P Fin f (args.map a.eval) s m Post)
    (hnext : ∀ s' m' v, Post s' m' v → JM P Fin s' m' (G (b.at (a.put o.dst v) (.inRegion ops rest :: k)) cs)) :
    JM P Fin s m (G (b.at a (.inRegion ops (i :: rest) :: k)) cs) := by
  obtain ⟨fn, c, hf, hname, hbody, hwp⟩ := hcall
  have hfin : ∀ v, (b.at a (.inRegion ops (i :: rest) :: k)).finish v = b.at (a.put o.dst v) (.inRegion ops rest :: k) := fun v => by rw [Frame.finish_at, ho]; rfl
  have hleave : ∀ (s' : Gh) (m' : PM) (a' : Act) (todo : List Item), (a'.defers = [] ∧ ∃ v, ResultsJ P fn a'.tmps v ∧ Post s' m' v) →
      JM P Fin s' m' (G { (base f).at a' todo with mode := .returning } (b.at a (.inRegion ops (i :: rest) :: k) :: cs)) := by
    rintro s' m' a' todo ⟨hd, v, hr, hp⟩
    refine .quiet rfl (fun w => ?_) (hnext s' m' v hp)
    rw [stepG_leave (b := base f) rfl hd hf (hr w).1 (hr w).2, hfin]
  refine .own rfl fun w _ hH => goes_call ho hw hk hop hf hname hbody ⟨m, .idle hH, ?_⟩
  refine hwp (base f) [] _ rfl (by simp [base]) fun s' m' e a' q => ?_
  cases e with
  | normal => exact .quiet rfl (fun _ => stepG_end) (hleave s' m' a' [] q)
  | ret => exact fun todo => hleave s' m' a' todo q
  | exit id => exact q.elim
  | goto l => exact q.elim
  | panic ch => exact q.elim
  | outgrown => exact q.elim

theorem opsJ_call {ops : Array Oper} {i : Nat} {rest : List Nat} {o : Oper} {f : FuncId} {args : Array Operand} {ats : Array TypeId} {Post : Gh → PM → Value → Prop}
    (ho : ops[i]? = some o) (hw : Region.wanted o (yielded ops a.tmps) = true) (hop : o.op = .call { callee := .value (.func f), args, argTypes := ats })
    (hcall : CallsJ P Fin f (args.map a.eval) s m Post) (hnext : ∀ s' m' v, Post s' m' v → OpsJ P Fin fn ops rest Q s' m' (a.put o.dst v)) : OpsJ P Fin fn ops (i :: rest) Q s m a :=
  fun b k cs hb hk hc => JM.call ho hw hk hop hcall fun s' m' v hp => hnext s' m' v hp b k cs hb hk hc
end
end Go.Proofs.Ytafnbmokegomaaa
