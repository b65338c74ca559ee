/-
  Pairs and Agree, of two rows of one's own.
-/
import Derived.Test.YtafnbmokegomaaaSndH
set_option linter.unusedSimpArgs false
set_option linter.unusedVariables false
set_option linter.unusedSectionVars false
namespace Go.Proofs.Ytafnbmokegomaaa
open Go.Conc Go.RowKit

theorem callsJ_mono {P : Program} [Io] {Fin : Value → World → Prop} {f : FuncId} {args : Array Value} {s : Gh} {m : PM} {Post Post' : Gh → PM → Value → Prop} (h : CallsJ P Fin f args s m Post) (hp : ∀ s m v, Post s m v → Post' s m v) : CallsJ P Fin f args s m Post' := by
  obtain ⟨fn, c, h1, h2, h3, h4⟩ := h
  refine ⟨fn, c, h1, h2, h3, wpJ_mono h4 fun s m e a q => ?_⟩
  cases e with
  | normal => exact ⟨q.1, q.2.choose, q.2.choose_spec.1, hp _ _ _ q.2.choose_spec.2⟩
  | ret => exact ⟨q.1, q.2.choose, q.2.choose_spec.1, hp _ _ _ q.2.choose_spec.2⟩
  | exit id => exact q.elim
  | goto l => exact q.elim
  | panic ch => exact q.elim
  | outgrown => exact q.elim

/-- the blocks of two rows -/
def rowsOf (m : PM) (a b : Value) : PM := fun γ => if a.ownBlock = some γ ∨ b.ownBlock = some γ then m γ else none
theorem rowsOf_le {m : PM} {a b : Value} : ∀ γ o, rowsOf m a b γ = some o → m γ = some o := fun γ o e => by
  unfold rowsOf at e
  split at e
  · exact e
  · cases e
theorem RowP.left {m : PM} {a b : Value} {n : Nat} {it : Nat → Rt} (h : RowP m a n it) : RowP (rowsOf m a b) a n it :=
  ⟨h.1, fun h0 => let ⟨β, off, C, ety, fr, cap, h1, h2, h3⟩ := h.2 h0; ⟨β, off, C, ety, fr, cap, h1, by unfold rowsOf; rw [if_pos (.inl (by rw [h1]; rfl))]; exact h2, h3⟩⟩
theorem RowP.right {m : PM} {a b : Value} {n : Nat} {it : Nat → Rt} (h : RowP m b n it) : RowP (rowsOf m a b) b n it :=
  ⟨h.1, fun h0 => let ⟨β, off, C, ety, fr, cap, h1, h2, h3⟩ := h.2 h0; ⟨β, off, C, ety, fr, cap, h1, by unfold rowsOf; rw [if_pos (.inr (by rw [h1]; rfl))]; exact h2, h3⟩⟩
theorem RowP.ext {m m' : PM} {a : Value} {n : Nat} {it : Nat → Rt} (h : RowP m a n it) (hx : Ext m m') : RowP m' a n it :=
  ⟨h.1, fun h0 => let ⟨β, off, C, ety, fr, cap, h1, h2, h3⟩ := h.2 h0; ⟨β, off, C, ety, fr, cap, h1, hx _ _ h2, h3⟩⟩

/-- one for each side -/
def ofB {α : Type} (x y : α) (b : Bool) : α := if b then y else x

section
variable [Io] {Fin : Value → World → Prop}
theorem pairs_m {sh sf : Nat → Prop} {A B : Value} {m : PM} {nA nB : Nat} {x y : Nat → Rt} (hA : RowP m A nA x) (hB : RowP m B nB y) (ha : nA < 1000000000000) (hb : nB < 1000000000000) :
    CallsJ Try.prog Fin 9 #[A, B] (.out sh sf false none) m fun s' m' r => (∃ sh' sf', s' = .out sh' sf' false none) ∧ ∃ v l, r = .tuple #[v, .int .i64 ((l : Nat) : Int)] ∧ l + 2 * min nA nB = nA + nB ∧
      OwnP m' 34 14 v (min nA nB) (pcs (ofB x y) (min nA nB)) ∧ (∀ g, v.ownBlock = some g → m g = none) ∧ Ext m m' := by
  have hbig : ∀ b, ofB nA nB b < 1000000000000 := fun b => match b with
    | false => ha
    | true => hb
  refine callsJ_mono (pairs_j A B m (rowsOf m A B) (ofB nA nB) (ofB x y) rowsOf_le hbig (hsnd_of hbig hA.left hB.right)) ?_
  rintro _ m' _ ⟨W, k, l, v, rfl, ⟨b, hk, hl⟩, rfl, ho, hf, hx⟩
  have e : k = min nA nB ∧ l + 2 * min nA nB = nA + nB := by
    cases b
    · have h1 : k = nA := hk
      have h2 : nB = k + l := hl
      omega
    · have h1 : k = nB := hk
      have h2 : nA = k + l := hl
      omega
  exact ⟨⟨_, _, rfl⟩, v, l, rfl, e.2, e.1 ▸ ho, hf, hx⟩
theorem agree_m {sh sf : Nat → Prop} {A B : Value} {m : PM} {nA nB : Nat} {x y : Nat → Rt} (hA : RowP m A nA x) (hB : RowP m B nB y) (ha : nA < 1000000000000) (hb : nB < 1000000000000) :
    CallsJ Try.prog Fin 8 #[A, B] (.out sh sf false none) m fun s' m' r => (∃ sh' sf', s' = .out sh' sf' false none) ∧
      r = .tuple #[.int .i64 (((agr (ofB x y) (min nA nB)).2 : Nat) : Int), .bool ((agr (ofB x y) (min nA nB)).1 && decide (nA = nB))] ∧ Ext m m' := by
  have hbig : ∀ b, ofB nA nB b < 1000000000000 := fun b => match b with
    | false => ha
    | true => hb
  refine callsJ_mono (agree_j A B m (rowsOf m A B) (ofB nA nB) (ofB x y) rowsOf_le hbig (hsnd_of hbig hA.left hB.right)) ?_
  rintro _ m' _ ⟨W, k, l, rfl, ⟨b, hk, hl⟩, rfl, hx⟩
  have e : k = min nA nB ∧ decide (l = 0) = decide (nA = nB) := by
    cases b
    · have h1 : k = nA := hk
      have h2 : nB = k + l := hl
      exact ⟨by omega, by congr 1; apply propext; omega⟩
    · have h1 : k = nB := hk
      have h2 : nA = k + l := hl
      exact ⟨by omega, by congr 1; apply propext; omega⟩
  exact ⟨⟨_, _, rfl⟩, by rw [e.2, e.1], hx⟩
end
end Go.Proofs.Ytafnbmokegomaaa
