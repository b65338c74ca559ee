/- A state in a box of its own. -/
import Derived.Test.YtpkbkbllhpdfiaaGreatB32
import Derived.Test.YtpkbkbllhpdfiaaGreatSays
namespace Go.Proofs.YtpkbkbllhpdfiaaGreat.M
open Go.ChangeShapes Go.WideShapes Go.ChangeAt Go.RowKit Go.Proofs.YtpkbkbllhpdfiaaGreat.Walks Go.Proofs.YtpkbkbllhpdfiaaGreat.Mod
set_option linter.unusedVariables false
/-- a state lies in the box b -/
structure St39 (b : Nat) (s : St) (v : Value) (w : World) : Prop where
  p : w.cell? ⟨b, 0, none⟩ = some (.int .u32 s.pc)
  r : w.rangeAt b 1 (rgL s)
  c : ∀ k, k < 5 → w.cell? ⟨b, 33 + k, none⟩ = some (.int .u32 (s.c k))
  a : w.rangeAt b 0 (stL s v)
theorem St39.lt {b : Nat} {s : St} {v : Value} {w : World} (h : St39 b s v w) : b < w.heap.size := cell_lt h.p
theorem range_block {w w' : World} {b o : Nat} {cs : List Value} (h : w.rangeAt b o cs) (e : w'.heap[b]? = w.heap[b]?) : w'.rangeAt b o cs := fun j u hu => by
  rw [World.cell?_of_block (w := w) e]; exact h j u hu
theorem St39.block {b : Nat} {s : St} {v : Value} {w w' : World} (h : St39 b s v w) (e : w'.heap[b]? = w.heap[b]?) : St39 b s v w' :=
  ⟨by rw [World.cell?_of_block (w := w) e]; exact h.p, range_block h.r e, fun k hk => by rw [World.cell?_of_block (w := w) e]; exact h.c k hk, range_block h.a e⟩
theorem St39.fr {b : Nat} {s : St} {v : Value} {w w' : World} (h : St39 b s v w) (k : Fr w w') : St39 b s v w' := h.block (k.block b h.lt)
theorem St39.of {b : Nat} {s : St} {v : Value} {w : World} (h : w.rangeAt b 0 (stL s v)) : St39 b s v w := by
  have k := cells39 s v
  have g : ∀ j u, ((stL s v).toArray)[j]? = some u → w.cell? ⟨b, j, none⟩ = some u := fun j u hu => by
    have := h j u (by rw [← hu]; simp)
    rwa [Nat.zero_add] at this
  exact ⟨g 0 _ k.p, at_range s.r 32 b 1 w _ rfl fun i hi => g (1 + i) _ (k.r i hi), fun i hi => g (33 + i) _ (k.c i hi), h⟩
/-- a state that is stored in a box that is new -/
theorem wpList_st39 {ops : Array Oper} {rest : List Oper} {op : Oper} {a : Act} {Q : Exit → Act → World → Prop} (w1 : World) (hgd : op.guard = none) (x y : Operand) (ho : op.op = .store 44 x y) (s : St) (g1 cap1 : Nat)
    (hx : a.eval x = .pointer (some ⟨w1.heap.size, 0, none⟩)) (hy : a.eval y = .agg (stL s (.slice (some ⟨g1, 0, none⟩) 1024 cap1)).toArray)
    (h : ∀ W, Hid (St39 w1.heap.size s (.slice (some ⟨g1, 0, none⟩) 1024 cap1) W) → Hid (Fr w1 W) → wpList Tryz.prog ops Q rest (a.put op.dst undef) W) : wpList Tryz.prog ops Q (op :: rest) a (w1.alloc (.cells z39 44)) := by
  have T := (Box39.new w1).there.at0
  refine wpList_store_mid hgd 44 x y ho w1.heap.size 0 _ hx hy T size44 (all_oneCell_toArray (List.all_eq_true.1 (by rfl))) ?_
  refine h _ (St39.of ?_) (Fr.setCells w1.heap.size (Nat.le_refl _) _ 0 _ ((Fr.refl w1).alloc _))
  exact World.rangeAt_setCells_same _ w1.heap.size 0 _ T
end Go.Proofs.YtpkbkbllhpdfiaaGreat.M
