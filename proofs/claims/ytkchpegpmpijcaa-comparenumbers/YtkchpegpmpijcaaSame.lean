/- Contract of the program's Same. -/
import Derived.Test.YtkchpegpmpijcaaEqs
import Derived.BigFrame
namespace Go.Proofs.Ytkchpegpmpijcaa.M
open Go.ChangeShapes Go.WideShapes Go.ChangeAt Go.RowKit Go.Proofs.Ytkchpegpmpijcaa.Walks
set_option linter.unusedVariables false
/-- a load of many cells, guarded or not -/
theorem load_want {P : Program} {ops : Array Oper} {rest : List Oper} {op : Oper} {a : Act} {w : World} {Q : Exit → Act → World → Prop} (hw : Region.wanted op (yielded ops a.tmps) = true) (ty : TypeId) (x : Operand) (ho : op.op = .load ty x)
    (b o : Nat) (hx : a.eval x = .pointer (some ⟨b, o, none⟩)) (cs : List Value) (d : TypeDesc) (hc : w.rangeAt b o cs)
    (hu : P.underlying ty = some d) (hd : d.isRow = true) (hi : (P.info? ty).map (·.size) = some cs.length)
    (h : wpList P ops Q rest (a.put op.dst (.agg cs.toArray)) w) : wpList P ops Q (op :: rest) a w :=
  BigFrame.wpList_want hw fun _ hK => wp_load_mid ty x ho b o hx cs d hc hu hd hi (hK _ _ h)
/-- a range in a block that is as it was -/
theorem range_block {w w' : World} {b o : Nat} {cs : List Value} (h : w.rangeAt b o cs) (e : w'.heap[b]? = w.heap[b]?) : w'.rangeAt b o cs := fun j u hu => by
  rw [World.cell?_of_block (w := w) e]; exact h j u hu
theorem range_fr {w w' : World} {b o : Nat} {cs : List Value} (h : w.rangeAt b o cs) (k : Fr w w') (hb : b < w.heap.size) : w'.rangeAt b o cs := range_block h (k.block b hb)
/-- a box that is new -/
theorem range_new (w : World) (cs : List Value) (t : TypeId) : (w.alloc (.cells cs.toArray t)).rangeAt w.heap.size 0 cs := fun j u hu => by
  rw [World.cell?_alloc_at _ _ _ _ rfl, Nat.zero_add, List.getElem?_toArray]; exact hu
theorem two_a (w : World) (cs ds : List Value) (t u : TypeId) : ((w.alloc (.cells cs.toArray t)).alloc (.cells ds.toArray u)).rangeAt w.heap.size 0 cs :=
  range_fr (range_new w cs t) ((Fr.refl _).alloc _) (by simp)
theorem two_b (w : World) (cs ds : List Value) (t u : TypeId) : ((w.alloc (.cells cs.toArray t)).alloc (.cells ds.toArray u)).rangeAt (w.heap.size + 1) 0 ds := by
  have h := range_new (w.alloc (.cells cs.toArray t)) ds u
  simpa using h
set_option maxRecDepth 100000 in
set_option maxHeartbeats 400000 in
theorem same_is (x y : Rt) (c : Bool) (hc : Hid (x.eq y = c)) (w : World) :
    Calls Try.prog 6 #[.agg x.cs.toArray, .agg y.cs.toArray] w fun e w' => e = .returned (.bool c) ∧ Fr w w' := by
  have E : ∀ W, (binOp .eql 24 (.agg x.cs.toArray) (.agg y.cs.toArray)).run Try.prog W = .ok (.bool c) W := fun W => by rw [eql24, hc.out]
  have R1 := hid (two_a w x.cs y.cs 24 24)
  have R2 := hid (two_b w x.cs y.cs 24 24)
  go_enter Try.func6, Try.ntmps6
  go_wp2_with (first
    | (refine load_want (by rfl) 24 _ rfl w.heap.size 0 rfl x.cs _ R1.out Try.underlying24 rfl size24 ?_)
    | (refine load_want (by rfl) 24 _ rfl (w.heap.size + 1) 0 rfl y.cs _ R2.out Try.underlying24 rfl size24 ?_))
  go_ret
  exact ⟨rfl, ((Fr.refl w).alloc _).alloc _⟩
end Go.Proofs.Ytkchpegpmpijcaa.M
