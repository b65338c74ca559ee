/- Arrays of 32 words: Go's == of two that are alike; a whole array that is loaded, and stored. -/
import Derived.Test.YtfhijdnbhbonpaaDoorMem
import Derived.Laws.StructEq
import Derived.ChangeKeysEq
import Derived.Deep.MidRow
import Derived.BigFrame
namespace Go.Proofs.YtfhijdnbhbonpaaDoor.Walks
open Go.ChangeShapes Go.WideShapes Go.ChangeAt Go.RowKit
set_option linter.unusedVariables false
/-- words as values -/
def wn (f : Nat → Nat) (n : Nat) : List Value := (List.range n).map fun i => .int .u32 ((f i : Nat) : Int)
theorem wn_len (f : Nat → Nat) (n : Nat) : (wn f n).length = n := by simp [wn]
theorem wn_size (f : Nat → Nat) (n : Nat) : (wn f n).toArray.size = n := by rw [List.size_toArray]; exact wn_len f n
theorem wn_at (f : Nat → Nat) (n j : Nat) (h : j < n) : (wn f n)[j]? = some (.int .u32 ((f j : Nat) : Int)) := by simp [wn, h]
theorem wn_arr (f : Nat → Nat) (n j : Nat) (h : j < n) : (wn f n).toArray[j]? = some (.int .u32 ((f j : Nat) : Int)) := by
  rw [List.getElem?_toArray]; exact wn_at f n j h
theorem wn_congr (f g : Nat → Nat) (n : Nat) (h : ∀ i, i < n → f i = g i) : wn f n = wn g n := by
  unfold wn
  exact List.map_congr_left fun i hi => by rw [h i (List.mem_range.1 hi)]
theorem wn_one (f : Nat → Nat) (n : Nat) : ∀ u ∈ wn f n, u.oneCell' = true := by
  intro u hu
  unfold wn at hu
  obtain ⟨i, _, rfl⟩ := List.mem_map.1 hu
  rfl
theorem plain23 : Tryd.prog.plainKey 26 = true := by kernel_rfl
theorem cells23' : Tryd.prog.cellsOf 26 = 1 := by kernel_rfl
theorem info23 : (Tryd.prog.info? 26).map (fun i => (i.zero, i.size, i.bytes)) = some (some (.int .u32 0), 1, 4) := by kernel_rfl
theorem size33 : (Tryd.prog.info? 27).map (·.size) = some 32 := by kernel_rfl
theorem items_run (f : Nat → Nat) (n : Nat) (W : World) : ∀ (l : List Nat), (∀ i ∈ l, i < n) → (Op.eqItems 9999 26 1 (wn f n).toArray (wn f n).toArray l).run Tryd.prog W = .ok true W
  | [], _ => by simp [Op.eqItems]
  | i :: l, h => by
    have e1 := run_part_plain W plain23 (xs := (wn f n).toArray) (off := i * 1) (v := .int .u32 ((f i : Nat) : Int)) (by rw [Nat.mul_one]; exact wn_arr f n i (h i (by simp)))
    have e3 := run_equalIn_int W 9998 26 .u32 .u32 ((f i : Nat) : Int) ((f i : Nat) : Int) Tryd.underlying26
    have ih := items_run f n W l (fun j hj => h j (by simp [hj]))
    simp only [Op.eqItems, Sem.run_bind, e1, e3, Result.andThen_ok]
    simpa using ih
theorem equal_arr (f : Nat → Nat) (W : World) : (Op.equalIn 10000 27 (.agg (wn f 32).toArray) (.agg (wn f 32).toArray)).run Tryd.prog W = .ok true W := by
  obtain ⟨j0, hi, _, _, _⟩ := info_parts info23
  rw [run_equalIn_array W 9999 _ _ Tryd.underlying27 hi, cells23', items_run f 32 W _ (fun i hi => by simpa using hi)]
theorem eql33 (f : Nat → Nat) (W : World) : (binOp .eql 27 (.agg (wn f 32).toArray) (.agg (wn f 32).toArray)).run Tryd.prog W = .ok (.bool true) W := by
  rw [run_eql_struct, equal_arr]; rfl
theorem neq33 (f : Nat → Nat) (W : World) : (binOp .neq 27 (.agg (wn f 32).toArray) (.agg (wn f 32).toArray)).run Tryd.prog W = .ok (.bool false) W := by
  rw [run_neq_struct, equal_arr]; rfl
/-- n words zs lie at A -/
structure ArrAt (A n : Nat) (zs : Nat → Nat) (w : World) : Prop where
  hw : ∀ i, i < n → w.cell? ⟨A, i, none⟩ = some (.int .u32 (zs i))
  zw : ∀ i, i < n → w.frozen? ⟨A, i, none⟩ = false
/-- nothing but the block A has turned -/
structure TouA (A : Nat) (w w' : World) : Prop where
  os : w'.os = w.os
  output : w'.output = w.output
  size : w'.heap.size = w.heap.size
  block : ∀ k, k ≠ A → w'.heap[k]? = w.heap[k]?
theorem TouA.set (A o : Nat) (w : World) (v : Value) : TouA A w (w.setCell ⟨A, o, none⟩ v) := ⟨rfl, rfl, by simp [World.setCell], fun k h => Below.heap_setCell _ _ _ _ h⟩
theorem TouA.sets (A : Nat) : ∀ (cs : List Value) (o : Nat) (w : World), TouA A w (w.setCells A o cs)
  | [], _, w => ⟨rfl, rfl, rfl, fun _ _ => rfl⟩
  | x :: cs, o, w => by
    have h := TouA.sets A cs (o + 1) (w.setCell ⟨A, o, none⟩ x)
    have k := TouA.set A o w x
    exact ⟨h.os.trans k.os, h.output.trans k.output, h.size.trans k.size, fun i hi => (h.block i hi).trans (k.block i hi)⟩
theorem FrB.toua {B A : Nat} {w w' : World} (h : TouA A w w') (hA : B ≤ A) : FrB B w w' := ⟨h.os, h.output, by rw [h.size]; exact Nat.le_refl _, fun k hk => h.block k (by omega)⟩
theorem RowAt.of_blocks {b d n f : Nat} {ws : Nat → Nat} {w w' : World} (h : RowAt b d n ws f w) (e1 : w'.heap[b]? = w.heap[b]?) (e2 : w'.heap[d]? = w.heap[d]?) : RowAt b d n ws f w' :=
  ⟨by rw [World.cell?_of_block (w := w) e1]; exact h.hs, by rw [World.cell?_of_block (w := w) e1]; exact h.hf, fun i hi => by rw [World.cell?_of_block (w := w) e2]; exact h.hw i hi,
    by rw [World.frozen?_of_block (w := w) e1]; exact h.z1, fun i hi => by rw [World.frozen?_of_block (w := w) e2]; exact h.zw i hi, h.ne, h.lt⟩
theorem MemAt.of_blocks {M b d f nx : Nat} {ws : Nat → Nat} {w w' : World} (h : MemAt M b d ws f nx w) (e0 : w'.heap[M]? = w.heap[M]?) (e1 : w'.heap[b]? = w.heap[b]?) (e2 : w'.heap[d]? = w.heap[d]?) : MemAt M b d ws f nx w' :=
  ⟨by rw [World.cell?_of_block (w := w) e0]; exact h.hr, by rw [World.cell?_of_block (w := w) e0]; exact h.hx, by rw [World.frozen?_of_block (w := w) e0]; exact h.zx, h.row.of_blocks e1 e2, h.nb, h.nd, h.lt⟩
section
variable {A n : Nat} {zs ys : Nat → Nat} {w w' : World}
theorem ArrAt.put (h : ArrAt A n zs w) (i v : Nat) (hi : i < n) : ArrAt A n (upd zs i v) (w.setCell ⟨A, i, none⟩ (.int .u32 (v : Int))) := by
  refine ⟨fun k hk => ?_, fun k hk => by simpa using h.zw k hk⟩
  by_cases e : k = i
  · subst e; rw [set_same (h.hw k hk), upd_at]
  · rw [set_other (fun x => e (by injection x with _ x; exact x.symm)), upd_off _ _ _ _ e]; exact h.hw k hk
theorem ArrAt.of_block (h : ArrAt A n zs w) (e : w'.heap[A]? = w.heap[A]?) : ArrAt A n zs w' :=
  ⟨fun i hi => by rw [World.cell?_of_block (w := w) e]; exact h.hw i hi, fun i hi => by rw [World.frozen?_of_block (w := w) e]; exact h.zw i hi⟩
theorem ArrAt.alike (h : ArrAt A n zs w) (k : w'.Alike w) : ArrAt A n zs w' := h.of_block (by rw [k.1])
theorem ArrAt.congr (h : ArrAt A n zs w) (e : ∀ i, i < n → zs i = ys i) : ArrAt A n ys w := ⟨fun i hi => by rw [← e i hi]; exact h.hw i hi, h.zw⟩
theorem ArrAt.frb {B : Nat} (h : ArrAt A n zs w) (t : FrB B w w') (hA : A < B) : ArrAt A n zs w' := h.of_block (t.block A hA)
theorem ArrAt.range (h : ArrAt A n zs w) : w.rangeAt A 0 (wn zs n) := fun j u hu => by
  have hj : j < n := by have := (List.getElem?_eq_some_iff.1 hu).1; rwa [wn_len] at this
  rw [wn_at zs n j hj] at hu
  injection hu with hu
  subst hu
  rw [Nat.zero_add]
  exact h.hw j hj
theorem ArrAt.there (h : ArrAt A n zs w) : w.there A 0 n := fun j hj => by
  rw [Nat.zero_add]
  exact ⟨by rw [h.hw j hj]; rfl, h.zw j hj⟩
theorem ArrAt.of_range (h : w.rangeAt A 0 (wn zs n)) (t : w.there A 0 n) : ArrAt A n zs w :=
  ⟨fun i hi => by have := h i _ (wn_at zs n i hi); rwa [Nat.zero_add] at this, fun i hi => by have := (t i hi).2; rwa [Nat.zero_add] at this⟩
theorem ArrAt.stored (h : ArrAt A n zs w) (f : Nat → Nat) : ArrAt A n f (w.setCells A 0 (wn f n)) :=
  ArrAt.of_range (World.rangeAt_setCells_same w A 0 (wn f n) (by rw [wn_len]; exact h.there)) (World.there_setCells h.there A 0 (wn f n))
end
theorem ArrAt.new (w : World) (f : Nat → Nat) (n : Nat) (T : TypeId) : ArrAt w.heap.size n f (w.alloc (.cells (wn f n).toArray T)) :=
  ⟨fun i hi => by rw [World.cell?_alloc_at _ _ _ _ rfl]; exact wn_arr f n i hi, fun i hi => by rw [World.frozen?_alloc_at _ _ _ _ rfl]⟩
/-- a whole array is loaded -/
theorem load_want {P : Program} {ops : Array Oper} {rest : List Oper} {op : Oper} {a : Act} {w : World} {Q : Exit → Act → World → Prop} (hw : Region.wanted op (yielded ops a.tmps) = true) (ty : TypeId) (x : Operand) (ho : op.op = .load ty x)
    (b o : Nat) (hx : a.eval x = .pointer (some ⟨b, o, none⟩)) (cs : List Value) (d : TypeDesc) (hc : w.rangeAt b o cs)
    (hu : P.underlying ty = some d) (hd : d.isRow = true) (hi : (P.info? ty).map (·.size) = some cs.length)
    (h : wpList P ops Q rest (a.put op.dst (.agg cs.toArray)) w) : wpList P ops Q (op :: rest) a w :=
  BigFrame.wpList_want hw fun _ hK => wp_load_mid ty x ho b o hx cs d hc hu hd hi (hK _ _ h)
/-- a whole array is stored -/
theorem wpList_arr {ops : Array Oper} {rest : List Oper} {op : Oper} {a : Act} {Q : Exit → Act → World → Prop} (W : World) (A : Nat) (zs : Nat → Nat) (T : ArrAt A 32 zs W) (hgd : op.guard = none) (x y : Operand) (ho : op.op = .store 27 x y) (f : Nat → Nat) (Y : Array Value) (hY : Y = (wn f 32).toArray)
    (hx : a.eval x = .pointer (some ⟨A, 0, none⟩)) (hy : a.eval y = .agg Y)
    (h : ∀ W', Hid (ArrAt A 32 f W') → Hid (TouA A W W') → wpList Tryd.prog ops Q rest (a.put op.dst undef) W') : wpList Tryd.prog ops Q (op :: rest) a W := by
  subst hY
  refine wpList_store_mid hgd 27 x y ho A 0 _ hx hy (by rw [wn_size]; exact T.there) (by rw [wn_size]; exact size33) (all_oneCell_toArray (wn_one f 32)) ?_
  exact h _ (T.stored f) (TouA.sets A _ 0 W)
end Go.Proofs.YtfhijdnbhbonpaaDoor.Walks
