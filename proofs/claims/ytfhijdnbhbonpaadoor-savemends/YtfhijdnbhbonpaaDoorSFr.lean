/- A whole store of checkpoints in a world, its frame (below a block nothing but the store's own blocks has turned), and Go's copy of words onto an array of one's own. -/
import Derived.Test.YtfhijdnbhbonpaaDoorSNums
import Derived.Deep.RegionLaw
namespace Go.Proofs.YtfhijdnbhbonpaaDoor.Walks
open Go.ChangeShapes Go.WideShapes Go.ChangeAt Go.RowKit
set_option linter.unusedVariables false
/-- below block B nothing but the blocks M, b and d has turned -/
structure Tub (B M b d : Nat) (w w' : World) : Prop where
  os : w'.os = w.os
  output : w'.output = w.output
  size : w.heap.size ≤ w'.heap.size
  block : ∀ k, k < B → k ≠ M → k ≠ b → k ≠ d → w'.heap[k]? = w.heap[k]?
section
variable {B B' M b d : Nat} {u v w w' : World}
theorem Tub.refl (B M b d : Nat) (w : World) : Tub B M b d w w := ⟨rfl, rfl, Nat.le_refl _, fun _ _ _ _ _ => rfl⟩
theorem Tub.trans (h : Tub B M b d u v) (k : Tub B M b d v w) : Tub B M b d u w :=
  ⟨k.os.trans h.os, k.output.trans h.output, Nat.le_trans h.size k.size, fun i hi h0 h1 h2 => (k.block i hi h0 h1 h2).trans (h.block i hi h0 h1 h2)⟩
theorem Tub.mono (h : Tub B M b d w w') (hB : B' ≤ B) : Tub B' M b d w w' := ⟨h.os, h.output, h.size, fun k hk => h.block k (by omega)⟩
theorem Tub.then (h : Tub B M b d u v) (k : Tub B' M b d v w) (hB : B ≤ B') : Tub B M b d u w := h.trans (k.mono hB)
theorem Tub.of_tou (h : Tou M b d w w') (B : Nat) : Tub B M b d w w' := ⟨h.os, h.output, by rw [h.size]; exact Nat.le_refl _, fun k _ => h.block k⟩
theorem Tub.of_frb (h : FrB B w w') (M b d : Nat) : Tub B M b d w w' := ⟨h.os, h.output, h.size, fun k hk _ _ _ => h.block k hk⟩
theorem Tub.of_alike (h : w'.Alike w) (B M b d : Nat) : Tub B M b d w w' := Tub.of_frb (FrB.alike h) M b d
theorem Tub.alloc (w : World) (o : Obj) (M b d : Nat) : Tub w.heap.size M b d w (w.alloc o) := Tub.of_frb (FrB.alloc w o) M b d
theorem Tub.frb (h : Tub B M b d w w') (hM : B' ≤ M) (hb : B' ≤ b) (hd : B' ≤ d) (hB : B' ≤ B) : FrB B' w w' :=
  ⟨h.os, h.output, h.size, fun k hk => h.block k (by omega) (by omega) (by omega) (by omega)⟩
end
/-- a whole store: a memory of 79 words, its blocks there, the table laid -/
structure SAt (M b d : Nat) (ws : Nat → Nat) (f nx : Nat) (w : World) : Prop where
  mem : MemAt M b d ws f nx w
  hM : M < w.heap.size
  hb : b < w.heap.size
  hd : d < w.heap.size
  pM : 0 < M
  pb : 0 < b
  pd : 0 < d
  laid : Laid w
/-- the store is as it says behind it, and below the blocks that were there nothing but the store has turned -/
def SNow (M b d : Nat) (ws : Nat → Nat) (f nx : Nat) (w w' : World) : Prop := SAt M b d ws f nx w' ∧ Tub w.heap.size M b d w w'
section
variable {M b d f nx f' nx' B A n : Nat} {ws ws' zs ys : Nat → Nat} {u v w w' : World}
theorem SAt.mnow (h : SAt M b d ws f nx w) (k : MNow M b d ws' f' nx' w w') : SNow M b d ws' f' nx' w w' := by
  have s := k.2.size
  exact ⟨⟨k.1, by rw [s]; exact h.hM, by rw [s]; exact h.hb, by rw [s]; exact h.hd, h.pM, h.pb, h.pd, k.2.laid h.laid (by have := h.pM; omega) (by have := h.pb; omega) (by have := h.pd; omega)⟩, Tub.of_tou k.2 _⟩
theorem SAt.now (h : SAt M b d ws f nx w) (k : Now b d 79 ws' f' w w') : SNow M b d ws' f' nx w w' := h.mnow (h.mem.row_now k)
theorem SAt.alike (h : SAt M b d ws f nx w) (k : w'.Alike w) : SNow M b d ws f nx w w' := h.mnow (h.mem.alike k)
theorem SAt.frb (h : SAt M b d ws f nx w) (t : FrB B w w') (hM : M < B) (hb : b < B) (hd : d < B) : SAt M b d ws f nx w' := by
  have s := t.size
  have h1 := h.hM
  have h2 := h.hb
  have h3 := h.hd
  exact ⟨h.mem.frb t hM hb hd, by omega, by omega, by omega, h.pM, h.pb, h.pd, t.laid h.laid (by omega)⟩
theorem SAt.past (h : SAt M b d ws f nx w) (t : FrB w.heap.size w w') : SNow M b d ws f nx w w' := ⟨h.frb t h.hM h.hb h.hd, Tub.of_frb t _ _ _⟩
theorem SAt.alloc (h : SAt M b d ws f nx w) (o : Obj) : SNow M b d ws f nx w (w.alloc o) := h.past (FrB.alloc w o)
/-- an array of one's own turns -/
theorem SAt.arr (h : SAt M b d ws f nx w) (t : TouA A w w') (a0 : A ≠ M) (a1 : A ≠ b) (a2 : A ≠ d) (a3 : 0 < A) : SAt M b d ws f nx w' := by
  refine ⟨h.mem.of_blocks (t.block _ a0.symm) (t.block _ a1.symm) (t.block _ a2.symm), by rw [t.size]; exact h.hM, by rw [t.size]; exact h.hb, by rw [t.size]; exact h.hd, h.pM, h.pb, h.pd, ?_⟩
  obtain ⟨T, fr, hg⟩ := h.laid
  exact ⟨T, fr, by rw [t.block 0 (by omega)]; exact hg⟩
theorem SAt.congr (h : SAt M b d ws f nx w) (e : ∀ i, i < 79 → ws i = ws' i) (ef : f = f') (en : nx = nx') : SAt M b d ws' f' nx' w :=
  ⟨h.mem.congr e ef en, h.hM, h.hb, h.hd, h.pM, h.pb, h.pd, h.laid⟩
/-- another store, whose blocks are others, turns -/
theorem SAt.off {M' b' d' : Nat} (h : SAt M b d ws f nx w) (t : Tub w.heap.size M' b' d' w w') (a0 : M ≠ M') (a1 : M ≠ b') (a2 : M ≠ d') (c0 : b ≠ M') (c1 : b ≠ b') (c2 : b ≠ d') (e0 : d ≠ M') (e1 : d ≠ b') (e2 : d ≠ d') (p0 : 0 < M') (p1 : 0 < b') (p2 : 0 < d') : SAt M b d ws f nx w' := by
  have s := t.size
  have h1 := h.hM
  have h2 := h.hb
  have h3 := h.hd
  refine ⟨h.mem.of_blocks (t.block _ h1 a0 a1 a2) (t.block _ h2 c0 c1 c2) (t.block _ h3 e0 e1 e2), by omega, by omega, by omega, h.pM, h.pb, h.pd, ?_⟩
  obtain ⟨T, fr, hg⟩ := h.laid
  exact ⟨T, fr, by rw [t.block 0 (by omega) (by omega) (by omega) (by omega)]; exact hg⟩
theorem SNow.refl (h : SAt M b d ws f nx w) : SNow M b d ws f nx w w := ⟨h, Tub.refl _ _ _ _ _⟩
theorem SNow.trans (h : SNow M b d ws f nx u v) (k : SNow M b d ws' f' nx' v w) : SNow M b d ws' f' nx' u w := ⟨k.1, h.2.trans (k.2.mono h.2.size)⟩
theorem SNow.drew (h : SNow M b d ws f nx w.drew w') : SNow M b d ws f nx w w' := ⟨h.1, ⟨h.2.os, h.2.output, h.2.size, h.2.block⟩⟩
theorem SNow.congr (h : SNow M b d ws f nx w w') (e : ∀ i, i < 79 → ws i = ws' i) (ef : f = f') (en : nx = nx') : SNow M b d ws' f' nx' w w' := ⟨h.1.congr e ef en, h.2⟩
theorem ArrAt.tub (h : ArrAt A n zs w) (t : Tub B M b d w w') (hA : A < B) (a0 : A ≠ M) (a1 : A ≠ b) (a2 : A ≠ d) : ArrAt A n zs w' := h.of_block (t.block A hA a0 a1 a2)
theorem ArrAt.toua (h : ArrAt A n zs w) {A' : Nat} (t : TouA A' w w') (hA : A ≠ A') : ArrAt A n zs w' := h.of_block (t.block A hA)
/-- an array of words, as it is told -/
theorem ArrAt.told (h : ArrAt A n zs w) (T : TypeId) (D : TypeDesc) (hu : Tryd.prog.underlying T = some D) (hr : D.isRow = true) (hi : (Tryd.prog.info? T).map (·.size) = some n) : (loadVar T ⟨A, 0, none⟩).run Tryd.prog w = .ok (.agg (wn zs n).toArray) w :=
  run_loadVar_mid w A 0 T (wn zs n) _ h.range hu hr (by rw [wn_len]; exact hi)
end
/-- k words laid over an array from place o on -/
def ovr (zs : Nat → Nat) (o k : Nat) (ys : Nat → Nat) (i : Nat) : Nat := if o ≤ i ∧ i < o + k then ys (i - o) else zs i
theorem wn_succ (ys : Nat → Nat) (k : Nat) : wn ys (k + 1) = .int .u32 ((ys 0 : Nat) : Int) :: wn (fun i => ys (i + 1)) k := by
  unfold wn
  rw [List.range_succ_eq_map, List.map_cons, List.map_map]
  rfl
theorem ArrAt.over {A n : Nat} : ∀ (k : Nat) (ys : Nat → Nat) (o : Nat) (zs : Nat → Nat) (w : World), ArrAt A n zs w → o + k ≤ n → ArrAt A n (ovr zs o k ys) (w.setCells A o (wn ys k))
  | 0, ys, o, zs, w, h, _ => h.congr fun i hi => by unfold ovr; rw [if_neg (by omega)]
  | k + 1, ys, o, zs, w, h, hk => by
    rw [wn_succ]
    have q := ArrAt.over k (fun i => ys (i + 1)) (o + 1) _ _ (h.put o (ys 0) (by omega)) (by omega)
    refine q.congr fun i hi => ?_
    unfold ovr
    by_cases e : i = o
    · subst e; rw [if_neg (by omega), if_pos (by omega), upd_at, Nat.sub_self]
    · by_cases g : o + 1 ≤ i ∧ i < o + 1 + k
      · rw [if_pos g, if_pos (by omega)]
        show ys (i - (o + 1) + 1) = _
        rw [show i - (o + 1) + 1 = i - o by omega]
      · rw [if_neg g, if_neg (by omega), upd_off _ _ _ _ e]
/-- copy of k words that lie somewhere onto an array -/
theorem run_copyA (w : World) (ty : TypeId) (A n : Nat) (zs : Nat → Nat) (T : ArrAt A n zs w) (o k c : Nat) (ho : o + k ≤ n) (D p sc : Nat) (ys : Nat → Nat) (hsrc : ∀ j, j < k → w.cell? ⟨D, p + j, none⟩ = some (.int .u32 ((ys j : Nat) : Int))) :
    (Builtin.copy_ #[66, 66] ty #[.slice (some ⟨A, o, none⟩) k c, .slice (some ⟨D, p, none⟩) k sc]).run Tryd.prog w = .ok (goInt k) (w.setCells A o (wn ys k)) := by
  obtain ⟨i, hi, hz0, hz1, hz2⟩ := info_parts info23
  have hl := run_loadCells_list (P := Tryd.prog) w ⟨D, p, none⟩ (wn ys k) (fun j v hv => by
    have hj : j < k := by have := (List.getElem?_eq_some_iff.1 hv).1; rwa [wn_len] at this
    rw [wn_at ys k j hj] at hv
    injection hv with hv
    rw [Addr.add_mid, ← hv]
    exact hsrc j hj)
  have hst := run_storeCells_cells (P := Tryd.prog) A o (wn ys k) 0 w
    (fun j hj => by rw [wn_len] at hj; rw [T.hw _ (by omega)]; rfl) (fun j hj => by rw [wn_len] at hj; rw [T.zw _ (by omega)]) (wn_one ys k)
  rw [wn_len] at hl
  rw [Nat.add_zero] at hst
  simp [Builtin.copy_, run_underlying Tryd.underlying66, Builtin.lenOf, Builtin.firstCells, sizeOf, typeInfo, hi, hz1, hl, hst]
theorem step_copyA {ops : Array Oper} {o : Oper} {a : Act} {w : World} {K : Act → World → Prop} {Q : Exit → Act → World → Prop} {E : Prop} (hgd : o.guard = none) (d s : Operand)
    (ho : o.op = .call { callee := .builtin .copy, args := #[d, s], argTypes := #[66, 66] }) (A n : Nat) (zs : Nat → Nat) (T : ArrAt A n zs w) (q k c : Nat) (hq : q + k ≤ n) (D p sc : Nat) (ys : Nat → Nat)
    (hsrc : ∀ j, j < k → w.cell? ⟨D, p + j, none⟩ = some (.int .u32 ((ys j : Nat) : Int))) (hd : a.eval d = .slice (some ⟨A, q, none⟩) k c) (hs : a.eval s = .slice (some ⟨D, p, none⟩) k sc)
    (h : ∀ w', Hid (ArrAt A n (ovr zs q k ys) w') → Hid (TouA A w w') → K (a.put o.dst (goInt k)) w') :
    if Region.wanted o (yielded ops a.tmps) = true then Oper.wp Tryd.prog o a w K Q else E := by
  have hw : Region.wanted o (yielded ops a.tmps) = true := by simp [Region.wanted, hgd]
  rw [if_pos hw]
  have hrun := run_copyA w o.type A n zs T q k c hq D p sc ys hsrc
  unfold Oper.wp execOp
  simp only [ho, resolve, invoke, builtin, Sem.run_bind, Sem.run_pure, Result.andThen_ok, List.map_toArray, List.map_cons, List.map_nil, hd, hs, hrun]
  exact h _ (T.over k ys q zs w hq) (TouA.sets A _ q w)
/-- a whole array of n words is stored -/
theorem wpList_arrG (T : TypeId) (n : Nat) (hT : (Tryd.prog.info? T).map (·.size) = some n) {ops : Array Oper} {rest : List Oper} {op : Oper} {a : Act} {Q : Exit → Act → World → Prop} (W : World) (A : Nat) (zs : Nat → Nat) (H : ArrAt A n zs W) (hgd : op.guard = none) (x y : Operand) (ho : op.op = .store T x y) (f : Nat → Nat) (Y : Array Value) (hY : Y = (wn f n).toArray)
    (hx : a.eval x = .pointer (some ⟨A, 0, none⟩)) (hy : a.eval y = .agg Y)
    (h : ∀ W', Hid (ArrAt A n f W') → Hid (TouA A W W') → wpList Tryd.prog ops Q rest (a.put op.dst undef) W') : wpList Tryd.prog ops Q (op :: rest) a W := by
  subst hY
  refine wpList_store_mid hgd T x y ho A 0 _ hx hy (by rw [wn_size]; exact H.there) (by rw [wn_size]; exact hT) (all_oneCell_toArray (wn_one f n)) ?_
  exact h _ (H.stored f) (TouA.sets A _ 0 W)
theorem size27 : (Tryd.prog.info? 27).map (·.size) = some 32 := by kernel_rfl
theorem size28 : (Tryd.prog.info? 28).map (·.size) = some 5 := by kernel_rfl
theorem size54 : (Tryd.prog.info? 54).map (·.size) = some 39 := by kernel_rfl
abbrev z5 : Array Value := #[.int .u32 0, .int .u32 0, .int .u32 0, .int .u32 0, .int .u32 0]
abbrev z32 : Array Value := #[.int .u32 0, .int .u32 0, .int .u32 0, .int .u32 0, .int .u32 0, .int .u32 0, .int .u32 0, .int .u32 0, .int .u32 0, .int .u32 0, .int .u32 0, .int .u32 0, .int .u32 0, .int .u32 0, .int .u32 0, .int .u32 0, .int .u32 0, .int .u32 0, .int .u32 0, .int .u32 0, .int .u32 0, .int .u32 0, .int .u32 0, .int .u32 0, .int .u32 0, .int .u32 0, .int .u32 0, .int .u32 0, .int .u32 0, .int .u32 0, .int .u32 0, .int .u32 0]
abbrev z39 : Array Value := #[.int .u32 0, .int .u32 0, .int .u32 0, .int .u32 0, .int .u32 0, .int .u32 0, .int .u32 0, .int .u32 0, .int .u32 0, .int .u32 0, .int .u32 0, .int .u32 0, .int .u32 0, .int .u32 0, .int .u32 0, .int .u32 0, .int .u32 0, .int .u32 0, .int .u32 0, .int .u32 0, .int .u32 0, .int .u32 0, .int .u32 0, .int .u32 0, .int .u32 0, .int .u32 0, .int .u32 0, .int .u32 0, .int .u32 0, .int .u32 0, .int .u32 0, .int .u32 0, .int .u32 0, .int .u32 0, .int .u32 0, .int .u32 0, .int .u32 0, .int .u32 0, .int .u32 0]
theorem z5_eq : z5 = (wn w0 5).toArray := by rfl
theorem z32_eq : z32 = (wn w0 32).toArray := by rfl
theorem z39_eq : z39 = (wn w0 39).toArray := by rfl
theorem ArrAt.zero5 (w : World) (T : TypeId) : ArrAt w.heap.size 5 w0 (w.alloc (.cells z5 T)) := by rw [z5_eq]; exact ArrAt.new w w0 5 T
theorem ArrAt.zero32 (w : World) (T : TypeId) : ArrAt w.heap.size 32 w0 (w.alloc (.cells z32 T)) := by rw [z32_eq]; exact ArrAt.new w w0 32 T
theorem ArrAt.zero39 (w : World) (T : TypeId) : ArrAt w.heap.size 39 w0 (w.alloc (.cells z39 T)) := by rw [z39_eq]; exact ArrAt.new w w0 39 T
end Go.Proofs.YtfhijdnbhbonpaaDoor.Walks
