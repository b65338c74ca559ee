/- An ask's cells in a box; the program's store and the document's side by side. -/
import Derived.Test.YtfhijdnbhbonpaaDoorRLoadAs
import Derived.Test.YtfhijdnbhbonpaaDoorRNew
import Derived.Test.YtfhijdnbhbonpaaDoorPair
namespace Go.Proofs.YtfhijdnbhbonpaaDoor.Walks
open Go.ChangeShapes Go.WideShapes Go.ChangeAt Go.RowKit
set_option linter.unusedVariables false
/-- cells l lie at A -/
structure BxAt (A : Nat) (l : List Value) (w : World) : Prop where
  hw : w.rangeAt A 0 l
  th : w.there A 0 l.length
section
variable {A : Nat} {l m : List Value} {w w' : World}
theorem BxAt.cell (h : BxAt A l w) {k : Nat} {u : Value} (hk : l[k]? = some u) : w.cell? ⟨A, k, none⟩ = some u := by have := h.hw k u hk; rwa [Nat.zero_add] at this
theorem BxAt.fz (h : BxAt A l w) {k : Nat} (hk : k < l.length) : w.frozen? ⟨A, k, none⟩ = false := by have := (h.th k hk).2; rwa [Nat.zero_add] at this
theorem BxAt.of_block (h : BxAt A l w) (e : w'.heap[A]? = w.heap[A]?) : BxAt A l w' :=
  ⟨fun k u hk => by rw [World.cell?_of_block (w := w) e]; exact h.hw k u hk, fun k hk => by rw [World.cell?_of_block (w := w) e, World.frozen?_of_block (w := w) e]; exact h.th k hk⟩
theorem BxAt.new (w : World) (l : List Value) (T : TypeId) : BxAt w.heap.size l (w.alloc (.cells l.toArray T)) :=
  ⟨fun k u hk => by rw [World.cell?_alloc_at _ _ _ _ rfl, Nat.zero_add, List.getElem?_toArray]; exact hk, fun k hk => by
    refine ⟨?_, by rw [World.frozen?_alloc_at _ _ _ _ rfl]⟩
    rw [World.cell?_alloc_at _ _ _ _ rfl, Nat.zero_add, List.getElem?_toArray, List.getElem?_eq_getElem hk]; rfl⟩
theorem BxAt.stored (h : BxAt A l w) (hm : m.length = l.length) : BxAt A m (w.setCells A 0 m) :=
  ⟨World.rangeAt_setCells_same w A 0 m (by rw [hm]; exact h.th), by rw [hm]; exact World.there_setCells h.th A 0 m⟩
theorem BxAt.put (h : BxAt A l w) (k : Nat) (v : Value) (hk : k < l.length) : BxAt A (l.set k v) (w.setCell ⟨A, k, none⟩ v) := by
  have hs : (w.cell? ⟨A, k, none⟩).isSome = true := by have := (h.th k hk).1; rwa [Nat.zero_add] at this
  obtain ⟨u, hu⟩ := Option.isSome_iff_exists.1 hs
  refine ⟨fun j x hj => ?_, fun j hj => ?_⟩
  · rw [Nat.zero_add]
    by_cases e : j = k
    · subst e
      rw [List.getElem?_set_self hk] at hj
      rw [set_same hu, hj]
    · rw [List.getElem?_set_ne (fun x => e x.symm)] at hj
      rw [set_other (fun x => e (by injection x with _ x; exact x.symm))]
      exact h.cell hj
  · rw [List.length_set] at hj
    rw [Nat.zero_add]
    have t := h.th j hj
    rw [Nat.zero_add] at t
    refine ⟨?_, by simpa using t.2⟩
    by_cases e : j = k
    · subst e; rw [set_same hu]; rfl
    · rw [set_other (fun x => e (by injection x with _ x; exact x.symm))]; exact t.1
theorem BxAt.words (h : BxAt A l w) (o n : Nat) (f : Nat → Nat) (e : ∀ i, i < n → l[o + i]? = some (.int .u32 ((f i : Nat) : Int))) : w.rangeAt A o (wn f n) := fun j v hj => by
  have hjn : j < n := by have := (List.getElem?_eq_some_iff.1 hj).1; rwa [wn_len] at this
  rw [wn_at f n j hjn] at hj
  injection hj with hj
  subst hj
  exact h.cell (e j hjn)
end
/-- an ask -/
structure Ak where
  kd : Int
  n : Int
  pc : Nat
  rs : Nat → Nat
  cs : Nat → Nat
/-- its cells -/
def Ak.l (a : Ak) : List Value := .int .i64 a.kd :: .int .i64 a.n :: .int .u32 (a.pc : Int) :: (wn a.rs 32 ++ wn a.cs 5)
structure Ak.In (a : Ak) : Prop where
  kd : In64 a.kd
  n : In64 a.n
  pc : a.pc < 4294967296
  rs : Wd 32 a.rs
  cs : Wd 5 a.cs
theorem Ak.len (a : Ak) : a.l.length = 40 := by simp [Ak.l, wn_len]
theorem Ak.one (a : Ak) : ∀ u ∈ a.l, u.oneCell' = true := by
  intro u hu
  unfold Ak.l at hu
  simp only [List.mem_cons, List.mem_append] at hu
  rcases hu with rfl | rfl | rfl | hu | hu
  · rfl
  · rfl
  · rfl
  · exact wn_one _ _ u hu
  · exact wn_one _ _ u hu
theorem Ak.atR (a : Ak) (i : Nat) (h : i < 32) : a.l[3 + i]? = some (.int .u32 ((a.rs i : Nat) : Int)) := by
  unfold Ak.l
  rw [show 3 + i = i + 3 by omega]
  show (wn a.rs 32 ++ wn a.cs 5)[i]? = _
  rw [List.getElem?_append_left (by rw [wn_len]; exact h), wn_at _ _ _ h]
theorem Ak.atC (a : Ak) (i : Nat) (h : i < 5) : a.l[35 + i]? = some (.int .u32 ((a.cs i : Nat) : Int)) := by
  unfold Ak.l
  rw [show 35 + i = (32 + i) + 3 by omega]
  show (wn a.rs 32 ++ wn a.cs 5)[32 + i]? = _
  rw [List.getElem?_append_right (by rw [wn_len]; omega), wn_len, show 32 + i - 32 = i by omega, wn_at _ _ _ h]
/-- the asks lie in memory -/
def AksIn (w : World) (A : Option Addr) (len : Nat) (q : Nat → Ak) : Prop :=
  ∀ j, j < len → ∃ b o, A = some ⟨b, o, none⟩ ∧ b < w.heap.size ∧ w.rangeAt b (o + j * 40) (q j).l ∧ (q j).In
theorem AksIn.frb {w w' : World} {A : Option Addr} {len : Nat} {q : Nat → Ak} (h : AksIn w A len q) (f : FrB w.heap.size w w') : AksIn w' A len q := by
  intro j hj
  obtain ⟨b, o, e, hb, c, r⟩ := h j hj
  exact ⟨b, o, e, Nat.lt_of_lt_of_le hb f.size, fun k u hk => by rw [f.cell _ _ hb]; exact c k u hk, r⟩
theorem size30 : (Tryd.prog.info? 30).map (·.size) = some 40 := by kernel_rfl
def zAk : Ak := ⟨0, 0, 0, w0, w0⟩
abbrev z40 : Array Value := #[.int .i64 0, .int .i64 0, .int .u32 0, .int .u32 0, .int .u32 0, .int .u32 0, .int .u32 0, .int .u32 0, .int .u32 0, .int .u32 0, .int .u32 0, .int .u32 0, .int .u32 0, .int .u32 0, .int .u32 0, .int .u32 0, .int .u32 0, .int .u32 0, .int .u32 0, .int .u32 0, .int .u32 0, .int .u32 0, .int .u32 0, .int .u32 0, .int .u32 0, .int .u32 0, .int .u32 0, .int .u32 0, .int .u32 0, .int .u32 0, .int .u32 0, .int .u32 0, .int .u32 0, .int .u32 0, .int .u32 0, .int .u32 0, .int .u32 0, .int .u32 0, .int .u32 0, .int .u32 0]
theorem z40_eq : z40 = zAk.l.toArray := by rfl
theorem BxAt.zero40 (w : World) (T : TypeId) : BxAt w.heap.size zAk.l (w.alloc (.cells z40 T)) := by rw [z40_eq]; exact BxAt.new w _ T
/-- a whole ask is stored -/
theorem wpList_box {ops : Array Oper} {rest : List Oper} {op : Oper} {a : Act} {Q : Exit → Act → World → Prop} (W : World) (A : Nat) (c e : Ak) (H : BxAt A c.l W) (hgd : op.guard = none) (x y : Operand) (ho : op.op = .store 30 x y) (Y : Array Value) (hY : Y = e.l.toArray)
    (hx : a.eval x = .pointer (some ⟨A, 0, none⟩)) (hy : a.eval y = .agg Y)
    (h : ∀ W', Hid (BxAt A e.l W') → Hid (TouA A W W') → wpList Tryd.prog ops Q rest (a.put op.dst undef) W') : wpList Tryd.prog ops Q (op :: rest) a W := by
  subst hY
  refine wpList_store_mid hgd 30 x y ho A 0 _ hx hy (by rw [List.size_toArray, e.len, ← c.len]; exact H.th) (by rw [List.size_toArray, e.len]; exact size30) (all_oneCell_toArray e.one) ?_
  exact h _ (H.stored (by rw [e.len, c.len])) (TouA.sets A _ 0 W)
/-- both stores, between B and C; nothing below B has turned -/
structure SPair (B C M b d M' b' d' : Nat) (ws : Nat → Nat) (f nx : Nat) (vs : Nat → Nat) (g ny : Nat) (w wr : World) : Prop where
  s1 : SAt M b d ws f nx wr
  s2 : SAt M' b' d' vs g ny wr
  fr : FrB B w wr
  lo : (B ≤ M ∧ B ≤ b ∧ B ≤ d) ∧ B ≤ M' ∧ B ≤ b' ∧ B ≤ d'
  hi : (M < C ∧ b < C ∧ d < C) ∧ M' < C ∧ b' < C ∧ d' < C
  ne : (M ≠ M' ∧ M ≠ b' ∧ M ≠ d') ∧ (b ≠ M' ∧ b ≠ b' ∧ b ≠ d') ∧ d ≠ M' ∧ d ≠ b' ∧ d ≠ d'
  bc : B ≤ C
  cs : C ≤ wr.heap.size
section
variable {B C M b d M' b' d' f nx g ny f' nx' g' ny' : Nat} {ws ws' vs vs' : Nat → Nat} {w wr w2 : World}
theorem SPair.lay {w1 : World} (h : SNew B M b d ws f nx w w1) (k : SNew w1.heap.size M' b' d' vs g ny w1 w2) (hB : B ≤ w1.heap.size) : SPair B w2.heap.size M b d M' b' d' ws f nx vs g ny w w2 := by
  obtain ⟨a1, a2, a3, a4, a5⟩ := h
  obtain ⟨c1, c2, c3, c4, c5⟩ := k
  have h1 := a1.hM
  have h2 := a1.hb
  have h3 := a1.hd
  have s := c2.size
  exact ⟨a1.frb c2 h1 h2 h3, c1, a2.trans (c2.mono hB), ⟨⟨a3, a4, a5⟩, by omega, by omega, by omega⟩, ⟨⟨by omega, by omega, by omega⟩, c1.hM, c1.hb, c1.hd⟩, ⟨⟨by omega, by omega, by omega⟩, ⟨by omega, by omega, by omega⟩, by omega, by omega, by omega⟩, by omega, Nat.le_refl _⟩
theorem SPair.now1 (h : SPair B C M b d M' b' d' ws f nx vs g ny w wr) (k : SNow M b d ws' f' nx' wr w2) : SPair B C M b d M' b' d' ws' f' nx' vs g ny w w2 := by
  obtain ⟨s1, s2, fr, lo, hi, ne, bc, cs⟩ := h
  refine ⟨k.1, s2.off k.2 ?_ ?_ ?_ ?_ ?_ ?_ ?_ ?_ ?_ s1.pM s1.pb s1.pd, fr.trans (k.2.frb lo.1.1 lo.1.2.1 lo.1.2.2 (by omega)), lo, hi, ne, bc, Nat.le_trans cs k.2.size⟩ <;> omega
theorem SPair.now2 (h : SPair B C M b d M' b' d' ws f nx vs g ny w wr) (k : SNow M' b' d' vs' g' ny' wr w2) : SPair B C M b d M' b' d' ws f nx vs' g' ny' w w2 := by
  obtain ⟨s1, s2, fr, lo, hi, ne, bc, cs⟩ := h
  refine ⟨s1.off k.2 ?_ ?_ ?_ ?_ ?_ ?_ ?_ ?_ ?_ s2.pM s2.pb s2.pd, k.1, fr.trans (k.2.frb lo.2.1 lo.2.2.1 lo.2.2.2 (by omega)), lo, hi, ne, bc, Nat.le_trans cs k.2.size⟩ <;> omega
theorem SPair.now1d (h : SPair B C M b d M' b' d' ws f nx vs g ny w wr) (k : SNow M b d ws' f' nx' wr.drew w2) : SPair B C M b d M' b' d' ws' f' nx' vs g ny w w2 := h.now1 k.drew
theorem SPair.past (h : SPair B C M b d M' b' d' ws f nx vs g ny w wr) (t : FrB C wr w2) : SPair B C M b d M' b' d' ws f nx vs g ny w w2 := by
  obtain ⟨s1, s2, fr, lo, hi, ne, bc, cs⟩ := h
  exact ⟨s1.frb t hi.1.1 hi.1.2.1 hi.1.2.2, s2.frb t hi.2.1 hi.2.2.1 hi.2.2.2, fr.trans (t.mono bc), lo, hi, ne, bc, Nat.le_trans cs t.size⟩
theorem SPair.alloc (h : SPair B C M b d M' b' d' ws f nx vs g ny w wr) (o : Obj) : SPair B C M b d M' b' d' ws f nx vs g ny w (wr.alloc o) := h.past ((FrB.alloc wr o).mono h.cs)
theorem SPair.arr {A : Nat} (h : SPair B C M b d M' b' d' ws f nx vs g ny w wr) (t : TouA A wr w2) (hA : C ≤ A) : SPair B C M b d M' b' d' ws f nx vs g ny w w2 := h.past (FrB.toua t hA)
theorem SPair.alike (h : SPair B C M b d M' b' d' ws f nx vs g ny w wr) (k : w2.Alike wr) : SPair B C M b d M' b' d' ws f nx vs g ny w w2 := h.past (FrB.alike k)
/-- a box behind both stores is as it was behind a call of the one, of the other -/
theorem SPair.blk1 (h : SPair B C M b d M' b' d' ws f nx vs g ny w wr) {A : Nat} (t : Tub wr.heap.size M b d wr w2) (hC : C ≤ A) (hA : A < wr.heap.size) : w2.heap[A]? = wr.heap[A]? := by
  have := h.hi
  exact t.block A hA (by omega) (by omega) (by omega)
theorem SPair.blk2 (h : SPair B C M b d M' b' d' ws f nx vs g ny w wr) {A : Nat} (t : Tub wr.heap.size M' b' d' wr w2) (hC : C ≤ A) (hA : A < wr.heap.size) : w2.heap[A]? = wr.heap[A]? := by
  have := h.hi
  exact t.block A hA (by omega) (by omega) (by omega)
end
/-- two boxes of words at X and X + 1 -/
structure Two (C X : Nat) (rr cc : Nat → Nat) (w : World) : Prop where
  a : ArrAt X 32 rr w
  c : ArrAt (X + 1) 5 cc w
  lo : C ≤ X
  hi : X + 1 < w.heap.size
section
variable {C X : Nat} {rr cc rr' cc' : Nat → Nat} {w w' : World}
theorem Two.new (w : World) (hC : C ≤ w.heap.size) : Two C w.heap.size w0 w0 ((w.alloc (.cells z32 27)).alloc (.cells z5 28)) := by
  have a := ArrAt.zero5 (w.alloc (.cells z32 27)) 28
  rw [show (w.alloc (.cells z32 27)).heap.size = w.heap.size + 1 by simp] at a
  exact ⟨(ArrAt.zero32 w 27).frb (FrB.alloc _ _) (by simp), a, hC, by simp⟩
theorem Two.put3 (h : Two C X rr cc w) (a : ArrAt X 32 rr' w') (t : TouA X w w') : Two C X rr' cc w' := ⟨a, h.c.toua t (by omega), h.lo, by rw [t.size]; exact h.hi⟩
theorem Two.put5 (h : Two C X rr cc w) (a : ArrAt (X + 1) 5 cc' w') (t : TouA (X + 1) w w') : Two C X rr cc' w' := ⟨h.a.toua t (by omega), a, h.lo, by rw [t.size]; exact h.hi⟩
theorem Two.blk (h : Two C X rr cc w) (e : ∀ A, C ≤ A → A < w.heap.size → w'.heap[A]? = w.heap[A]?) (s : w.heap.size ≤ w'.heap.size) : Two C X rr cc w' := by
  have := h.lo
  have := h.hi
  exact ⟨h.a.of_block (e _ (by omega) (by omega)), h.c.of_block (e _ (by omega) (by omega)), h.lo, by omega⟩
theorem Two.past (h : Two C X rr cc w) (t : FrB w.heap.size w w') : Two C X rr cc w' := h.blk (fun A _ hA => t.block A hA) t.size
theorem Two.toua (h : Two C X rr cc w) {A : Nat} (t : TouA A w w') (hA : X + 1 < A) : Two C X rr cc w' := ⟨h.a.toua t (by omega), h.c.toua t (by omega), h.lo, by rw [t.size]; exact h.hi⟩
theorem Two.rA (h : Two C X rr cc w) : w.rangeAt X 0 (wn rr 32) := h.a.range
theorem Two.rC (h : Two C X rr cc w) : w.rangeAt (X + 1) 0 (wn cc 5) := h.c.range
end
/-- Load of each side, its five answers by name -/
structure Tells (ws : Nat → Nat) (u : Nat) (rr cc : Nat → Nat) (n : Nat) (v : Bool) : Prop where
  u : tP ws = u
  r : tR ws = rr
  c : tC ws = cc
  n : tN ws = n
  v : ldV ws = v
theorem Tells.of (ws : Nat → Nat) : ∃ u rr cc n v, Tells ws u rr cc n v := ⟨_, _, _, _, _, rfl, rfl, rfl, rfl, rfl⟩
theorem load_is (M b d f nx : Nat) (ws : Nat → Nat) (u : Nat) (rr cc : Nat → Nat) (n : Nat) (v : Bool) (H : Hid (Tells ws u rr cc n v)) (hf : (f : Int) < 4611686018427386000) (w : World) (hS : Hid (SAt M b d ws f nx w)) :
    Calls Tryd.prog 14 #[.pointer (some ⟨M, 0, none⟩)] w fun e w' => e = .returned (.tuple #[.int .u32 (u : Int), .agg (wn rr 32).toArray, .agg (wn cc 5).toArray, .int .i64 (n : Int), .bool v]) ∧ SNow M b d (ldW ws) (ldF ws f) nx w w' := by
  obtain ⟨rfl, rfl, rfl, rfl, rfl⟩ := H.out
  exact load_as M b d f nx ws hf w hS
theorem rload_is (M b d f nx : Nat) (ws : Nat → Nat) (u : Nat) (rr cc : Nat → Nat) (n : Nat) (v : Bool) (H : Hid (Tells ws u rr cc n v)) (hf : (f : Int) < 4611686018427386000) (w : World) (hS : Hid (SAt M b d ws f nx w)) :
    Calls Tryd.prog 17 #[.pointer (some ⟨M, 0, none⟩)] w fun e w' => e = .returned (.tuple #[.int .u32 (u : Int), .agg (wn rr 32).toArray, .agg (wn cc 5).toArray, .int .i64 (n : Int), .bool v]) ∧ SNow M b d (ldW ws) (ldF ws f) nx w w' := by
  obtain ⟨rfl, rfl, rfl, rfl, rfl⟩ := H.out
  exact rload_as M b d f nx ws hf w hS
/-! Go's == of arrays of 32 and of 5 words -/
theorem equal_arr5 (f : Nat → Nat) (W : World) : (Op.equalIn 10000 28 (.agg (wn f 5).toArray) (.agg (wn f 5).toArray)).run Tryd.prog W = .ok true W := by
  obtain ⟨j0, hi, _, _, _⟩ := info_parts info23
  rw [run_equalIn_array W 9999 _ _ Tryd.underlying28 hi, cells23', items_run f 5 W _ (fun i hi => by simpa using hi)]
theorem eql5 (f : Nat → Nat) (W : World) : (binOp .eql 28 (.agg (wn f 5).toArray) (.agg (wn f 5).toArray)).run Tryd.prog W = .ok (.bool true) W := by
  rw [run_eql_struct, equal_arr5]; rfl
theorem neq5 (f : Nat → Nat) (W : World) : (binOp .neq 28 (.agg (wn f 5).toArray) (.agg (wn f 5).toArray)).run Tryd.prog W = .ok (.bool false) W := by
  rw [run_neq_struct, equal_arr5]; rfl
end Go.Proofs.YtfhijdnbhbonpaaDoor.Walks
