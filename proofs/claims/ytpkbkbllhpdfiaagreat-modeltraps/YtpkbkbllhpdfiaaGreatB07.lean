/- Mach: What a machine of the program is in memory. Small: Contracts of the program's small methods: goesTo, goesOn, trapped, written, writes. Jump: Contracts of the program's writes, jumps, branches, loads. RMach: What a machine of the document is in memory. RSmall: Contracts of the document's trap, put, jump. RJump: Contract of the document's jump. RPut: The document's put, and what its world is behind it. RDoP: The document's do: ops that write a register. -/
import Derived.Test.YtpkbkbllhpdfiaaGreatB02
import Derived.Test.YtpkbkbllhpdfiaaGreatB01
import Derived.Deep.RegionWith
import Derived.Deep.QuietTactic
import Derived.BigQuiet
import Derived.Test.YtpkbkbllhpdfiaaGreatB04
import Derived.Test.YtpkbkbllhpdfiaaGreatB03
import Derived.Test.YtpkbkbllhpdfiaaGreatB06
namespace Go.Proofs.YtpkbkbllhpdfiaaGreat.M
open Go.ChangeShapes Go.WideShapes Go.ChangeAt Go.RowKit Go.Proofs.YtpkbkbllhpdfiaaGreat.Walks Go.Proofs.YtpkbkbllhpdfiaaGreat.Mod
set_option linter.unusedVariables false
theorem hid {p : Prop} (h : p) : Hid p := h
theorem alike_refl (w : World) : w.Alike w := ⟨rfl, rfl, rfl⟩
theorem set_other {w : World} {a b : Addr} {v : Value} (h : a ≠ b) : (w.setCell a v).cell? b = w.cell? b := by
  first | exact World.cell?_setCell_other _ _ _ _ h | exact World.cell?_setCell_other _ _ _ h
theorem set_same {w : World} {a : Addr} {u v : Value} (h : w.cell? a = some u) : (w.setCell a v).cell? a = some v := by
  first | exact World.cell?_setCell_same _ _ _ h | exact World.cell?_setCell_same _ _ _ _ h
theorem addr_ne {B i j : Nat} (h : i ≠ j) : (⟨B, i, none⟩ : Addr) ≠ ⟨B, j, none⟩ := fun e => h (by injection e)
theorem cell_lt {w : World} {B o : Nat} {v : Value} (h : w.cell? ⟨B, o, none⟩ = some v) : B < w.heap.size := World.block_lt_of_cell? w ⟨B, o, none⟩ h
/-- the cells of what a step tells -/
abbrev rc (p v d : Int) (s : Bool) (a y k : Int) : Array Value := #[.int .u32 p, .int .u32 v, .int .i64 d, .bool s, .int .u32 a, .int .u32 y, .int .i64 k]
/-- a box for it -/
abbrev z7 : Array Value := rc 0 0 0 false 0 0 0
/-- nothing but block B, and the block of the row v, has turned; there may be new ones -/
structure Chg (B : Nat) (v : Value) (w w' : World) : Prop where
  os : w'.os = w.os
  output : w'.output = w.output
  size : w.heap.size ≤ w'.heap.size
  block : ∀ k, k < w.heap.size → k ≠ B → v.ownBlock ≠ some k → w'.heap[k]? = w.heap[k]?
theorem Chg.refl (B : Nat) (v : Value) (w : World) : Chg B v w w := ⟨rfl, rfl, Nat.le_refl _, fun _ _ _ _ => rfl⟩
theorem Chg.trans {B : Nat} {v : Value} {u w w' : World} (h : Chg B v u w) (k : Chg B v w w') : Chg B v u w' :=
  ⟨k.os.trans h.os, k.output.trans h.output, Nat.le_trans h.size k.size, fun i a b c => (k.block i (Nat.lt_of_lt_of_le a h.size) b c).trans (h.block i a b c)⟩
theorem Chg.fr {B : Nat} {v : Value} {u w w' : World} (h : Chg B v u w) (k : Fr w w') : Chg B v u w' :=
  ⟨k.os.trans h.os, k.output.trans h.output, Nat.le_trans h.size k.size, fun i a b c => (k.block i (Nat.lt_of_lt_of_le a h.size)).trans (h.block i a b c)⟩
theorem Chg.alike {B : Nat} {v : Value} {u w w' : World} (h : Chg B v u w) (k : w'.Alike w) : Chg B v u w' := h.fr ((Fr.refl w).alike k)
theorem Chg.alloc {B : Nat} {v : Value} {u w : World} (h : Chg B v u w) (o : Obj) : Chg B v u (w.alloc o) := h.fr ((Fr.refl w).alloc o)
theorem Chg.set {B : Nat} {v : Value} {u w : World} (h : Chg B v u w) (o : Nat) (x : Value) : Chg B v u (w.setCell ⟨B, o, none⟩ x) :=
  h.trans ⟨rfl, rfl, by simp [World.setCell], fun k _ e _ => Below.heap_setCell _ _ _ k e⟩
/-- a store into a block that is new -/
theorem Chg.setNew {B : Nat} {v : Value} {u w : World} (h : Chg B v u w) (b o : Nat) (x : Value) (hb : u.heap.size ≤ b) : Chg B v u (w.setCell ⟨b, o, none⟩ x) :=
  ⟨h.os, h.output, by rw [World.size_setCell]; exact h.size, fun k a e f => (Below.heap_setCell _ _ _ k (by show k ≠ b; omega)).trans (h.block k a e f)⟩
theorem Chg.cell {B : Nat} {v : Value} {w w' : World} (h : Chg B v w w') (k o : Nat) (h0 : k < w.heap.size) (h1 : k ≠ B) (h2 : v.ownBlock ≠ some k) : w'.cell? ⟨k, o, none⟩ = w.cell? ⟨k, o, none⟩ := World.cell?_of_block (w := w) (h.block k h0 h1 h2)
/-- a machine of the program lies at block B, what it told in the row v -/
structure MAt (B : Nat) (s : St) (v : Value) (w : World) : Prop where
  pc : w.cell? ⟨B, 0, none⟩ = some (.int .u32 s.pc)
  r : ∀ k, k < 32 → w.cell? ⟨B, 1 + k, none⟩ = some (.int .u32 (s.r k))
  c : ∀ k, k < 5 → w.cell? ⟨B, 33 + k, none⟩ = some (.int .u32 (s.c k))
  m : ∀ k, k < 1024 → w.cell? ⟨B, 38 + k, none⟩ = some (.int .u32 (s.m k))
  t : w.cell? ⟨B, 1062, none⟩ = some v
  n : w.cell? ⟨B, 1063, none⟩ = some (.int .i64 s.n)
  h : w.cell? ⟨B, 1064, none⟩ = some (.bool s.h)
  x : w.cell? ⟨B, 1065, none⟩ = some (.int .u32 s.x)
  z : ∀ k, k < 1066 → w.frozen? ⟨B, k, none⟩ = false
  tr : w.ownsRow 0 36 1 v s.t.length (s.t.map (Value.int .u32))
  ne : v.ownBlock ≠ some B
theorem MAt.lt {B : Nat} {s : St} {v : Value} {w : World} (h : MAt B s v w) : B < w.heap.size := cell_lt h.pc
theorem own_block {w w' : World} {v : Value} {n : Nat} {xs : List Value} (h : w.ownsRow 0 36 1 v n xs) (e : ∀ g, v.ownBlock = some g → w'.heap[g]? = w.heap[g]?) : w'.ownsRow 0 36 1 v n xs := by
  refine ⟨h.1, ?_⟩
  rcases h.2 with h | ⟨g, cap, cur, rfl, h2, h3, h4⟩
  · exact .inl h
  · exact .inr ⟨g, cap, cur, rfl, h2, by rw [e g rfl]; exact h3, h4⟩
/-- the machine's two blocks are as they were -/
theorem MAt.block {B : Nat} {s : St} {v : Value} {w w' : World} (h : MAt B s v w) (e : w'.heap[B]? = w.heap[B]?) (f : ∀ g, v.ownBlock = some g → w'.heap[g]? = w.heap[g]?) : MAt B s v w' := by
  have c : ∀ o, w'.cell? ⟨B, o, none⟩ = w.cell? ⟨B, o, none⟩ := fun o => World.cell?_of_block (w := w) e
  have z : ∀ o, w'.frozen? ⟨B, o, none⟩ = w.frozen? ⟨B, o, none⟩ := fun o => World.frozen?_of_block (w := w) e
  exact ⟨by rw [c]; exact h.pc, fun k hk => by rw [c]; exact h.r k hk, fun k hk => by rw [c]; exact h.c k hk, fun k hk => by rw [c]; exact h.m k hk, by rw [c]; exact h.t, by rw [c]; exact h.n, by rw [c]; exact h.h, by rw [c]; exact h.x, fun k hk => by rw [z]; exact h.z k hk, own_block h.tr f, h.ne⟩
theorem own_lt {w : World} {v : Value} {n : Nat} {xs : List Value} (h : w.ownsRow 0 36 1 v n xs) {g : Nat} (e : v.ownBlock = some g) : g < w.heap.size := (h.lt g e).2
theorem MAt.fr {B : Nat} {s : St} {v : Value} {w w' : World} (h : MAt B s v w) (k : Fr w w') : MAt B s v w' := h.block (k.block B h.lt) fun g e => k.block g (own_lt h.tr e)
theorem MAt.alike {B : Nat} {s : St} {v : Value} {w w' : World} (h : MAt B s v w) (k : w'.Alike w) : MAt B s v w' := h.fr ((Fr.refl w).alike k)
theorem MAt.alloc {B : Nat} {s : St} {v : Value} {w : World} (h : MAt B s v w) (o : Obj) : MAt B s v (w.alloc o) := h.fr ((Fr.refl w).alloc o)
/-- a store into another block -/
theorem MAt.setFar {B : Nat} {s : St} {v : Value} {w : World} (h : MAt B s v w) (b o : Nat) (x : Value) (hb : b ≠ B) (hv : v.ownBlock ≠ some b) : MAt B s v (w.setCell ⟨b, o, none⟩ x) :=
  h.block (Below.heap_setCell _ _ _ B (by show B ≠ b; omega)) fun g e => Below.heap_setCell _ _ _ g (by show g ≠ b; intro x; subst x; exact hv e)
theorem MAt.own_set {B : Nat} {s : St} {v : Value} {w : World} (h : MAt B s v w) (o : Nat) (x : Value) : (w.setCell ⟨B, o, none⟩ x).ownsRow 0 36 1 v s.t.length (s.t.map (Value.int .u32)) :=
  own_block h.tr fun g e => Below.heap_setCell _ _ _ g (by show g ≠ B; intro x; subst x; exact h.ne e)
theorem MAt.setPc {B : Nat} {s : St} {v : Value} {w : World} (h : MAt B s v w) (q : Int) : MAt B (s.go q) v (w.setCell ⟨B, 0, none⟩ (.int .u32 q)) :=
  ⟨set_same h.pc, fun k hk => by rw [set_other (addr_ne (by omega))]; exact h.r k hk, fun k hk => by rw [set_other (addr_ne (by omega))]; exact h.c k hk, fun k hk => by rw [set_other (addr_ne (by omega))]; exact h.m k hk,
    by rw [set_other (addr_ne (by omega))]; exact h.t, by rw [set_other (addr_ne (by omega))]; exact h.n, by rw [set_other (addr_ne (by omega))]; exact h.h, by rw [set_other (addr_ne (by omega))]; exact h.x, fun k hk => by simpa using h.z k hk, h.own_set _ _, h.ne⟩
theorem MAt.setR {B : Nat} {s : St} {v : Value} {w : World} (h : MAt B s v w) (i : Nat) (hi : i < 32) (q : Int) : MAt B (s.setR i q) v (w.setCell ⟨B, 1 + i, none⟩ (.int .u32 q)) :=
  ⟨by rw [set_other (addr_ne (by omega))]; exact h.pc, fun k hk => by
      by_cases e : k = i
      · subst e; rw [set_same (h.r k hk)]; show _ = some (Value.int .u32 (upd s.r k q k)); rw [upd_same]
      · rw [set_other (addr_ne (by omega)), h.r k hk]; show _ = some (Value.int .u32 (upd s.r i q k)); rw [upd_other _ _ e],
    fun k hk => by rw [set_other (addr_ne (by omega))]; exact h.c k hk, fun k hk => by rw [set_other (addr_ne (by omega))]; exact h.m k hk,
    by rw [set_other (addr_ne (by omega))]; exact h.t, by rw [set_other (addr_ne (by omega))]; exact h.n, by rw [set_other (addr_ne (by omega))]; exact h.h, by rw [set_other (addr_ne (by omega))]; exact h.x, fun k hk => by simpa using h.z k hk, h.own_set _ _, h.ne⟩
theorem MAt.setC {B : Nat} {s : St} {v : Value} {w : World} (h : MAt B s v w) (i : Nat) (hi : i < 5) (q : Int) : MAt B (s.setC i q) v (w.setCell ⟨B, 33 + i, none⟩ (.int .u32 q)) :=
  ⟨by rw [set_other (addr_ne (by omega))]; exact h.pc, fun k hk => by rw [set_other (addr_ne (by omega))]; exact h.r k hk, fun k hk => by
      by_cases e : k = i
      · subst e; rw [set_same (h.c k hk)]; show _ = some (Value.int .u32 (upd s.c k q k)); rw [upd_same]
      · rw [set_other (addr_ne (by omega)), h.c k hk]; show _ = some (Value.int .u32 (upd s.c i q k)); rw [upd_other _ _ e],
    fun k hk => by rw [set_other (addr_ne (by omega))]; exact h.m k hk,
    by rw [set_other (addr_ne (by omega))]; exact h.t, by rw [set_other (addr_ne (by omega))]; exact h.n, by rw [set_other (addr_ne (by omega))]; exact h.h, by rw [set_other (addr_ne (by omega))]; exact h.x, fun k hk => by simpa using h.z k hk, h.own_set _ _, h.ne⟩
theorem MAt.setM {B : Nat} {s : St} {v : Value} {w : World} (h : MAt B s v w) (i : Nat) (hi : i < 1024) (q : Int) : MAt B (s.setM i q) v (w.setCell ⟨B, 38 + i, none⟩ (.int .u32 q)) :=
  ⟨by rw [set_other (addr_ne (by omega))]; exact h.pc, fun k hk => by rw [set_other (addr_ne (by omega))]; exact h.r k hk, fun k hk => by rw [set_other (addr_ne (by omega))]; exact h.c k hk, fun k hk => by
      by_cases e : k = i
      · subst e; rw [set_same (h.m k hk)]; show _ = some (Value.int .u32 (upd s.m k q k)); rw [upd_same]
      · rw [set_other (addr_ne (by omega)), h.m k hk]; show _ = some (Value.int .u32 (upd s.m i q k)); rw [upd_other _ _ e],
    by rw [set_other (addr_ne (by omega))]; exact h.t, by rw [set_other (addr_ne (by omega))]; exact h.n, by rw [set_other (addr_ne (by omega))]; exact h.h, by rw [set_other (addr_ne (by omega))]; exact h.x, fun k hk => by simpa using h.z k hk, h.own_set _ _, h.ne⟩
theorem MAt.setN {B : Nat} {s : St} {v : Value} {w : World} (h : MAt B s v w) : MAt B s.more v (w.setCell ⟨B, 1063, none⟩ (.int .i64 (s.n + 1))) :=
  ⟨by rw [set_other (addr_ne (by omega))]; exact h.pc, fun k hk => by rw [set_other (addr_ne (by omega))]; exact h.r k hk, fun k hk => by rw [set_other (addr_ne (by omega))]; exact h.c k hk, fun k hk => by rw [set_other (addr_ne (by omega))]; exact h.m k hk,
    by rw [set_other (addr_ne (by omega))]; exact h.t, set_same h.n, by rw [set_other (addr_ne (by omega))]; exact h.h, by rw [set_other (addr_ne (by omega))]; exact h.x, fun k hk => by simpa using h.z k hk, h.own_set _ _, h.ne⟩
theorem MAt.setH {B : Nat} {s : St} {v : Value} {w : World} (h : MAt B s v w) (q : Int) : MAt B (s.halt q) v ((w.setCell ⟨B, 1064, none⟩ (.bool true)).setCell ⟨B, 1065, none⟩ (.int .u32 q)) := by
  have a : ∀ o, o ≠ 1064 → o ≠ 1065 → ((w.setCell ⟨B, 1064, none⟩ (.bool true)).setCell ⟨B, 1065, none⟩ (.int .u32 q)).cell? ⟨B, o, none⟩ = w.cell? ⟨B, o, none⟩ := fun o h1 h2 => by rw [set_other (addr_ne (by omega)), set_other (addr_ne (by omega))]
  refine ⟨by rw [a _ (by omega) (by omega)]; exact h.pc, fun k hk => by rw [a _ (by omega) (by omega)]; exact h.r k hk, fun k hk => by rw [a _ (by omega) (by omega)]; exact h.c k hk, fun k hk => by rw [a _ (by omega) (by omega)]; exact h.m k hk,
    by rw [a _ (by omega) (by omega)]; exact h.t, by rw [a _ (by omega) (by omega)]; exact h.n, by rw [set_other (addr_ne (by omega))]; exact set_same h.h, set_same (by rw [set_other (addr_ne (by omega))]; exact h.x), fun k hk => by simpa using h.z k hk, ?_, h.ne⟩
  exact own_block (h.own_set 1064 _) fun g e => Below.heap_setCell _ _ _ g (by show g ≠ B; intro x; subst x; exact h.ne e)
/-- what is told lies in a box b that can be written -/
structure Box (b : Nat) (w : World) : Prop where
  c0 : w.cell? ⟨b, 0, none⟩ = some (.int .u32 0)
  c1 : w.cell? ⟨b, 1, none⟩ = some (.int .u32 0)
  c2 : w.cell? ⟨b, 2, none⟩ = some (.int .i64 0)
  c3 : w.cell? ⟨b, 3, none⟩ = some (.bool false)
  c4 : w.cell? ⟨b, 4, none⟩ = some (.int .u32 0)
  c5 : w.cell? ⟨b, 5, none⟩ = some (.int .u32 0)
  c6 : w.cell? ⟨b, 6, none⟩ = some (.int .i64 0)
  z0 : w.frozen? ⟨b, 0, none⟩ = false
  z1 : w.frozen? ⟨b, 1, none⟩ = false
  z2 : w.frozen? ⟨b, 2, none⟩ = false
  z3 : w.frozen? ⟨b, 3, none⟩ = false
  z4 : w.frozen? ⟨b, 4, none⟩ = false
  z5 : w.frozen? ⟨b, 5, none⟩ = false
  z6 : w.frozen? ⟨b, 6, none⟩ = false
theorem Box.new (w : World) : Box w.heap.size (w.alloc (.cells z7 38)) := by
  refine ⟨?_, ?_, ?_, ?_, ?_, ?_, ?_, ?_, ?_, ?_, ?_, ?_, ?_, ?_⟩
  all_goals first | (rw [World.cell?_alloc_at _ _ _ _ rfl]; rfl) | (rw [World.frozen?_alloc_at _ _ _ _ rfl])
theorem Box.block {b : Nat} {w w' : World} (h : Box b w) (e : w'.heap[b]? = w.heap[b]?) : Box b w' := by
  have c : ∀ o, w'.cell? ⟨b, o, none⟩ = w.cell? ⟨b, o, none⟩ := fun o => World.cell?_of_block (w := w) e
  have z : ∀ o, w'.frozen? ⟨b, o, none⟩ = w.frozen? ⟨b, o, none⟩ := fun o => World.frozen?_of_block (w := w) e
  exact ⟨by rw [c]; exact h.c0, by rw [c]; exact h.c1, by rw [c]; exact h.c2, by rw [c]; exact h.c3, by rw [c]; exact h.c4, by rw [c]; exact h.c5, by rw [c]; exact h.c6, by rw [z]; exact h.z0, by rw [z]; exact h.z1, by rw [z]; exact h.z2, by rw [z]; exact h.z3, by rw [z]; exact h.z4, by rw [z]; exact h.z5, by rw [z]; exact h.z6⟩
theorem Box.chg {B b : Nat} {v : Value} {w w' : World} (h : Box b w) (k : Chg B v w w') (h1 : b ≠ B) (h2 : v.ownBlock ≠ some b) : Box b w' := h.block (k.block b (cell_lt h.c0) h1 h2)
theorem Box.set {b : Nat} {w : World} (h : Box b w) (a : Addr) (x : Value) (e : b ≠ a.block) : Box b (w.setCell a x) := h.block (Below.heap_setCell _ _ _ b e)
theorem Box.at (w : World) (b : Nat) (h : b = w.heap.size) : Box b (w.alloc (.cells z7 38)) := by subst h; exact Box.new w
theorem Box.alike {b : Nat} {w w' : World} (h : Box b w) (k : w'.Alike w) : Box b w' := h.block (by rw [k.1])
theorem Box.fr {b : Nat} {w w' : World} (h : Box b w) (k : Fr w w') : Box b w' := h.block (k.block b (cell_lt h.c0))
theorem Box.alloc {b : Nat} {w : World} (h : Box b w) (o : Obj) : Box b (w.alloc o) := h.fr ((Fr.refl w).alloc o)
theorem Box.drew {b : Nat} {w : World} (h : Box b w) : Box b w.drew := h.alike ⟨rfl, rfl, rfl⟩
/-- the box of a result that was made at first -/
theorem MAt.box {B : Nat} {s : St} {v : Value} {w W w' : World} (h : MAt B s v w) (b : Box w.heap.size W) (k : Chg B v W w') : Box w.heap.size w' :=
  b.chg k (by have := h.lt; omega) (fun e => by have := own_lt h.tr e; omega)
/-- a world in which a box was filled -/
def put7 (w : World) (b : Nat) (p v d : Int) (s : Bool) (a y k : Int) : World :=
  (((((((w.setCell ⟨b, 0, none⟩ (.int .u32 p)).setCell ⟨b, 1, none⟩ (.int .u32 v)).setCell ⟨b, 2, none⟩ (.int .i64 d)).setCell ⟨b, 3, none⟩ (.bool s)).setCell ⟨b, 4, none⟩ (.int .u32 a)).setCell ⟨b, 5, none⟩ (.int .u32 y)).setCell ⟨b, 6, none⟩ (.int .i64 k))
theorem MAt.put7 {B : Nat} {s : St} {v : Value} {w : World} (h : MAt B s v w) (b : Nat) (hb : b ≠ B) (hv : v.ownBlock ≠ some b) (p x d : Int) (g : Bool) (a y k : Int) : MAt B s v (put7 w b p x d g a y k) :=
  ((((((h.setFar b 0 _ hb hv).setFar b 1 _ hb hv).setFar b 2 _ hb hv).setFar b 3 _ hb hv).setFar b 4 _ hb hv).setFar b 5 _ hb hv).setFar b 6 _ hb hv
theorem Chg.put7 {B : Nat} {v : Value} {u w : World} (h : Chg B v u w) (b : Nat) (hb : u.heap.size ≤ b) (p x d : Int) (g : Bool) (a y k : Int) : Chg B v u (put7 w b p x d g a y k) :=
  ((((((h.setNew b 0 _ hb).setNew b 1 _ hb).setNew b 2 _ hb).setNew b 3 _ hb).setNew b 4 _ hb).setNew b 5 _ hb).setNew b 6 _ hb
/-- it is so now, and nothing else has turned -/
def Now (B : Nat) (v : Value) (s : St) (w w' : World) : Prop := MAt B s v w' ∧ Chg B v w w'
theorem Now.alloc {B : Nat} {v : Value} {s : St} {w w' : World} (h : Now B v s w w') (o : Obj) : Now B v s w (w'.alloc o) := ⟨h.1.alloc o, h.2.alloc o⟩
theorem Now.alike {B : Nat} {v : Value} {s : St} {u w w' : World} (h : Now B v s u w) (k : w'.Alike w) : Now B v s u w' := ⟨h.1.alike k, h.2.alike k⟩
theorem Now.past {B : Nat} {v : Value} {s : St} {u w w' : World} (h : Now B v s w w') (k : Chg B v u w) : Now B v s u w' := ⟨h.1, k.trans h.2⟩
theorem Now.refl {B : Nat} {v : Value} {s : St} {w : World} (h : MAt B s v w) : Now B v s w w := ⟨h, Chg.refl B v w⟩
theorem Now.setPc {B : Nat} {v : Value} {s : St} {w w' : World} (h : Now B v s w w') (q : Int) : Now B v (s.go q) w (w'.setCell ⟨B, 0, none⟩ (.int .u32 q)) := ⟨h.1.setPc q, h.2.set _ _⟩
theorem Now.setR {B : Nat} {v : Value} {s : St} {w w' : World} (h : Now B v s w w') (i : Nat) (hi : i < 32) (q : Int) : Now B v (s.setR i q) w (w'.setCell ⟨B, 1 + i, none⟩ (.int .u32 q)) := ⟨h.1.setR i hi q, h.2.set _ _⟩
theorem Now.setC {B : Nat} {v : Value} {s : St} {w w' : World} (h : Now B v s w w') (i : Nat) (hi : i < 5) (q : Int) : Now B v (s.setC i q) w (w'.setCell ⟨B, 33 + i, none⟩ (.int .u32 q)) := ⟨h.1.setC i hi q, h.2.set _ _⟩
theorem Now.setM {B : Nat} {v : Value} {s : St} {w w' : World} (h : Now B v s w w') (i : Nat) (hi : i < 1024) (q : Int) : Now B v (s.setM i q) w (w'.setCell ⟨B, 38 + i, none⟩ (.int .u32 q)) := ⟨h.1.setM i hi q, h.2.set _ _⟩
theorem Now.setN {B : Nat} {v : Value} {s : St} {w w' : World} (h : Now B v s w w') : Now B v s.more w (w'.setCell ⟨B, 1063, none⟩ (.int .i64 (s.n + 1))) := ⟨h.1.setN, h.2.set _ _⟩
theorem Now.setH {B : Nat} {v : Value} {s : St} {w w' : World} (h : Now B v s w w') (q : Int) : Now B v (s.halt q) w ((w'.setCell ⟨B, 1064, none⟩ (.bool true)).setCell ⟨B, 1065, none⟩ (.int .u32 q)) := ⟨h.1.setH q, (h.2.set _ _).set _ _⟩
theorem Now.fr {B : Nat} {v : Value} {s : St} {u w w' : World} (h : Now B v s u w) (k : Fr w w') : Now B v s u w' := ⟨h.1.fr k, h.2.fr k⟩
theorem Now.then {B : Nat} {v : Value} {s s' : St} {u w w' : World} (h : Now B v s u w) (k : Now B v s' w w') : Now B v s' u w' := ⟨k.1, h.2.trans k.2⟩
theorem MAt.drew {B : Nat} {s : St} {v : Value} {w : World} (h : MAt B s v w) : MAt B s v w.drew := h.alike ⟨rfl, rfl, rfl⟩
theorem Now.drew {B : Nat} {v : Value} {s : St} {u w : World} (h : Now B v s u w) : Now B v s u w.drew := h.alike ⟨rfl, rfl, rfl⟩
/-- a store into a block that is new since u -/
theorem Now.setNew {B : Nat} {v : Value} {s s' : St} {u w : World} (h : Now B v s u w) (h0 : MAt B s' v u) (b o : Nat) (x : Value) (hb : u.heap.size ≤ b) : Now B v s u (w.setCell ⟨b, o, none⟩ x) :=
  ⟨h.1.setFar b o x (by have := h0.lt; omega) (fun e => by have := own_lt h0.tr e; omega), h.2.setNew b o x hb⟩
/-- a method's end: its result goes into the box that was made at first -/
theorem Now.ends {B : Nat} {v : Value} {s s' : St} {w w' : World} (h0 : MAt B s v w) (h : Now B v s' w w') (p x d : Int) (g : Bool) (a y k : Int) : Now B v s' w (put7 w' w.heap.size p x d g a y k) := by
  have n1 : w.heap.size ≠ B := by have := h0.lt; omega
  have n2 : v.ownBlock ≠ some w.heap.size := by
    intro e
    have := own_lt h0.tr e
    omega
  exact ⟨h.1.put7 _ n1 n2 _ _ _ _ _ _ _, h.2.put7 _ (Nat.le_refl _) _ _ _ _ _ _ _⟩
theorem MAt.drewN {B : Nat} {s : St} {v : Value} {w : World} (h : MAt B s v w) (n : Nat) : MAt B s v (w.drewN n) := h.alike ⟨rfl, rfl, rfl⟩
theorem Now.drewN {B : Nat} {v : Value} {s : St} {u w : World} (h : Now B v s u w) (n : Nat) : Now B v s u (w.drewN n) := h.alike ⟨rfl, rfl, rfl⟩
theorem Box.drewN {b : Nat} {w : World} (h : Box b w) (n : Nat) : Box b (w.drewN n) := h.alike ⟨rfl, rfl, rfl⟩
theorem Now.boxed {B b : Nat} {s s' s'' : St} {v : Value} {w W w' : World} (h : Now B v s w W) (h0 : MAt B s' v w) (hb : w.heap.size ≤ b) (x : Box b W) (k : Now B v s'' W w') : Box b w' :=
  x.chg k.2 (by have := h0.lt; omega) (fun e => by have := own_lt h0.tr e; omega)
theorem Now.ends1 {B b : Nat} {v : Value} {s s' : St} {w w' : World} (h : Now B v s' w w') (h0 : MAt B s v w) (hb : w.heap.size ≤ b) (p x d : Int) (g : Bool) (a y k : Int) : Now B v s' w (put7 w' b p x d g a y k) := by
  have n1 : b ≠ B := by have := h0.lt; omega
  have n2 : v.ownBlock ≠ some b := by
    intro e
    have := own_lt h0.tr e
    omega
  exact ⟨h.1.put7 _ n1 n2 _ _ _ _ _ _ _, h.2.put7 _ hb _ _ _ _ _ _ _⟩
/-- the worlds in which a method that takes an instruction, or none, begins -/
theorem Now.inst {B : Nat} {s : St} {v : Value} {w : World} (h : MAt B s v w) (c : Array Value) : Now B v s w ((w.alloc (.cells c 62)).alloc (.cells z7 38)) := ((Now.refl h).alloc _).alloc _
theorem Box.inst (w : World) (c : Array Value) : Box (w.heap.size + 1) ((w.alloc (.cells c 62)).alloc (.cells z7 38)) := Box.at _ _ (by simp)
end Go.Proofs.YtpkbkbllhpdfiaaGreat.M
namespace Go.Proofs.YtpkbkbllhpdfiaaGreat.M
open Go.ChangeShapes Go.WideShapes Go.ChangeAt Go.RowKit Go.Proofs.YtpkbkbllhpdfiaaGreat.Walks Go.Proofs.YtpkbkbllhpdfiaaGreat.Mod
set_option linter.unusedVariables false
set_option maxHeartbeats 1000000 in
theorem goesTo_in (B : Nat) (s : St) (v : Value) (q : Int) (w : World) (hM : Hid (MAt B s v w)) :
    Calls Tryz.prog 47 #[.pointer (some ⟨B, 0, none⟩), .int .u32 q] w fun e w' => e = .returned (.agg (rc s.pc 0 0 false 0 0 0)) ∧ Now B v (s.go q) w w' := by
  have c0 := hM.out.pc
  have z0 := hM.out.z 0 (by decide)
  have hb := hM.out.lt
  go_enter Tryz.func47, Tryz.ntmps47
  go_wp2_with fail
  refine bodyPost_ret (v := .agg (rc s.pc 0 0 false 0 0 0)) (by simp [results, Tryz.results47, go_sem, *]) rfl ⟨rfl, ?_, ?_⟩
  · exact ((hM.out.setPc q).alloc _).alloc _
  · exact (((Chg.refl B v w).set _ _).alloc _).alloc _
theorem goesTo_as (B : Nat) (s : St) (v : Value) (q p : Int) (P : Hid (s.pc = p)) (w : World) (hM : Hid (MAt B s v w)) :
    Calls Tryz.prog 47 #[.pointer (some ⟨B, 0, none⟩), .int .u32 q] w fun e w' => e = .returned (.agg (rc p 0 0 false 0 0 0)) ∧ Now B v (s.go q) w w' := by
  obtain rfl : s.pc = p := P
  exact goesTo_in B s v q w hM
set_option maxHeartbeats 1000000 in
theorem goesOn_as (B : Nat) (s : St) (v : Value) (q : Int) (Q : Hid (s.nx = q)) (p0 : 0 ≤ s.pc) (p1 : s.pc ≤ 4294967295) (w : World) (hM : Hid (MAt B s v w)) :
    Calls Tryz.prog 56 #[.pointer (some ⟨B, 0, none⟩)] w fun e w' => e = .returned (.agg (rc s.pc 0 0 false 0 0 0)) ∧ Now B v (s.go q) w w' := by
  have c0 := hM.out.pc
  have hb := hM.out.lt
  have Q2 : (s.pc + 4) % 4294967296 = q := Q
  go_enter Tryz.func56, Tryz.ntmps56
  go_wp2_with fail
  have HW := hid ((Now.refl hM.out).alloc (.cells z7 38))
  refine (goesTo_as B s v _ _ rfl _ HW.out.1).mono ?_; rintro e w1 ⟨rfl, hN⟩
  obtain ⟨b0, b1, b2, b3, b4, b5, b6, y0, y1, y2, y3, y4, y5, y6⟩ := hM.out.box (Box.new w) hN.2
  go_wp2_with fail
  refine bodyPost_ret (v := .agg (rc s.pc 0 0 false 0 0 0)) (by simp [results, Tryz.results56, go_sem, *]) rfl ⟨rfl, ?_⟩
  exact (HW.out.then hN).ends hM.out s.pc 0 0 false 0 0 0
set_option maxHeartbeats 1000000 in
theorem trapped_as (B : Nat) (s : St) (v : Value) (k x : Int) (k0 : 0 ≤ k) (k1 : k ≤ 11) (w : World) (hM : Hid (MAt B s v w)) :
    Calls Tryz.prog 33 #[.pointer (some ⟨B, 0, none⟩), .int .i64 k, .int .u32 x] w fun e w' => e = .returned (.agg (rc s.pc 0 0 false 0 0 0)) ∧ Now B v (s.trap k x) w w' := by
  have c0 := hM.out.pc
  have d0 := hM.out.c 0 (by decide)
  have d2 := hM.out.c 2 (by decide)
  have d3 := hM.out.c 3 (by decide)
  have d4 := hM.out.c 4 (by decide)
  have z2 := hM.out.z 35 (by decide)
  have z3 := hM.out.z 36 (by decide)
  have z4 := hM.out.z 37 (by decide)
  have hb := hM.out.lt
  go_enter Tryz.func33, Tryz.ntmps33
  go_wp2_with fail
  go_region
  all_goals
    go_wp2_with fail
    have HW := hid ((((Now.refl hM.out).setC 2 (by decide) s.pc).setC 3 (by decide) k).setC 4 (by decide) x |>.alloc (.cells z7 38) |>.drew)
    refine (goesTo_as B (((s.setC 2 s.pc).setC 3 k).setC 4 x) v _ s.pc rfl _ (by exact HW.out.1)).mono ?_; rintro e w1 ⟨rfl, hN⟩
    obtain ⟨b0, b1, b2, b3, b4, b5, b6, y0, y1, y2, y3, y4, y5, y6⟩ := hM.out.box (by exact (Box.at _ _ (by simp)).drew) hN.2
    go_wp2_with fail
    refine bodyPost_ret (v := .agg (rc s.pc 0 0 false 0 0 0)) (by simp [results, Tryz.results33, go_sem, *]) rfl ⟨rfl, ?_⟩
    exact (HW.out.then hN).ends hM.out s.pc 0 0 false 0 0 0
set_option maxHeartbeats 1000000 in
theorem written_zero (B : Nat) (s : St) (v : Value) (q1 q2 q3 : Int) (q4 : Bool) (q5 q6 q7 x : Int) (w : World) (hM : Hid (MAt B s v w)) :
    Calls Tryz.prog 92 #[.pointer (some ⟨B, 0, none⟩), .agg (rc q1 q2 q3 q4 q5 q6 q7), .int .i64 0, .int .u32 x] w fun e w' => e = .returned (.agg (rc q1 q2 q3 q4 q5 q6 q7)) ∧ Now B v s w w' := by
  have hb := hM.out.lt
  go_enter Tryz.func92, Tryz.ntmps92
  go_wp2_with fail
  refine bodyPost_ret (v := .agg (rc q1 q2 q3 q4 q5 q6 q7)) (by simp [results, Tryz.results92, go_sem, *]) rfl ⟨rfl, ?_⟩
  exact ((Now.refl hM.out).alloc _).alloc _
set_option maxHeartbeats 1000000 in
theorem written_reg (B : Nat) (s : St) (v : Value) (q1 q2 q3 : Int) (q4 : Bool) (q5 q6 q7 x : Int) (d : Nat) (h0 : (1 : Int) ≤ d) (h1 : (d : Int) ≤ 31) (w : World) (hM : Hid (MAt B s v w)) :
    Calls Tryz.prog 92 #[.pointer (some ⟨B, 0, none⟩), .agg (rc q1 q2 q3 q4 q5 q6 q7), .int .i64 (d : Int), .int .u32 x] w fun e w' => e = .returned (.agg (rc q1 x d q4 q5 q6 q7)) ∧ Now B v (s.setR d x) w w' := by
  have cr := hM.out.r d (by omega)
  have zr := hM.out.z (1 + d) (by omega)
  have hb := hM.out.lt
  have g0 : ((d : Int) == 0) = false := by rw [beq_eq_false_iff_ne]; omega
  go_enter Tryz.func92, Tryz.ntmps92
  go_wp2_with fail
  refine bodyPost_ret (v := .agg (rc q1 x d q4 q5 q6 q7)) (by simp [results, Tryz.results92, go_sem, *]) rfl ⟨rfl, ?_⟩
  exact (((Now.refl hM.out).setR d (by omega) x).alloc _).alloc _
/-- what written tells, and makes -/
theorem written_as (B : Nat) (s : St) (v : Value) (q1 x : Int) (d : Nat) (h1 : (d : Int) ≤ 31) (q : Rt) (s' : St) (Q : Hid ((bare q1).put d x = q)) (S : Hid (s.put d x = s')) (w : World) (hM : Hid (MAt B s v w)) :
    Calls Tryz.prog 92 #[.pointer (some ⟨B, 0, none⟩), .agg (rc q1 0 0 false 0 0 0), .int .i64 (d : Int), .int .u32 x] w fun e w' => e = .returned (.agg (rc q.pc q.v q.d q.s q.a q.y q.k)) ∧ Now B v s' w w' := by
  obtain rfl : (bare q1).put d x = q := Q
  obtain rfl : s.put d x = s' := S
  by_cases h0 : d = 0
  · subst h0
    exact written_zero B s v q1 0 0 false 0 0 0 x w hM
  · have e1 : (bare q1).put d x = ⟨q1, x, d, false, 0, 0, 0⟩ := by unfold Rt.put; rw [if_neg h0]; rfl
    have e2 : s.put d x = s.setR d x := by unfold St.put; rw [if_neg h0]
    rw [e1, e2]
    exact written_reg B s v q1 0 0 false 0 0 0 x d (by omega) h1 w hM
set_option maxHeartbeats 1000000 in
theorem writes_in (B : Nat) (s : St) (v : Value) (x n q1 q2 q3 : Int) (q4 : Bool) (q5 q6 q7 : Int) (d : Nat) (h1 : (d : Int) ≤ 31) (s' : St) (Q : Hid ((bare s.pc).put d x = ⟨q1, q2, q3, q4, q5, q6, q7⟩)) (S : Hid ((s.go n).put d x = s')) (NX : Hid (s.nx = n))
    (p0 : 0 ≤ s.pc) (p1 : s.pc ≤ 4294967295) (w : World) (hM : Hid (MAt B s v w)) :
    Calls Tryz.prog 50 #[.pointer (some ⟨B, 0, none⟩), .int .i64 (d : Int), .int .u32 x] w fun e w' => e = .returned (.agg (rc q1 q2 q3 q4 q5 q6 q7)) ∧ Now B v s' w w' := by
  have hb := hM.out.lt
  have HW := hid ((Now.refl hM.out).alloc (.cells z7 38))
  go_enter Tryz.func50, Tryz.ntmps50
  go_wp2_with fail
  refine (goesOn_as B s v n NX p0 p1 _ HW.out.1).mono ?_; rintro e w1 ⟨rfl, hN⟩
  go_wp2_with fail
  refine (written_as B _ v _ _ d h1 _ s' Q S _ hN.1).mono ?_; rintro e w2 ⟨rfl, hN2⟩
  obtain ⟨b0, b1, b2, b3, b4, b5, b6, y0, y1, y2, y3, y4, y5, y6⟩ := hM.out.box (Box.new w) (hN.2.trans hN2.2)
  go_wp2_with fail
  refine bodyPost_ret (v := .agg (rc q1 q2 q3 q4 q5 q6 q7)) (by simp [results, Tryz.results50, go_sem, *]) rfl ⟨rfl, ?_⟩
  exact ((HW.out.then hN).then hN2).ends hM.out q1 q2 q3 q4 q5 q6 q7
end Go.Proofs.YtpkbkbllhpdfiaaGreat.M
namespace Go.Proofs.YtpkbkbllhpdfiaaGreat.M
open Go.ChangeShapes Go.WideShapes Go.ChangeAt Go.RowKit Go.Proofs.YtpkbkbllhpdfiaaGreat.Walks Go.Proofs.YtpkbkbllhpdfiaaGreat.Mod
set_option linter.unusedVariables false
theorem and3 (x : Int) (h0 : 0 ≤ x) (h1 : x ≤ 4294967295) : bits .and .u32 x 3 = x % 4 := Num.and_mask 2 3 4 x (by decide) (by decide) h0 h1 (by decide)
theorem wrap_is (x : Int) : IntKind.u32.wrap x = x % 4294967296 := by rfl
theorem writes_as (B : Nat) (s : St) (v : Value) (x : Int) (d : Nat) (h1 : (d : Int) ≤ 31) (q : Rt) (s' : St) (E : Hid (s.wrt d x = (q, s')))
    (p0 : 0 ≤ s.pc) (p1 : s.pc ≤ 4294967295) (w : World) (hM : Hid (MAt B s v w)) :
    Calls Tryz.prog 50 #[.pointer (some ⟨B, 0, none⟩), .int .i64 (d : Int), .int .u32 x] w fun e w' => e = .returned (.agg (rc q.pc q.v q.d q.s q.a q.y q.k)) ∧ Now B v s' w w' := by
  obtain ⟨e1, e2⟩ := Prod.mk.inj (show ((bare s.pc).put d x, (s.go s.nx).put d x) = (q, s') from E.out)
  obtain ⟨q1, q2, q3, q4, q5, q6, q7⟩ := q
  exact writes_in B s v x s.nx q1 q2 q3 q4 q5 q6 q7 d h1 s' e1 e2 rfl p0 p1 w hM
set_option maxHeartbeats 1000000 in
theorem jumps_bad (B : Nat) (s : St) (v : Value) (to r : Int) (d : Nat) (A : bits .and .u32 to 3 = r) (g : ¬ r = 0) (g1 : (r != 0) = true) (w : World) (hM : Hid (MAt B s v w)) :
    Calls Tryz.prog 51 #[.pointer (some ⟨B, 0, none⟩), .int .i64 (d : Int), .int .u32 to] w fun e w' => e = .returned (.agg (rc s.pc 0 0 false 0 0 0)) ∧ Now B v (s.trap 0 to) w w' := by
  have hb := hM.out.lt
  have HW := hid ((Now.refl hM.out).alloc (.cells z7 38))
  go_enter Tryz.func51, Tryz.ntmps51
  go_wp2_with fail
  refine (trapped_as B s v _ _ (by decide) (by decide) _ HW.out.1).mono ?_; rintro e w1 ⟨rfl, hN⟩
  obtain ⟨b0, b1, b2, b3, b4, b5, b6, y0, y1, y2, y3, y4, y5, y6⟩ := hM.out.box (Box.new w) hN.2
  go_wp2_with fail
  refine bodyPost_ret (v := .agg (rc s.pc 0 0 false 0 0 0)) (by simp [results, Tryz.results51, go_sem, *]) rfl ⟨rfl, ?_⟩
  exact (HW.out.then hN).ends hM.out s.pc 0 0 false 0 0 0
set_option maxHeartbeats 1000000 in
theorem jumps_good (B : Nat) (s : St) (v : Value) (to n q1 q2 q3 : Int) (q4 : Bool) (q5 q6 q7 : Int) (d : Nat) (h1 : (d : Int) ≤ 31) (s' : St) (A : bits .and .u32 to 3 = 0) (NX : (s.pc + 4) % 4294967296 = n)
    (Q : Hid ((bare s.pc).put d n = ⟨q1, q2, q3, q4, q5, q6, q7⟩)) (S : Hid ((s.go to).put d n = s')) (p0 : 0 ≤ s.pc) (p1 : s.pc ≤ 4294967295) (w : World) (hM : Hid (MAt B s v w)) :
    Calls Tryz.prog 51 #[.pointer (some ⟨B, 0, none⟩), .int .i64 (d : Int), .int .u32 to] w fun e w' => e = .returned (.agg (rc q1 q2 q3 q4 q5 q6 q7)) ∧ Now B v s' w w' := by
  have c0 := hM.out.pc
  have hb := hM.out.lt
  have HW := hid ((Now.refl hM.out).alloc (.cells z7 38))
  go_enter Tryz.func51, Tryz.ntmps51
  go_wp2_with fail
  refine (goesTo_as B s v _ _ rfl _ HW.out.1).mono ?_; rintro e w1 ⟨rfl, hN⟩
  go_wp2_with fail
  refine (written_as B _ v _ _ d h1 _ s' Q S _ hN.1).mono ?_; rintro e w2 ⟨rfl, hN2⟩
  obtain ⟨b0, b1, b2, b3, b4, b5, b6, y0, y1, y2, y3, y4, y5, y6⟩ := hM.out.box (Box.new w) (hN.2.trans hN2.2)
  go_wp2_with fail
  refine bodyPost_ret (v := .agg (rc q1 q2 q3 q4 q5 q6 q7)) (by simp [results, Tryz.results51, go_sem, *]) rfl ⟨rfl, ?_⟩
  exact ((HW.out.then hN).then hN2).ends hM.out q1 q2 q3 q4 q5 q6 q7
theorem jumps_as (B : Nat) (s : St) (v : Value) (to : Int) (t0 : 0 ≤ to) (t1 : to ≤ 4294967295) (d : Nat) (h1 : (d : Int) ≤ 31) (q : Rt) (s' : St) (E : Hid (s.jmp d to = (q, s')))
    (p0 : 0 ≤ s.pc) (p1 : s.pc ≤ 4294967295) (w : World) (hM : Hid (MAt B s v w)) :
    Calls Tryz.prog 51 #[.pointer (some ⟨B, 0, none⟩), .int .i64 (d : Int), .int .u32 to] w fun e w' => e = .returned (.agg (rc q.pc q.v q.d q.s q.a q.y q.k)) ∧ Now B v s' w w' := by
  have E1 := E.out
  unfold St.jmp at E1
  have a := and3 to t0 t1
  obtain ⟨q1, q2, q3, q4, q5, q6, q7⟩ := q
  by_cases h : to % 4 = 0
  · rw [if_pos h] at E1
    obtain ⟨e1, e2⟩ := Prod.mk.inj E1
    exact jumps_good B s v to s.nx q1 q2 q3 q4 q5 q6 q7 d h1 s' (by rw [a]; exact h) rfl e1 e2 p0 p1 w hM
  · rw [if_neg h] at E1
    obtain ⟨e1, e2⟩ := Prod.mk.inj E1
    subst e2
    have e3 : q1 = s.pc ∧ q2 = 0 ∧ q3 = 0 ∧ q4 = false ∧ q5 = 0 ∧ q6 = 0 ∧ q7 = 0 := by
      have := e1.symm
      unfold bare at this
      injection this with a b c d e f g
      exact ⟨a, b, c, d, e, f, g⟩
    obtain ⟨rfl, rfl, rfl, rfl, rfl, rfl, rfl⟩ := e3
    exact jumps_bad B s v to _ d a (by omega) (by simpa using h) w hM
/-- a result that is bare -/
theorem bare_is {p q1 q2 q3 : Int} {q4 : Bool} {q5 q6 q7 : Int} {s s' : St} (h : (bare p, s) = (⟨q1, q2, q3, q4, q5, q6, q7⟩, s')) : s = s' ∧ q1 = p ∧ q2 = 0 ∧ q3 = 0 ∧ q4 = false ∧ q5 = 0 ∧ q6 = 0 ∧ q7 = 0 := by
  obtain ⟨e1, e2⟩ := Prod.mk.inj h
  have := e1.symm
  unfold bare at this
  injection this with a b c d e f g
  exact ⟨e2, a, b, c, d, e, f, g⟩
set_option maxRecDepth 100000 in
set_option maxHeartbeats 600000 in
theorem branches_in (B : Nat) (s : St) (v : Value) (o n x y u to : Int) (g : Bool) (a b d : Nat) (ha : (a : Int) ≤ 31) (hb31 : (b : Int) ≤ 31) (q1 q2 q3 : Int) (q4 : Bool) (q5 q6 q7 : Int) (s' : St)
    (X : Hid (s.r a = x)) (Y : Hid (s.r b = y)) (G : Hid (U.Num.tk o x y = g)) (N : IntKind.u32.wrap n = u) (TO : IntKind.u32.wrap (s.pc + u) = to) (t0 : Hid (0 ≤ to ∧ to ≤ 4294967295))
    (E : Hid ((if g = true then s.jmp 0 to else (bare s.pc, s.go s.nx)) = (⟨q1, q2, q3, q4, q5, q6, q7⟩, s')))
    (p0 : 0 ≤ s.pc) (p1 : s.pc ≤ 4294967295) (w : World) (hM : Hid (MAt B s v w)) :
    Calls Tryz.prog 52 #[.pointer (some ⟨B, 0, none⟩), .agg (cells o d a b n)] w fun e w' => e = .returned (.agg (rc q1 q2 q3 q4 q5 q6 q7)) ∧ Now B v s' w w' := by
  have c0 := hM.out.pc
  have ca := hM.out.r a (by omega)
  have cb := hM.out.r b (by omega)
  rw [X.out] at ca
  rw [Y.out] at cb
  have hb := hM.out.lt
  have HW := hid (Now.inst hM.out (cells o d a b n))
  have BX := hid (Box.inst w (cells o d a b n))
  cases g
  · obtain ⟨rfl, rfl, rfl, rfl, rfl, rfl, rfl, rfl⟩ := bare_is E.out
    go_enter Tryz.func52, Tryz.ntmps52
    go_wp2_with fail
    go_quiet ((go_at_call 93; exact Calls.quiet_of_same (U.Walks.taken_as _ _ _ _ G _)))
    go_wp2_with fail
    refine (goesOn_as B s v _ rfl p0 p1 _ (by exact HW.out.1.alike ⟨rfl, rfl, rfl⟩)).mono ?_; rintro e w1 ⟨rfl, hN⟩
    obtain ⟨b0, b1, b2, b3, b4, b5, b6, y0, y1, y2, y3, y4, y5, y6⟩ := Now.boxed (by exact HW.out.alike ⟨rfl, rfl, rfl⟩) hM.out (Nat.le_add_right _ 1) (by exact BX.out.alike ⟨rfl, rfl, rfl⟩) hN
    go_wp2_with fail
    refine bodyPost_ret (v := .agg (rc s.pc 0 0 false 0 0 0)) (by simp [results, Tryz.results52, go_sem, *]) rfl ⟨rfl, ?_⟩
    exact (Now.then (by exact HW.out.alike ⟨rfl, rfl, rfl⟩) hN).ends1 hM.out (Nat.le_add_right _ 1) s.pc 0 0 false 0 0 0
  · have E1 : Hid (s.jmp 0 to = (⟨q1, q2, q3, q4, q5, q6, q7⟩, s')) := E
    go_enter Tryz.func52, Tryz.ntmps52
    go_wp2_with fail
    go_quiet ((go_at_call 93; exact Calls.quiet_of_same (U.Walks.taken_as _ _ _ _ G _)))
    go_wp2_with fail
    go_region_with (go_at_call 51; refine (jumps_as B s v _ t0.out.1 t0.out.2 0 (by decide) _ s' E1 p0 p1 _ (by exact HW.out.1.alike ⟨rfl, rfl, rfl⟩)).mono ?_; rintro e w1 ⟨rfl, hN⟩; obtain ⟨b0, b1, b2, b3, b4, b5, b6, y0, y1, y2, y3, y4, y5, y6⟩ := Now.boxed (by exact HW.out.alike ⟨rfl, rfl, rfl⟩) hM.out (Nat.le_add_right _ 1) (by exact BX.out.alike ⟨rfl, rfl, rfl⟩) hN)
    all_goals
      go_wp2_with fail
      refine bodyPost_ret (v := .agg (rc q1 q2 q3 q4 q5 q6 q7)) (by simp [results, Tryz.results52, go_sem, *]) rfl ⟨rfl, ?_⟩
      trace_state
      exact (Now.then (by exact HW.out.alike ⟨rfl, rfl, rfl⟩) hN).ends1 hM.out (Nat.le_add_right _ 1) q1 q2 q3 q4 q5 q6 q7
end Go.Proofs.YtpkbkbllhpdfiaaGreat.M
namespace Go.Proofs.YtpkbkbllhpdfiaaGreat.M
open Go.ChangeShapes Go.WideShapes Go.ChangeAt Go.RowKit Go.Proofs.YtpkbkbllhpdfiaaGreat.Walks Go.Proofs.YtpkbkbllhpdfiaaGreat.Mod
set_option linter.unusedVariables false
/-- nothing but blocks B and C has turned; there may be new ones -/
structure RChg (B C : Nat) (w w' : World) : Prop where
  os : w'.os = w.os
  output : w'.output = w.output
  size : w.heap.size ≤ w'.heap.size
  block : ∀ k, k < w.heap.size → k ≠ B → k ≠ C → w'.heap[k]? = w.heap[k]?
theorem RChg.refl (B C : Nat) (w : World) : RChg B C w w := ⟨rfl, rfl, Nat.le_refl _, fun _ _ _ _ => rfl⟩
theorem RChg.trans {B C : Nat} {u w w' : World} (h : RChg B C u w) (k : RChg B C w w') : RChg B C u w' :=
  ⟨k.os.trans h.os, k.output.trans h.output, Nat.le_trans h.size k.size, fun i a b c => (k.block i (Nat.lt_of_lt_of_le a h.size) b c).trans (h.block i a b c)⟩
theorem RChg.fr {B C : Nat} {u w w' : World} (h : RChg B C u w) (k : Fr w w') : RChg B C u w' :=
  ⟨k.os.trans h.os, k.output.trans h.output, Nat.le_trans h.size k.size, fun i a b c => (k.block i (Nat.lt_of_lt_of_le a h.size)).trans (h.block i a b c)⟩
theorem RChg.alike {B C : Nat} {u w w' : World} (h : RChg B C u w) (k : w'.Alike w) : RChg B C u w' := h.fr ((Fr.refl w).alike k)
theorem RChg.alloc {B C : Nat} {u w : World} (h : RChg B C u w) (o : Obj) : RChg B C u (w.alloc o) := h.fr ((Fr.refl w).alloc o)
theorem RChg.set {B C : Nat} {u w : World} (h : RChg B C u w) (b o : Nat) (x : Value) (hb : b = B ∨ b = C ∨ u.heap.size ≤ b) : RChg B C u (w.setCell ⟨b, o, none⟩ x) :=
  ⟨h.os, h.output, by rw [World.size_setCell]; exact h.size, fun k a e f => (Below.heap_setCell _ _ _ k (by show k ≠ b; omega)).trans (h.block k a e f)⟩
theorem RChg.cell {B C : Nat} {w w' : World} (h : RChg B C w w') (k o : Nat) (h0 : k < w.heap.size) (h1 : k ≠ B) (h2 : k ≠ C) : w'.cell? ⟨k, o, none⟩ = w.cell? ⟨k, o, none⟩ := World.cell?_of_block (w := w) (h.block k h0 h1 h2)
/-- a machine of the document lies at block B, its memory at block C, what it told in the row v -/
structure RAt (B C : Nat) (s : St) (v : Value) (w : World) : Prop where
  pc : w.cell? ⟨B, 0, none⟩ = some (.int .u32 s.pc)
  r : ∀ k, k < 32 → w.cell? ⟨B, 1 + k, none⟩ = some (.int .u32 (s.r k))
  c : ∀ k, k < 5 → w.cell? ⟨B, 33 + k, none⟩ = some (.int .u32 (s.c k))
  l : w.cell? ⟨B, 38, none⟩ = some (.slice (some ⟨C, 0, none⟩) 1024 1024)
  m : ∀ k, k < 1024 → w.cell? ⟨C, k, none⟩ = some (.int .u32 (s.m k))
  t : w.cell? ⟨B, 39, none⟩ = some v
  h : w.cell? ⟨B, 40, none⟩ = some (.bool s.h)
  x : w.cell? ⟨B, 41, none⟩ = some (.int .u32 s.x)
  n : w.cell? ⟨B, 42, none⟩ = some (.int .i64 s.n)
  z : ∀ k, k < 43 → w.frozen? ⟨B, k, none⟩ = false
  y : ∀ k, k < 1024 → w.frozen? ⟨C, k, none⟩ = false
  bc : B ≠ C
  tr : w.ownsRow 0 36 1 v s.t.length (s.t.map (Value.int .u32))
  ne : v.ownBlock ≠ some B
  nc : v.ownBlock ≠ some C
theorem RAt.lt {B C : Nat} {s : St} {v : Value} {w : World} (h : RAt B C s v w) : B < w.heap.size := cell_lt h.pc
theorem RAt.ltc {B C : Nat} {s : St} {v : Value} {w : World} (h : RAt B C s v w) : C < w.heap.size := cell_lt (h.m 0 (by decide))
theorem RAt.block {B C : Nat} {s : St} {v : Value} {w w' : World} (h : RAt B C s v w) (e : w'.heap[B]? = w.heap[B]?) (e' : w'.heap[C]? = w.heap[C]?) (f : ∀ g, v.ownBlock = some g → w'.heap[g]? = w.heap[g]?) : RAt B C s v w' := by
  have c : ∀ o, w'.cell? ⟨B, o, none⟩ = w.cell? ⟨B, o, none⟩ := fun o => World.cell?_of_block (w := w) e
  have z : ∀ o, w'.frozen? ⟨B, o, none⟩ = w.frozen? ⟨B, o, none⟩ := fun o => World.frozen?_of_block (w := w) e
  have c' : ∀ o, w'.cell? ⟨C, o, none⟩ = w.cell? ⟨C, o, none⟩ := fun o => World.cell?_of_block (w := w) e'
  have z' : ∀ o, w'.frozen? ⟨C, o, none⟩ = w.frozen? ⟨C, o, none⟩ := fun o => World.frozen?_of_block (w := w) e'
  exact ⟨by rw [c]; exact h.pc, fun k hk => by rw [c]; exact h.r k hk, fun k hk => by rw [c]; exact h.c k hk, by rw [c]; exact h.l, fun k hk => by rw [c']; exact h.m k hk, by rw [c]; exact h.t, by rw [c]; exact h.h, by rw [c]; exact h.x, by rw [c]; exact h.n, fun k hk => by rw [z]; exact h.z k hk, fun k hk => by rw [z']; exact h.y k hk, h.bc, own_block h.tr f, h.ne, h.nc⟩
theorem RAt.fr {B C : Nat} {s : St} {v : Value} {w w' : World} (h : RAt B C s v w) (k : Fr w w') : RAt B C s v w' := h.block (k.block B h.lt) (k.block C h.ltc) fun g e => k.block g (own_lt h.tr e)
theorem RAt.alike {B C : Nat} {s : St} {v : Value} {w w' : World} (h : RAt B C s v w) (k : w'.Alike w) : RAt B C s v w' := h.fr ((Fr.refl w).alike k)
theorem RAt.alloc {B C : Nat} {s : St} {v : Value} {w : World} (h : RAt B C s v w) (o : Obj) : RAt B C s v (w.alloc o) := h.fr ((Fr.refl w).alloc o)
theorem RAt.setFar {B C : Nat} {s : St} {v : Value} {w : World} (h : RAt B C s v w) (b o : Nat) (x : Value) (hb : b ≠ B) (hc : b ≠ C) (hv : v.ownBlock ≠ some b) : RAt B C s v (w.setCell ⟨b, o, none⟩ x) :=
  h.block (Below.heap_setCell _ _ _ B (by show B ≠ b; omega)) (Below.heap_setCell _ _ _ C (by show C ≠ b; omega)) fun g e => Below.heap_setCell _ _ _ g (by show g ≠ b; intro x; subst x; exact hv e)
theorem RAt.own_set {B C : Nat} {s : St} {v : Value} {w : World} (h : RAt B C s v w) (b o : Nat) (x : Value) (hb : b = B ∨ b = C) : (w.setCell ⟨b, o, none⟩ x).ownsRow 0 36 1 v s.t.length (s.t.map (Value.int .u32)) :=
  own_block h.tr fun g e => Below.heap_setCell _ _ _ g (by show g ≠ b; intro x; subst x; rcases hb with rfl | rfl; exact h.ne e; exact h.nc e)
theorem far_ne {B C i j : Nat} (h : B ≠ C) : (⟨B, i, none⟩ : Addr) ≠ ⟨C, j, none⟩ := fun e => h (by injection e)
theorem RAt.own {B C : Nat} {s s' : St} {v : Value} {w : World} (h : RAt B C s v w) (o : Nat) (x : Value) (ho : o < 38 ∨ 40 ≤ o)
    (epc : (o = 0 ∧ x = .int .u32 s'.pc) ∨ (o ≠ 0 ∧ s'.pc = s.pc)) (er : ∀ k, k < 32 → (o = 1 + k ∧ x = .int .u32 (s'.r k)) ∨ (o ≠ 1 + k ∧ s'.r k = s.r k))
    (ec : ∀ k, k < 5 → (o = 33 + k ∧ x = .int .u32 (s'.c k)) ∨ (o ≠ 33 + k ∧ s'.c k = s.c k)) (em : s'.m = s.m) (et : s'.t = s.t)
    (eh : (o = 40 ∧ x = .bool s'.h) ∨ (o ≠ 40 ∧ s'.h = s.h)) (ex : (o = 41 ∧ x = .int .u32 s'.x) ∨ (o ≠ 41 ∧ s'.x = s.x)) (en : (o = 42 ∧ x = .int .i64 s'.n) ∨ (o ≠ 42 ∧ s'.n = s.n)) : RAt B C s' v (w.setCell ⟨B, o, none⟩ x) := by
  have one : ∀ (k : Nat) (u u' : Value), w.cell? ⟨B, k, none⟩ = some u → ((o = k ∧ x = u') ∨ (o ≠ k ∧ u' = u)) → (w.setCell ⟨B, o, none⟩ x).cell? ⟨B, k, none⟩ = some u' := by
    intro k u u' h1 h2
    rcases h2 with ⟨rfl, rfl⟩ | ⟨h3, rfl⟩
    · exact set_same h1
    · rw [set_other (addr_ne h3)]; exact h1
  have t1 : ∀ k : Nat, ((o = k ∧ x = x) ∨ (o ≠ k ∧ x = x)) := fun k => by by_cases e : o = k; exact .inl ⟨e, rfl⟩; exact .inr ⟨e, rfl⟩
  refine ⟨one _ _ _ h.pc ?_, fun k hk => one _ _ _ (h.r k hk) ?_, fun k hk => one _ _ _ (h.c k hk) ?_, one _ _ _ h.l (.inr ⟨by omega, rfl⟩), fun k hk => ?_, one _ _ _ h.t (.inr ⟨by omega, rfl⟩), one _ _ _ h.h ?_, one _ _ _ h.x ?_, one _ _ _ h.n ?_, fun k hk => ?_, fun k hk => ?_, h.bc, ?_, h.ne, h.nc⟩
  · rcases epc with h | h; exact .inl h; exact .inr ⟨h.1, by rw [h.2]⟩
  · rcases er k hk with h | h; exact .inl h; exact .inr ⟨h.1, by rw [h.2]⟩
  · rcases ec k hk with h | h; exact .inl h; exact .inr ⟨h.1, by rw [h.2]⟩
  · rw [set_other (far_ne h.bc), em]; exact h.m k hk
  · rcases eh with h | h; exact .inl h; exact .inr ⟨h.1, by rw [h.2]⟩
  · rcases ex with h | h; exact .inl h; exact .inr ⟨h.1, by rw [h.2]⟩
  · rcases en with h | h; exact .inl h; exact .inr ⟨h.1, by rw [h.2]⟩
  · rw [World.frozen?_setCell]; exact h.z k hk
  · rw [World.frozen?_setCell]; exact h.y k hk
  · rw [et]; exact h.own_set B o x (.inl rfl)
theorem RAt.setPc {B C : Nat} {s : St} {v : Value} {w : World} (h : RAt B C s v w) (q : Int) : RAt B C (s.go q) v (w.setCell ⟨B, 0, none⟩ (.int .u32 q)) :=
  h.own 0 _ (by omega) (.inl ⟨rfl, rfl⟩) (fun k _ => .inr ⟨by omega, rfl⟩) (fun k _ => .inr ⟨by omega, rfl⟩) rfl rfl (.inr ⟨by omega, rfl⟩) (.inr ⟨by omega, rfl⟩) (.inr ⟨by omega, rfl⟩)
theorem RAt.setR {B C : Nat} {s : St} {v : Value} {w : World} (h : RAt B C s v w) (i : Nat) (hi : i < 32) (q : Int) : RAt B C (s.setR i q) v (w.setCell ⟨B, 1 + i, none⟩ (.int .u32 q)) :=
  h.own (1 + i) _ (by omega) (.inr ⟨by omega, rfl⟩) (fun k _ => by
    by_cases e : k = i
    · subst e; exact .inl ⟨rfl, by show _ = Value.int .u32 (upd s.r k q k); rw [upd_same]⟩
    · exact .inr ⟨by omega, upd_other _ _ e⟩) (fun k _ => .inr ⟨by omega, rfl⟩) rfl rfl (.inr ⟨by omega, rfl⟩) (.inr ⟨by omega, rfl⟩) (.inr ⟨by omega, rfl⟩)
theorem RAt.setC {B C : Nat} {s : St} {v : Value} {w : World} (h : RAt B C s v w) (i : Nat) (hi : i < 5) (q : Int) : RAt B C (s.setC i q) v (w.setCell ⟨B, 33 + i, none⟩ (.int .u32 q)) :=
  h.own (33 + i) _ (by omega) (.inr ⟨by omega, rfl⟩) (fun k _ => .inr ⟨by omega, rfl⟩) (fun k _ => by
    by_cases e : k = i
    · subst e; exact .inl ⟨rfl, by show _ = Value.int .u32 (upd s.c k q k); rw [upd_same]⟩
    · exact .inr ⟨by omega, upd_other _ _ e⟩) rfl rfl (.inr ⟨by omega, rfl⟩) (.inr ⟨by omega, rfl⟩) (.inr ⟨by omega, rfl⟩)
theorem RAt.setN {B C : Nat} {s : St} {v : Value} {w : World} (h : RAt B C s v w) : RAt B C s.more v (w.setCell ⟨B, 42, none⟩ (.int .i64 (s.n + 1))) :=
  h.own 42 _ (by omega) (.inr ⟨by omega, rfl⟩) (fun k _ => .inr ⟨by omega, rfl⟩) (fun k _ => .inr ⟨by omega, rfl⟩) rfl rfl (.inr ⟨by omega, rfl⟩) (.inr ⟨by omega, rfl⟩) (.inl ⟨rfl, rfl⟩)
theorem RAt.setH {B C : Nat} {s : St} {v : Value} {w : World} (h : RAt B C s v w) (q : Int) : RAt B C (s.halt q) v ((w.setCell ⟨B, 40, none⟩ (.bool true)).setCell ⟨B, 41, none⟩ (.int .u32 q)) := by
  have a : RAt B C { s with h := true } v (w.setCell ⟨B, 40, none⟩ (.bool true)) :=
    h.own 40 _ (by omega) (.inr ⟨by omega, rfl⟩) (fun k _ => .inr ⟨by omega, rfl⟩) (fun k _ => .inr ⟨by omega, rfl⟩) rfl rfl (.inl ⟨rfl, rfl⟩) (.inr ⟨by omega, rfl⟩) (.inr ⟨by omega, rfl⟩)
  exact a.own 41 _ (by omega) (.inr ⟨by omega, rfl⟩) (fun k _ => .inr ⟨by omega, rfl⟩) (fun k _ => .inr ⟨by omega, rfl⟩) rfl rfl (.inr ⟨by omega, rfl⟩) (.inl ⟨rfl, rfl⟩) (.inr ⟨by omega, rfl⟩)
theorem RAt.setM {B C : Nat} {s : St} {v : Value} {w : World} (h : RAt B C s v w) (i : Nat) (hi : i < 1024) (q : Int) : RAt B C (s.setM i q) v (w.setCell ⟨C, i, none⟩ (.int .u32 q)) := by
  have a : ∀ o, (w.setCell ⟨C, i, none⟩ (.int .u32 q)).cell? ⟨B, o, none⟩ = w.cell? ⟨B, o, none⟩ := fun o => set_other (far_ne (Ne.symm h.bc))
  refine ⟨by rw [a]; exact h.pc, fun k hk => by rw [a]; exact h.r k hk, fun k hk => by rw [a]; exact h.c k hk, by rw [a]; exact h.l, fun k hk => ?_, by rw [a]; exact h.t, by rw [a]; exact h.h, by rw [a]; exact h.x, by rw [a]; exact h.n, fun k hk => by rw [World.frozen?_setCell]; exact h.z k hk, fun k hk => by rw [World.frozen?_setCell]; exact h.y k hk, h.bc, h.own_set C i _ (.inr rfl), h.ne, h.nc⟩
  by_cases e : k = i
  · subst e; rw [set_same (h.m k hk)]; show _ = some (Value.int .u32 (upd s.m k q k)); rw [upd_same]
  · rw [set_other (addr_ne (by omega)), h.m k hk]; show _ = some (Value.int .u32 (upd s.m i q k)); rw [upd_other _ _ e]
/-- it is so now, and nothing else has turned -/
def RNow (B C : Nat) (v : Value) (s : St) (w w' : World) : Prop := RAt B C s v w' ∧ RChg B C w w'
theorem RNow.refl {B C : Nat} {v : Value} {s : St} {w : World} (h : RAt B C s v w) : RNow B C v s w w := ⟨h, RChg.refl B C w⟩
theorem RNow.alloc {B C : Nat} {v : Value} {s : St} {w w' : World} (h : RNow B C v s w w') (o : Obj) : RNow B C v s w (w'.alloc o) := ⟨h.1.alloc o, h.2.alloc o⟩
theorem RNow.alike {B C : Nat} {v : Value} {s : St} {u w w' : World} (h : RNow B C v s u w) (k : w'.Alike w) : RNow B C v s u w' := ⟨h.1.alike k, h.2.alike k⟩
theorem RNow.drew {B C : Nat} {v : Value} {s : St} {u w : World} (h : RNow B C v s u w) : RNow B C v s u w.drew := h.alike ⟨rfl, rfl, rfl⟩
theorem RNow.fr {B C : Nat} {v : Value} {s : St} {u w w' : World} (h : RNow B C v s u w) (k : Fr w w') : RNow B C v s u w' := ⟨h.1.fr k, h.2.fr k⟩
theorem RNow.then {B C : Nat} {v : Value} {s s' : St} {u w w' : World} (h : RNow B C v s u w) (k : RNow B C v s' w w') : RNow B C v s' u w' := ⟨k.1, h.2.trans k.2⟩
theorem RNow.setPc {B C : Nat} {v : Value} {s : St} {w w' : World} (h : RNow B C v s w w') (q : Int) : RNow B C v (s.go q) w (w'.setCell ⟨B, 0, none⟩ (.int .u32 q)) := ⟨h.1.setPc q, h.2.set _ _ _ (.inl rfl)⟩
theorem RNow.setR {B C : Nat} {v : Value} {s : St} {w w' : World} (h : RNow B C v s w w') (i : Nat) (hi : i < 32) (q : Int) : RNow B C v (s.setR i q) w (w'.setCell ⟨B, 1 + i, none⟩ (.int .u32 q)) := ⟨h.1.setR i hi q, h.2.set _ _ _ (.inl rfl)⟩
theorem RNow.setC {B C : Nat} {v : Value} {s : St} {w w' : World} (h : RNow B C v s w w') (i : Nat) (hi : i < 5) (q : Int) : RNow B C v (s.setC i q) w (w'.setCell ⟨B, 33 + i, none⟩ (.int .u32 q)) := ⟨h.1.setC i hi q, h.2.set _ _ _ (.inl rfl)⟩
theorem RNow.setM {B C : Nat} {v : Value} {s : St} {w w' : World} (h : RNow B C v s w w') (i : Nat) (hi : i < 1024) (q : Int) : RNow B C v (s.setM i q) w (w'.setCell ⟨C, i, none⟩ (.int .u32 q)) := ⟨h.1.setM i hi q, h.2.set _ _ _ (.inr (.inl rfl))⟩
theorem RNow.setN {B C : Nat} {v : Value} {s : St} {w w' : World} (h : RNow B C v s w w') : RNow B C v s.more w (w'.setCell ⟨B, 42, none⟩ (.int .i64 (s.n + 1))) := ⟨h.1.setN, h.2.set _ _ _ (.inl rfl)⟩
theorem RNow.setH {B C : Nat} {v : Value} {s : St} {w w' : World} (h : RNow B C v s w w') (q : Int) : RNow B C v (s.halt q) w ((w'.setCell ⟨B, 40, none⟩ (.bool true)).setCell ⟨B, 41, none⟩ (.int .u32 q)) := ⟨h.1.setH q, (h.2.set _ _ _ (.inl rfl)).set _ _ _ (.inl rfl)⟩
theorem RAt.put7 {B C : Nat} {s : St} {v : Value} {w : World} (h : RAt B C s v w) (b : Nat) (hb : b ≠ B) (hc : b ≠ C) (hv : v.ownBlock ≠ some b) (p x d : Int) (g : Bool) (a y k : Int) : RAt B C s v (put7 w b p x d g a y k) :=
  ((((((h.setFar b 0 _ hb hc hv).setFar b 1 _ hb hc hv).setFar b 2 _ hb hc hv).setFar b 3 _ hb hc hv).setFar b 4 _ hb hc hv).setFar b 5 _ hb hc hv).setFar b 6 _ hb hc hv
theorem RChg.put7 {B C : Nat} {u w : World} (h : RChg B C u w) (b : Nat) (hb : u.heap.size ≤ b) (p x d : Int) (g : Bool) (a y k : Int) : RChg B C u (put7 w b p x d g a y k) :=
  ((((((h.set b 0 _ (.inr (.inr hb))).set b 1 _ (.inr (.inr hb))).set b 2 _ (.inr (.inr hb))).set b 3 _ (.inr (.inr hb))).set b 4 _ (.inr (.inr hb))).set b 5 _ (.inr (.inr hb))).set b 6 _ (.inr (.inr hb))
theorem RNow.ends {B C b : Nat} {v : Value} {s s' : St} {w w' : World} (h : RNow B C v s' w w') (h0 : RAt B C s v w) (hb : w.heap.size ≤ b) (p x d : Int) (g : Bool) (a y k : Int) : RNow B C v s' w (put7 w' b p x d g a y k) :=
  ⟨h.1.put7 b (by have := h0.lt; omega) (by have := h0.ltc; omega) (fun e => by have := own_lt h0.tr e; omega) _ _ _ _ _ _ _, h.2.put7 b hb _ _ _ _ _ _ _⟩
theorem Box.rchg {B C b : Nat} {v : Value} {s0 : St} {u w w' : World} (h : Box b w) (h0 : RAt B C s0 v u) (hb : u.heap.size ≤ b) (k : RChg B C w w') : Box b w' :=
  h.block (k.block b (cell_lt h.c0) (by have := h0.lt; omega) (by have := h0.ltc; omega))
theorem RNow.inst {B C : Nat} {s : St} {v : Value} {w : World} (h : RAt B C s v w) (c : Array Value) : RNow B C v s w ((w.alloc (.cells c 62)).alloc (.cells z7 38)) := ((RNow.refl h).alloc _).alloc _
/-- it is so now, and nothing else has turned; what it told may lie in new memory -/
def RNxt (B C : Nat) (v : Value) (s : St) (w w' : World) : Prop := ∃ v', RAt B C s v' w' ∧ RChg B C w w' ∧ Moves w v v'
theorem RNow.nxt {B C : Nat} {v : Value} {s : St} {w w' : World} (h : RNow B C v s w w') : RNxt B C v s w w' := ⟨v, h.1, h.2, .inl rfl⟩
end Go.Proofs.YtpkbkbllhpdfiaaGreat.M
namespace Go.Proofs.YtpkbkbllhpdfiaaGreat.M
open Go.ChangeShapes Go.WideShapes Go.ChangeAt Go.RowKit Go.Proofs.YtpkbkbllhpdfiaaGreat.Walks Go.Proofs.YtpkbkbllhpdfiaaGreat.Mod
set_option linter.unusedVariables false
set_option maxRecDepth 100000 in
set_option maxHeartbeats 400000 in
theorem rtrap_in (B C : Nat) (s : St) (v : Value) (p k x : Int) (P : bits .andNot .u32 p 3 = p) (k0 : 0 ≤ k) (k1 : k ≤ 11) (w : World) (hM : Hid (RAt B C s v w)) :
    Calls Tryz.prog 38 #[.pointer (some ⟨B, 0, none⟩), .int .u32 p, .int .i64 k, .int .u32 x] w fun e w' => e = .returned (.agg (rc p 0 0 false 0 0 0)) ∧ RNow B C v ((((s.setC 2 p).setC 3 k).setC 4 x).go (s.c 0)) w w' := by
  have c0 := hM.out.pc
  have z0 := hM.out.z 0 (by decide)
  have d0 := hM.out.c 0 (by decide)
  have d2 := hM.out.c 2 (by decide)
  have d3 := hM.out.c 3 (by decide)
  have d4 := hM.out.c 4 (by decide)
  have z2 := hM.out.z 35 (by decide)
  have z3 := hM.out.z 36 (by decide)
  have z4 := hM.out.z 37 (by decide)
  have hb := hM.out.lt
  go_enter Tryz.func38, Tryz.ntmps38
  go_wp2_with fail
  go_region
  all_goals
    go_wp2_with fail
    refine bodyPost_ret (v := .agg (rc p 0 0 false 0 0 0)) (by simp [results, Tryz.results38, go_sem, *]) rfl ⟨rfl, ?_⟩
    exact ((((((RNow.refl hM.out).setC 2 (by decide) p).setC 3 (by decide) k).setC 4 (by decide) x).setPc (s.c 0)).alloc _).drew
theorem rtrap_as (B C : Nat) (s s' : St) (v : Value) (p k x : Int) (I : Inv s) (Q : Hid (s.pc = p)) (k0 : 0 ≤ k) (k1 : k ≤ 11) (S : Hid (s.trap k x = s')) (w : World) (hM : Hid (RAt B C s v w)) :
    Calls Tryz.prog 38 #[.pointer (some ⟨B, 0, none⟩), .int .u32 p, .int .i64 k, .int .u32 x] w fun e w' => e = .returned (.agg (rc p 0 0 false 0 0 0)) ∧ RNow B C v s' w w' := by
  obtain rfl : s.trap k x = s' := S
  obtain rfl : s.pc = p := Q
  have e := clear3 I.p
  have z := I.p4
  exact rtrap_in B C s v s.pc k x (by rw [e]; omega) k0 k1 w hM
set_option maxRecDepth 100000 in
set_option maxHeartbeats 400000 in
theorem rput_zero (B C : Nat) (s : St) (v : Value) (q1 q2 q3 : Int) (q4 : Bool) (q5 q6 q7 x : Int) (w : World) (hM : Hid (RAt B C s v w)) :
    Calls Tryz.prog 73 #[.pointer (some ⟨B, 0, none⟩), .agg (rc q1 q2 q3 q4 q5 q6 q7), .int .i64 0, .int .u32 x] w fun e w' => e = .returned (.agg (rc q1 q2 q3 q4 q5 q6 q7)) ∧ RNow B C v s w w' := by
  have hb := hM.out.lt
  go_enter Tryz.func73, Tryz.ntmps73
  go_wp2_with fail
  refine bodyPost_ret (v := .agg (rc q1 q2 q3 q4 q5 q6 q7)) (by simp [results, Tryz.results73, go_sem, *]) rfl ⟨rfl, ?_⟩
  exact ((RNow.refl hM.out).alloc _).alloc _
set_option maxRecDepth 100000 in
set_option maxHeartbeats 400000 in
theorem rput_reg (B C : Nat) (s : St) (v : Value) (q1 q2 q3 : Int) (q4 : Bool) (q5 q6 q7 x : Int) (d : Nat) (h0 : (1 : Int) ≤ d) (h1 : (d : Int) ≤ 31) (w : World) (hM : Hid (RAt B C s v w)) :
    Calls Tryz.prog 73 #[.pointer (some ⟨B, 0, none⟩), .agg (rc q1 q2 q3 q4 q5 q6 q7), .int .i64 (d : Int), .int .u32 x] w fun e w' => e = .returned (.agg (rc q1 x d q4 q5 q6 q7)) ∧ RNow B C v (s.setR d x) w w' := by
  have cr := hM.out.r d (by omega)
  have zr := hM.out.z (1 + d) (by omega)
  have hb := hM.out.lt
  have g0 : ((d : Int) == 0) = false := by rw [beq_eq_false_iff_ne]; omega
  have g1 : ¬ (d : Int) = 0 := by omega
  have g2 : ((d : Int) != 0) = true := by simpa using g1
  go_enter Tryz.func73, Tryz.ntmps73
  go_wp2_with fail
  refine bodyPost_ret (v := .agg (rc q1 x d q4 q5 q6 q7)) (by simp [results, Tryz.results73, go_sem, *]) rfl ⟨rfl, ?_⟩
  exact (((RNow.refl hM.out).setR d (by omega) x).alloc _).alloc _
theorem rput_as (B C : Nat) (s s' : St) (v : Value) (q1 x : Int) (d : Nat) (h1 : (d : Int) ≤ 31) (q : Rt) (Q : Hid ((bare q1).put d x = q)) (S : Hid (s.put d x = s')) (w : World) (hM : Hid (RAt B C s v w)) :
    Calls Tryz.prog 73 #[.pointer (some ⟨B, 0, none⟩), .agg (rc q1 0 0 false 0 0 0), .int .i64 (d : Int), .int .u32 x] w fun e w' => e = .returned (.agg (rc q.pc q.v q.d q.s q.a q.y q.k)) ∧ RNow B C v s' w w' := by
  obtain rfl : (bare q1).put d x = q := Q
  obtain rfl : s.put d x = s' := S
  by_cases h0 : d = 0
  · subst h0
    exact rput_zero B C s v q1 0 0 false 0 0 0 x w hM
  · have e1 : (bare q1).put d x = ⟨q1, x, d, false, 0, 0, 0⟩ := by unfold Rt.put; rw [if_neg h0]; rfl
    have e2 : s.put d x = s.setR d x := by unfold St.put; rw [if_neg h0]
    rw [e1, e2]
    exact rput_reg B C s v q1 0 0 false 0 0 0 x d (by omega) h1 w hM
end Go.Proofs.YtpkbkbllhpdfiaaGreat.M
namespace Go.Proofs.YtpkbkbllhpdfiaaGreat.M
open Go.ChangeShapes Go.WideShapes Go.ChangeAt Go.RowKit Go.Proofs.YtpkbkbllhpdfiaaGreat.Walks Go.Proofs.YtpkbkbllhpdfiaaGreat.Mod
set_option linter.unusedVariables false
set_option maxRecDepth 100000 in
set_option maxHeartbeats 600000 in
theorem rjump_jal_bad (B C : Nat) (s s' : St) (v : Value) (o n u x y t to r nx : Int) (d a b : Nat) (hd : (d : Int) ≤ 31) (q1 q2 q3 : Int) (q4 : Bool) (q5 q6 q7 : Int) (N : n % 4294967296 = u) (N' : IntKind.u32.wrap n = u) (NX : (s.pc + 4) % 4294967296 = nx) (NX' : IntKind.u32.wrap (s.pc + 4) = nx)
    (TO : (s.pc + u) % 4294967296 = to) (TO' : IntKind.u32.wrap (s.pc + u) = to) (F : Hid (Num.lt (Num.fm 3) = 74)) (M : to % 4 = r) (M' : to.tmod 4 = r) (g : ¬ r = 0) (g1 : (r != 0) = true) (g2 : (r == 0) = false) (S : Hid (s.trap 0 to = s')) (I : Hid (Inv s)) (w : World) (hM : Hid (RAt B C s v w)) :
    Calls Tryz.prog 69 #[.pointer (some ⟨B, 0, none⟩), .agg (cells 3 d a b n), .int .u32 x, .int .u32 y] w fun e w' => e = .returned (.agg (rc s.pc 0 0 false 0 0 0)) ∧ RNow B C v s' w w' := by
  have cp := hM.out.pc
  have zp := hM.out.z 0 (by decide)
  have hb := hM.out.lt
  have HW := hid (RNow.inst hM.out (cells 3 d a b n))
  have BX := hid (Box.inst w (cells 3 d a b n))
  go_enter Tryz.func69, Tryz.ntmps69
  go_wp2_with fail
  refine (rformat_as _ _ F _).mono ?_; rintro e w1 ⟨rfl, rfl⟩
  go_wp2_with fail
  refine (rtrap_as B C s s' v _ _ _ I.out rfl (by decide) (by decide) S _ (by exact HW.out.1.alike ⟨rfl, rfl, rfl⟩)).mono ?_; rintro e w1 ⟨rfl, hN⟩
  obtain ⟨b0, b1, b2, b3, b4, b5, b6, y0, y1, y2, y3, y4, y5, y6⟩ := Box.rchg (w := _) (by exact BX.out.alike ⟨rfl, rfl, rfl⟩) hM.out (Nat.le_add_right _ 1) hN.2
  go_wp2_with fail
  refine bodyPost_ret (v := .agg (rc s.pc 0 0 false 0 0 0)) (by simp [results, Tryz.results69, go_sem, *]) rfl ⟨rfl, ?_⟩
  exact RNow.ends (RNow.then (by exact HW.out.alike ⟨rfl, rfl, rfl⟩) hN) hM.out (Nat.le_add_right _ 1) s.pc 0 0 false 0 0 0
set_option maxRecDepth 100000 in
set_option maxHeartbeats 600000 in
theorem rjump_jal_good (B C : Nat) (s s' : St) (v : Value) (o n u x y t to r nx : Int) (d a b : Nat) (hd : (d : Int) ≤ 31) (q1 q2 q3 : Int) (q4 : Bool) (q5 q6 q7 : Int) (N : n % 4294967296 = u) (N' : IntKind.u32.wrap n = u) (NX : (s.pc + 4) % 4294967296 = nx) (NX' : IntKind.u32.wrap (s.pc + 4) = nx)
    (TO : (s.pc + u) % 4294967296 = to) (TO' : IntKind.u32.wrap (s.pc + u) = to) (F : Hid (Num.lt (Num.fm 3) = 74)) (M : to % 4 = 0) (M' : to.tmod 4 = 0) (Q : Hid ((bare s.pc).put d nx = ⟨q1, q2, q3, q4, q5, q6, q7⟩)) (S : Hid ((s.go to).put d nx = s')) (I : Hid (Inv s)) (w : World) (hM : Hid (RAt B C s v w)) :
    Calls Tryz.prog 69 #[.pointer (some ⟨B, 0, none⟩), .agg (cells 3 d a b n), .int .u32 x, .int .u32 y] w fun e w' => e = .returned (.agg (rc q1 q2 q3 q4 q5 q6 q7)) ∧ RNow B C v s' w w' := by
  have cp := hM.out.pc
  have zp := hM.out.z 0 (by decide)
  have hb := hM.out.lt
  have HW := hid (RNow.inst hM.out (cells 3 d a b n))
  have BX := hid (Box.inst w (cells 3 d a b n))
  go_enter Tryz.func69, Tryz.ntmps69
  go_wp2_with fail
  refine (rformat_as _ _ F _).mono ?_; rintro e w1 ⟨rfl, rfl⟩
  go_wp2_with fail
  have H1 : Hid (RNow B C v (s.go to) w (((w.setCell ⟨B, 0, none⟩ (.int .u32 to)).alloc (.cells (cells 3 d a b n) 62)).alloc (.cells z7 38))) := (((RNow.refl hM.out).setPc to).alloc _).alloc _
  have B1 : Hid (Box (w.heap.size + 1) (((w.setCell ⟨B, 0, none⟩ (.int .u32 to)).alloc (.cells (cells 3 d a b n) 62)).alloc (.cells z7 38))) := Box.at _ _ (by simp)
  refine (rput_as B C (s.go to) s' v _ _ d hd _ Q S _ (by exact H1.out.1.alike ⟨rfl, rfl, rfl⟩)).mono ?_; rintro e w1 ⟨rfl, hN⟩
  obtain ⟨b0, b1, b2, b3, b4, b5, b6, y0, y1, y2, y3, y4, y5, y6⟩ := Box.rchg (w := _) (by exact B1.out.alike ⟨rfl, rfl, rfl⟩) hM.out (Nat.le_add_right _ 1) hN.2
  go_wp2_with fail
  refine bodyPost_ret (v := .agg (rc q1 q2 q3 q4 q5 q6 q7)) (by simp [results, Tryz.results69, go_sem, *]) rfl ⟨rfl, ?_⟩
  exact RNow.ends (RNow.then (by exact H1.out.alike ⟨rfl, rfl, rfl⟩) hN) hM.out (Nat.le_add_right _ 1) q1 q2 q3 q4 q5 q6 q7
set_option maxRecDepth 100000 in
set_option maxHeartbeats 600000 in
theorem rjump_jalr_bad (B C : Nat) (s s' : St) (v : Value) (o n u x y t to r nx : Int) (d a b : Nat) (hd : (d : Int) ≤ 31) (q1 q2 q3 : Int) (q4 : Bool) (q5 q6 q7 : Int) (N : n % 4294967296 = u) (N' : IntKind.u32.wrap n = u) (NX : (s.pc + 4) % 4294967296 = nx) (NX' : IntKind.u32.wrap (s.pc + 4) = nx)
    (TW : (x + u) % 4294967296 = t) (TW' : IntKind.u32.wrap (x + u) = t) (TO : bits .andNot .u32 t 1 = to) (F : Hid (Num.lt (Num.fm 4) = 73)) (M : to % 4 = r) (M' : to.tmod 4 = r) (g : ¬ r = 0) (g1 : (r != 0) = true) (g2 : (r == 0) = false) (S : Hid (s.trap 0 to = s')) (I : Hid (Inv s)) (w : World) (hM : Hid (RAt B C s v w)) :
    Calls Tryz.prog 69 #[.pointer (some ⟨B, 0, none⟩), .agg (cells 4 d a b n), .int .u32 x, .int .u32 y] w fun e w' => e = .returned (.agg (rc s.pc 0 0 false 0 0 0)) ∧ RNow B C v s' w w' := by
  have cp := hM.out.pc
  have zp := hM.out.z 0 (by decide)
  have hb := hM.out.lt
  have HW := hid (RNow.inst hM.out (cells 4 d a b n))
  have BX := hid (Box.inst w (cells 4 d a b n))
  go_enter Tryz.func69, Tryz.ntmps69
  go_wp2_with fail
  refine (rformat_as _ _ F _).mono ?_; rintro e w1 ⟨rfl, rfl⟩
  go_wp2_with fail
  refine (rtrap_as B C s s' v _ _ _ I.out rfl (by decide) (by decide) S _ (by exact HW.out.1.alike ⟨rfl, rfl, rfl⟩)).mono ?_; rintro e w1 ⟨rfl, hN⟩
  obtain ⟨b0, b1, b2, b3, b4, b5, b6, y0, y1, y2, y3, y4, y5, y6⟩ := Box.rchg (w := _) (by exact BX.out.alike ⟨rfl, rfl, rfl⟩) hM.out (Nat.le_add_right _ 1) hN.2
  go_wp2_with fail
  refine bodyPost_ret (v := .agg (rc s.pc 0 0 false 0 0 0)) (by simp [results, Tryz.results69, go_sem, *]) rfl ⟨rfl, ?_⟩
  exact RNow.ends (RNow.then (by exact HW.out.alike ⟨rfl, rfl, rfl⟩) hN) hM.out (Nat.le_add_right _ 1) s.pc 0 0 false 0 0 0
set_option maxRecDepth 100000 in
set_option maxHeartbeats 600000 in
theorem rjump_jalr_good (B C : Nat) (s s' : St) (v : Value) (o n u x y t to r nx : Int) (d a b : Nat) (hd : (d : Int) ≤ 31) (q1 q2 q3 : Int) (q4 : Bool) (q5 q6 q7 : Int) (N : n % 4294967296 = u) (N' : IntKind.u32.wrap n = u) (NX : (s.pc + 4) % 4294967296 = nx) (NX' : IntKind.u32.wrap (s.pc + 4) = nx)
    (TW : (x + u) % 4294967296 = t) (TW' : IntKind.u32.wrap (x + u) = t) (TO : bits .andNot .u32 t 1 = to) (F : Hid (Num.lt (Num.fm 4) = 73)) (M : to % 4 = 0) (M' : to.tmod 4 = 0) (Q : Hid ((bare s.pc).put d nx = ⟨q1, q2, q3, q4, q5, q6, q7⟩)) (S : Hid ((s.go to).put d nx = s')) (I : Hid (Inv s)) (w : World) (hM : Hid (RAt B C s v w)) :
    Calls Tryz.prog 69 #[.pointer (some ⟨B, 0, none⟩), .agg (cells 4 d a b n), .int .u32 x, .int .u32 y] w fun e w' => e = .returned (.agg (rc q1 q2 q3 q4 q5 q6 q7)) ∧ RNow B C v s' w w' := by
  have cp := hM.out.pc
  have zp := hM.out.z 0 (by decide)
  have hb := hM.out.lt
  have HW := hid (RNow.inst hM.out (cells 4 d a b n))
  have BX := hid (Box.inst w (cells 4 d a b n))
  go_enter Tryz.func69, Tryz.ntmps69
  go_wp2_with fail
  refine (rformat_as _ _ F _).mono ?_; rintro e w1 ⟨rfl, rfl⟩
  go_wp2_with fail
  have H1 : Hid (RNow B C v (s.go to) w (((w.setCell ⟨B, 0, none⟩ (.int .u32 to)).alloc (.cells (cells 4 d a b n) 62)).alloc (.cells z7 38))) := (((RNow.refl hM.out).setPc to).alloc _).alloc _
  have B1 : Hid (Box (w.heap.size + 1) (((w.setCell ⟨B, 0, none⟩ (.int .u32 to)).alloc (.cells (cells 4 d a b n) 62)).alloc (.cells z7 38))) := Box.at _ _ (by simp)
  refine (rput_as B C (s.go to) s' v _ _ d hd _ Q S _ (by exact H1.out.1.alike ⟨rfl, rfl, rfl⟩)).mono ?_; rintro e w1 ⟨rfl, hN⟩
  obtain ⟨b0, b1, b2, b3, b4, b5, b6, y0, y1, y2, y3, y4, y5, y6⟩ := Box.rchg (w := _) (by exact B1.out.alike ⟨rfl, rfl, rfl⟩) hM.out (Nat.le_add_right _ 1) hN.2
  go_wp2_with fail
  refine bodyPost_ret (v := .agg (rc q1 q2 q3 q4 q5 q6 q7)) (by simp [results, Tryz.results69, go_sem, *]) rfl ⟨rfl, ?_⟩
  exact RNow.ends (RNow.then (by exact H1.out.alike ⟨rfl, rfl, rfl⟩) hN) hM.out (Nat.le_add_right _ 1) q1 q2 q3 q4 q5 q6 q7
set_option maxRecDepth 100000 in
set_option maxHeartbeats 600000 in
theorem rjump_br_bad (B C : Nat) (s s' : St) (v : Value) (o n u x y t to r nx : Int) (d a b : Nat) (hd : (d : Int) ≤ 31) (q1 q2 q3 : Int) (q4 : Bool) (q5 q6 q7 : Int) (N : n % 4294967296 = u) (N' : IntKind.u32.wrap n = u) (NX : (s.pc + 4) % 4294967296 = nx) (NX' : IntKind.u32.wrap (s.pc + 4) = nx)
    (g4 : (o == 4) = false) (TO : (s.pc + u) % 4294967296 = to) (TO' : IntKind.u32.wrap (s.pc + u) = to) (F : Hid (Num.lt (Num.fm o) = 66)) (G : Hid (U.Num.tk o x y = true)) (M : to % 4 = r) (M' : to.tmod 4 = r) (g : ¬ r = 0) (g1 : (r != 0) = true) (g2 : (r == 0) = false) (S : Hid (s.trap 0 to = s')) (I : Hid (Inv s)) (w : World) (hM : Hid (RAt B C s v w)) :
    Calls Tryz.prog 69 #[.pointer (some ⟨B, 0, none⟩), .agg (cells o d a b n), .int .u32 x, .int .u32 y] w fun e w' => e = .returned (.agg (rc s.pc 0 0 false 0 0 0)) ∧ RNow B C v s' w w' := by
  have cp := hM.out.pc
  have zp := hM.out.z 0 (by decide)
  have hb := hM.out.lt
  have HW := hid (RNow.inst hM.out (cells o d a b n))
  have BX := hid (Box.inst w (cells o d a b n))
  go_enter Tryz.func69, Tryz.ntmps69
  go_wp2_with fail
  refine (rformat_as _ _ F _).mono ?_; rintro e w1 ⟨rfl, rfl⟩
  go_wp2_with fail
  refine (U.Walks.rtaken_as _ _ _ _ G _).mono ?_; rintro e w1 ⟨rfl, rfl⟩
  go_wp2_with fail
  refine (rtrap_as B C s s' v _ _ _ I.out rfl (by decide) (by decide) S _ (by exact HW.out.1.alike ⟨rfl, rfl, rfl⟩)).mono ?_; rintro e w1 ⟨rfl, hN⟩
  obtain ⟨b0, b1, b2, b3, b4, b5, b6, y0, y1, y2, y3, y4, y5, y6⟩ := Box.rchg (w := _) (by exact BX.out.alike ⟨rfl, rfl, rfl⟩) hM.out (Nat.le_add_right _ 1) hN.2
  go_wp2_with fail
  refine bodyPost_ret (v := .agg (rc s.pc 0 0 false 0 0 0)) (by simp [results, Tryz.results69, go_sem, *]) rfl ⟨rfl, ?_⟩
  exact RNow.ends (RNow.then (by exact HW.out.alike ⟨rfl, rfl, rfl⟩) hN) hM.out (Nat.le_add_right _ 1) s.pc 0 0 false 0 0 0
set_option maxRecDepth 100000 in
set_option maxHeartbeats 600000 in
theorem rjump_br_good (B C : Nat) (s s' : St) (v : Value) (o n u x y t to r nx : Int) (d a b : Nat) (hd : (d : Int) ≤ 31) (q1 q2 q3 : Int) (q4 : Bool) (q5 q6 q7 : Int) (N : n % 4294967296 = u) (N' : IntKind.u32.wrap n = u) (NX : (s.pc + 4) % 4294967296 = nx) (NX' : IntKind.u32.wrap (s.pc + 4) = nx)
    (g4 : (o == 4) = false) (TO : (s.pc + u) % 4294967296 = to) (TO' : IntKind.u32.wrap (s.pc + u) = to) (F : Hid (Num.lt (Num.fm o) = 66)) (G : Hid (U.Num.tk o x y = true)) (M : to % 4 = 0) (M' : to.tmod 4 = 0) (Q : Hid ((bare s.pc).put d nx = ⟨q1, q2, q3, q4, q5, q6, q7⟩)) (S : Hid ((s.go to).put d nx = s')) (I : Hid (Inv s)) (w : World) (hM : Hid (RAt B C s v w)) :
    Calls Tryz.prog 69 #[.pointer (some ⟨B, 0, none⟩), .agg (cells o d a b n), .int .u32 x, .int .u32 y] w fun e w' => e = .returned (.agg (rc q1 q2 q3 q4 q5 q6 q7)) ∧ RNow B C v s' w w' := by
  have cp := hM.out.pc
  have zp := hM.out.z 0 (by decide)
  have hb := hM.out.lt
  have HW := hid (RNow.inst hM.out (cells o d a b n))
  have BX := hid (Box.inst w (cells o d a b n))
  go_enter Tryz.func69, Tryz.ntmps69
  go_wp2_with fail
  refine (rformat_as _ _ F _).mono ?_; rintro e w1 ⟨rfl, rfl⟩
  go_wp2_with fail
  refine (U.Walks.rtaken_as _ _ _ _ G _).mono ?_; rintro e w1 ⟨rfl, rfl⟩
  go_wp2_with fail
  have H1 : Hid (RNow B C v (s.go to) w (((w.setCell ⟨B, 0, none⟩ (.int .u32 to)).alloc (.cells (cells o d a b n) 62)).alloc (.cells z7 38))) := (((RNow.refl hM.out).setPc to).alloc _).alloc _
  have B1 : Hid (Box (w.heap.size + 1) (((w.setCell ⟨B, 0, none⟩ (.int .u32 to)).alloc (.cells (cells o d a b n) 62)).alloc (.cells z7 38))) := Box.at _ _ (by simp)
  refine (rput_as B C (s.go to) s' v _ _ d hd _ Q S _ (by exact H1.out.1.alike ⟨rfl, rfl, rfl⟩)).mono ?_; rintro e w1 ⟨rfl, hN⟩
  obtain ⟨b0, b1, b2, b3, b4, b5, b6, y0, y1, y2, y3, y4, y5, y6⟩ := Box.rchg (w := _) (by exact B1.out.alike ⟨rfl, rfl, rfl⟩) hM.out (Nat.le_add_right _ 1) hN.2
  go_wp2_with fail
  refine bodyPost_ret (v := .agg (rc q1 q2 q3 q4 q5 q6 q7)) (by simp [results, Tryz.results69, go_sem, *]) rfl ⟨rfl, ?_⟩
  exact RNow.ends (RNow.then (by exact H1.out.alike ⟨rfl, rfl, rfl⟩) hN) hM.out (Nat.le_add_right _ 1) q1 q2 q3 q4 q5 q6 q7
set_option maxRecDepth 100000 in
set_option maxHeartbeats 600000 in
theorem rjump_not (B C : Nat) (s s' : St) (v : Value) (o n u x y t to r nx : Int) (d a b : Nat) (hd : (d : Int) ≤ 31) (q1 q2 q3 : Int) (q4 : Bool) (q5 q6 q7 : Int) (N : n % 4294967296 = u) (N' : IntKind.u32.wrap n = u) (NX : (s.pc + 4) % 4294967296 = nx) (NX' : IntKind.u32.wrap (s.pc + 4) = nx)
    (g4 : (o == 4) = false) (TO : (s.pc + u) % 4294967296 = to) (TO' : IntKind.u32.wrap (s.pc + u) = to) (F : Hid (Num.lt (Num.fm o) = 66)) (G : Hid (U.Num.tk o x y = false)) (I : Hid (Inv s)) (w : World) (hM : Hid (RAt B C s v w)) :
    Calls Tryz.prog 69 #[.pointer (some ⟨B, 0, none⟩), .agg (cells o d a b n), .int .u32 x, .int .u32 y] w fun e w' => e = .returned (.agg (rc s.pc 0 0 false 0 0 0)) ∧ RNow B C v (s.go nx) w w' := by
  have cp := hM.out.pc
  have zp := hM.out.z 0 (by decide)
  have hb := hM.out.lt
  have HW := hid (RNow.inst hM.out (cells o d a b n))
  have BX := hid (Box.inst w (cells o d a b n))
  go_enter Tryz.func69, Tryz.ntmps69
  go_wp2_with fail
  refine (rformat_as _ _ F _).mono ?_; rintro e w1 ⟨rfl, rfl⟩
  go_wp2_with fail
  refine (U.Walks.rtaken_as _ _ _ _ G _).mono ?_; rintro e w1 ⟨rfl, rfl⟩
  go_wp2_with fail
  refine bodyPost_ret (v := .agg (rc s.pc 0 0 false 0 0 0)) (by simp [results, Tryz.results69, go_sem, *]) rfl ⟨rfl, ?_⟩
  exact (((RNow.refl hM.out).setPc nx).alloc _).alloc _
end Go.Proofs.YtpkbkbllhpdfiaaGreat.M
namespace Go.Proofs.YtpkbkbllhpdfiaaGreat.M
open Go.ChangeShapes Go.WideShapes Go.ChangeAt Go.RowKit Go.Proofs.YtpkbkbllhpdfiaaGreat.Walks Go.Proofs.YtpkbkbllhpdfiaaGreat.Mod
set_option linter.unusedVariables false
set_option maxRecDepth 100000 in
set_option maxHeartbeats 400000 in
theorem rput0 (B : Nat) (q1 q2 q3 : Int) (q4 : Bool) (q5 q6 q7 x : Int) (w : World) :
    Calls Tryz.prog 73 #[.pointer (some ⟨B, 0, none⟩), .agg (rc q1 q2 q3 q4 q5 q6 q7), .int .i64 0, .int .u32 x] w fun e w' => e = .returned (.agg (rc q1 q2 q3 q4 q5 q6 q7)) ∧ w' = (w.alloc (.cells (rc q1 q2 q3 q4 q5 q6 q7) 38)).alloc (.cells (rc q1 q2 q3 q4 q5 q6 q7) 38) := by
  go_enter Tryz.func73, Tryz.ntmps73
  go_wp2_with fail
  refine bodyPost_ret (v := .agg (rc q1 q2 q3 q4 q5 q6 q7)) (by simp [results, Tryz.results73, go_sem, *]) rfl ⟨rfl, ?_⟩
  rfl
set_option maxRecDepth 100000 in
set_option maxHeartbeats 400000 in
theorem rputR (B : Nat) (q1 q2 q3 : Int) (q4 : Bool) (q5 q6 q7 x old : Int) (d : Nat) (h0 : (1 : Int) ≤ d) (h1 : (d : Int) ≤ 31) (w : World) (hb : B < w.heap.size) (cr : w.cell? ⟨B, 1 + d, none⟩ = some (.int .u32 old)) (zr : w.frozen? ⟨B, 1 + d, none⟩ = false) :
    Calls Tryz.prog 73 #[.pointer (some ⟨B, 0, none⟩), .agg (rc q1 q2 q3 q4 q5 q6 q7), .int .i64 (d : Int), .int .u32 x] w fun e w' => e = .returned (.agg (rc q1 x d q4 q5 q6 q7)) ∧ w' = ((w.setCell ⟨B, 1 + d, none⟩ (.int .u32 x)).alloc (.cells (rc q1 x d q4 q5 q6 q7) 38)).alloc (.cells (rc q1 x d q4 q5 q6 q7) 38) := by
  have g0 : ((d : Int) == 0) = false := by rw [beq_eq_false_iff_ne]; omega
  have g1 : ¬ (d : Int) = 0 := by omega
  have g2 : ((d : Int) != 0) = true := by simpa using g1
  go_enter Tryz.func73, Tryz.ntmps73
  go_wp2_with fail
  refine bodyPost_ret (v := .agg (rc q1 x d q4 q5 q6 q7)) (by simp [results, Tryz.results73, go_sem, *]) rfl ⟨rfl, ?_⟩
  rfl
end Go.Proofs.YtpkbkbllhpdfiaaGreat.M
namespace Go.Proofs.YtpkbkbllhpdfiaaGreat.M
open Go.ChangeShapes Go.WideShapes Go.ChangeAt Go.RowKit Go.Proofs.YtpkbkbllhpdfiaaGreat.Walks Go.Proofs.YtpkbkbllhpdfiaaGreat.Mod
set_option linter.unusedVariables false
set_option maxRecDepth 100000 in
set_option maxHeartbeats 4000000 in
theorem rdo_p1z (B C : Nat) (s : St) (v : Value) (o f n u x y z nx vv : Int) (a b : Nat) (ha : (a : Int) ≤ 31) (hb31 : (b : Int) ≤ 31) (X : Hid (s.r a = x)) (Y : Hid (s.r b = y)) (N : n % 4294967296 = u) (N' : IntKind.u32.wrap n = u) (NX : (s.pc + 4) % 4294967296 = nx) (F : Hid (Num.lt (Num.fm 1) = 85)) (Z : Hid (V.Num.sz 1 = 0))
    (w : World) (hM : Hid (RAt B C s v w)) :
    Calls Tryz.prog 40 #[.pointer (some ⟨B, 0, none⟩), .agg (cells 1 0 a b n), .int .u32 vv] w fun e w' => e = .returned (.agg (rc s.pc 0 0 false 0 0 0)) ∧ RNow B C v (s.go nx) w w' := by
  have cp := hM.out.pc
  have zp := hM.out.z 0 (by decide)
  have ca := hM.out.r a (by omega)
  rw [X.out] at ca
  have cb := hM.out.r b (by omega)
  rw [Y.out] at cb
  have hb := hM.out.lt
  have hb1 : B < w.heap.size + 1 := by omega
  have hb2 : B < w.heap.size + 1 + 1 := by omega
  have hb3 : B < w.heap.size + 1 + 1 + 1 := by omega
  have hb4 : B < w.heap.size + 1 + 1 + 1 + 1 := by omega
  have hw2 : w.heap.size < w.heap.size + 1 + 1 := by omega
  have hw3 : w.heap.size + 1 < w.heap.size + 1 + 1 + 1 := by omega
  have hw4 : w.heap.size + 1 < w.heap.size + 1 + 1 + 1 + 1 := by omega
  have hw5 : w.heap.size + 1 + 1 < w.heap.size + 1 + 1 + 1 + 1 := by omega
  go_enter Tryz.func40, Tryz.ntmps40
  go_wp2_with fail
  go_region
  all_goals
    go_wp2_with fail
    refine (rformat_as _ _ F _).mono ?_; rintro e w1 ⟨rfl, rfl⟩
    go_wp2_with fail
    refine (V.Walks.rsize_as _ _ Z _).mono ?_; rintro e w1 ⟨rfl, rfl⟩
    go_wp2_with fail
    (refine (rput0 B _ _ _ _ _ _ _ _ _).mono ?_; rintro e w1 ⟨rfl, rfl⟩)
    all_goals
      go_wp2_with fail
      refine bodyPost_ret (v := .agg (rc s.pc 0 0 false 0 0 0)) (by simp [results, Tryz.results40, go_sem, *]) rfl ⟨rfl, ?_⟩
      first
        | exact (((((((RNow.refl hM.out).setPc nx).alloc _).alloc _).alloc _).alloc _).alloc _).drew
        | exact (((((((RNow.refl hM.out).setPc nx).alloc _).alloc _).alloc _).alloc _).alloc _).drew.drew
        | (trace_state; fail)
set_option maxRecDepth 100000 in
set_option maxHeartbeats 4000000 in
theorem rdo_p1r (B C : Nat) (s : St) (v : Value) (o f n u x y z nx vv : Int) (a b : Nat) (d : Nat) (h0 : (1 : Int) ≤ d) (h1 : (d : Int) ≤ 31) (ha : (a : Int) ≤ 31) (hb31 : (b : Int) ≤ 31) (X : Hid (s.r a = x)) (Y : Hid (s.r b = y)) (N : n % 4294967296 = u) (N' : IntKind.u32.wrap n = u) (NX : (s.pc + 4) % 4294967296 = nx) (F : Hid (Num.lt (Num.fm 1) = 85)) (Z : Hid (V.Num.sz 1 = 0))
    (w : World) (hM : Hid (RAt B C s v w)) :
    Calls Tryz.prog 40 #[.pointer (some ⟨B, 0, none⟩), .agg (cells 1 (d : Int) a b n), .int .u32 vv] w fun e w' => e = .returned (.agg (rc s.pc u d false 0 0 0)) ∧ RNow B C v ((s.setR d u).go nx) w w' := by
  have cp := hM.out.pc
  have zp := hM.out.z 0 (by decide)
  have ca := hM.out.r a (by omega)
  rw [X.out] at ca
  have cb := hM.out.r b (by omega)
  rw [Y.out] at cb
  obtain ⟨old, cd⟩ : ∃ old, w.cell? ⟨B, 1 + d, none⟩ = some (.int .u32 old) := ⟨_, hM.out.r d (by omega)⟩
  have zd := hM.out.z (1 + d) (by omega)
  have hb := hM.out.lt
  have hb1 : B < w.heap.size + 1 := by omega
  have hb2 : B < w.heap.size + 1 + 1 := by omega
  have hb3 : B < w.heap.size + 1 + 1 + 1 := by omega
  have hb4 : B < w.heap.size + 1 + 1 + 1 + 1 := by omega
  have hw2 : w.heap.size < w.heap.size + 1 + 1 := by omega
  have hw3 : w.heap.size + 1 < w.heap.size + 1 + 1 + 1 := by omega
  have hw4 : w.heap.size + 1 < w.heap.size + 1 + 1 + 1 + 1 := by omega
  have hw5 : w.heap.size + 1 + 1 < w.heap.size + 1 + 1 + 1 + 1 := by omega
  have FW : Hid (Fr w (((w.alloc (.cells (cells 1 (d : Int) a b n) 62)).alloc (.cells z7 38)).alloc (.cells (rc s.pc 0 0 false 0 0 0) 38))) := (((Fr.refl w).alloc _).alloc _).alloc _
  have CD : Hid (∀ W : World, W.Alike (((w.alloc (.cells (cells 1 (d : Int) a b n) 62)).alloc (.cells z7 38)).alloc (.cells (rc s.pc 0 0 false 0 0 0) 38)) → B < W.heap.size ∧ W.cell? ⟨B, 1 + d, none⟩ = some (.int .u32 old) ∧ W.frozen? ⟨B, 1 + d, none⟩ = false) := fun W e => ⟨by rw [e.1]; exact Nat.lt_of_lt_of_le hb FW.out.size, (World.cell?_of_block (w := _) (by rw [e.1]; exact FW.out.block B hb)).trans cd, (World.frozen?_of_block (w := _) (by rw [e.1]; exact FW.out.block B hb)).trans zd⟩
  go_enter Tryz.func40, Tryz.ntmps40
  go_wp2_with fail
  go_region
  all_goals
    go_wp2_with fail
    refine (rformat_as _ _ F _).mono ?_; rintro e w1 ⟨rfl, rfl⟩
    go_wp2_with fail
    refine (V.Walks.rsize_as _ _ Z _).mono ?_; rintro e w1 ⟨rfl, rfl⟩
    go_wp2_with fail
    (refine (rputR B _ _ _ _ _ _ _ _ old d h0 h1 _ (by exact (CD.out _ ⟨rfl, rfl, rfl⟩).1) (by exact (CD.out _ ⟨rfl, rfl, rfl⟩).2.1) (by exact (CD.out _ ⟨rfl, rfl, rfl⟩).2.2)).mono ?_; rintro e w1 ⟨rfl, rfl⟩)
    all_goals
      go_wp2_with fail
      refine bodyPost_ret (v := .agg (rc s.pc u d false 0 0 0)) (by simp [results, Tryz.results40, go_sem, *]) rfl ⟨rfl, ?_⟩
      first
        | exact ((((((((RNow.refl hM.out).setR d (by omega) u).setPc nx).alloc _).alloc _).alloc _).alloc _).alloc _).drew
        | exact ((((((((RNow.refl hM.out).setR d (by omega) u).setPc nx).alloc _).alloc _).alloc _).alloc _).alloc _).drew.drew
        | (trace_state; fail)
set_option maxRecDepth 100000 in
set_option maxHeartbeats 4000000 in
theorem rdo_p2z (B C : Nat) (s : St) (v : Value) (o f n u x y z nx vv : Int) (a b : Nat) (ha : (a : Int) ≤ 31) (hb31 : (b : Int) ≤ 31) (X : Hid (s.r a = x)) (Y : Hid (s.r b = y)) (N : n % 4294967296 = u) (N' : IntKind.u32.wrap n = u) (NX : (s.pc + 4) % 4294967296 = nx) (F : Hid (Num.lt (Num.fm 2) = 85)) (Z : Hid (V.Num.sz 2 = 0)) (ZZ : (s.pc + u) % 4294967296 = z)
    (w : World) (hM : Hid (RAt B C s v w)) :
    Calls Tryz.prog 40 #[.pointer (some ⟨B, 0, none⟩), .agg (cells 2 0 a b n), .int .u32 vv] w fun e w' => e = .returned (.agg (rc s.pc 0 0 false 0 0 0)) ∧ RNow B C v (s.go nx) w w' := by
  have cp := hM.out.pc
  have zp := hM.out.z 0 (by decide)
  have ca := hM.out.r a (by omega)
  rw [X.out] at ca
  have cb := hM.out.r b (by omega)
  rw [Y.out] at cb
  have hb := hM.out.lt
  have hb1 : B < w.heap.size + 1 := by omega
  have hb2 : B < w.heap.size + 1 + 1 := by omega
  have hb3 : B < w.heap.size + 1 + 1 + 1 := by omega
  have hb4 : B < w.heap.size + 1 + 1 + 1 + 1 := by omega
  have hw2 : w.heap.size < w.heap.size + 1 + 1 := by omega
  have hw3 : w.heap.size + 1 < w.heap.size + 1 + 1 + 1 := by omega
  have hw4 : w.heap.size + 1 < w.heap.size + 1 + 1 + 1 + 1 := by omega
  have hw5 : w.heap.size + 1 + 1 < w.heap.size + 1 + 1 + 1 + 1 := by omega
  go_enter Tryz.func40, Tryz.ntmps40
  go_wp2_with fail
  go_region
  all_goals
    go_wp2_with fail
    refine (rformat_as _ _ F _).mono ?_; rintro e w1 ⟨rfl, rfl⟩
    go_wp2_with fail
    refine (V.Walks.rsize_as _ _ Z _).mono ?_; rintro e w1 ⟨rfl, rfl⟩
    go_wp2_with fail
    (refine (rput0 B _ _ _ _ _ _ _ _ _).mono ?_; rintro e w1 ⟨rfl, rfl⟩)
    all_goals
      go_wp2_with fail
      refine bodyPost_ret (v := .agg (rc s.pc 0 0 false 0 0 0)) (by simp [results, Tryz.results40, go_sem, *]) rfl ⟨rfl, ?_⟩
      first
        | exact (((((((RNow.refl hM.out).setPc nx).alloc _).alloc _).alloc _).alloc _).alloc _).drew
        | exact (((((((RNow.refl hM.out).setPc nx).alloc _).alloc _).alloc _).alloc _).alloc _).drew.drew
        | (trace_state; fail)
set_option maxRecDepth 100000 in
set_option maxHeartbeats 4000000 in
theorem rdo_p2r (B C : Nat) (s : St) (v : Value) (o f n u x y z nx vv : Int) (a b : Nat) (d : Nat) (h0 : (1 : Int) ≤ d) (h1 : (d : Int) ≤ 31) (ha : (a : Int) ≤ 31) (hb31 : (b : Int) ≤ 31) (X : Hid (s.r a = x)) (Y : Hid (s.r b = y)) (N : n % 4294967296 = u) (N' : IntKind.u32.wrap n = u) (NX : (s.pc + 4) % 4294967296 = nx) (F : Hid (Num.lt (Num.fm 2) = 85)) (Z : Hid (V.Num.sz 2 = 0)) (ZZ : (s.pc + u) % 4294967296 = z)
    (w : World) (hM : Hid (RAt B C s v w)) :
    Calls Tryz.prog 40 #[.pointer (some ⟨B, 0, none⟩), .agg (cells 2 (d : Int) a b n), .int .u32 vv] w fun e w' => e = .returned (.agg (rc s.pc z d false 0 0 0)) ∧ RNow B C v ((s.setR d z).go nx) w w' := by
  have cp := hM.out.pc
  have zp := hM.out.z 0 (by decide)
  have ca := hM.out.r a (by omega)
  rw [X.out] at ca
  have cb := hM.out.r b (by omega)
  rw [Y.out] at cb
  obtain ⟨old, cd⟩ : ∃ old, w.cell? ⟨B, 1 + d, none⟩ = some (.int .u32 old) := ⟨_, hM.out.r d (by omega)⟩
  have zd := hM.out.z (1 + d) (by omega)
  have hb := hM.out.lt
  have hb1 : B < w.heap.size + 1 := by omega
  have hb2 : B < w.heap.size + 1 + 1 := by omega
  have hb3 : B < w.heap.size + 1 + 1 + 1 := by omega
  have hb4 : B < w.heap.size + 1 + 1 + 1 + 1 := by omega
  have hw2 : w.heap.size < w.heap.size + 1 + 1 := by omega
  have hw3 : w.heap.size + 1 < w.heap.size + 1 + 1 + 1 := by omega
  have hw4 : w.heap.size + 1 < w.heap.size + 1 + 1 + 1 + 1 := by omega
  have hw5 : w.heap.size + 1 + 1 < w.heap.size + 1 + 1 + 1 + 1 := by omega
  have FW : Hid (Fr w (((w.alloc (.cells (cells 2 (d : Int) a b n) 62)).alloc (.cells z7 38)).alloc (.cells (rc s.pc 0 0 false 0 0 0) 38))) := (((Fr.refl w).alloc _).alloc _).alloc _
  have CD : Hid (∀ W : World, W.Alike (((w.alloc (.cells (cells 2 (d : Int) a b n) 62)).alloc (.cells z7 38)).alloc (.cells (rc s.pc 0 0 false 0 0 0) 38)) → B < W.heap.size ∧ W.cell? ⟨B, 1 + d, none⟩ = some (.int .u32 old) ∧ W.frozen? ⟨B, 1 + d, none⟩ = false) := fun W e => ⟨by rw [e.1]; exact Nat.lt_of_lt_of_le hb FW.out.size, (World.cell?_of_block (w := _) (by rw [e.1]; exact FW.out.block B hb)).trans cd, (World.frozen?_of_block (w := _) (by rw [e.1]; exact FW.out.block B hb)).trans zd⟩
  go_enter Tryz.func40, Tryz.ntmps40
  go_wp2_with fail
  go_region
  all_goals
    go_wp2_with fail
    refine (rformat_as _ _ F _).mono ?_; rintro e w1 ⟨rfl, rfl⟩
    go_wp2_with fail
    refine (V.Walks.rsize_as _ _ Z _).mono ?_; rintro e w1 ⟨rfl, rfl⟩
    go_wp2_with fail
    (refine (rputR B _ _ _ _ _ _ _ _ old d h0 h1 _ (by exact (CD.out _ ⟨rfl, rfl, rfl⟩).1) (by exact (CD.out _ ⟨rfl, rfl, rfl⟩).2.1) (by exact (CD.out _ ⟨rfl, rfl, rfl⟩).2.2)).mono ?_; rintro e w1 ⟨rfl, rfl⟩)
    all_goals
      go_wp2_with fail
      refine bodyPost_ret (v := .agg (rc s.pc z d false 0 0 0)) (by simp [results, Tryz.results40, go_sem, *]) rfl ⟨rfl, ?_⟩
      first
        | exact ((((((((RNow.refl hM.out).setR d (by omega) z).setPc nx).alloc _).alloc _).alloc _).alloc _).alloc _).drew
        | exact ((((((((RNow.refl hM.out).setR d (by omega) z).setPc nx).alloc _).alloc _).alloc _).alloc _).alloc _).drew.drew
        | (trace_state; fail)
end Go.Proofs.YtpkbkbllhpdfiaaGreat.M
