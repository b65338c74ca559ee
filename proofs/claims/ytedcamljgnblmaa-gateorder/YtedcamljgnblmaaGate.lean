/- A gate in memory; contracts of the program's New, First, Waits, Clear. -/
import Derived.Test.YtedcamljgnblmaaBase
import Derived.Deep.RegionLaw
namespace Go.Proofs.Ytedcamljgnblmaa.M
open Go.ChangeShapes Go.WideShapes Go.ChangeAt Go.RowKit Go.Proofs.Ytedcamljgnblmaa.Walks
set_option linter.unusedVariables false
/-- its data are a word -/
def Rt.In (r : Rt) : Prop := 0 ≤ r.t ∧ r.t ≤ 4294967295
/-- a gate at block G: n wait, f of them; its row lies at A, none of it below block B -/
structure GAt (B G : Nat) (A : Option Addr) (c n : Nat) (f : Nat → Rt) (w : World) : Prop where
  c0 : w.cell? ⟨G, 0, none⟩ = some (.slice A n c)
  z : w.frozen? ⟨G, 0, none⟩ = false
  o : w.ownsRow B 25 7 (.slice A n c) n (rl f n)
  ne : A.map (·.block) ≠ some G
  ge : B ≤ G
  lt : G < w.heap.size
  wf : ∀ j, j < n → (f j).In
/-- nothing but block G and the row at A has turned; the row lies now at A', where it lay or in a new block -/
structure Mv (G : Nat) (A A' : Option Addr) (w w' : World) : Prop where
  os : w'.os = w.os
  output : w'.output = w.output
  size : w.heap.size ≤ w'.heap.size
  block : ∀ k, k < w.heap.size → k ≠ G → some k ≠ A.map (·.block) → w'.heap[k]? = w.heap[k]?
  own : A'.map (·.block) = A.map (·.block) ∨ ∀ k, A'.map (·.block) = some k → w.heap.size ≤ k
theorem vb (A : Option Addr) (n c : Nat) : (Value.slice A n c).ownBlock = A.map (·.block) := by cases A <;> rfl
theorem own_block {B n c : Nat} {A : Option Addr} {xs : List Value} {w w' : World} (h : w.ownsRow B 25 7 (.slice A n c) n xs) (hb : ∀ k, A.map (·.block) = some k → w'.heap[k]? = w.heap[k]?) : w'.ownsRow B 25 7 (.slice A n c) n xs := by
  refine ⟨h.1, ?_⟩
  rcases h.2 with h' | ⟨g, cap, cur, e, h2, h3, h4⟩
  · exact .inl h'
  · refine .inr ⟨g, cap, cur, e, h2, ?_, h4⟩
    injection e with e1 e2 e3
    rw [hb g (by rw [e1]; rfl)]; exact h3
theorem GAt.of {B G c n : Nat} {A : Option Addr} {f : Nat → Rt} {w w' : World} (h : GAt B G A c n f w) (s : w.heap.size ≤ w'.heap.size) (hG : w'.heap[G]? = w.heap[G]?) (hb : ∀ k, A.map (·.block) = some k → w'.heap[k]? = w.heap[k]?) : GAt B G A c n f w' :=
  ⟨by rw [World.cell?_of_block (w := w) hG]; exact h.c0, by rw [World.frozen?_of_block (w := w) hG]; exact h.z, own_block h.o hb, h.ne, h.ge, Nat.lt_of_lt_of_le h.lt s, h.wf⟩
theorem GAt.own {B G c n : Nat} {A : Option Addr} {f : Nat → Rt} {w : World} (h : GAt B G A c n f w) : ∀ k, A.map (·.block) = some k → B ≤ k ∧ k < w.heap.size := fun k hk => h.o.lt k (by rw [vb]; exact hk)
theorem GAt.fr {B G c n : Nat} {A : Option Addr} {f : Nat → Rt} {w w' : World} (h : GAt B G A c n f w) (F : Fr w w') : GAt B G A c n f w' :=
  h.of F.size (F.block G h.lt) fun k hk => F.block k (h.own k hk).2
theorem GAt.rin {B G c n : Nat} {A : Option Addr} {f : Nat → Rt} {w : World} (h : GAt B G A c n f w) : RIn w A n f := by
  rcases h.o.2 with ⟨e, e2⟩ | ⟨g, cap, cur, e, h2, h3, h4⟩
  · rw [e2]; exact RIn.zero _ _ _
  · injection e with e1 e2 e3
    subst e1
    exact RIn.of (fun j x hx => by have := h.o.cells (g := g) rfl j x hx; rwa [Addr.add_mid] at this) (h.own g rfl).2
theorem Fr.mv {G : Nat} {A : Option Addr} {w w' : World} (F : Fr w w') : Mv G A A w w' := ⟨F.os, F.output, F.size, fun k h _ _ => F.block k h, .inl rfl⟩
theorem Mv.fr {u w w' : World} {G : Nat} {A A' : Option Addr} (F : Fr u w) (h : Mv G A A' w w') (hG : u.heap.size ≤ G) (hA : ∀ k, A.map (·.block) = some k → u.heap.size ≤ k) : Fr u w' :=
  ⟨h.os.trans F.os, h.output.trans F.output, Nat.le_trans F.size h.size, fun k hk => (h.block k (Nat.lt_of_lt_of_le hk F.size) (by omega) (fun e => by have := hA k e.symm; omega)).trans (F.block k hk)⟩
set_option maxHeartbeats 400000 in
theorem new_as (B : Nat) (w : World) (hB : B ≤ w.heap.size) (f : Nat → Rt) : Calls Try.prog 10 #[] w fun e w' => e = .returned (.pointer (some ⟨w.heap.size, 0, none⟩)) ∧ GAt B w.heap.size none 0 0 f w' ∧ Fr w w' := by
  have HB := hid hB
  clear hB
  go_enter Try.func10, Try.ntmps10
  go_wp2_with fail
  go_ret
  refine ⟨rfl, ⟨?_, ?_, World.ownsRow_nil _ _ _ _, by simp, HB.out, by simp, fun j hj => absurd hj (Nat.not_lt_zero _)⟩, (Fr.refl w).alloc _⟩
  · rw [World.cell?_alloc_at _ _ _ _ rfl]; rfl
  · rw [World.frozen?_alloc_at _ _ _ _ rfl]
set_option maxHeartbeats 400000 in
theorem waits_as (B G c n : Nat) (A : Option Addr) (f : Nat → Rt) (w : World) (hG : Hid (GAt B G A c n f w)) : Calls Try.prog 13 #[.pointer (some ⟨G, 0, none⟩)] w fun e w' => e = .returned (.int .i64 n) ∧ w' = w := by
  have c0 := hG.out.c0
  go_enter Try.func13, Try.ntmps13
  go_wp2_with fail
  go_ret
  exact ⟨rfl, rfl⟩
set_option maxHeartbeats 400000 in
theorem clear_as (B G c n : Nat) (A : Option Addr) (f : Nat → Rt) (w : World) (hG : Hid (GAt B G A c n f w)) : Calls Try.prog 17 #[.pointer (some ⟨G, 0, none⟩)] w fun e w' => e = .returned (.tuple #[]) ∧ w' = w.setCell ⟨G, 0, none⟩ (.slice none 0 0) := by
  have c0 := hG.out.c0
  have z := hG.out.z
  go_enter Try.func17, Try.ntmps17
  go_wp2_with fail
  go_end0
  exact ⟨rfl, rfl⟩
theorem GAt.cleared {B G c n : Nat} {A : Option Addr} {f : Nat → Rt} {w : World} (h : GAt B G A c n f w) (g : Nat → Rt) : GAt B G none 0 0 g (w.setCell ⟨G, 0, none⟩ (.slice none 0 0)) ∧ Mv G A none w (w.setCell ⟨G, 0, none⟩ (.slice none 0 0)) :=
  ⟨⟨World.cell?_setCell_same _ _ _ h.c0, by rw [World.frozen?_setCell]; exact h.z, World.ownsRow_nil _ _ _ _, by simp, h.ge, by rw [World.size_setCell]; exact h.lt, fun j hj => absurd hj (Nat.not_lt_zero _)⟩,
    ⟨rfl, rfl, by rw [World.size_setCell]; exact Nat.le_refl _, fun k hk e _ => Below.heap_setCell _ _ _ k e, .inr fun k hk => by cases hk⟩⟩
end Go.Proofs.Ytedcamljgnblmaa.M
