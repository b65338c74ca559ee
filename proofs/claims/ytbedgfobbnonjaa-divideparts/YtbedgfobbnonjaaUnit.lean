/- What a unit is in memory; contract of Step. -/
import Derived.Test.YtbedgfobbnonjaaSmall
import Derived.Test.YtbedgfobbnonjaaBit
import Derived.Test.YtbedgfobbnonjaaSet
import Derived.Deep.RegionWith
import Derived.BigRegion
namespace Go.Proofs.Ytbedgfobbnonjaa.Walks
open Go.ChangeShapes Go.WideShapes Go.ChangeAt Go.RowKit
set_option linter.unusedVariables false
theorem hideP {p : Prop} (h : p) : Hid p := h
theorem alike_refl (w : World) : w.Alike w := ⟨rfl, rfl, rfl⟩
/-- a unit lies at block B: its op, its pair, what it goes by, whether the answer is below 0, its steps -/
structure Un (B : Nat) (op p y : Int) (g : Bool) (s : Int) (w : World) : Prop where
  c0 : w.cell? ⟨B, 0, none⟩ = some (.int .i64 op)
  c1 : w.cell? ⟨B, 1, none⟩ = some (.int .u64 p)
  c2 : w.cell? ⟨B, 2, none⟩ = some (.int .u32 y)
  c3 : w.cell? ⟨B, 3, none⟩ = some (.bool g)
  c4 : w.cell? ⟨B, 4, none⟩ = some (.int .i64 s)
  z1 : w.frozen? ⟨B, 1, none⟩ = false
  z4 : w.frozen? ⟨B, 4, none⟩ = false
/-- nothing but block B has turned -/
structure Tch (B : Nat) (w w' : World) : Prop where
  os : w'.os = w.os
  output : w'.output = w.output
  size : w'.heap.size = w.heap.size
  block : ∀ k, k ≠ B → w'.heap[k]? = w.heap[k]?
theorem Tch.alike {B : Nat} {w w' : World} (h : w'.Alike w) : Tch B w w' := ⟨h.2.1, h.2.2, by rw [h.1], fun _ _ => by rw [h.1]⟩
theorem Tch.trans {B : Nat} {u v w : World} (h : Tch B u v) (k : Tch B v w) : Tch B u w :=
  ⟨k.os.trans h.os, k.output.trans h.output, k.size.trans h.size, fun i h1 => (k.block i h1).trans (h.block i h1)⟩
theorem Tch.set (B : Nat) (w : World) (o : Nat) (v : Value) : Tch B w (w.setCell ⟨B, o, none⟩ v) :=
  ⟨rfl, rfl, by simp [World.setCell], fun k h => Below.heap_setCell _ _ _ _ h⟩
theorem Tch.cell {B : Nat} {w w' : World} (h : Tch B w w') (k o : Nat) (h1 : k ≠ B) : w'.cell? ⟨k, o, none⟩ = w.cell? ⟨k, o, none⟩ := World.cell?_of_block (w := w) (h.block k h1)
theorem Tch.frozen {B : Nat} {w w' : World} (h : Tch B w w') (k o : Nat) (h1 : k ≠ B) : w'.frozen? ⟨k, o, none⟩ = w.frozen? ⟨k, o, none⟩ := World.frozen?_of_block (w := w) (h.block k h1)
theorem Fr.tch {u w w' : World} {B : Nat} (h : Fr u w) (hb : u.heap.size ≤ B) (k : Tch B w w') : Fr u w' :=
  ⟨k.os.trans h.os, k.output.trans h.output, by rw [k.size]; exact h.size, fun i hi => (k.block i (by omega)).trans (h.block i hi)⟩
theorem Un.block {B : Nat} {op p y s : Int} {g : Bool} {w w' : World} (h : Un B op p y g s w) (e : w'.heap[B]? = w.heap[B]?) : Un B op p y g s w' := by
  have c : ∀ o, w'.cell? ⟨B, o, none⟩ = w.cell? ⟨B, o, none⟩ := fun o => World.cell?_of_block (w := w) e
  have z : ∀ o, w'.frozen? ⟨B, o, none⟩ = w.frozen? ⟨B, o, none⟩ := fun o => World.frozen?_of_block (w := w) e
  exact ⟨by rw [c]; exact h.c0, by rw [c]; exact h.c1, by rw [c]; exact h.c2, by rw [c]; exact h.c3, by rw [c]; exact h.c4, by rw [z]; exact h.z1, by rw [z]; exact h.z4⟩
theorem Un.alike {B : Nat} {op p y s : Int} {g : Bool} {w w' : World} (h : Un B op p y g s w) (e : w'.Alike w) : Un B op p y g s w' := h.block (by rw [e.1])
theorem Un.far {B C : Nat} {op p y s : Int} {g : Bool} {w w' : World} (h : Un B op p y g s w) (e : Tch C w w') (n : B ≠ C) : Un B op p y g s w' := h.block (e.block B n)
theorem set_other {w : World} {a b : Addr} {v : Value} (h : a ≠ b) : (w.setCell a v).cell? b = w.cell? b := by
  first | exact World.cell?_setCell_other _ _ _ _ h | exact World.cell?_setCell_other _ _ _ h
theorem set_same {w : World} {a : Addr} {u v : Value} (h : w.cell? a = some u) : (w.setCell a v).cell? a = some v := by
  first | exact World.cell?_setCell_same _ _ _ h | exact World.cell?_setCell_same _ _ _ _ h
theorem addr_ne {B i j : Nat} (h : i ≠ j) : (⟨B, i, none⟩ : Addr) ≠ ⟨B, j, none⟩ := fun e => h (by injection e)
theorem Un.set1 {B : Nat} {op p y s : Int} {g : Bool} {w : World} (h : Un B op p y g s w) (q : Int) : Un B op q y g s (w.setCell ⟨B, 1, none⟩ (.int .u64 q)) :=
  ⟨by rw [set_other (addr_ne (by decide))]; exact h.c0, set_same h.c1, by rw [set_other (addr_ne (by decide))]; exact h.c2, by rw [set_other (addr_ne (by decide))]; exact h.c3, by rw [set_other (addr_ne (by decide))]; exact h.c4, by simpa using h.z1, by simpa using h.z4⟩
theorem Un.set4 {B : Nat} {op p y s : Int} {g : Bool} {w : World} (h : Un B op p y g s w) (t : Int) : Un B op p y g t (w.setCell ⟨B, 4, none⟩ (.int .i64 t)) :=
  ⟨by rw [set_other (addr_ne (by decide))]; exact h.c0, by rw [set_other (addr_ne (by decide))]; exact h.c1, by rw [set_other (addr_ne (by decide))]; exact h.c2, by rw [set_other (addr_ne (by decide))]; exact h.c3, set_same h.c4, by simpa using h.z1, by simpa using h.z4⟩
/-- the unit is now so, and nothing else has turned -/
def Now (B : Nat) (op p y : Int) (g : Bool) (s : Int) (w w' : World) : Prop := Un B op p y g s w' ∧ Tch B w w'
theorem Now.same {B : Nat} {op p y s : Int} {g : Bool} {w w' : World} (h : Un B op p y g s w) (e : w'.Alike w) : Now B op p y g s w w' := ⟨h.alike e, Tch.alike e⟩
theorem Now.set1 {B : Nat} {op p y s : Int} {g : Bool} {w v w' : World} (h : Now B op p y g s w v) (q : Int) (e : w'.Alike (v.setCell ⟨B, 1, none⟩ (.int .u64 q))) : Now B op q y g s w w' :=
  ⟨(h.1.set1 q).alike e, (h.2.trans (Tch.set B v 1 _)).trans (Tch.alike e)⟩
theorem Now.set4 {B : Nat} {op p y s : Int} {g : Bool} {w v w' : World} (h : Now B op p y g s w v) (t : Int) (e : w'.Alike (v.setCell ⟨B, 4, none⟩ (.int .i64 t))) : Now B op p y g t w w' :=
  ⟨(h.1.set4 t).alike e, (h.2.trans (Tch.set B v 4 _)).trans (Tch.alike e)⟩
set_option maxHeartbeats 1000000 in
theorem step_done (B : Nat) (s : Int) (hs : 8 ≤ s) (w : World) (h4 : w.cell? ⟨B, 4, none⟩ = some (.int .i64 s)) :
    Calls Try.prog 10 #[.pointer (some ⟨B, 0, none⟩)] w fun e w' => e = .returned (.bool true) ∧ w' = w := by
  go_enter Try.func10, Try.ntmps10
  go_wp2_with fail
  refine (done_as B s _ h4).mono ?_; rintro e w' ⟨rfl, rfl⟩
  go_wp2_with fail
  go_ret
  exact ⟨rfl, rfl⟩
set_option maxHeartbeats 2000000 in
theorem step_mul (B : Nat) (op y : Int) (g : Bool) (s : Nat) (hs : (s : Int) ≤ 7) (ho : (decide (op ≤ 41)) = true) (f : Nat → Int)
    (F : Hid (∀ k, k < 4 → ∀ w : World, Calls Try.prog 20 #[.int .u64 (f k), .int .u32 y] w fun e w' => e = .returned (.int .u64 (f (k + 1))) ∧ w' = w)) (w : World) (hU : Hid (Un B op (f 0) y g s w)) :
    Calls Try.prog 10 #[.pointer (some ⟨B, 0, none⟩)] w fun e w' => e = .returned (.bool (decide (8 ≤ (s : Int) + 1))) ∧ Now B op (f 4) y g ((s : Int) + 1) w w' := by
  go_enter Try.func10, Try.ntmps10
  go_wp2_with fail
  refine (done_as B s _ hU.out.c4).mono ?_; rintro e w ⟨rfl, rfl⟩
  go_wp2_with fail
  go_loopw [5] (fun t wr => ∃ k : Nat, (k : Int) ≤ 4 ∧ t = .int .i64 k ∧ Hid (Now B op (f k) y g s w wr)) (fun t _ => 4 - (intOf t).toNat)
  case atStart => exact ⟨0, by decide, rfl, Now.same hU.out (alike_refl _)⟩
  case round =>
    obtain ⟨k, hk, rfl, HN⟩ := hrel
    rename_i wr
    have c0 := HN.out.1.c0
    have c1 := HN.out.1.c1
    have c2 := HN.out.1.c2
    have c4 := HN.out.1.c4
    have z1 := HN.out.1.z1
    have z4 := HN.out.1.z4
    by_cases hlt : (k : Int) < 4
    · go_wp2_with fail
      refine (multiplies_as _ _).mono ?_; rintro e w' ⟨rfl, rfl⟩
      go_wp2_with fail
      go_region_with (go_at_call 20; refine (F.out k (by omega) _).mono ?_; rintro e w' ⟨rfl, rfl⟩)
      all_goals
        go_wp2_with fail
        exact ⟨⟨k + 1, by omega, by rw [Int.natCast_add]; rfl, HN.out.set1 (f (k + 1)) ⟨rfl, rfl, rfl⟩⟩, by simp [intOf]; omega⟩
    · have e4 : k = 4 := by omega
      subst e4
      go_wp2_with fail
      refine (done_as B _ _ (HN.out.set4 ((s : Int) + 1) (alike_refl _)).1.c4).mono ?_; rintro e w' ⟨rfl, rfl⟩
      go_wp2_with fail
      go_ret
      exact ⟨rfl, HN.out.set4 ((s : Int) + 1) ⟨rfl, rfl, rfl⟩⟩
end Go.Proofs.Ytbedgfobbnonjaa.Walks
