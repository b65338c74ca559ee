/- The walk of EncodeTells. -/
import Derived.Test.YtlnliiihcajboaaDoorSame
import Derived.Test.YtlnliiihcajboaaDoorKnown
import Derived.Test.YtlnliiihcajboaaDoorInst
import Derived.Test.YtlnliiihcajboaaDoorOpen
namespace Go.Proofs.YtlnliiihcajboaaDoor.Walks
open Go.ChangeShapes Go.WideShapes Go.ChangeAt Go.RowKit
set_option linter.unusedVariables false
theorem InstAt.frg {g b : Nat} {o d a e n : Int} {w w' : World} (h : InstAt b o d a e n w) (k : FrG g w w') (hb : b < w.heap.size) (hg : b ≠ g) : InstAt b o d a e n w' := by
  have e1 := fun o : Nat => World.cell?_of_block (w := w) (w' := w') (a := ⟨b, o, none⟩) (k.block b hb hg)
  have e2 := fun o : Nat => World.frozen?_of_block (w := w) (w' := w') (a := ⟨b, o, none⟩) (k.block b hb hg)
  exact ⟨by rw [e1]; exact h.c0, by rw [e1]; exact h.c1, by rw [e1]; exact h.c2, by rw [e1]; exact h.c3, by rw [e1]; exact h.c4,
    by rw [e2]; exact h.f0, by rw [e2]; exact h.f1, by rw [e2]; exact h.f2, by rw [e2]; exact h.f3, by rw [e2]; exact h.f4⟩
theorem tape_at (w : World) (A : Option Addr) (len cap : Nat) (zs : Nat → Int) (h : ∀ j, j < len → ∃ b o, A = some ⟨b, o, none⟩ ∧ b < w.heap.size ∧ w.cell? ⟨b, o + j, none⟩ = some (.int .i64 (zs j))) :
    TapeAt w.heap.size A len cap zs 0 (w.alloc (.cells #[.slice A len cap, .int .i64 0] 32)) := by
  refine ⟨?_, ?_, ?_, fun j hj => ?_⟩
  · rw [World.cell?_alloc_at _ _ _ _ rfl]; rfl
  · rw [World.cell?_alloc_at _ _ _ _ rfl]; rfl
  · rw [World.frozen?_alloc_at _ _ _ _ rfl]
  · obtain ⟨b, o, h1, h2, h3⟩ := h j hj
    refine ⟨b, o, h1, by omega, ?_⟩
    rw [Fr.cell ((Fr.refl w).alloc _) _ _ h2]; exact h3
theorem IntsIn.past {w w' : World} {A : Option Addr} {len : Nat} {zs : Nat → Int} (h : IntsIn .i64 w A len zs) (F : Fr w w') : ∀ j, j < len → ∃ b o, A = some ⟨b, o, none⟩ ∧ b < w'.heap.size ∧ w'.cell? ⟨b, o + j, none⟩ = some (.int .i64 (zs j)) := fun j hj => by
  obtain ⟨b, o, h1, h2, h3, _⟩ := h j hj
  exact ⟨b, o, h1, Nat.lt_of_lt_of_le h2 F.size, by rw [F.cell _ _ h2]; exact h3⟩
theorem FrG.fr {g : Nat} {u w w' : World} (F : Fr u w) (h : FrG g w w') (hg : u.heap.size ≤ g) : Fr u w' :=
  ⟨h.os.trans F.os, h.output.trans F.output, Nat.le_trans F.size h.size, fun k hk => (h.block k (Nat.lt_of_lt_of_le hk F.size) (by omega)).trans (F.block k hk)⟩
theorem box5k (w w' : World) (k : Nat) (hk : k = w.heap.size) (o d a b n : Int) (F : Fr (w.alloc (.cells (cells o d a b n) 27)) w') :
    w'.cell? ⟨k, 0, none⟩ = some (.int .i64 o) ∧ w'.cell? ⟨k, 1, none⟩ = some (.int .i64 d) ∧ w'.cell? ⟨k, 2, none⟩ = some (.int .i64 a) ∧ w'.cell? ⟨k, 3, none⟩ = some (.int .i64 b) ∧ w'.cell? ⟨k, 4, none⟩ = some (.int .i32 n) := by
  subst hk; exact box5 w w' o d a b n F
set_option maxRecDepth 100000 in
set_option maxHeartbeats 8000000 in
theorem tells_core (A : Option Addr) (len cap : Nat) (zs : Nat → Int) (o d a b n : Int) (w : World) (IN : Hid (IntsIn .i64 w A len zs)) (PP : Hid (Pow w)) :
    Calls Tryd.prog 4 #[.slice A len cap, .agg (cells o d a b n)] w fun e w' => e = .returned (.bool true) ∧ Fr w w' := by
  have s0 : (w.alloc (.cells (cells o d a b n) 27)).heap.size = w.heap.size + 1 := by simp
  have TT := hideP (tape_at (w.alloc (.cells (cells o d a b n) 27)) A len cap zs (IN.out.past ((Fr.refl w).alloc _)))
  rw [s0] at TT
  have NI := hideP ((InstAt.new w o d a b n).past ((Fr.refl _).alloc (.cells #[.slice A len cap, .int .i64 0] 32)) (by simp))
  have z0 : Hid (0 ≤ 100) := hideP (by decide)
  clear s0
  go_enter Tryd.func4, Tryd.ntmps4
  go_wp2_with fail
  refine (inst_as (w.heap.size + 1) A len cap 0 zs _ TT z0).mono ?_; rintro e w1 ⟨⟨o', d', a', b', n', rfl, _⟩, hG⟩
  have N1 := hideP (InstAt.frg NI.out hG (by simp; omega) (by omega))
  have F1 : Hid (Fr w w1) := hideP (FrG.fr (((Fr.refl w).alloc _).alloc _) hG (by omega))
  clear hG
  have lt1 : w.heap.size < w1.heap.size := cell_lt N1.out.c0
  obtain ⟨c0, c1, c2, c3, c4, _, _, _, _, _⟩ := N1.out
  have lt2 : w.heap.size < w1.heap.size + 1 := by omega
  have lt3 : w.heap.size < w1.heap.size + 1 + 1 := by omega
  have lt4 : w1.heap.size < w1.heap.size + 1 := by omega
  have lt5 : w1.heap.size < w1.heap.size + 1 + 1 := by omega
  go_wp2_with fail
  refine (same_as o' d' a' b' n' _ (hideP (PP.out.fr (((F1.out.alloc _).alloc _).alloc _)))).mono ?_; rintro e w2 ⟨rfl, hF⟩
  have F2 : Hid (Fr (((w1.alloc (.cells (cells o' d' a' b' n') 27)).alloc (.cells (cells o' d' a' b' n) 27)).alloc (.cells (cells o' d' a' b n') 27)) w2) := hideP hF
  clear hF c0 c1 c2 c3 c4 lt2 lt3 lt4 lt5
  obtain ⟨c0, c1, c2, c3, c4, _, _, _, _, _⟩ := N1.out.past ((((Fr.refl w1).alloc _).alloc _).alloc _ |>.trans F2.out) lt1
  go_wp2_with fail
  refine (same_as o d a b n _ (hideP (PP.out.fr ((((F1.out.alloc _).alloc _).alloc _).trans F2.out)))).mono ?_; rintro e w3 ⟨rfl, hF⟩
  have F3 := hideP (F2.out.trans hF)
  clear hF c0 c1 c2 c3 c4
  obtain ⟨c0, c1, c2, c3, c4⟩ := box5k (w1.alloc (.cells (cells o' d' a' b' n') 27)) w3 (w1.heap.size + 1) (by simp) o' d' a' b' n (((Fr.refl _).alloc _).trans F3.out)
  go_wp2_with fail
  refine (same_as o' d' a' b' n _ (hideP (PP.out.fr ((((F1.out.alloc _).alloc _).alloc _).trans F3.out)))).mono ?_; rintro e w4 ⟨rfl, hF⟩
  have F4 := hideP (F3.out.trans hF)
  clear hF c0 c1 c2 c3 c4
  obtain ⟨c0, c1, c2, c3, c4⟩ := box5k ((w1.alloc (.cells (cells o' d' a' b' n') 27)).alloc (.cells (cells o' d' a' b' n) 27)) w4 (w1.heap.size + 1 + 1) (by simp) o' d' a' b n' F4.out
  go_wp2_with fail
  refine (same_as o' d' a' b n' _ (hideP (PP.out.fr ((((F1.out.alloc _).alloc _).alloc _).trans F4.out)))).mono ?_; rintro e w5 ⟨rfl, hF⟩
  have F5 := hideP (F4.out.trans hF)
  clear hF c0 c1 c2 c3 c4
  go_wp2_with fail
  refine (known_as _ (hideP (PP.out.fr ((((F1.out.alloc _).alloc _).alloc _).trans F5.out)))).mono ?_; rintro e w6 ⟨rfl, hF⟩
  have F6 := hideP (F5.out.trans hF)
  clear hF
  go_wp2_with fail
  go_ret
  exact ⟨rfl, (((F1.out.alloc _).alloc _).alloc _).trans F6.out⟩
end Go.Proofs.YtlnliiihcajboaaDoor.Walks
