/- Contract of the tape's Next. -/
import Derived.Test.YtlnliiihcajboaaDoorTape
namespace Go.Proofs.YtlnliiihcajboaaDoor.Walks
open Go.ChangeShapes Go.WideShapes Go.ChangeAt Go.RowKit
set_option linter.unusedVariables false
theorem Only.refl (g : Nat) (w : World) : Only g w w := ⟨rfl, rfl, rfl, fun _ _ => rfl⟩
theorem Only.alike {g : Nat} {u w w' : World} (h : Only g u w) (k : w'.Alike w) : Only g u w' := ⟨k.2.1.trans h.os, k.2.2.trans h.output, by rw [k.1]; exact h.size, fun i hi => by rw [k.1]; exact h.block i hi⟩
theorem Only.set (g o : Nat) (v : Value) (w : World) : Only g w (w.setCell ⟨g, o, none⟩ v) := ⟨rfl, rfl, World.size_setCell _ _ _, fun k hk => Below.heap_setCell _ _ _ k hk⟩
theorem cell_alike {w w' : World} (k : w'.Alike w) (a : Addr) : w'.cell? a = w.cell? a := by unfold World.cell?; rw [k.1]
theorem frozen_alike {w w' : World} (k : w'.Alike w) (a : Addr) : w'.frozen? a = w.frozen? a := by unfold World.frozen?; rw [k.1]
theorem TapeAt.alike {g : Nat} {A : Option Addr} {len cap i : Nat} {zs : Nat → Int} {w w' : World} (h : TapeAt g A len cap zs i w) (k : w'.Alike w) : TapeAt g A len cap zs i w' :=
  ⟨by rw [cell_alike k]; exact h.hs, by rw [cell_alike k]; exact h.ha, by rw [frozen_alike k]; exact h.fz, fun j hj => by
    obtain ⟨b, o, h1, h2, h3⟩ := h.hz j hj
    exact ⟨b, o, h1, h2, by rw [cell_alike k]; exact h3⟩⟩
theorem TapeAt.step {g : Nat} {A : Option Addr} {len cap i : Nat} {zs : Nat → Int} {w : World} (h : TapeAt g A len cap zs i w) : TapeAt g A len cap zs (i + 1) (w.setCell ⟨g, 1, none⟩ (.int .i64 ((i : Int) + 1))) :=
  ⟨by rw [World.cell?_setCell_other (h := by simp)]; exact h.hs, by rw [World.cell?_setCell_same (h := h.ha), Int.natCast_add]; rfl, by rw [World.frozen?_setCell]; exact h.fz, fun j hj => by
    obtain ⟨b, o, h1, h2, h3⟩ := h.hz j hj
    exact ⟨b, o, h1, h2, by rw [(Only.set g 1 _ w).cell _ _ h2]; exact h3⟩⟩
theorem next_as (n : Int) (n0 : 1 ≤ n) (n1 : n ≤ 2147483648) (g : Nat) (A : Option Addr) (len cap i : Nat) (zs : Nat → Int) (w : World) (T : TapeAt g A len cap zs i w) (i1 : i ≤ 1000) :
    Calls Tryd.prog 18 #[.pointer (some ⟨g, 0, none⟩), .int .i64 n] w fun e w' => ∃ q i' : Nat, e = .returned (.int .i64 (q : Int)) ∧ (q : Int) < n ∧ i' ≤ i + 1 ∧ TapeAt g A len cap zs i' w' ∧ Only g w w' := by
  by_cases h : len ≤ i
  · refine (next_end n n0 g A len cap i (by omega) w T.hs T.ha).mono fun e w' hh => ?_
    exact ⟨0, i, hh.1, by omega, by omega, T.alike hh.2, (Only.refl g w).alike hh.2⟩
  · obtain ⟨b, o, h1, h2, h3⟩ := T.hz i (by omega)
    obtain ⟨r0, r1⟩ := wth_in (zs i)
    have e : (wth (zs i)).tmod n = wth (zs i) % n := Int.tmod_eq_emod_of_nonneg r0
    have q0 : 0 ≤ wth (zs i) % n := Int.emod_nonneg _ (by omega)
    have q1 : wth (zs i) % n < n := Int.emod_lt_of_pos _ (by omega)
    obtain ⟨q, hq⟩ := Int.eq_ofNat_of_zero_le q0
    subst h1
    refine (next_more n (zs i) _ q n0 n1 g b o len cap i (by omega) (by omega) (by omega) w h2 (fun x => h2 x.symm) T.hs T.ha T.fz h3 rfl r0 r1 (by rw [e, hq])).mono fun e w' hh => ?_
    exact ⟨q, i + 1, hh.1, by omega, by omega, T.step.alike hh.2, (Only.set g 1 _ w).alike hh.2⟩
end Go.Proofs.YtlnliiihcajboaaDoor.Walks
