/- Inst: Contract of the tape's Inst: it returns an instruction, and nothing that was there but the tape's own block has turned. -/
import Derived.Test.YtpkbkbllhpdfiaaGreatB04
import Derived.Test.YtpkbkbllhpdfiaaGreatB03
import Derived.Deep.RegionWith
import Derived.Deep.DrawnRows
import Derived.Deep.RegionHeld3
namespace Go.Proofs.YtpkbkbllhpdfiaaGreat.Num
open Go.ChangeShapes Go.WideShapes Go.ChangeAt Go.RowKit
theorem and_small32 (n : Int) : 0 ≤ bits .and .i32 n 31 ∧ bits .and .i32 n 31 ≤ 31 := by
  have h : (BitVec.ofInt 32 n &&& BitVec.ofInt 32 31).toNat ≤ 31 := by
    rw [BitVec.toNat_and]
    exact Nat.le_trans Nat.and_le_right (by decide)
  have e : bits .and .i32 n 31 = IntKind.i32.wrap ((BitVec.ofInt 32 n &&& BitVec.ofInt 32 31).toNat : Int) := rfl
  rw [e, IntKind.wrap_i32]
  omega
end Go.Proofs.YtpkbkbllhpdfiaaGreat.Num
namespace Go.Proofs.YtpkbkbllhpdfiaaGreat.Walks
open Go.ChangeShapes Go.WideShapes Go.ChangeAt Go.RowKit
set_option linter.unusedVariables false
attribute [local go_sem ↓] Go.wp_at_zero Go.wp_at_succ
/-- of what was there nothing but block g has turned -/
structure FrG (g : Nat) (w w' : World) : Prop where
  os : w'.os = w.os
  output : w'.output = w.output
  size : w.heap.size ≤ w'.heap.size
  block : ∀ k, k < w.heap.size → k ≠ g → w'.heap[k]? = w.heap[k]?
theorem FrG.refl (g : Nat) (w : World) : FrG g w w := ⟨rfl, rfl, Nat.le_refl _, fun _ _ _ => rfl⟩
theorem FrG.alloc {g : Nat} {u w : World} (h : FrG g u w) (o : Obj) : FrG g u (w.alloc o) :=
  ⟨h.os, h.output, Nat.le_trans h.size (by simp), fun k hk hg => (Below.heap_alloc _ _ _ (Nat.lt_of_lt_of_le hk h.size)).trans (h.block k hk hg)⟩
theorem FrG.only {g : Nat} {u v w : World} (h : FrG g u v) (k : Only g v w) : FrG g u w :=
  ⟨k.os.trans h.os, k.output.trans h.output, by rw [k.size]; exact h.size, fun i hi hg => (k.block i hg).trans (h.block i hi hg)⟩
theorem FrG.drew {g : Nat} {u w : World} (h : FrG g u w) : FrG g u w.drew := ⟨h.os, h.output, h.size, h.block⟩
theorem FrG.set {g : Nat} {u w : World} (h : FrG g u w) {b o : Nat} (hb : u.heap.size ≤ b) (v : Value) : FrG g u (w.setCell ⟨b, o, none⟩ v) :=
  ⟨h.os, h.output, by rw [World.size_setCell]; exact h.size, fun k hk hg => (Below.heap_setCell _ _ _ k (by show k ≠ b; omega)).trans (h.block k hk hg)⟩
/-- an instruction lies at block b, and may be written -/
structure InstAt (b : Nat) (o d a e n : Int) (w : World) : Prop where
  c0 : w.cell? ⟨b, 0, none⟩ = some (.int .i64 o)
  c1 : w.cell? ⟨b, 1, none⟩ = some (.int .i64 d)
  c2 : w.cell? ⟨b, 2, none⟩ = some (.int .i64 a)
  c3 : w.cell? ⟨b, 3, none⟩ = some (.int .i64 e)
  c4 : w.cell? ⟨b, 4, none⟩ = some (.int .i32 n)
  f0 : w.frozen? ⟨b, 0, none⟩ = false
  f1 : w.frozen? ⟨b, 1, none⟩ = false
  f2 : w.frozen? ⟨b, 2, none⟩ = false
  f3 : w.frozen? ⟨b, 3, none⟩ = false
  f4 : w.frozen? ⟨b, 4, none⟩ = false
theorem InstAt.new (w : World) (o d a e n : Int) : InstAt w.heap.size o d a e n (w.alloc (.cells (cells o d a e n) 62)) := by
  have h := box5 w _ o d a e n (Fr.refl _)
  refine ⟨h.1, h.2.1, h.2.2.1, h.2.2.2.1, h.2.2.2.2, ?_, ?_, ?_, ?_, ?_⟩ <;> rw [World.frozen?_alloc_at _ _ _ _ rfl]
theorem InstAt.only {g b : Nat} {o d a e n : Int} {w w' : World} (h : InstAt b o d a e n w) (k : Only g w w') (hb : b ≠ g) : InstAt b o d a e n w' :=
  ⟨by rw [k.cell _ _ hb]; exact h.c0, by rw [k.cell _ _ hb]; exact h.c1, by rw [k.cell _ _ hb]; exact h.c2, by rw [k.cell _ _ hb]; exact h.c3, by rw [k.cell _ _ hb]; exact h.c4,
    by rw [k.frozen _ _ hb]; exact h.f0, by rw [k.frozen _ _ hb]; exact h.f1, by rw [k.frozen _ _ hb]; exact h.f2, by rw [k.frozen _ _ hb]; exact h.f3, by rw [k.frozen _ _ hb]; exact h.f4⟩
theorem InstAt.past {b : Nat} {o d a e n : Int} {w w' : World} (h : InstAt b o d a e n w) (k : Fr w w') (hb : b < w.heap.size) : InstAt b o d a e n w' :=
  ⟨by rw [k.cell _ _ hb]; exact h.c0, by rw [k.cell _ _ hb]; exact h.c1, by rw [k.cell _ _ hb]; exact h.c2, by rw [k.cell _ _ hb]; exact h.c3, by rw [k.cell _ _ hb]; exact h.c4,
    by rw [k.frozen _ _ hb]; exact h.f0, by rw [k.frozen _ _ hb]; exact h.f1, by rw [k.frozen _ _ hb]; exact h.f2, by rw [k.frozen _ _ hb]; exact h.f3, by rw [k.frozen _ _ hb]; exact h.f4⟩
theorem cell_lt {w : World} {b o : Nat} {v : Value} (h : w.cell? ⟨b, o, none⟩ = some v) : b < w.heap.size := by
  by_cases x : b < w.heap.size
  · exact x
  · exfalso
    have : w.heap[b]? = none := Array.getElem?_eq_none (by omega)
    unfold World.cell? at h
    simp [this] at h
theorem TapeAt.past {g : Nat} {A : Option Addr} {len cap i : Nat} {zs : Nat → Int} {w w' : World} (h : TapeAt g A len cap zs i w) (k : Fr w w') : TapeAt g A len cap zs i w' := by
  have hg := cell_lt h.hs
  refine ⟨by rw [k.cell _ _ hg]; exact h.hs, by rw [k.cell _ _ hg]; exact h.ha, by rw [k.frozen _ _ hg]; exact h.fz, fun j hj => ?_⟩
  obtain ⟨b, o, h1, h2, h3⟩ := h.hz j hj
  exact ⟨b, o, h1, h2, by rw [k.cell _ _ (cell_lt h3)]; exact h3⟩
abbrev tabS : Array Value := #[.int .i32 773, .int .i32 832, .int .i32 833, .int .i32 834, .int .i32 835, .int .i32 3072]
theorem tabS_at (k : Nat) (h : k < 6) : ∃ t : Int, tabS[k]? = some (.int .i32 t) ∧ 0 ≤ t ∧ t ≤ 4095 := by
  have : k = 0 ∨ k = 1 ∨ k = 2 ∨ k = 3 ∨ k = 4 ∨ k = 5 := by omega
  rcases this with rfl | rfl | rfl | rfl | rfl | rfl <;> exact ⟨_, rfl, by decide, by decide⟩
theorem TapeAt.drew {g : Nat} {A : Option Addr} {len cap i : Nat} {zs : Nat → Int} {w : World} (h : TapeAt g A len cap zs i w) : TapeAt g A len cap zs i w.drew := h.alike ⟨rfl, rfl, rfl⟩
theorem TapeAt.alloc {g : Nat} {A : Option Addr} {len cap i : Nat} {zs : Nat → Int} {w : World} (h : TapeAt g A len cap zs i w) (o : Obj) : TapeAt g A len cap zs i (w.alloc o) := h.past ((Fr.refl w).alloc o)
set_option maxRecDepth 100000 in
set_option maxHeartbeats 40000000 in
theorem inst_as (g : Nat) (A : Option Addr) (len cap i : Nat) (zs : Nat → Int) (w : World) (TT : Hid (TapeAt g A len cap zs i w)) (ii : Hid (i ≤ 100)) :
    Calls Tryz.prog 28 #[.pointer (some ⟨g, 0, none⟩)] w fun e w' => (∃ o d a b n, e = .returned (.agg (cells o d a b n)) ∧ Num.Ok (Num.fm o) d a b n) ∧ FrG g w w' := by
  have gs := hideP (cell_lt TT.out.hs)
  have T0 := hideP (TT.out.past ((Fr.refl w).alloc (.cells (cells 0 0 0 0 0) 62)))
  have R0 := hideP (InstAt.new w 0 0 0 0 0)
  have G0 := hideP ((FrG.refl g w).alloc (.cells (cells 0 0 0 0 0) 62))
  go_enter Tryz.func28, Tryz.ntmps28
  go_wp2_with fail
  refine (next_as _ (by decide) (by decide) g A len cap i zs _ T0.out (by have := ii.out; omega)).mono ?_; rintro e w1 ⟨q0, i1, rfl, hq0, hi, hT, hO⟩
  have I1 := hideP hi
  have O1 := hideP hO
  have S1 : w1.heap.size = w.heap.size + 1 := by rw [hO.size]; simp
  have R1 := hideP (R0.out.only hO (by have := gs.out; omega))
  have T1 := hideP (hT.past ((Fr.refl w1).alloc (.cells (cells (1 + (q0 : Int)) 0 0 0 0) 62)))
  have N1 := hideP (InstAt.new w1 (1 + (q0 : Int)) 0 0 0 0)
  have R1' := hideP (R1.out.past ((Fr.refl w1).alloc (.cells (cells (1 + (q0 : Int)) 0 0 0 0) 62)) (by rw [S1]; omega))
  have G1 := hideP ((G0.out.only hO).alloc (.cells (cells (1 + (q0 : Int)) 0 0 0 0) 62))
  clear hi hT hO
  have g1 : Hid (w1.heap.size ≠ g) := hideP (by have := gs.out; omega)
  have g0 : Hid (w.heap.size ≠ g) := hideP (by have := gs.out; omega)
  have ne1 : ¬ w.heap.size = w1.heap.size := by omega
  have ne2 : ¬ w1.heap.size = w.heap.size := by omega
  have S1' := hideP S1
  clear S1
  go_wp2_with fail
  refine (next_as _ (by decide) (by decide) g A len cap i1 zs _ T1.out (by have := ii.out; have := I1.out; omega)).mono ?_; rintro e w2 ⟨q2, i2, rfl, hq2, hi, hT, hO⟩
  have I2 := hideP hi
  have T2 := hideP hT
  have N2 := hideP (N1.out.only hO g1.out)
  have R2 := hideP (R1'.out.only hO g0.out)
  have G2 := hideP (G1.out.only hO)
  clear hi hT hO
  go_wp2_with fail
  refine (next_as _ (by decide) (by decide) g A len cap i2 zs _ T2.out (by have := ii.out; have := I1.out; have := I2.out; omega)).mono ?_; rintro e w3 ⟨q3, i3, rfl, hq3, hi, hT, hO⟩
  have I3 := hideP hi
  have T3 := hideP hT
  have N3 := hideP (N2.out.only hO g1.out)
  have R3 := hideP (R2.out.only hO g0.out)
  have G3 := hideP (G2.out.only hO)
  clear hi hT hO
  go_wp2_with fail
  refine (next_as _ (by decide) (by decide) g A len cap i3 zs _ T3.out (by have := ii.out; have := I1.out; have := I2.out; have := I3.out; omega)).mono ?_; rintro e w4 ⟨q4, i4, rfl, hq4, hi, hT, hO⟩
  have I4 := hideP hi
  have T4 := hideP hT
  have N4 := hideP (N3.out.only hO g1.out)
  have R4 := hideP (R3.out.only hO g0.out)
  have G4 := hideP (G3.out.only hO)
  clear hi hT hO
  go_wp2_with fail
  refine (next_as _ (by decide) (by decide) g A len cap i4 zs _ T4.out (by have := ii.out; have := I1.out; have := I2.out; have := I3.out; have := I4.out; omega)).mono ?_; rintro e w5 ⟨q5, i5, rfl, hq5, hi, hT, hO⟩
  have I5 := hideP hi
  have T5 := hideP hT
  have N5 := hideP (N4.out.only hO g1.out)
  have R5 := hideP (R4.out.only hO g0.out)
  have G5 := hideP (G4.out.only hO)
  clear hi hT hO
  have c00 := N5.out.c0
  have E : Hid (w.heap.size ≤ w.heap.size ∧ w.heap.size ≤ w1.heap.size) := hideP (by have := S1'.out; omega)
  rcases Num.fm_is (1 + (q0 : Int)) with h | h | h | h | h | h | h | h | h | ⟨h, hb⟩ | ⟨h, hb⟩
  · exfalso
    rcases Num.fm_parts (1 + (q0 : Int)) with x | x | x | x | x | x | x | x | x | x | x | x | x | x <;> omega
  · have L : Hid (Num.lt (Num.fm (1 + (q0 : Int))) = 78) := hideP (by rw [h]; rfl)
    have FF := hideP h
    clear h
    go_wp2_with fail
    refine (rformat_as _ _ L _).mono ?_; rintro e w' ⟨rfl, rfl⟩
    obtain ⟨c0, c1, c2, c3, c4, f0, f1, f2, f3, f4⟩ := N5.out
    obtain ⟨r0, r1, r2, r3, r4, s0, s1, s2, s3, s4⟩ := R5.out
    go_wp2_with fail
    refine bodyPost_ret (v := .agg (cells (1 + (q0 : Int)) 0 0 0 0)) (by simp [results, Tryz.results28, go_sem, *]) rfl ⟨⟨_, _, _, _, _, rfl, by rw [FF.out]; exact Num.mk1⟩, ?_⟩
    repeat (first | with_reducible exact G5.out | with_reducible exact E.out.1 | with_reducible exact E.out.2 | with_reducible (refine FrG.set ?_ ?_ _))
  · have L : Hid (Num.lt (Num.fm (1 + (q0 : Int))) = 82) := hideP (by rw [h]; rfl)
    have FF := hideP h
    clear h
    go_wp2_with fail
    refine (rformat_as _ _ L _).mono ?_; rintro e w' ⟨rfl, rfl⟩
    obtain ⟨c0, c1, c2, c3, c4, f0, f1, f2, f3, f4⟩ := N5.out
    obtain ⟨r0, r1, r2, r3, r4, s0, s1, s2, s3, s4⟩ := R5.out
    go_wp2_with fail
    refine bodyPost_ret (v := .agg (cells (1 + (q0 : Int)) q2 q3 q4 0)) (by simp [results, Tryz.results28, go_sem, *]) rfl ⟨⟨_, _, _, _, _, rfl, by rw [FF.out]; exact Num.mk2 (by omega) (by omega) (by omega) (by omega) (by omega) (by omega)⟩, ?_⟩
    repeat (first | with_reducible exact G5.out | with_reducible exact E.out.1 | with_reducible exact E.out.2 | with_reducible (refine FrG.set ?_ ?_ _))
  · have L : Hid (Num.lt (Num.fm (1 + (q0 : Int))) = 73) := hideP (by rw [h]; rfl)
    have FF := hideP h
    clear h
    go_wp2_with fail
    refine (rformat_as _ _ L _).mono ?_; rintro e w' ⟨rfl, rfl⟩
    obtain ⟨c0, c1, c2, c3, c4, f0, f1, f2, f3, f4⟩ := N5.out
    obtain ⟨r0, r1, r2, r3, r4, s0, s1, s2, s3, s4⟩ := R5.out
    go_wp2_with fail
    refine bodyPost_ret (v := .agg (cells (1 + (q0 : Int)) q2 q3 0 (q5 - 2048))) (by simp [results, Tryz.results28, go_sem, *]) rfl ⟨⟨_, _, _, _, _, rfl, by rw [FF.out]; exact Num.mk3 (by omega) (by omega) (by omega) (by omega) (by omega) (by omega)⟩, ?_⟩
    repeat (first | with_reducible exact G5.out | with_reducible exact E.out.1 | with_reducible exact E.out.2 | with_reducible (refine FrG.set ?_ ?_ _))
  · have L : Hid (Num.lt (Num.fm (1 + (q0 : Int))) = 72) := hideP (by rw [h]; rfl)
    have FF := hideP h
    clear h
    go_wp2_with fail
    refine (rformat_as _ _ L _).mono ?_; rintro e w' ⟨rfl, rfl⟩
    obtain ⟨c0, c1, c2, c3, c4, f0, f1, f2, f3, f4⟩ := N5.out
    obtain ⟨r0, r1, r2, r3, r4, s0, s1, s2, s3, s4⟩ := R5.out
    go_wp2_with fail
    refine bodyPost_ret (v := .agg (cells (1 + (q0 : Int)) q2 q3 0 (bits .and .i32 (q5 - 2048) 31))) (by simp [results, Tryz.results28, go_sem, *]) rfl ⟨⟨_, _, _, _, _, rfl, by rw [FF.out]; exact Num.mk4 (by omega) (by omega) (by omega) (by omega) (Num.and_small32 _).1 (Num.and_small32 _).2⟩, ?_⟩
    repeat (first | with_reducible exact G5.out | with_reducible exact E.out.1 | with_reducible exact E.out.2 | with_reducible (refine FrG.set ?_ ?_ _))
  · have L : Hid (Num.lt (Num.fm (1 + (q0 : Int))) = 83) := hideP (by rw [h]; rfl)
    have FF := hideP h
    clear h
    go_wp2_with fail
    refine (rformat_as _ _ L _).mono ?_; rintro e w' ⟨rfl, rfl⟩
    obtain ⟨c0, c1, c2, c3, c4, f0, f1, f2, f3, f4⟩ := N5.out
    obtain ⟨r0, r1, r2, r3, r4, s0, s1, s2, s3, s4⟩ := R5.out
    go_wp2_with fail
    refine bodyPost_ret (v := .agg (cells (1 + (q0 : Int)) 0 q3 q4 (q5 - 2048))) (by simp [results, Tryz.results28, go_sem, *]) rfl ⟨⟨_, _, _, _, _, rfl, by rw [FF.out]; exact Num.mk5 (by omega) (by omega) (by omega) (by omega) (by omega) (by omega)⟩, ?_⟩
    repeat (first | with_reducible exact G5.out | with_reducible exact E.out.1 | with_reducible exact E.out.2 | with_reducible (refine FrG.set ?_ ?_ _))
  · have L : Hid (Num.lt (Num.fm (1 + (q0 : Int))) = 66) := hideP (by rw [h]; rfl)
    have FF := hideP h
    clear h
    go_wp2_with fail
    refine (rformat_as _ _ L _).mono ?_; rintro e w' ⟨rfl, rfl⟩
    obtain ⟨c0, c1, c2, c3, c4, f0, f1, f2, f3, f4⟩ := N5.out
    obtain ⟨r0, r1, r2, r3, r4, s0, s1, s2, s3, s4⟩ := R5.out
    go_wp2_with fail
    refine bodyPost_ret (v := .agg (cells (1 + (q0 : Int)) 0 q3 q4 ((q5 - 2048) * 2))) (by simp [results, Tryz.results28, go_sem, *]) rfl ⟨⟨_, _, _, _, _, rfl, by rw [FF.out]; exact Num.mk6 (by omega) (by omega) (by omega) (by omega) (by omega) (by omega) (by omega)⟩, ?_⟩
    repeat (first | with_reducible exact G5.out | with_reducible exact E.out.1 | with_reducible exact E.out.2 | with_reducible (refine FrG.set ?_ ?_ _))
  · have L : Hid (Num.lt (Num.fm (1 + (q0 : Int))) = 85) := hideP (by rw [h]; rfl)
    have FF := hideP h
    clear h
    go_wp2_with fail
    refine (rformat_as _ _ L _).mono ?_; rintro e w' ⟨rfl, rfl⟩
    go_wp2_with fail
    refine (next_as _ (by decide) (by decide) g A len cap i5 zs _ T5.out (by have := ii.out; have := I1.out; have := I2.out; have := I3.out; have := I4.out; have := I5.out; omega)).mono ?_; rintro e w6 ⟨q6, i6, rfl, hq6, hi, hT, hO⟩
    have N6 := hideP (N5.out.only hO g1.out)
    have R6 := hideP (R5.out.only hO g0.out)
    have G6 := hideP (G5.out.only hO)
    clear hi hT hO
    obtain ⟨c0, c1, c2, c3, c4, f0, f1, f2, f3, f4⟩ := N6.out
    obtain ⟨r0, r1, r2, r3, r4, s0, s1, s2, s3, s4⟩ := R6.out
    go_wp2_with fail
    refine bodyPost_ret (v := .agg (cells (1 + (q0 : Int)) q2 0 0 (wrap32 (q6 * 4096)))) (by simp [results, Tryz.results28, go_sem, *]) rfl ⟨⟨_, _, _, _, _, rfl, by rw [FF.out]; exact Num.mk7 (by omega) (by omega) (by unfold wrap32; omega) (by unfold wrap32; omega) (by unfold wrap32; omega)⟩, ?_⟩
    repeat (first | with_reducible exact G6.out | with_reducible exact E.out.1 | with_reducible exact E.out.2 | with_reducible (refine FrG.set ?_ ?_ _))
  · have L : Hid (Num.lt (Num.fm (1 + (q0 : Int))) = 74) := hideP (by rw [h]; rfl)
    have FF := hideP h
    clear h
    go_wp2_with fail
    refine (rformat_as _ _ L _).mono ?_; rintro e w' ⟨rfl, rfl⟩
    go_wp2_with fail
    refine (next_as _ (by decide) (by decide) g A len cap i5 zs _ T5.out (by have := ii.out; have := I1.out; have := I2.out; have := I3.out; have := I4.out; have := I5.out; omega)).mono ?_; rintro e w6 ⟨q6, i6, rfl, hq6, hi, hT, hO⟩
    have N6 := hideP (N5.out.only hO g1.out)
    have R6 := hideP (R5.out.only hO g0.out)
    have G6 := hideP (G5.out.only hO)
    clear hi hT hO
    obtain ⟨c0, c1, c2, c3, c4, f0, f1, f2, f3, f4⟩ := N6.out
    obtain ⟨r0, r1, r2, r3, r4, s0, s1, s2, s3, s4⟩ := R6.out
    go_wp2_with fail
    refine bodyPost_ret (v := .agg (cells (1 + (q0 : Int)) q2 0 0 ((q5 - 2048) * 512 + q6 * 2))) (by simp [results, Tryz.results28, go_sem, *]) rfl ⟨⟨_, _, _, _, _, rfl, by rw [FF.out]; exact Num.mk8 (by omega) (by omega) (by omega) (by omega) (by omega)⟩, ?_⟩
    repeat (first | with_reducible exact G6.out | with_reducible exact E.out.1 | with_reducible exact E.out.2 | with_reducible (refine FrG.set ?_ ?_ _))
  · have L : Hid (Num.lt (Num.fm (1 + (q0 : Int))) = 67) := hideP (by rw [h]; rfl)
    have FF := hideP h
    clear h
    go_wp2_with fail
    refine (rformat_as _ _ L _).mono ?_; rintro e w' ⟨rfl, rfl⟩
    obtain ⟨c0, c1, c2, c3, c4, f0, f1, f2, f3, f4⟩ := N5.out
    obtain ⟨r0, r1, r2, r3, r4, s0, s1, s2, s3, s4⟩ := R5.out
    have lt0 : w.heap.size < w'.heap.size := cell_lt r0
    have lt1 : w1.heap.size < w'.heap.size := cell_lt c0
    have g5 : Hid (w'.heap.size ≠ g) := hideP (by have := cell_lt T5.out.hs; omega)
    have ne3 : ¬ w.heap.size = w'.heap.size := by omega
    have ne4 : ¬ w1.heap.size = w'.heap.size := by omega
    go_wp2_with fail
    go_region_with (go_at_call 25; refine (next_as _ (by decide) (by decide) g A len cap i5 zs _ (by repeat (first | with_reducible exact T5.out | with_reducible exact g1.out | with_reducible (refine TapeAt.drew ?_) | with_reducible (refine TapeAt.alloc ?_ _))) (by have := ii.out; have := I1.out; have := I2.out; have := I3.out; have := I4.out; have := I5.out; omega)).mono ?_; rintro e w6 ⟨q6, i6, rfl, hq6, hi, hT, hO⟩; have k0 : (0 : Int) ≤ (q6 : Int) := (by omega); obtain ⟨t, ht, ht2⟩ := tabS_at q6 (by omega); have ht3 := hideP ht2; clear ht2; have hc1 := fun k => hO.cell w1.heap.size k g1.out; have hc0 := fun k => hO.cell w.heap.size k g0.out; have hf1 := fun k => hO.frozen w1.heap.size k g1.out; have hf0 := fun k => hO.frozen w.heap.size k g0.out; have hc5 := fun k => hO.cell w'.heap.size k g5.out; have S6 := hO.size; have G6 := hideP (FrG.only (g := g) (u := w) (by repeat (first | with_reducible exact G5.out | with_reducible (refine FrG.drew ?_) | with_reducible (refine FrG.alloc ?_ _))) hO); clear hi hT hO)
    all_goals
      go_wp2_with fail
      refine bodyPost_ret (v := .agg (cells (1 + (q0 : Int)) q2 q3 0 t)) (by simp [results, Tryz.results28, go_sem, *]) rfl ⟨⟨_, _, _, _, _, rfl, by rw [FF.out]; exact Num.mk9 (by omega) (by omega) (by omega) (by omega) ht3.out.1 ht3.out.2⟩, ?_⟩
      repeat (first | with_reducible exact G6.out | with_reducible exact E.out.1 | with_reducible exact E.out.2 | with_reducible (refine FrG.alloc ?_ _) | with_reducible (refine FrG.drew ?_) | with_reducible (refine FrG.set ?_ ?_ _))
  · have L : Hid (Num.lt (Num.fm (1 + (q0 : Int))) = 67) := hideP (by rw [h]; rfl)
    have FF := hideP h
    clear h
    go_wp2_with fail
    refine (rformat_as _ _ L _).mono ?_; rintro e w' ⟨rfl, rfl⟩
    obtain ⟨c0, c1, c2, c3, c4, f0, f1, f2, f3, f4⟩ := N5.out
    obtain ⟨r0, r1, r2, r3, r4, s0, s1, s2, s3, s4⟩ := R5.out
    have lt0 : w.heap.size < w'.heap.size := cell_lt r0
    have lt1 : w1.heap.size < w'.heap.size := cell_lt c0
    have g5 : Hid (w'.heap.size ≠ g) := hideP (by have := cell_lt T5.out.hs; omega)
    have ne3 : ¬ w.heap.size = w'.heap.size := by omega
    have ne4 : ¬ w1.heap.size = w'.heap.size := by omega
    go_wp2_with fail
    go_region_with (go_at_call 25; refine (next_as _ (by decide) (by decide) g A len cap i5 zs _ (by repeat (first | with_reducible exact T5.out | with_reducible exact g1.out | with_reducible (refine TapeAt.drew ?_) | with_reducible (refine TapeAt.alloc ?_ _))) (by have := ii.out; have := I1.out; have := I2.out; have := I3.out; have := I4.out; have := I5.out; omega)).mono ?_; rintro e w6 ⟨q6, i6, rfl, hq6, hi, hT, hO⟩; have k0 : (0 : Int) ≤ (q6 : Int) := (by omega); obtain ⟨t, ht, ht2⟩ := tabS_at q6 (by omega); have ht3 := hideP ht2; clear ht2; have hc1 := fun k => hO.cell w1.heap.size k g1.out; have hc0 := fun k => hO.cell w.heap.size k g0.out; have hf1 := fun k => hO.frozen w1.heap.size k g1.out; have hf0 := fun k => hO.frozen w.heap.size k g0.out; have hc5 := fun k => hO.cell w'.heap.size k g5.out; have S6 := hO.size; have G6 := hideP (FrG.only (g := g) (u := w) (by repeat (first | with_reducible exact G5.out | with_reducible (refine FrG.drew ?_) | with_reducible (refine FrG.alloc ?_ _))) hO); clear hi hT hO)
    all_goals
      go_wp2_with fail
      refine bodyPost_ret (v := .agg (cells (1 + (q0 : Int)) q2 q3 0 t)) (by simp [results, Tryz.results28, go_sem, *]) rfl ⟨⟨_, _, _, _, _, rfl, by rw [FF.out]; exact Num.mk10 (by omega) (by omega) (by omega) (by omega) ht3.out.1 ht3.out.2⟩, ?_⟩
      repeat (first | with_reducible exact G6.out | with_reducible exact E.out.1 | with_reducible exact E.out.2 | with_reducible (refine FrG.alloc ?_ _) | with_reducible (refine FrG.drew ?_) | with_reducible (refine FrG.set ?_ ?_ _))
end Go.Proofs.YtpkbkbllhpdfiaaGreat.Walks
