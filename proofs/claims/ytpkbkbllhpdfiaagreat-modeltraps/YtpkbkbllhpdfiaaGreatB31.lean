/- InstT: Contract of the tape's Inst, however far it was read. -/
import Derived.Test.YtpkbkbllhpdfiaaGreatB27
import Derived.Test.YtpkbkbllhpdfiaaGreatB04
import Derived.Test.YtpkbkbllhpdfiaaGreatB03
import Derived.Deep.RegionWith
import Derived.Deep.DrawnRows
import Derived.Deep.RegionHeld3
namespace Go.Proofs.YtpkbkbllhpdfiaaGreat.Walks
open Go.ChangeShapes Go.WideShapes Go.ChangeAt Go.RowKit
set_option linter.unusedVariables false
attribute [local go_sem ↓] Go.wp_at_zero Go.wp_at_succ
set_option maxRecDepth 100000 in
set_option maxHeartbeats 40000000 in
theorem inst_t (g : Nat) (M : TL) (w : World) (TT : Hid (Tp g M w)) :
    Calls Tryz.prog 28 #[.pointer (some ⟨g, 0, none⟩)] w fun e w' => (∃ o d a b n, e = .returned (.agg (cells o d a b n)) ∧ Num.Ok (Num.fm o) d a b n) ∧ TF g M w w' := by
  have gs := hideP (TT.out.lt)
  have T0 := hideP (TT.out.fr ((Fr.refl w).alloc (.cells (cells 0 0 0 0 0) 62)))
  have R0 := hideP (InstAt.new w 0 0 0 0 0)
  have G0 := hideP ((TF.refl TT.out).alloc (.cells (cells 0 0 0 0 0) 62))
  go_enter Tryz.func28, Tryz.ntmps28
  go_wp2_with fail
  refine (next_t _ (by decide) (by decide) g M _ T0.out).mono ?_; rintro e w1 ⟨q0, rfl, hq0, hT, hO⟩
  have O1 := hideP hO
  have S1 : w1.heap.size = w.heap.size + 1 := by rw [hO.size]; simp
  have R1 := hideP (R0.out.only hO (by have := gs.out; omega))
  have T1 := hideP (hT.fr ((Fr.refl w1).alloc (.cells (cells (1 + (q0 : Int)) 0 0 0 0) 62)))
  have N1 := hideP (InstAt.new w1 (1 + (q0 : Int)) 0 0 0 0)
  have R1' := hideP (R1.out.past ((Fr.refl w1).alloc (.cells (cells (1 + (q0 : Int)) 0 0 0 0) 62)) (by rw [S1]; omega))
  have G1 := hideP ((G0.out.next hT hO).alloc (.cells (cells (1 + (q0 : Int)) 0 0 0 0) 62))
  clear hT hO
  have g1 : Hid (w1.heap.size ≠ g) := hideP (by have := gs.out; omega)
  have g0 : Hid (w.heap.size ≠ g) := hideP (by have := gs.out; omega)
  have ne1 : ¬ w.heap.size = w1.heap.size := by omega
  have ne2 : ¬ w1.heap.size = w.heap.size := by omega
  have S1' := hideP S1
  clear S1
  go_wp2_with fail
  refine (next_t _ (by decide) (by decide) g M _ T1.out).mono ?_; rintro e w2 ⟨q2, rfl, hq2, hT, hO⟩
  have T2 := hideP hT
  have N2 := hideP (N1.out.only hO g1.out)
  have R2 := hideP (R1'.out.only hO g0.out)
  have G2 := hideP (G1.out.next hT hO)
  clear hT hO
  go_wp2_with fail
  refine (next_t _ (by decide) (by decide) g M _ T2.out).mono ?_; rintro e w3 ⟨q3, rfl, hq3, hT, hO⟩
  have T3 := hideP hT
  have N3 := hideP (N2.out.only hO g1.out)
  have R3 := hideP (R2.out.only hO g0.out)
  have G3 := hideP (G2.out.next hT hO)
  clear hT hO
  go_wp2_with fail
  refine (next_t _ (by decide) (by decide) g M _ T3.out).mono ?_; rintro e w4 ⟨q4, rfl, hq4, hT, hO⟩
  have T4 := hideP hT
  have N4 := hideP (N3.out.only hO g1.out)
  have R4 := hideP (R3.out.only hO g0.out)
  have G4 := hideP (G3.out.next hT hO)
  clear hT hO
  go_wp2_with fail
  refine (next_t _ (by decide) (by decide) g M _ T4.out).mono ?_; rintro e w5 ⟨q5, rfl, hq5, hT, hO⟩
  have T5 := hideP hT
  have N5 := hideP (N4.out.only hO g1.out)
  have R5 := hideP (R4.out.only hO g0.out)
  have G5 := hideP (G4.out.next hT hO)
  clear hT hO
  have c00 := N5.out.c0
  have E : Hid (w.heap.size ≤ w.heap.size ∧ w.heap.size ≤ w1.heap.size) := hideP (by have := S1'.out; omega)
  rcases Num.fm_is (1 + (q0 : Int)) with h | h | h | h | h | h | h | h | h | ⟨h, hb⟩ | ⟨h, hb⟩
  · exfalso
    rcases Num.fm_parts (1 + (q0 : Int)) with x | x | x | x | x | x | x | x | x | x | x | x | x | x <;> omega
  · have L : Hid (Num.lt (Num.fm (1 + (q0 : Int))) = 78) := hideP (by rw [h]; rfl)
    have FF := hideP h
    clear h
    go_wp2_with fail
    refine (rformat_as _ _ L _).mono ?_; rintro e w' ⟨rfl, rfl⟩
    obtain ⟨c0, c1, c2, c3, c4, f0, f1, f2, f3, f4⟩ := N5.out
    obtain ⟨r0, r1, r2, r3, r4, s0, s1, s2, s3, s4⟩ := R5.out
    go_wp2_with fail
    refine bodyPost_ret (v := .agg (cells (1 + (q0 : Int)) 0 0 0 0)) (by simp [results, Tryz.results28, go_sem, *]) rfl ⟨⟨_, _, _, _, _, rfl, by rw [FF.out]; exact Num.mk1⟩, ?_⟩
    repeat (first | with_reducible exact G5.out | with_reducible exact E.out.1 | with_reducible exact E.out.2 | with_reducible (refine TF.set ?_ ?_ _))
  · have L : Hid (Num.lt (Num.fm (1 + (q0 : Int))) = 82) := hideP (by rw [h]; rfl)
    have FF := hideP h
    clear h
    go_wp2_with fail
    refine (rformat_as _ _ L _).mono ?_; rintro e w' ⟨rfl, rfl⟩
    obtain ⟨c0, c1, c2, c3, c4, f0, f1, f2, f3, f4⟩ := N5.out
    obtain ⟨r0, r1, r2, r3, r4, s0, s1, s2, s3, s4⟩ := R5.out
    go_wp2_with fail
    refine bodyPost_ret (v := .agg (cells (1 + (q0 : Int)) q2 q3 q4 0)) (by simp [results, Tryz.results28, go_sem, *]) rfl ⟨⟨_, _, _, _, _, rfl, by rw [FF.out]; exact Num.mk2 (by omega) (by omega) (by omega) (by omega) (by omega) (by omega)⟩, ?_⟩
    repeat (first | with_reducible exact G5.out | with_reducible exact E.out.1 | with_reducible exact E.out.2 | with_reducible (refine TF.set ?_ ?_ _))
  · have L : Hid (Num.lt (Num.fm (1 + (q0 : Int))) = 73) := hideP (by rw [h]; rfl)
    have FF := hideP h
    clear h
    go_wp2_with fail
    refine (rformat_as _ _ L _).mono ?_; rintro e w' ⟨rfl, rfl⟩
    obtain ⟨c0, c1, c2, c3, c4, f0, f1, f2, f3, f4⟩ := N5.out
    obtain ⟨r0, r1, r2, r3, r4, s0, s1, s2, s3, s4⟩ := R5.out
    go_wp2_with fail
    refine bodyPost_ret (v := .agg (cells (1 + (q0 : Int)) q2 q3 0 (q5 - 2048))) (by simp [results, Tryz.results28, go_sem, *]) rfl ⟨⟨_, _, _, _, _, rfl, by rw [FF.out]; exact Num.mk3 (by omega) (by omega) (by omega) (by omega) (by omega) (by omega)⟩, ?_⟩
    repeat (first | with_reducible exact G5.out | with_reducible exact E.out.1 | with_reducible exact E.out.2 | with_reducible (refine TF.set ?_ ?_ _))
  · have L : Hid (Num.lt (Num.fm (1 + (q0 : Int))) = 72) := hideP (by rw [h]; rfl)
    have FF := hideP h
    clear h
    go_wp2_with fail
    refine (rformat_as _ _ L _).mono ?_; rintro e w' ⟨rfl, rfl⟩
    obtain ⟨c0, c1, c2, c3, c4, f0, f1, f2, f3, f4⟩ := N5.out
    obtain ⟨r0, r1, r2, r3, r4, s0, s1, s2, s3, s4⟩ := R5.out
    go_wp2_with fail
    refine bodyPost_ret (v := .agg (cells (1 + (q0 : Int)) q2 q3 0 (bits .and .i32 (q5 - 2048) 31))) (by simp [results, Tryz.results28, go_sem, *]) rfl ⟨⟨_, _, _, _, _, rfl, by rw [FF.out]; exact Num.mk4 (by omega) (by omega) (by omega) (by omega) (Num.and_small32 _).1 (Num.and_small32 _).2⟩, ?_⟩
    repeat (first | with_reducible exact G5.out | with_reducible exact E.out.1 | with_reducible exact E.out.2 | with_reducible (refine TF.set ?_ ?_ _))
  · have L : Hid (Num.lt (Num.fm (1 + (q0 : Int))) = 83) := hideP (by rw [h]; rfl)
    have FF := hideP h
    clear h
    go_wp2_with fail
    refine (rformat_as _ _ L _).mono ?_; rintro e w' ⟨rfl, rfl⟩
    obtain ⟨c0, c1, c2, c3, c4, f0, f1, f2, f3, f4⟩ := N5.out
    obtain ⟨r0, r1, r2, r3, r4, s0, s1, s2, s3, s4⟩ := R5.out
    go_wp2_with fail
    refine bodyPost_ret (v := .agg (cells (1 + (q0 : Int)) 0 q3 q4 (q5 - 2048))) (by simp [results, Tryz.results28, go_sem, *]) rfl ⟨⟨_, _, _, _, _, rfl, by rw [FF.out]; exact Num.mk5 (by omega) (by omega) (by omega) (by omega) (by omega) (by omega)⟩, ?_⟩
    repeat (first | with_reducible exact G5.out | with_reducible exact E.out.1 | with_reducible exact E.out.2 | with_reducible (refine TF.set ?_ ?_ _))
  · have L : Hid (Num.lt (Num.fm (1 + (q0 : Int))) = 66) := hideP (by rw [h]; rfl)
    have FF := hideP h
    clear h
    go_wp2_with fail
    refine (rformat_as _ _ L _).mono ?_; rintro e w' ⟨rfl, rfl⟩
    obtain ⟨c0, c1, c2, c3, c4, f0, f1, f2, f3, f4⟩ := N5.out
    obtain ⟨r0, r1, r2, r3, r4, s0, s1, s2, s3, s4⟩ := R5.out
    go_wp2_with fail
    refine bodyPost_ret (v := .agg (cells (1 + (q0 : Int)) 0 q3 q4 ((q5 - 2048) * 2))) (by simp [results, Tryz.results28, go_sem, *]) rfl ⟨⟨_, _, _, _, _, rfl, by rw [FF.out]; exact Num.mk6 (by omega) (by omega) (by omega) (by omega) (by omega) (by omega) (by omega)⟩, ?_⟩
    repeat (first | with_reducible exact G5.out | with_reducible exact E.out.1 | with_reducible exact E.out.2 | with_reducible (refine TF.set ?_ ?_ _))
  · have L : Hid (Num.lt (Num.fm (1 + (q0 : Int))) = 85) := hideP (by rw [h]; rfl)
    have FF := hideP h
    clear h
    go_wp2_with fail
    refine (rformat_as _ _ L _).mono ?_; rintro e w' ⟨rfl, rfl⟩
    go_wp2_with fail
    refine (next_t _ (by decide) (by decide) g M _ T5.out).mono ?_; rintro e w6 ⟨q6, rfl, hq6, hT, hO⟩
    have N6 := hideP (N5.out.only hO g1.out)
    have R6 := hideP (R5.out.only hO g0.out)
    have G6 := hideP (G5.out.next hT hO)
    clear hT hO
    obtain ⟨c0, c1, c2, c3, c4, f0, f1, f2, f3, f4⟩ := N6.out
    obtain ⟨r0, r1, r2, r3, r4, s0, s1, s2, s3, s4⟩ := R6.out
    go_wp2_with fail
    refine bodyPost_ret (v := .agg (cells (1 + (q0 : Int)) q2 0 0 (wrap32 (q6 * 4096)))) (by simp [results, Tryz.results28, go_sem, *]) rfl ⟨⟨_, _, _, _, _, rfl, by rw [FF.out]; exact Num.mk7 (by omega) (by omega) (by unfold wrap32; omega) (by unfold wrap32; omega) (by unfold wrap32; omega)⟩, ?_⟩
    repeat (first | with_reducible exact G6.out | with_reducible exact E.out.1 | with_reducible exact E.out.2 | with_reducible (refine TF.set ?_ ?_ _))
  · have L : Hid (Num.lt (Num.fm (1 + (q0 : Int))) = 74) := hideP (by rw [h]; rfl)
    have FF := hideP h
    clear h
    go_wp2_with fail
    refine (rformat_as _ _ L _).mono ?_; rintro e w' ⟨rfl, rfl⟩
    go_wp2_with fail
    refine (next_t _ (by decide) (by decide) g M _ T5.out).mono ?_; rintro e w6 ⟨q6, rfl, hq6, hT, hO⟩
    have N6 := hideP (N5.out.only hO g1.out)
    have R6 := hideP (R5.out.only hO g0.out)
    have G6 := hideP (G5.out.next hT hO)
    clear hT hO
    obtain ⟨c0, c1, c2, c3, c4, f0, f1, f2, f3, f4⟩ := N6.out
    obtain ⟨r0, r1, r2, r3, r4, s0, s1, s2, s3, s4⟩ := R6.out
    go_wp2_with fail
    refine bodyPost_ret (v := .agg (cells (1 + (q0 : Int)) q2 0 0 ((q5 - 2048) * 512 + q6 * 2))) (by simp [results, Tryz.results28, go_sem, *]) rfl ⟨⟨_, _, _, _, _, rfl, by rw [FF.out]; exact Num.mk8 (by omega) (by omega) (by omega) (by omega) (by omega)⟩, ?_⟩
    repeat (first | with_reducible exact G6.out | with_reducible exact E.out.1 | with_reducible exact E.out.2 | with_reducible (refine TF.set ?_ ?_ _))
  · have L : Hid (Num.lt (Num.fm (1 + (q0 : Int))) = 67) := hideP (by rw [h]; rfl)
    have FF := hideP h
    clear h
    go_wp2_with fail
    refine (rformat_as _ _ L _).mono ?_; rintro e w' ⟨rfl, rfl⟩
    obtain ⟨c0, c1, c2, c3, c4, f0, f1, f2, f3, f4⟩ := N5.out
    obtain ⟨r0, r1, r2, r3, r4, s0, s1, s2, s3, s4⟩ := R5.out
    have lt0 : w.heap.size < w'.heap.size := cell_lt r0
    have lt1 : w1.heap.size < w'.heap.size := cell_lt c0
    have g5 : Hid (w'.heap.size ≠ g) := hideP (by have := T5.out.lt; omega)
    have ne3 : ¬ w.heap.size = w'.heap.size := by omega
    have ne4 : ¬ w1.heap.size = w'.heap.size := by omega
    go_wp2_with fail
    go_region_with (go_at_call 25; refine (next_t _ (by decide) (by decide) g M _ (by repeat (first | with_reducible exact T5.out | with_reducible exact g1.out | with_reducible (refine Tp.drew ?_) | with_reducible (refine Tp.alloc ?_ _)))).mono ?_; rintro e w6 ⟨q6, rfl, hq6, hT, hO⟩; have k0 : (0 : Int) ≤ (q6 : Int) := (by omega); obtain ⟨t, ht, ht2⟩ := tabS_at q6 (by omega); have ht3 := hideP ht2; clear ht2; have hc1 := fun k => hO.cell w1.heap.size k g1.out; have hc0 := fun k => hO.cell w.heap.size k g0.out; have hf1 := fun k => hO.frozen w1.heap.size k g1.out; have hf0 := fun k => hO.frozen w.heap.size k g0.out; have hc5 := fun k => hO.cell w'.heap.size k g5.out; have S6 := hO.size; have G6 := hideP (TF.next (g := g) (L := M) (u := w) (by repeat (first | with_reducible exact G5.out | with_reducible (refine TF.drew ?_) | with_reducible (refine TF.alloc ?_ _))) hT hO); clear hT hO)
    all_goals
      go_wp2_with fail
      refine bodyPost_ret (v := .agg (cells (1 + (q0 : Int)) q2 q3 0 t)) (by simp [results, Tryz.results28, go_sem, *]) rfl ⟨⟨_, _, _, _, _, rfl, by rw [FF.out]; exact Num.mk9 (by omega) (by omega) (by omega) (by omega) ht3.out.1 ht3.out.2⟩, ?_⟩
      repeat (first | with_reducible exact G6.out | with_reducible exact E.out.1 | with_reducible exact E.out.2 | with_reducible (refine TF.alloc ?_ _) | with_reducible (refine TF.drew ?_) | with_reducible (refine TF.set ?_ ?_ _))
  · have L : Hid (Num.lt (Num.fm (1 + (q0 : Int))) = 67) := hideP (by rw [h]; rfl)
    have FF := hideP h
    clear h
    go_wp2_with fail
    refine (rformat_as _ _ L _).mono ?_; rintro e w' ⟨rfl, rfl⟩
    obtain ⟨c0, c1, c2, c3, c4, f0, f1, f2, f3, f4⟩ := N5.out
    obtain ⟨r0, r1, r2, r3, r4, s0, s1, s2, s3, s4⟩ := R5.out
    have lt0 : w.heap.size < w'.heap.size := cell_lt r0
    have lt1 : w1.heap.size < w'.heap.size := cell_lt c0
    have g5 : Hid (w'.heap.size ≠ g) := hideP (by have := T5.out.lt; omega)
    have ne3 : ¬ w.heap.size = w'.heap.size := by omega
    have ne4 : ¬ w1.heap.size = w'.heap.size := by omega
    go_wp2_with fail
    go_region_with (go_at_call 25; refine (next_t _ (by decide) (by decide) g M _ (by repeat (first | with_reducible exact T5.out | with_reducible exact g1.out | with_reducible (refine Tp.drew ?_) | with_reducible (refine Tp.alloc ?_ _)))).mono ?_; rintro e w6 ⟨q6, rfl, hq6, hT, hO⟩; have k0 : (0 : Int) ≤ (q6 : Int) := (by omega); obtain ⟨t, ht, ht2⟩ := tabS_at q6 (by omega); have ht3 := hideP ht2; clear ht2; have hc1 := fun k => hO.cell w1.heap.size k g1.out; have hc0 := fun k => hO.cell w.heap.size k g0.out; have hf1 := fun k => hO.frozen w1.heap.size k g1.out; have hf0 := fun k => hO.frozen w.heap.size k g0.out; have hc5 := fun k => hO.cell w'.heap.size k g5.out; have S6 := hO.size; have G6 := hideP (TF.next (g := g) (L := M) (u := w) (by repeat (first | with_reducible exact G5.out | with_reducible (refine TF.drew ?_) | with_reducible (refine TF.alloc ?_ _))) hT hO); clear hT hO)
    all_goals
      go_wp2_with fail
      refine bodyPost_ret (v := .agg (cells (1 + (q0 : Int)) q2 q3 0 t)) (by simp [results, Tryz.results28, go_sem, *]) rfl ⟨⟨_, _, _, _, _, rfl, by rw [FF.out]; exact Num.mk10 (by omega) (by omega) (by omega) (by omega) ht3.out.1 ht3.out.2⟩, ?_⟩
      repeat (first | with_reducible exact G6.out | with_reducible exact E.out.1 | with_reducible exact E.out.2 | with_reducible (refine TF.alloc ?_ _) | with_reducible (refine TF.drew ?_) | with_reducible (refine TF.set ?_ ?_ _))
end Go.Proofs.YtpkbkbllhpdfiaaGreat.Walks
