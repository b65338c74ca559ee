/- RCsr: Contract of the document's csr, op by op. -/
import Derived.Test.YtpkbkbllhpdfiaaGreatB07
import Derived.Test.YtpkbkbllhpdfiaaGreatB03
namespace Go.Proofs.YtpkbkbllhpdfiaaGreat.M
open Go.ChangeShapes Go.WideShapes Go.ChangeAt Go.RowKit Go.Proofs.YtpkbkbllhpdfiaaGreat.Walks Go.Proofs.YtpkbkbllhpdfiaaGreat.Mod
set_option linter.unusedVariables false
theorem rinst_cell (w : World) (c : Array Value) (j : Nat) : ((w.alloc (.cells c 62)).alloc (.cells z7 38)).cell? ⟨w.heap.size, j, none⟩ = c[j]? := Walks.box_cell w _ c 62 ((Fr.refl _).alloc _) j
set_option maxRecDepth 100000 in
set_option maxHeartbeats 400000 in
theorem rcsr_bad (B C : Nat) (s s' : St) (v : Value) (o n vv x : Int) (d a b : Nat) (n0 : 0 ≤ n) (n1 : n ≤ 4095) (K : Hid (T.Num.ix n = -1)) (S : Hid (s.trap 2 vv = s')) (I : Hid (Inv s)) (w : World) (hM : Hid (RAt B C s v w)) :
    Calls Tryz.prog 72 #[.pointer (some ⟨B, 0, none⟩), .agg (cells o d a b n), .int .u32 vv, .int .u32 x] w fun e w' => e = .returned (.agg (rc s.pc 0 0 false 0 0 0)) ∧ RNow B C v s' w w' := by
  have cp := hM.out.pc
  have hb := hM.out.lt
  have HW := hid (RNow.inst hM.out (cells o d a b n))
  have BX := hid (Box.inst w (cells o d a b n))
  go_enter Tryz.func72, Tryz.ntmps72
  go_wp2_with fail
  refine (T.Walks.rindex_as _ _ K _).mono ?_; rintro e w1 ⟨rfl, hF⟩
  have H1 := hid (HW.out.fr hF)
  have B1 := hid (BX.out.fr hF)
  go_wp2_with fail
  refine (rtrap_as B C s s' v _ _ _ I.out rfl (by decide) (by decide) S _ H1.out.1).mono ?_; rintro e w2 ⟨rfl, hN⟩
  obtain ⟨b0, b1, b2, b3, b4, b5, b6, y0, y1, y2, y3, y4, y5, y6⟩ := B1.out.rchg hM.out (Nat.le_add_right _ 1) hN.2
  go_wp2_with fail
  refine bodyPost_ret (v := .agg (rc s.pc 0 0 false 0 0 0)) (by simp [results, Tryz.results72, go_sem, *]) rfl ⟨rfl, ?_⟩
  exact RNow.ends (H1.out.then hN) hM.out (Nat.le_add_right _ 1) s.pc 0 0 false 0 0 0
set_option maxRecDepth 100000 in
set_option maxHeartbeats 400000 in
theorem rcsr50_0 (B C : Nat) (s s' : St) (v : Value) (n vv x old y z nx : Int) (d a b : Nat) (n0 : 0 ≤ n) (n1 : n ≤ 4095) (hd : Hid ((d : Int) ≤ 31)) (a0 : (0 : Int) ≤ a) (ha : (a : Int) ≤ 31) (K : Hid (T.Num.ix n = 0)) (O : Hid (s.c 0 = old)) (Z : bits .andNot .u32 x 3 = z) (NX : (s.pc + 4) % 4294967296 = nx)
    (q1 q2 q3 : Int) (q4 : Bool) (q5 q6 q7 : Int) (Q : Hid ((bare s.pc).put d old = ⟨q1, q2, q3, q4, q5, q6, q7⟩)) (S : Hid (((s.setC 0 z).go nx).put d old = s')) (w : World) (hM : Hid (RAt B C s v w)) :
    Calls Tryz.prog 72 #[.pointer (some ⟨B, 0, none⟩), .agg (cells 50 d a b n), .int .u32 vv, .int .u32 x] w fun e w' => e = .returned (.agg (rc q1 q2 q3 q4 q5 q6 q7)) ∧ RNow B C v s' w w' := by
  have cp := hM.out.pc
  have hb := hM.out.lt
  have HW := hid (RNow.inst hM.out (cells 50 d a b n))
  have BX := hid (Box.inst w (cells 50 d a b n))
  go_enter Tryz.func72, Tryz.ntmps72
  go_wp2_with fail
  refine (T.Walks.rindex_as _ _ K _).mono ?_; rintro e w1 ⟨rfl, hF⟩
  have H1 := hid (HW.out.fr hF)
  have B1 := hid (BX.out.fr hF)
  have i0 : w1.cell? ⟨w.heap.size, 0, none⟩ = some (.int .i64 50) := (hF.cell _ _ (by simp; omega)).trans (rinst_cell w (cells 50 d a b n) 0)
  have i1 : w1.cell? ⟨w.heap.size, 1, none⟩ = some (.int .i64 d) := (hF.cell _ _ (by simp; omega)).trans (rinst_cell w (cells 50 d a b n) 1)
  have i2 : w1.cell? ⟨w.heap.size, 2, none⟩ = some (.int .i64 a) := (hF.cell _ _ (by simp; omega)).trans (rinst_cell w (cells 50 d a b n) 2)
  have k1 : w1.cell? ⟨B, 33 + 0, none⟩ = some (.int .u32 old) := by rw [H1.out.1.c 0 (by omega), O.out]
  have k2 : w1.frozen? ⟨B, 33 + 0, none⟩ = false := H1.out.1.z _ (by omega)
  have p1 : w1.cell? ⟨B, 0, none⟩ = some (.int .u32 s.pc) := H1.out.1.pc
  have p2 : w1.frozen? ⟨B, 0, none⟩ = false := H1.out.1.z 0 (by decide)
  have nb : ¬ w.heap.size = B := by omega
  go_wp2_with fail
  have H2 : Hid (RNow B C v ((s.setC 0 z).go nx) w ((w1.setCell ⟨B, 33 + 0, none⟩ (.int .u32 z)).setCell ⟨B, 0, none⟩ (.int .u32 nx))) := (H1.out.setC 0 (by omega) z).setPc nx
  have B2 : Hid (Box (w.heap.size + 1) ((w1.setCell ⟨B, 33 + 0, none⟩ (.int .u32 z)).setCell ⟨B, 0, none⟩ (.int .u32 nx))) := (B1.out.set _ _ (by show w.heap.size + 1 ≠ B; omega)).set _ _ (by show w.heap.size + 1 ≠ B; omega)
  refine (rput_as B C ((s.setC 0 z).go nx) s' v _ _ d hd.out _ Q S _ (by exact H2.out.1)).mono ?_; rintro e w2 ⟨rfl, hN⟩
  obtain ⟨b0, b1, b2, b3, b4, b5, b6, y0, y1, y2, y3, y4, y5, y6⟩ := Box.rchg (w := _) (by exact B2.out) hM.out (Nat.le_add_right _ 1) hN.2
  go_wp2_with fail
  refine bodyPost_ret (v := .agg (rc q1 q2 q3 q4 q5 q6 q7)) (by simp [results, Tryz.results72, go_sem, *]) rfl ⟨rfl, ?_⟩
  exact RNow.ends (RNow.then (by exact H2.out) hN) hM.out (Nat.le_add_right _ 1) q1 q2 q3 q4 q5 q6 q7
set_option maxRecDepth 100000 in
set_option maxHeartbeats 400000 in
theorem rcsr50_2 (B C : Nat) (s s' : St) (v : Value) (n vv x old y z nx : Int) (d a b : Nat) (n0 : 0 ≤ n) (n1 : n ≤ 4095) (hd : Hid ((d : Int) ≤ 31)) (a0 : (0 : Int) ≤ a) (ha : (a : Int) ≤ 31) (K : Hid (T.Num.ix n = 2)) (O : Hid (s.c 2 = old)) (Z : bits .andNot .u32 x 3 = z) (NX : (s.pc + 4) % 4294967296 = nx)
    (q1 q2 q3 : Int) (q4 : Bool) (q5 q6 q7 : Int) (Q : Hid ((bare s.pc).put d old = ⟨q1, q2, q3, q4, q5, q6, q7⟩)) (S : Hid (((s.setC 2 z).go nx).put d old = s')) (w : World) (hM : Hid (RAt B C s v w)) :
    Calls Tryz.prog 72 #[.pointer (some ⟨B, 0, none⟩), .agg (cells 50 d a b n), .int .u32 vv, .int .u32 x] w fun e w' => e = .returned (.agg (rc q1 q2 q3 q4 q5 q6 q7)) ∧ RNow B C v s' w w' := by
  have cp := hM.out.pc
  have hb := hM.out.lt
  have HW := hid (RNow.inst hM.out (cells 50 d a b n))
  have BX := hid (Box.inst w (cells 50 d a b n))
  go_enter Tryz.func72, Tryz.ntmps72
  go_wp2_with fail
  refine (T.Walks.rindex_as _ _ K _).mono ?_; rintro e w1 ⟨rfl, hF⟩
  have H1 := hid (HW.out.fr hF)
  have B1 := hid (BX.out.fr hF)
  have i0 : w1.cell? ⟨w.heap.size, 0, none⟩ = some (.int .i64 50) := (hF.cell _ _ (by simp; omega)).trans (rinst_cell w (cells 50 d a b n) 0)
  have i1 : w1.cell? ⟨w.heap.size, 1, none⟩ = some (.int .i64 d) := (hF.cell _ _ (by simp; omega)).trans (rinst_cell w (cells 50 d a b n) 1)
  have i2 : w1.cell? ⟨w.heap.size, 2, none⟩ = some (.int .i64 a) := (hF.cell _ _ (by simp; omega)).trans (rinst_cell w (cells 50 d a b n) 2)
  have k1 : w1.cell? ⟨B, 33 + 2, none⟩ = some (.int .u32 old) := by rw [H1.out.1.c 2 (by omega), O.out]
  have k2 : w1.frozen? ⟨B, 33 + 2, none⟩ = false := H1.out.1.z _ (by omega)
  have p1 : w1.cell? ⟨B, 0, none⟩ = some (.int .u32 s.pc) := H1.out.1.pc
  have p2 : w1.frozen? ⟨B, 0, none⟩ = false := H1.out.1.z 0 (by decide)
  have nb : ¬ w.heap.size = B := by omega
  go_wp2_with fail
  have H2 : Hid (RNow B C v ((s.setC 2 z).go nx) w ((w1.setCell ⟨B, 33 + 2, none⟩ (.int .u32 z)).setCell ⟨B, 0, none⟩ (.int .u32 nx))) := (H1.out.setC 2 (by omega) z).setPc nx
  have B2 : Hid (Box (w.heap.size + 1) ((w1.setCell ⟨B, 33 + 2, none⟩ (.int .u32 z)).setCell ⟨B, 0, none⟩ (.int .u32 nx))) := (B1.out.set _ _ (by show w.heap.size + 1 ≠ B; omega)).set _ _ (by show w.heap.size + 1 ≠ B; omega)
  refine (rput_as B C ((s.setC 2 z).go nx) s' v _ _ d hd.out _ Q S _ (by exact H2.out.1)).mono ?_; rintro e w2 ⟨rfl, hN⟩
  obtain ⟨b0, b1, b2, b3, b4, b5, b6, y0, y1, y2, y3, y4, y5, y6⟩ := Box.rchg (w := _) (by exact B2.out) hM.out (Nat.le_add_right _ 1) hN.2
  go_wp2_with fail
  refine bodyPost_ret (v := .agg (rc q1 q2 q3 q4 q5 q6 q7)) (by simp [results, Tryz.results72, go_sem, *]) rfl ⟨rfl, ?_⟩
  exact RNow.ends (RNow.then (by exact H2.out) hN) hM.out (Nat.le_add_right _ 1) q1 q2 q3 q4 q5 q6 q7
set_option maxRecDepth 100000 in
set_option maxHeartbeats 400000 in
theorem rcsr50_k (B C : Nat) (s s' : St) (v : Value) (n vv x old y z nx : Int) (d a b : Nat) (k : Nat) (hk : (k : Int) ≤ 4) (n0 : 0 ≤ n) (n1 : n ≤ 4095) (hd : Hid ((d : Int) ≤ 31)) (a0 : (0 : Int) ≤ a) (ha : (a : Int) ≤ 31) (K : Hid (T.Num.ix n = k)) (O : Hid (s.c k = old)) (g0 : ((k : Int) == 0) = false) (g2 : ((k : Int) == 2) = false) (NX : (s.pc + 4) % 4294967296 = nx)
    (q1 q2 q3 : Int) (q4 : Bool) (q5 q6 q7 : Int) (Q : Hid ((bare s.pc).put d old = ⟨q1, q2, q3, q4, q5, q6, q7⟩)) (S : Hid (((s.setC k x).go nx).put d old = s')) (w : World) (hM : Hid (RAt B C s v w)) :
    Calls Tryz.prog 72 #[.pointer (some ⟨B, 0, none⟩), .agg (cells 50 d a b n), .int .u32 vv, .int .u32 x] w fun e w' => e = .returned (.agg (rc q1 q2 q3 q4 q5 q6 q7)) ∧ RNow B C v s' w w' := by
  have cp := hM.out.pc
  have hb := hM.out.lt
  have HW := hid (RNow.inst hM.out (cells 50 d a b n))
  have BX := hid (Box.inst w (cells 50 d a b n))
  go_enter Tryz.func72, Tryz.ntmps72
  go_wp2_with fail
  refine (T.Walks.rindex_as _ _ K _).mono ?_; rintro e w1 ⟨rfl, hF⟩
  have H1 := hid (HW.out.fr hF)
  have B1 := hid (BX.out.fr hF)
  have i0 : w1.cell? ⟨w.heap.size, 0, none⟩ = some (.int .i64 50) := (hF.cell _ _ (by simp; omega)).trans (rinst_cell w (cells 50 d a b n) 0)
  have i1 : w1.cell? ⟨w.heap.size, 1, none⟩ = some (.int .i64 d) := (hF.cell _ _ (by simp; omega)).trans (rinst_cell w (cells 50 d a b n) 1)
  have i2 : w1.cell? ⟨w.heap.size, 2, none⟩ = some (.int .i64 a) := (hF.cell _ _ (by simp; omega)).trans (rinst_cell w (cells 50 d a b n) 2)
  have k1 : w1.cell? ⟨B, 33 + k, none⟩ = some (.int .u32 old) := by rw [H1.out.1.c k (by omega), O.out]
  have k2 : w1.frozen? ⟨B, 33 + k, none⟩ = false := H1.out.1.z _ (by omega)
  have p1 : w1.cell? ⟨B, 0, none⟩ = some (.int .u32 s.pc) := H1.out.1.pc
  have p2 : w1.frozen? ⟨B, 0, none⟩ = false := H1.out.1.z 0 (by decide)
  have nb : ¬ w.heap.size = B := by omega
  go_wp2_with fail
  have H2 : Hid (RNow B C v ((s.setC k x).go nx) w ((w1.setCell ⟨B, 33 + k, none⟩ (.int .u32 x)).setCell ⟨B, 0, none⟩ (.int .u32 nx))) := (H1.out.setC k (by omega) x).setPc nx
  have B2 : Hid (Box (w.heap.size + 1) ((w1.setCell ⟨B, 33 + k, none⟩ (.int .u32 x)).setCell ⟨B, 0, none⟩ (.int .u32 nx))) := (B1.out.set _ _ (by show w.heap.size + 1 ≠ B; omega)).set _ _ (by show w.heap.size + 1 ≠ B; omega)
  refine (rput_as B C ((s.setC k x).go nx) s' v _ _ d hd.out _ Q S _ (by exact H2.out.1)).mono ?_; rintro e w2 ⟨rfl, hN⟩
  obtain ⟨b0, b1, b2, b3, b4, b5, b6, y0, y1, y2, y3, y4, y5, y6⟩ := Box.rchg (w := _) (by exact B2.out) hM.out (Nat.le_add_right _ 1) hN.2
  go_wp2_with fail
  refine bodyPost_ret (v := .agg (rc q1 q2 q3 q4 q5 q6 q7)) (by simp [results, Tryz.results72, go_sem, *]) rfl ⟨rfl, ?_⟩
  exact RNow.ends (RNow.then (by exact H2.out) hN) hM.out (Nat.le_add_right _ 1) q1 q2 q3 q4 q5 q6 q7
set_option maxRecDepth 100000 in
set_option maxHeartbeats 400000 in
theorem rcsr51_0 (B C : Nat) (s s' : St) (v : Value) (n vv x old y z nx : Int) (d a b : Nat) (n0 : 0 ≤ n) (n1 : n ≤ 4095) (hd : Hid ((d : Int) ≤ 31)) (a0 : (0 : Int) ≤ a) (ha : (a : Int) ≤ 31) (K : Hid (T.Num.ix n = 0)) (O : Hid (s.c 0 = old)) (Y : bits .or .u32 old x = y) (Z : bits .andNot .u32 y 3 = z) (NX : (s.pc + 4) % 4294967296 = nx)
    (q1 q2 q3 : Int) (q4 : Bool) (q5 q6 q7 : Int) (Q : Hid ((bare s.pc).put d old = ⟨q1, q2, q3, q4, q5, q6, q7⟩)) (S : Hid (((s.setC 0 z).go nx).put d old = s')) (w : World) (hM : Hid (RAt B C s v w)) :
    Calls Tryz.prog 72 #[.pointer (some ⟨B, 0, none⟩), .agg (cells 51 d a b n), .int .u32 vv, .int .u32 x] w fun e w' => e = .returned (.agg (rc q1 q2 q3 q4 q5 q6 q7)) ∧ RNow B C v s' w w' := by
  have cp := hM.out.pc
  have hb := hM.out.lt
  have HW := hid (RNow.inst hM.out (cells 51 d a b n))
  have BX := hid (Box.inst w (cells 51 d a b n))
  go_enter Tryz.func72, Tryz.ntmps72
  go_wp2_with fail
  refine (T.Walks.rindex_as _ _ K _).mono ?_; rintro e w1 ⟨rfl, hF⟩
  have H1 := hid (HW.out.fr hF)
  have B1 := hid (BX.out.fr hF)
  have i0 : w1.cell? ⟨w.heap.size, 0, none⟩ = some (.int .i64 51) := (hF.cell _ _ (by simp; omega)).trans (rinst_cell w (cells 51 d a b n) 0)
  have i1 : w1.cell? ⟨w.heap.size, 1, none⟩ = some (.int .i64 d) := (hF.cell _ _ (by simp; omega)).trans (rinst_cell w (cells 51 d a b n) 1)
  have i2 : w1.cell? ⟨w.heap.size, 2, none⟩ = some (.int .i64 a) := (hF.cell _ _ (by simp; omega)).trans (rinst_cell w (cells 51 d a b n) 2)
  have k1 : w1.cell? ⟨B, 33 + 0, none⟩ = some (.int .u32 old) := by rw [H1.out.1.c 0 (by omega), O.out]
  have k2 : w1.frozen? ⟨B, 33 + 0, none⟩ = false := H1.out.1.z _ (by omega)
  have p1 : w1.cell? ⟨B, 0, none⟩ = some (.int .u32 s.pc) := H1.out.1.pc
  have p2 : w1.frozen? ⟨B, 0, none⟩ = false := H1.out.1.z 0 (by decide)
  have nb : ¬ w.heap.size = B := by omega
  go_wp2_with fail
  have H2 : Hid (RNow B C v ((s.setC 0 z).go nx) w ((w1.setCell ⟨B, 33 + 0, none⟩ (.int .u32 z)).setCell ⟨B, 0, none⟩ (.int .u32 nx))) := (H1.out.setC 0 (by omega) z).setPc nx
  have B2 : Hid (Box (w.heap.size + 1) ((w1.setCell ⟨B, 33 + 0, none⟩ (.int .u32 z)).setCell ⟨B, 0, none⟩ (.int .u32 nx))) := (B1.out.set _ _ (by show w.heap.size + 1 ≠ B; omega)).set _ _ (by show w.heap.size + 1 ≠ B; omega)
  refine (rput_as B C ((s.setC 0 z).go nx) s' v _ _ d hd.out _ Q S _ (by exact H2.out.1)).mono ?_; rintro e w2 ⟨rfl, hN⟩
  obtain ⟨b0, b1, b2, b3, b4, b5, b6, y0, y1, y2, y3, y4, y5, y6⟩ := Box.rchg (w := _) (by exact B2.out) hM.out (Nat.le_add_right _ 1) hN.2
  go_wp2_with fail
  refine bodyPost_ret (v := .agg (rc q1 q2 q3 q4 q5 q6 q7)) (by simp [results, Tryz.results72, go_sem, *]) rfl ⟨rfl, ?_⟩
  exact RNow.ends (RNow.then (by exact H2.out) hN) hM.out (Nat.le_add_right _ 1) q1 q2 q3 q4 q5 q6 q7
set_option maxRecDepth 100000 in
set_option maxHeartbeats 400000 in
theorem rcsr51_2 (B C : Nat) (s s' : St) (v : Value) (n vv x old y z nx : Int) (d a b : Nat) (n0 : 0 ≤ n) (n1 : n ≤ 4095) (hd : Hid ((d : Int) ≤ 31)) (a0 : (0 : Int) ≤ a) (ha : (a : Int) ≤ 31) (K : Hid (T.Num.ix n = 2)) (O : Hid (s.c 2 = old)) (Y : bits .or .u32 old x = y) (Z : bits .andNot .u32 y 3 = z) (NX : (s.pc + 4) % 4294967296 = nx)
    (q1 q2 q3 : Int) (q4 : Bool) (q5 q6 q7 : Int) (Q : Hid ((bare s.pc).put d old = ⟨q1, q2, q3, q4, q5, q6, q7⟩)) (S : Hid (((s.setC 2 z).go nx).put d old = s')) (w : World) (hM : Hid (RAt B C s v w)) :
    Calls Tryz.prog 72 #[.pointer (some ⟨B, 0, none⟩), .agg (cells 51 d a b n), .int .u32 vv, .int .u32 x] w fun e w' => e = .returned (.agg (rc q1 q2 q3 q4 q5 q6 q7)) ∧ RNow B C v s' w w' := by
  have cp := hM.out.pc
  have hb := hM.out.lt
  have HW := hid (RNow.inst hM.out (cells 51 d a b n))
  have BX := hid (Box.inst w (cells 51 d a b n))
  go_enter Tryz.func72, Tryz.ntmps72
  go_wp2_with fail
  refine (T.Walks.rindex_as _ _ K _).mono ?_; rintro e w1 ⟨rfl, hF⟩
  have H1 := hid (HW.out.fr hF)
  have B1 := hid (BX.out.fr hF)
  have i0 : w1.cell? ⟨w.heap.size, 0, none⟩ = some (.int .i64 51) := (hF.cell _ _ (by simp; omega)).trans (rinst_cell w (cells 51 d a b n) 0)
  have i1 : w1.cell? ⟨w.heap.size, 1, none⟩ = some (.int .i64 d) := (hF.cell _ _ (by simp; omega)).trans (rinst_cell w (cells 51 d a b n) 1)
  have i2 : w1.cell? ⟨w.heap.size, 2, none⟩ = some (.int .i64 a) := (hF.cell _ _ (by simp; omega)).trans (rinst_cell w (cells 51 d a b n) 2)
  have k1 : w1.cell? ⟨B, 33 + 2, none⟩ = some (.int .u32 old) := by rw [H1.out.1.c 2 (by omega), O.out]
  have k2 : w1.frozen? ⟨B, 33 + 2, none⟩ = false := H1.out.1.z _ (by omega)
  have p1 : w1.cell? ⟨B, 0, none⟩ = some (.int .u32 s.pc) := H1.out.1.pc
  have p2 : w1.frozen? ⟨B, 0, none⟩ = false := H1.out.1.z 0 (by decide)
  have nb : ¬ w.heap.size = B := by omega
  go_wp2_with fail
  have H2 : Hid (RNow B C v ((s.setC 2 z).go nx) w ((w1.setCell ⟨B, 33 + 2, none⟩ (.int .u32 z)).setCell ⟨B, 0, none⟩ (.int .u32 nx))) := (H1.out.setC 2 (by omega) z).setPc nx
  have B2 : Hid (Box (w.heap.size + 1) ((w1.setCell ⟨B, 33 + 2, none⟩ (.int .u32 z)).setCell ⟨B, 0, none⟩ (.int .u32 nx))) := (B1.out.set _ _ (by show w.heap.size + 1 ≠ B; omega)).set _ _ (by show w.heap.size + 1 ≠ B; omega)
  refine (rput_as B C ((s.setC 2 z).go nx) s' v _ _ d hd.out _ Q S _ (by exact H2.out.1)).mono ?_; rintro e w2 ⟨rfl, hN⟩
  obtain ⟨b0, b1, b2, b3, b4, b5, b6, y0, y1, y2, y3, y4, y5, y6⟩ := Box.rchg (w := _) (by exact B2.out) hM.out (Nat.le_add_right _ 1) hN.2
  go_wp2_with fail
  refine bodyPost_ret (v := .agg (rc q1 q2 q3 q4 q5 q6 q7)) (by simp [results, Tryz.results72, go_sem, *]) rfl ⟨rfl, ?_⟩
  exact RNow.ends (RNow.then (by exact H2.out) hN) hM.out (Nat.le_add_right _ 1) q1 q2 q3 q4 q5 q6 q7
set_option maxRecDepth 100000 in
set_option maxHeartbeats 400000 in
theorem rcsr51_k (B C : Nat) (s s' : St) (v : Value) (n vv x old y z nx : Int) (d a b : Nat) (k : Nat) (hk : (k : Int) ≤ 4) (n0 : 0 ≤ n) (n1 : n ≤ 4095) (hd : Hid ((d : Int) ≤ 31)) (a0 : (0 : Int) ≤ a) (ha : (a : Int) ≤ 31) (K : Hid (T.Num.ix n = k)) (O : Hid (s.c k = old)) (Y : bits .or .u32 old x = y) (g0 : ((k : Int) == 0) = false) (g2 : ((k : Int) == 2) = false) (NX : (s.pc + 4) % 4294967296 = nx)
    (q1 q2 q3 : Int) (q4 : Bool) (q5 q6 q7 : Int) (Q : Hid ((bare s.pc).put d old = ⟨q1, q2, q3, q4, q5, q6, q7⟩)) (S : Hid (((s.setC k y).go nx).put d old = s')) (w : World) (hM : Hid (RAt B C s v w)) :
    Calls Tryz.prog 72 #[.pointer (some ⟨B, 0, none⟩), .agg (cells 51 d a b n), .int .u32 vv, .int .u32 x] w fun e w' => e = .returned (.agg (rc q1 q2 q3 q4 q5 q6 q7)) ∧ RNow B C v s' w w' := by
  have cp := hM.out.pc
  have hb := hM.out.lt
  have HW := hid (RNow.inst hM.out (cells 51 d a b n))
  have BX := hid (Box.inst w (cells 51 d a b n))
  go_enter Tryz.func72, Tryz.ntmps72
  go_wp2_with fail
  refine (T.Walks.rindex_as _ _ K _).mono ?_; rintro e w1 ⟨rfl, hF⟩
  have H1 := hid (HW.out.fr hF)
  have B1 := hid (BX.out.fr hF)
  have i0 : w1.cell? ⟨w.heap.size, 0, none⟩ = some (.int .i64 51) := (hF.cell _ _ (by simp; omega)).trans (rinst_cell w (cells 51 d a b n) 0)
  have i1 : w1.cell? ⟨w.heap.size, 1, none⟩ = some (.int .i64 d) := (hF.cell _ _ (by simp; omega)).trans (rinst_cell w (cells 51 d a b n) 1)
  have i2 : w1.cell? ⟨w.heap.size, 2, none⟩ = some (.int .i64 a) := (hF.cell _ _ (by simp; omega)).trans (rinst_cell w (cells 51 d a b n) 2)
  have k1 : w1.cell? ⟨B, 33 + k, none⟩ = some (.int .u32 old) := by rw [H1.out.1.c k (by omega), O.out]
  have k2 : w1.frozen? ⟨B, 33 + k, none⟩ = false := H1.out.1.z _ (by omega)
  have p1 : w1.cell? ⟨B, 0, none⟩ = some (.int .u32 s.pc) := H1.out.1.pc
  have p2 : w1.frozen? ⟨B, 0, none⟩ = false := H1.out.1.z 0 (by decide)
  have nb : ¬ w.heap.size = B := by omega
  go_wp2_with fail
  have H2 : Hid (RNow B C v ((s.setC k y).go nx) w ((w1.setCell ⟨B, 33 + k, none⟩ (.int .u32 y)).setCell ⟨B, 0, none⟩ (.int .u32 nx))) := (H1.out.setC k (by omega) y).setPc nx
  have B2 : Hid (Box (w.heap.size + 1) ((w1.setCell ⟨B, 33 + k, none⟩ (.int .u32 y)).setCell ⟨B, 0, none⟩ (.int .u32 nx))) := (B1.out.set _ _ (by show w.heap.size + 1 ≠ B; omega)).set _ _ (by show w.heap.size + 1 ≠ B; omega)
  refine (rput_as B C ((s.setC k y).go nx) s' v _ _ d hd.out _ Q S _ (by exact H2.out.1)).mono ?_; rintro e w2 ⟨rfl, hN⟩
  obtain ⟨b0, b1, b2, b3, b4, b5, b6, y0, y1, y2, y3, y4, y5, y6⟩ := Box.rchg (w := _) (by exact B2.out) hM.out (Nat.le_add_right _ 1) hN.2
  go_wp2_with fail
  refine bodyPost_ret (v := .agg (rc q1 q2 q3 q4 q5 q6 q7)) (by simp [results, Tryz.results72, go_sem, *]) rfl ⟨rfl, ?_⟩
  exact RNow.ends (RNow.then (by exact H2.out) hN) hM.out (Nat.le_add_right _ 1) q1 q2 q3 q4 q5 q6 q7
set_option maxRecDepth 100000 in
set_option maxHeartbeats 400000 in
theorem rcsr52_0 (B C : Nat) (s s' : St) (v : Value) (n vv x old y z nx : Int) (d a b : Nat) (n0 : 0 ≤ n) (n1 : n ≤ 4095) (hd : Hid ((d : Int) ≤ 31)) (a0 : (0 : Int) ≤ a) (ha : (a : Int) ≤ 31) (K : Hid (T.Num.ix n = 0)) (O : Hid (s.c 0 = old)) (Y : bits .andNot .u32 old x = y) (Z : bits .andNot .u32 y 3 = z) (NX : (s.pc + 4) % 4294967296 = nx)
    (q1 q2 q3 : Int) (q4 : Bool) (q5 q6 q7 : Int) (Q : Hid ((bare s.pc).put d old = ⟨q1, q2, q3, q4, q5, q6, q7⟩)) (S : Hid (((s.setC 0 z).go nx).put d old = s')) (w : World) (hM : Hid (RAt B C s v w)) :
    Calls Tryz.prog 72 #[.pointer (some ⟨B, 0, none⟩), .agg (cells 52 d a b n), .int .u32 vv, .int .u32 x] w fun e w' => e = .returned (.agg (rc q1 q2 q3 q4 q5 q6 q7)) ∧ RNow B C v s' w w' := by
  have cp := hM.out.pc
  have hb := hM.out.lt
  have HW := hid (RNow.inst hM.out (cells 52 d a b n))
  have BX := hid (Box.inst w (cells 52 d a b n))
  go_enter Tryz.func72, Tryz.ntmps72
  go_wp2_with fail
  refine (T.Walks.rindex_as _ _ K _).mono ?_; rintro e w1 ⟨rfl, hF⟩
  have H1 := hid (HW.out.fr hF)
  have B1 := hid (BX.out.fr hF)
  have i0 : w1.cell? ⟨w.heap.size, 0, none⟩ = some (.int .i64 52) := (hF.cell _ _ (by simp; omega)).trans (rinst_cell w (cells 52 d a b n) 0)
  have i1 : w1.cell? ⟨w.heap.size, 1, none⟩ = some (.int .i64 d) := (hF.cell _ _ (by simp; omega)).trans (rinst_cell w (cells 52 d a b n) 1)
  have i2 : w1.cell? ⟨w.heap.size, 2, none⟩ = some (.int .i64 a) := (hF.cell _ _ (by simp; omega)).trans (rinst_cell w (cells 52 d a b n) 2)
  have k1 : w1.cell? ⟨B, 33 + 0, none⟩ = some (.int .u32 old) := by rw [H1.out.1.c 0 (by omega), O.out]
  have k2 : w1.frozen? ⟨B, 33 + 0, none⟩ = false := H1.out.1.z _ (by omega)
  have p1 : w1.cell? ⟨B, 0, none⟩ = some (.int .u32 s.pc) := H1.out.1.pc
  have p2 : w1.frozen? ⟨B, 0, none⟩ = false := H1.out.1.z 0 (by decide)
  have nb : ¬ w.heap.size = B := by omega
  go_wp2_with fail
  have H2 : Hid (RNow B C v ((s.setC 0 z).go nx) w ((w1.setCell ⟨B, 33 + 0, none⟩ (.int .u32 z)).setCell ⟨B, 0, none⟩ (.int .u32 nx))) := (H1.out.setC 0 (by omega) z).setPc nx
  have B2 : Hid (Box (w.heap.size + 1) ((w1.setCell ⟨B, 33 + 0, none⟩ (.int .u32 z)).setCell ⟨B, 0, none⟩ (.int .u32 nx))) := (B1.out.set _ _ (by show w.heap.size + 1 ≠ B; omega)).set _ _ (by show w.heap.size + 1 ≠ B; omega)
  refine (rput_as B C ((s.setC 0 z).go nx) s' v _ _ d hd.out _ Q S _ (by exact H2.out.1)).mono ?_; rintro e w2 ⟨rfl, hN⟩
  obtain ⟨b0, b1, b2, b3, b4, b5, b6, y0, y1, y2, y3, y4, y5, y6⟩ := Box.rchg (w := _) (by exact B2.out) hM.out (Nat.le_add_right _ 1) hN.2
  go_wp2_with fail
  refine bodyPost_ret (v := .agg (rc q1 q2 q3 q4 q5 q6 q7)) (by simp [results, Tryz.results72, go_sem, *]) rfl ⟨rfl, ?_⟩
  exact RNow.ends (RNow.then (by exact H2.out) hN) hM.out (Nat.le_add_right _ 1) q1 q2 q3 q4 q5 q6 q7
set_option maxRecDepth 100000 in
set_option maxHeartbeats 400000 in
theorem rcsr52_2 (B C : Nat) (s s' : St) (v : Value) (n vv x old y z nx : Int) (d a b : Nat) (n0 : 0 ≤ n) (n1 : n ≤ 4095) (hd : Hid ((d : Int) ≤ 31)) (a0 : (0 : Int) ≤ a) (ha : (a : Int) ≤ 31) (K : Hid (T.Num.ix n = 2)) (O : Hid (s.c 2 = old)) (Y : bits .andNot .u32 old x = y) (Z : bits .andNot .u32 y 3 = z) (NX : (s.pc + 4) % 4294967296 = nx)
    (q1 q2 q3 : Int) (q4 : Bool) (q5 q6 q7 : Int) (Q : Hid ((bare s.pc).put d old = ⟨q1, q2, q3, q4, q5, q6, q7⟩)) (S : Hid (((s.setC 2 z).go nx).put d old = s')) (w : World) (hM : Hid (RAt B C s v w)) :
    Calls Tryz.prog 72 #[.pointer (some ⟨B, 0, none⟩), .agg (cells 52 d a b n), .int .u32 vv, .int .u32 x] w fun e w' => e = .returned (.agg (rc q1 q2 q3 q4 q5 q6 q7)) ∧ RNow B C v s' w w' := by
  have cp := hM.out.pc
  have hb := hM.out.lt
  have HW := hid (RNow.inst hM.out (cells 52 d a b n))
  have BX := hid (Box.inst w (cells 52 d a b n))
  go_enter Tryz.func72, Tryz.ntmps72
  go_wp2_with fail
  refine (T.Walks.rindex_as _ _ K _).mono ?_; rintro e w1 ⟨rfl, hF⟩
  have H1 := hid (HW.out.fr hF)
  have B1 := hid (BX.out.fr hF)
  have i0 : w1.cell? ⟨w.heap.size, 0, none⟩ = some (.int .i64 52) := (hF.cell _ _ (by simp; omega)).trans (rinst_cell w (cells 52 d a b n) 0)
  have i1 : w1.cell? ⟨w.heap.size, 1, none⟩ = some (.int .i64 d) := (hF.cell _ _ (by simp; omega)).trans (rinst_cell w (cells 52 d a b n) 1)
  have i2 : w1.cell? ⟨w.heap.size, 2, none⟩ = some (.int .i64 a) := (hF.cell _ _ (by simp; omega)).trans (rinst_cell w (cells 52 d a b n) 2)
  have k1 : w1.cell? ⟨B, 33 + 2, none⟩ = some (.int .u32 old) := by rw [H1.out.1.c 2 (by omega), O.out]
  have k2 : w1.frozen? ⟨B, 33 + 2, none⟩ = false := H1.out.1.z _ (by omega)
  have p1 : w1.cell? ⟨B, 0, none⟩ = some (.int .u32 s.pc) := H1.out.1.pc
  have p2 : w1.frozen? ⟨B, 0, none⟩ = false := H1.out.1.z 0 (by decide)
  have nb : ¬ w.heap.size = B := by omega
  go_wp2_with fail
  have H2 : Hid (RNow B C v ((s.setC 2 z).go nx) w ((w1.setCell ⟨B, 33 + 2, none⟩ (.int .u32 z)).setCell ⟨B, 0, none⟩ (.int .u32 nx))) := (H1.out.setC 2 (by omega) z).setPc nx
  have B2 : Hid (Box (w.heap.size + 1) ((w1.setCell ⟨B, 33 + 2, none⟩ (.int .u32 z)).setCell ⟨B, 0, none⟩ (.int .u32 nx))) := (B1.out.set _ _ (by show w.heap.size + 1 ≠ B; omega)).set _ _ (by show w.heap.size + 1 ≠ B; omega)
  refine (rput_as B C ((s.setC 2 z).go nx) s' v _ _ d hd.out _ Q S _ (by exact H2.out.1)).mono ?_; rintro e w2 ⟨rfl, hN⟩
  obtain ⟨b0, b1, b2, b3, b4, b5, b6, y0, y1, y2, y3, y4, y5, y6⟩ := Box.rchg (w := _) (by exact B2.out) hM.out (Nat.le_add_right _ 1) hN.2
  go_wp2_with fail
  refine bodyPost_ret (v := .agg (rc q1 q2 q3 q4 q5 q6 q7)) (by simp [results, Tryz.results72, go_sem, *]) rfl ⟨rfl, ?_⟩
  exact RNow.ends (RNow.then (by exact H2.out) hN) hM.out (Nat.le_add_right _ 1) q1 q2 q3 q4 q5 q6 q7
set_option maxRecDepth 100000 in
set_option maxHeartbeats 400000 in
theorem rcsr52_k (B C : Nat) (s s' : St) (v : Value) (n vv x old y z nx : Int) (d a b : Nat) (k : Nat) (hk : (k : Int) ≤ 4) (n0 : 0 ≤ n) (n1 : n ≤ 4095) (hd : Hid ((d : Int) ≤ 31)) (a0 : (0 : Int) ≤ a) (ha : (a : Int) ≤ 31) (K : Hid (T.Num.ix n = k)) (O : Hid (s.c k = old)) (Y : bits .andNot .u32 old x = y) (g0 : ((k : Int) == 0) = false) (g2 : ((k : Int) == 2) = false) (NX : (s.pc + 4) % 4294967296 = nx)
    (q1 q2 q3 : Int) (q4 : Bool) (q5 q6 q7 : Int) (Q : Hid ((bare s.pc).put d old = ⟨q1, q2, q3, q4, q5, q6, q7⟩)) (S : Hid (((s.setC k y).go nx).put d old = s')) (w : World) (hM : Hid (RAt B C s v w)) :
    Calls Tryz.prog 72 #[.pointer (some ⟨B, 0, none⟩), .agg (cells 52 d a b n), .int .u32 vv, .int .u32 x] w fun e w' => e = .returned (.agg (rc q1 q2 q3 q4 q5 q6 q7)) ∧ RNow B C v s' w w' := by
  have cp := hM.out.pc
  have hb := hM.out.lt
  have HW := hid (RNow.inst hM.out (cells 52 d a b n))
  have BX := hid (Box.inst w (cells 52 d a b n))
  go_enter Tryz.func72, Tryz.ntmps72
  go_wp2_with fail
  refine (T.Walks.rindex_as _ _ K _).mono ?_; rintro e w1 ⟨rfl, hF⟩
  have H1 := hid (HW.out.fr hF)
  have B1 := hid (BX.out.fr hF)
  have i0 : w1.cell? ⟨w.heap.size, 0, none⟩ = some (.int .i64 52) := (hF.cell _ _ (by simp; omega)).trans (rinst_cell w (cells 52 d a b n) 0)
  have i1 : w1.cell? ⟨w.heap.size, 1, none⟩ = some (.int .i64 d) := (hF.cell _ _ (by simp; omega)).trans (rinst_cell w (cells 52 d a b n) 1)
  have i2 : w1.cell? ⟨w.heap.size, 2, none⟩ = some (.int .i64 a) := (hF.cell _ _ (by simp; omega)).trans (rinst_cell w (cells 52 d a b n) 2)
  have k1 : w1.cell? ⟨B, 33 + k, none⟩ = some (.int .u32 old) := by rw [H1.out.1.c k (by omega), O.out]
  have k2 : w1.frozen? ⟨B, 33 + k, none⟩ = false := H1.out.1.z _ (by omega)
  have p1 : w1.cell? ⟨B, 0, none⟩ = some (.int .u32 s.pc) := H1.out.1.pc
  have p2 : w1.frozen? ⟨B, 0, none⟩ = false := H1.out.1.z 0 (by decide)
  have nb : ¬ w.heap.size = B := by omega
  go_wp2_with fail
  have H2 : Hid (RNow B C v ((s.setC k y).go nx) w ((w1.setCell ⟨B, 33 + k, none⟩ (.int .u32 y)).setCell ⟨B, 0, none⟩ (.int .u32 nx))) := (H1.out.setC k (by omega) y).setPc nx
  have B2 : Hid (Box (w.heap.size + 1) ((w1.setCell ⟨B, 33 + k, none⟩ (.int .u32 y)).setCell ⟨B, 0, none⟩ (.int .u32 nx))) := (B1.out.set _ _ (by show w.heap.size + 1 ≠ B; omega)).set _ _ (by show w.heap.size + 1 ≠ B; omega)
  refine (rput_as B C ((s.setC k y).go nx) s' v _ _ d hd.out _ Q S _ (by exact H2.out.1)).mono ?_; rintro e w2 ⟨rfl, hN⟩
  obtain ⟨b0, b1, b2, b3, b4, b5, b6, y0, y1, y2, y3, y4, y5, y6⟩ := Box.rchg (w := _) (by exact B2.out) hM.out (Nat.le_add_right _ 1) hN.2
  go_wp2_with fail
  refine bodyPost_ret (v := .agg (rc q1 q2 q3 q4 q5 q6 q7)) (by simp [results, Tryz.results72, go_sem, *]) rfl ⟨rfl, ?_⟩
  exact RNow.ends (RNow.then (by exact H2.out) hN) hM.out (Nat.le_add_right _ 1) q1 q2 q3 q4 q5 q6 q7
set_option maxRecDepth 100000 in
set_option maxHeartbeats 400000 in
theorem rcsr53_0 (B C : Nat) (s s' : St) (v : Value) (n vv x old y z nx : Int) (d a b : Nat) (n0 : 0 ≤ n) (n1 : n ≤ 4095) (hd : Hid ((d : Int) ≤ 31)) (a0 : (0 : Int) ≤ a) (ha : (a : Int) ≤ 31) (K : Hid (T.Num.ix n = 0)) (O : Hid (s.c 0 = old)) (Z : bits .andNot .u32 (a : Int) 3 = z) (NX : (s.pc + 4) % 4294967296 = nx)
    (q1 q2 q3 : Int) (q4 : Bool) (q5 q6 q7 : Int) (Q : Hid ((bare s.pc).put d old = ⟨q1, q2, q3, q4, q5, q6, q7⟩)) (S : Hid (((s.setC 0 z).go nx).put d old = s')) (w : World) (hM : Hid (RAt B C s v w)) :
    Calls Tryz.prog 72 #[.pointer (some ⟨B, 0, none⟩), .agg (cells 53 d a b n), .int .u32 vv, .int .u32 x] w fun e w' => e = .returned (.agg (rc q1 q2 q3 q4 q5 q6 q7)) ∧ RNow B C v s' w w' := by
  have cp := hM.out.pc
  have hb := hM.out.lt
  have HW := hid (RNow.inst hM.out (cells 53 d a b n))
  have BX := hid (Box.inst w (cells 53 d a b n))
  go_enter Tryz.func72, Tryz.ntmps72
  go_wp2_with fail
  refine (T.Walks.rindex_as _ _ K _).mono ?_; rintro e w1 ⟨rfl, hF⟩
  have H1 := hid (HW.out.fr hF)
  have B1 := hid (BX.out.fr hF)
  have i0 : w1.cell? ⟨w.heap.size, 0, none⟩ = some (.int .i64 53) := (hF.cell _ _ (by simp; omega)).trans (rinst_cell w (cells 53 d a b n) 0)
  have i1 : w1.cell? ⟨w.heap.size, 1, none⟩ = some (.int .i64 d) := (hF.cell _ _ (by simp; omega)).trans (rinst_cell w (cells 53 d a b n) 1)
  have i2 : w1.cell? ⟨w.heap.size, 2, none⟩ = some (.int .i64 a) := (hF.cell _ _ (by simp; omega)).trans (rinst_cell w (cells 53 d a b n) 2)
  have k1 : w1.cell? ⟨B, 33 + 0, none⟩ = some (.int .u32 old) := by rw [H1.out.1.c 0 (by omega), O.out]
  have k2 : w1.frozen? ⟨B, 33 + 0, none⟩ = false := H1.out.1.z _ (by omega)
  have p1 : w1.cell? ⟨B, 0, none⟩ = some (.int .u32 s.pc) := H1.out.1.pc
  have p2 : w1.frozen? ⟨B, 0, none⟩ = false := H1.out.1.z 0 (by decide)
  have nb : ¬ w.heap.size = B := by omega
  go_wp2_with fail
  have H2 : Hid (RNow B C v ((s.setC 0 z).go nx) w ((w1.setCell ⟨B, 33 + 0, none⟩ (.int .u32 z)).setCell ⟨B, 0, none⟩ (.int .u32 nx))) := (H1.out.setC 0 (by omega) z).setPc nx
  have B2 : Hid (Box (w.heap.size + 1) ((w1.setCell ⟨B, 33 + 0, none⟩ (.int .u32 z)).setCell ⟨B, 0, none⟩ (.int .u32 nx))) := (B1.out.set _ _ (by show w.heap.size + 1 ≠ B; omega)).set _ _ (by show w.heap.size + 1 ≠ B; omega)
  refine (rput_as B C ((s.setC 0 z).go nx) s' v _ _ d hd.out _ Q S _ (by exact H2.out.1)).mono ?_; rintro e w2 ⟨rfl, hN⟩
  obtain ⟨b0, b1, b2, b3, b4, b5, b6, y0, y1, y2, y3, y4, y5, y6⟩ := Box.rchg (w := _) (by exact B2.out) hM.out (Nat.le_add_right _ 1) hN.2
  go_wp2_with fail
  refine bodyPost_ret (v := .agg (rc q1 q2 q3 q4 q5 q6 q7)) (by simp [results, Tryz.results72, go_sem, *]) rfl ⟨rfl, ?_⟩
  exact RNow.ends (RNow.then (by exact H2.out) hN) hM.out (Nat.le_add_right _ 1) q1 q2 q3 q4 q5 q6 q7
set_option maxRecDepth 100000 in
set_option maxHeartbeats 400000 in
theorem rcsr53_2 (B C : Nat) (s s' : St) (v : Value) (n vv x old y z nx : Int) (d a b : Nat) (n0 : 0 ≤ n) (n1 : n ≤ 4095) (hd : Hid ((d : Int) ≤ 31)) (a0 : (0 : Int) ≤ a) (ha : (a : Int) ≤ 31) (K : Hid (T.Num.ix n = 2)) (O : Hid (s.c 2 = old)) (Z : bits .andNot .u32 (a : Int) 3 = z) (NX : (s.pc + 4) % 4294967296 = nx)
    (q1 q2 q3 : Int) (q4 : Bool) (q5 q6 q7 : Int) (Q : Hid ((bare s.pc).put d old = ⟨q1, q2, q3, q4, q5, q6, q7⟩)) (S : Hid (((s.setC 2 z).go nx).put d old = s')) (w : World) (hM : Hid (RAt B C s v w)) :
    Calls Tryz.prog 72 #[.pointer (some ⟨B, 0, none⟩), .agg (cells 53 d a b n), .int .u32 vv, .int .u32 x] w fun e w' => e = .returned (.agg (rc q1 q2 q3 q4 q5 q6 q7)) ∧ RNow B C v s' w w' := by
  have cp := hM.out.pc
  have hb := hM.out.lt
  have HW := hid (RNow.inst hM.out (cells 53 d a b n))
  have BX := hid (Box.inst w (cells 53 d a b n))
  go_enter Tryz.func72, Tryz.ntmps72
  go_wp2_with fail
  refine (T.Walks.rindex_as _ _ K _).mono ?_; rintro e w1 ⟨rfl, hF⟩
  have H1 := hid (HW.out.fr hF)
  have B1 := hid (BX.out.fr hF)
  have i0 : w1.cell? ⟨w.heap.size, 0, none⟩ = some (.int .i64 53) := (hF.cell _ _ (by simp; omega)).trans (rinst_cell w (cells 53 d a b n) 0)
  have i1 : w1.cell? ⟨w.heap.size, 1, none⟩ = some (.int .i64 d) := (hF.cell _ _ (by simp; omega)).trans (rinst_cell w (cells 53 d a b n) 1)
  have i2 : w1.cell? ⟨w.heap.size, 2, none⟩ = some (.int .i64 a) := (hF.cell _ _ (by simp; omega)).trans (rinst_cell w (cells 53 d a b n) 2)
  have k1 : w1.cell? ⟨B, 33 + 2, none⟩ = some (.int .u32 old) := by rw [H1.out.1.c 2 (by omega), O.out]
  have k2 : w1.frozen? ⟨B, 33 + 2, none⟩ = false := H1.out.1.z _ (by omega)
  have p1 : w1.cell? ⟨B, 0, none⟩ = some (.int .u32 s.pc) := H1.out.1.pc
  have p2 : w1.frozen? ⟨B, 0, none⟩ = false := H1.out.1.z 0 (by decide)
  have nb : ¬ w.heap.size = B := by omega
  go_wp2_with fail
  have H2 : Hid (RNow B C v ((s.setC 2 z).go nx) w ((w1.setCell ⟨B, 33 + 2, none⟩ (.int .u32 z)).setCell ⟨B, 0, none⟩ (.int .u32 nx))) := (H1.out.setC 2 (by omega) z).setPc nx
  have B2 : Hid (Box (w.heap.size + 1) ((w1.setCell ⟨B, 33 + 2, none⟩ (.int .u32 z)).setCell ⟨B, 0, none⟩ (.int .u32 nx))) := (B1.out.set _ _ (by show w.heap.size + 1 ≠ B; omega)).set _ _ (by show w.heap.size + 1 ≠ B; omega)
  refine (rput_as B C ((s.setC 2 z).go nx) s' v _ _ d hd.out _ Q S _ (by exact H2.out.1)).mono ?_; rintro e w2 ⟨rfl, hN⟩
  obtain ⟨b0, b1, b2, b3, b4, b5, b6, y0, y1, y2, y3, y4, y5, y6⟩ := Box.rchg (w := _) (by exact B2.out) hM.out (Nat.le_add_right _ 1) hN.2
  go_wp2_with fail
  refine bodyPost_ret (v := .agg (rc q1 q2 q3 q4 q5 q6 q7)) (by simp [results, Tryz.results72, go_sem, *]) rfl ⟨rfl, ?_⟩
  exact RNow.ends (RNow.then (by exact H2.out) hN) hM.out (Nat.le_add_right _ 1) q1 q2 q3 q4 q5 q6 q7
set_option maxRecDepth 100000 in
set_option maxHeartbeats 400000 in
theorem rcsr53_k (B C : Nat) (s s' : St) (v : Value) (n vv x old y z nx : Int) (d a b : Nat) (k : Nat) (hk : (k : Int) ≤ 4) (n0 : 0 ≤ n) (n1 : n ≤ 4095) (hd : Hid ((d : Int) ≤ 31)) (a0 : (0 : Int) ≤ a) (ha : (a : Int) ≤ 31) (K : Hid (T.Num.ix n = k)) (O : Hid (s.c k = old)) (g0 : ((k : Int) == 0) = false) (g2 : ((k : Int) == 2) = false) (NX : (s.pc + 4) % 4294967296 = nx)
    (q1 q2 q3 : Int) (q4 : Bool) (q5 q6 q7 : Int) (Q : Hid ((bare s.pc).put d old = ⟨q1, q2, q3, q4, q5, q6, q7⟩)) (S : Hid (((s.setC k (a : Int)).go nx).put d old = s')) (w : World) (hM : Hid (RAt B C s v w)) :
    Calls Tryz.prog 72 #[.pointer (some ⟨B, 0, none⟩), .agg (cells 53 d a b n), .int .u32 vv, .int .u32 x] w fun e w' => e = .returned (.agg (rc q1 q2 q3 q4 q5 q6 q7)) ∧ RNow B C v s' w w' := by
  have cp := hM.out.pc
  have hb := hM.out.lt
  have HW := hid (RNow.inst hM.out (cells 53 d a b n))
  have BX := hid (Box.inst w (cells 53 d a b n))
  go_enter Tryz.func72, Tryz.ntmps72
  go_wp2_with fail
  refine (T.Walks.rindex_as _ _ K _).mono ?_; rintro e w1 ⟨rfl, hF⟩
  have H1 := hid (HW.out.fr hF)
  have B1 := hid (BX.out.fr hF)
  have i0 : w1.cell? ⟨w.heap.size, 0, none⟩ = some (.int .i64 53) := (hF.cell _ _ (by simp; omega)).trans (rinst_cell w (cells 53 d a b n) 0)
  have i1 : w1.cell? ⟨w.heap.size, 1, none⟩ = some (.int .i64 d) := (hF.cell _ _ (by simp; omega)).trans (rinst_cell w (cells 53 d a b n) 1)
  have i2 : w1.cell? ⟨w.heap.size, 2, none⟩ = some (.int .i64 a) := (hF.cell _ _ (by simp; omega)).trans (rinst_cell w (cells 53 d a b n) 2)
  have k1 : w1.cell? ⟨B, 33 + k, none⟩ = some (.int .u32 old) := by rw [H1.out.1.c k (by omega), O.out]
  have k2 : w1.frozen? ⟨B, 33 + k, none⟩ = false := H1.out.1.z _ (by omega)
  have p1 : w1.cell? ⟨B, 0, none⟩ = some (.int .u32 s.pc) := H1.out.1.pc
  have p2 : w1.frozen? ⟨B, 0, none⟩ = false := H1.out.1.z 0 (by decide)
  have nb : ¬ w.heap.size = B := by omega
  go_wp2_with fail
  have H2 : Hid (RNow B C v ((s.setC k (a : Int)).go nx) w ((w1.setCell ⟨B, 33 + k, none⟩ (.int .u32 (a : Int))).setCell ⟨B, 0, none⟩ (.int .u32 nx))) := (H1.out.setC k (by omega) (a : Int)).setPc nx
  have B2 : Hid (Box (w.heap.size + 1) ((w1.setCell ⟨B, 33 + k, none⟩ (.int .u32 (a : Int))).setCell ⟨B, 0, none⟩ (.int .u32 nx))) := (B1.out.set _ _ (by show w.heap.size + 1 ≠ B; omega)).set _ _ (by show w.heap.size + 1 ≠ B; omega)
  refine (rput_as B C ((s.setC k (a : Int)).go nx) s' v _ _ d hd.out _ Q S _ (by exact H2.out.1)).mono ?_; rintro e w2 ⟨rfl, hN⟩
  obtain ⟨b0, b1, b2, b3, b4, b5, b6, y0, y1, y2, y3, y4, y5, y6⟩ := Box.rchg (w := _) (by exact B2.out) hM.out (Nat.le_add_right _ 1) hN.2
  go_wp2_with fail
  refine bodyPost_ret (v := .agg (rc q1 q2 q3 q4 q5 q6 q7)) (by simp [results, Tryz.results72, go_sem, *]) rfl ⟨rfl, ?_⟩
  exact RNow.ends (RNow.then (by exact H2.out) hN) hM.out (Nat.le_add_right _ 1) q1 q2 q3 q4 q5 q6 q7
set_option maxRecDepth 100000 in
set_option maxHeartbeats 400000 in
theorem rcsr54_0 (B C : Nat) (s s' : St) (v : Value) (n vv x old y z nx : Int) (d a b : Nat) (n0 : 0 ≤ n) (n1 : n ≤ 4095) (hd : Hid ((d : Int) ≤ 31)) (a0 : (0 : Int) ≤ a) (ha : (a : Int) ≤ 31) (K : Hid (T.Num.ix n = 0)) (O : Hid (s.c 0 = old)) (Y : bits .or .u32 old (a : Int) = y) (Z : bits .andNot .u32 y 3 = z) (NX : (s.pc + 4) % 4294967296 = nx)
    (q1 q2 q3 : Int) (q4 : Bool) (q5 q6 q7 : Int) (Q : Hid ((bare s.pc).put d old = ⟨q1, q2, q3, q4, q5, q6, q7⟩)) (S : Hid (((s.setC 0 z).go nx).put d old = s')) (w : World) (hM : Hid (RAt B C s v w)) :
    Calls Tryz.prog 72 #[.pointer (some ⟨B, 0, none⟩), .agg (cells 54 d a b n), .int .u32 vv, .int .u32 x] w fun e w' => e = .returned (.agg (rc q1 q2 q3 q4 q5 q6 q7)) ∧ RNow B C v s' w w' := by
  have cp := hM.out.pc
  have hb := hM.out.lt
  have HW := hid (RNow.inst hM.out (cells 54 d a b n))
  have BX := hid (Box.inst w (cells 54 d a b n))
  go_enter Tryz.func72, Tryz.ntmps72
  go_wp2_with fail
  refine (T.Walks.rindex_as _ _ K _).mono ?_; rintro e w1 ⟨rfl, hF⟩
  have H1 := hid (HW.out.fr hF)
  have B1 := hid (BX.out.fr hF)
  have i0 : w1.cell? ⟨w.heap.size, 0, none⟩ = some (.int .i64 54) := (hF.cell _ _ (by simp; omega)).trans (rinst_cell w (cells 54 d a b n) 0)
  have i1 : w1.cell? ⟨w.heap.size, 1, none⟩ = some (.int .i64 d) := (hF.cell _ _ (by simp; omega)).trans (rinst_cell w (cells 54 d a b n) 1)
  have i2 : w1.cell? ⟨w.heap.size, 2, none⟩ = some (.int .i64 a) := (hF.cell _ _ (by simp; omega)).trans (rinst_cell w (cells 54 d a b n) 2)
  have k1 : w1.cell? ⟨B, 33 + 0, none⟩ = some (.int .u32 old) := by rw [H1.out.1.c 0 (by omega), O.out]
  have k2 : w1.frozen? ⟨B, 33 + 0, none⟩ = false := H1.out.1.z _ (by omega)
  have p1 : w1.cell? ⟨B, 0, none⟩ = some (.int .u32 s.pc) := H1.out.1.pc
  have p2 : w1.frozen? ⟨B, 0, none⟩ = false := H1.out.1.z 0 (by decide)
  have nb : ¬ w.heap.size = B := by omega
  go_wp2_with fail
  have H2 : Hid (RNow B C v ((s.setC 0 z).go nx) w ((w1.setCell ⟨B, 33 + 0, none⟩ (.int .u32 z)).setCell ⟨B, 0, none⟩ (.int .u32 nx))) := (H1.out.setC 0 (by omega) z).setPc nx
  have B2 : Hid (Box (w.heap.size + 1) ((w1.setCell ⟨B, 33 + 0, none⟩ (.int .u32 z)).setCell ⟨B, 0, none⟩ (.int .u32 nx))) := (B1.out.set _ _ (by show w.heap.size + 1 ≠ B; omega)).set _ _ (by show w.heap.size + 1 ≠ B; omega)
  refine (rput_as B C ((s.setC 0 z).go nx) s' v _ _ d hd.out _ Q S _ (by exact H2.out.1)).mono ?_; rintro e w2 ⟨rfl, hN⟩
  obtain ⟨b0, b1, b2, b3, b4, b5, b6, y0, y1, y2, y3, y4, y5, y6⟩ := Box.rchg (w := _) (by exact B2.out) hM.out (Nat.le_add_right _ 1) hN.2
  go_wp2_with fail
  refine bodyPost_ret (v := .agg (rc q1 q2 q3 q4 q5 q6 q7)) (by simp [results, Tryz.results72, go_sem, *]) rfl ⟨rfl, ?_⟩
  exact RNow.ends (RNow.then (by exact H2.out) hN) hM.out (Nat.le_add_right _ 1) q1 q2 q3 q4 q5 q6 q7
set_option maxRecDepth 100000 in
set_option maxHeartbeats 400000 in
theorem rcsr54_2 (B C : Nat) (s s' : St) (v : Value) (n vv x old y z nx : Int) (d a b : Nat) (n0 : 0 ≤ n) (n1 : n ≤ 4095) (hd : Hid ((d : Int) ≤ 31)) (a0 : (0 : Int) ≤ a) (ha : (a : Int) ≤ 31) (K : Hid (T.Num.ix n = 2)) (O : Hid (s.c 2 = old)) (Y : bits .or .u32 old (a : Int) = y) (Z : bits .andNot .u32 y 3 = z) (NX : (s.pc + 4) % 4294967296 = nx)
    (q1 q2 q3 : Int) (q4 : Bool) (q5 q6 q7 : Int) (Q : Hid ((bare s.pc).put d old = ⟨q1, q2, q3, q4, q5, q6, q7⟩)) (S : Hid (((s.setC 2 z).go nx).put d old = s')) (w : World) (hM : Hid (RAt B C s v w)) :
    Calls Tryz.prog 72 #[.pointer (some ⟨B, 0, none⟩), .agg (cells 54 d a b n), .int .u32 vv, .int .u32 x] w fun e w' => e = .returned (.agg (rc q1 q2 q3 q4 q5 q6 q7)) ∧ RNow B C v s' w w' := by
  have cp := hM.out.pc
  have hb := hM.out.lt
  have HW := hid (RNow.inst hM.out (cells 54 d a b n))
  have BX := hid (Box.inst w (cells 54 d a b n))
  go_enter Tryz.func72, Tryz.ntmps72
  go_wp2_with fail
  refine (T.Walks.rindex_as _ _ K _).mono ?_; rintro e w1 ⟨rfl, hF⟩
  have H1 := hid (HW.out.fr hF)
  have B1 := hid (BX.out.fr hF)
  have i0 : w1.cell? ⟨w.heap.size, 0, none⟩ = some (.int .i64 54) := (hF.cell _ _ (by simp; omega)).trans (rinst_cell w (cells 54 d a b n) 0)
  have i1 : w1.cell? ⟨w.heap.size, 1, none⟩ = some (.int .i64 d) := (hF.cell _ _ (by simp; omega)).trans (rinst_cell w (cells 54 d a b n) 1)
  have i2 : w1.cell? ⟨w.heap.size, 2, none⟩ = some (.int .i64 a) := (hF.cell _ _ (by simp; omega)).trans (rinst_cell w (cells 54 d a b n) 2)
  have k1 : w1.cell? ⟨B, 33 + 2, none⟩ = some (.int .u32 old) := by rw [H1.out.1.c 2 (by omega), O.out]
  have k2 : w1.frozen? ⟨B, 33 + 2, none⟩ = false := H1.out.1.z _ (by omega)
  have p1 : w1.cell? ⟨B, 0, none⟩ = some (.int .u32 s.pc) := H1.out.1.pc
  have p2 : w1.frozen? ⟨B, 0, none⟩ = false := H1.out.1.z 0 (by decide)
  have nb : ¬ w.heap.size = B := by omega
  go_wp2_with fail
  have H2 : Hid (RNow B C v ((s.setC 2 z).go nx) w ((w1.setCell ⟨B, 33 + 2, none⟩ (.int .u32 z)).setCell ⟨B, 0, none⟩ (.int .u32 nx))) := (H1.out.setC 2 (by omega) z).setPc nx
  have B2 : Hid (Box (w.heap.size + 1) ((w1.setCell ⟨B, 33 + 2, none⟩ (.int .u32 z)).setCell ⟨B, 0, none⟩ (.int .u32 nx))) := (B1.out.set _ _ (by show w.heap.size + 1 ≠ B; omega)).set _ _ (by show w.heap.size + 1 ≠ B; omega)
  refine (rput_as B C ((s.setC 2 z).go nx) s' v _ _ d hd.out _ Q S _ (by exact H2.out.1)).mono ?_; rintro e w2 ⟨rfl, hN⟩
  obtain ⟨b0, b1, b2, b3, b4, b5, b6, y0, y1, y2, y3, y4, y5, y6⟩ := Box.rchg (w := _) (by exact B2.out) hM.out (Nat.le_add_right _ 1) hN.2
  go_wp2_with fail
  refine bodyPost_ret (v := .agg (rc q1 q2 q3 q4 q5 q6 q7)) (by simp [results, Tryz.results72, go_sem, *]) rfl ⟨rfl, ?_⟩
  exact RNow.ends (RNow.then (by exact H2.out) hN) hM.out (Nat.le_add_right _ 1) q1 q2 q3 q4 q5 q6 q7
set_option maxRecDepth 100000 in
set_option maxHeartbeats 400000 in
theorem rcsr54_k (B C : Nat) (s s' : St) (v : Value) (n vv x old y z nx : Int) (d a b : Nat) (k : Nat) (hk : (k : Int) ≤ 4) (n0 : 0 ≤ n) (n1 : n ≤ 4095) (hd : Hid ((d : Int) ≤ 31)) (a0 : (0 : Int) ≤ a) (ha : (a : Int) ≤ 31) (K : Hid (T.Num.ix n = k)) (O : Hid (s.c k = old)) (Y : bits .or .u32 old (a : Int) = y) (g0 : ((k : Int) == 0) = false) (g2 : ((k : Int) == 2) = false) (NX : (s.pc + 4) % 4294967296 = nx)
    (q1 q2 q3 : Int) (q4 : Bool) (q5 q6 q7 : Int) (Q : Hid ((bare s.pc).put d old = ⟨q1, q2, q3, q4, q5, q6, q7⟩)) (S : Hid (((s.setC k y).go nx).put d old = s')) (w : World) (hM : Hid (RAt B C s v w)) :
    Calls Tryz.prog 72 #[.pointer (some ⟨B, 0, none⟩), .agg (cells 54 d a b n), .int .u32 vv, .int .u32 x] w fun e w' => e = .returned (.agg (rc q1 q2 q3 q4 q5 q6 q7)) ∧ RNow B C v s' w w' := by
  have cp := hM.out.pc
  have hb := hM.out.lt
  have HW := hid (RNow.inst hM.out (cells 54 d a b n))
  have BX := hid (Box.inst w (cells 54 d a b n))
  go_enter Tryz.func72, Tryz.ntmps72
  go_wp2_with fail
  refine (T.Walks.rindex_as _ _ K _).mono ?_; rintro e w1 ⟨rfl, hF⟩
  have H1 := hid (HW.out.fr hF)
  have B1 := hid (BX.out.fr hF)
  have i0 : w1.cell? ⟨w.heap.size, 0, none⟩ = some (.int .i64 54) := (hF.cell _ _ (by simp; omega)).trans (rinst_cell w (cells 54 d a b n) 0)
  have i1 : w1.cell? ⟨w.heap.size, 1, none⟩ = some (.int .i64 d) := (hF.cell _ _ (by simp; omega)).trans (rinst_cell w (cells 54 d a b n) 1)
  have i2 : w1.cell? ⟨w.heap.size, 2, none⟩ = some (.int .i64 a) := (hF.cell _ _ (by simp; omega)).trans (rinst_cell w (cells 54 d a b n) 2)
  have k1 : w1.cell? ⟨B, 33 + k, none⟩ = some (.int .u32 old) := by rw [H1.out.1.c k (by omega), O.out]
  have k2 : w1.frozen? ⟨B, 33 + k, none⟩ = false := H1.out.1.z _ (by omega)
  have p1 : w1.cell? ⟨B, 0, none⟩ = some (.int .u32 s.pc) := H1.out.1.pc
  have p2 : w1.frozen? ⟨B, 0, none⟩ = false := H1.out.1.z 0 (by decide)
  have nb : ¬ w.heap.size = B := by omega
  go_wp2_with fail
  have H2 : Hid (RNow B C v ((s.setC k y).go nx) w ((w1.setCell ⟨B, 33 + k, none⟩ (.int .u32 y)).setCell ⟨B, 0, none⟩ (.int .u32 nx))) := (H1.out.setC k (by omega) y).setPc nx
  have B2 : Hid (Box (w.heap.size + 1) ((w1.setCell ⟨B, 33 + k, none⟩ (.int .u32 y)).setCell ⟨B, 0, none⟩ (.int .u32 nx))) := (B1.out.set _ _ (by show w.heap.size + 1 ≠ B; omega)).set _ _ (by show w.heap.size + 1 ≠ B; omega)
  refine (rput_as B C ((s.setC k y).go nx) s' v _ _ d hd.out _ Q S _ (by exact H2.out.1)).mono ?_; rintro e w2 ⟨rfl, hN⟩
  obtain ⟨b0, b1, b2, b3, b4, b5, b6, y0, y1, y2, y3, y4, y5, y6⟩ := Box.rchg (w := _) (by exact B2.out) hM.out (Nat.le_add_right _ 1) hN.2
  go_wp2_with fail
  refine bodyPost_ret (v := .agg (rc q1 q2 q3 q4 q5 q6 q7)) (by simp [results, Tryz.results72, go_sem, *]) rfl ⟨rfl, ?_⟩
  exact RNow.ends (RNow.then (by exact H2.out) hN) hM.out (Nat.le_add_right _ 1) q1 q2 q3 q4 q5 q6 q7
set_option maxRecDepth 100000 in
set_option maxHeartbeats 400000 in
theorem rcsr55_0 (B C : Nat) (s s' : St) (v : Value) (n vv x old y z nx : Int) (d a b : Nat) (n0 : 0 ≤ n) (n1 : n ≤ 4095) (hd : Hid ((d : Int) ≤ 31)) (a0 : (0 : Int) ≤ a) (ha : (a : Int) ≤ 31) (K : Hid (T.Num.ix n = 0)) (O : Hid (s.c 0 = old)) (Y : bits .andNot .u32 old (a : Int) = y) (Z : bits .andNot .u32 y 3 = z) (NX : (s.pc + 4) % 4294967296 = nx)
    (q1 q2 q3 : Int) (q4 : Bool) (q5 q6 q7 : Int) (Q : Hid ((bare s.pc).put d old = ⟨q1, q2, q3, q4, q5, q6, q7⟩)) (S : Hid (((s.setC 0 z).go nx).put d old = s')) (w : World) (hM : Hid (RAt B C s v w)) :
    Calls Tryz.prog 72 #[.pointer (some ⟨B, 0, none⟩), .agg (cells 55 d a b n), .int .u32 vv, .int .u32 x] w fun e w' => e = .returned (.agg (rc q1 q2 q3 q4 q5 q6 q7)) ∧ RNow B C v s' w w' := by
  have cp := hM.out.pc
  have hb := hM.out.lt
  have HW := hid (RNow.inst hM.out (cells 55 d a b n))
  have BX := hid (Box.inst w (cells 55 d a b n))
  go_enter Tryz.func72, Tryz.ntmps72
  go_wp2_with fail
  refine (T.Walks.rindex_as _ _ K _).mono ?_; rintro e w1 ⟨rfl, hF⟩
  have H1 := hid (HW.out.fr hF)
  have B1 := hid (BX.out.fr hF)
  have i0 : w1.cell? ⟨w.heap.size, 0, none⟩ = some (.int .i64 55) := (hF.cell _ _ (by simp; omega)).trans (rinst_cell w (cells 55 d a b n) 0)
  have i1 : w1.cell? ⟨w.heap.size, 1, none⟩ = some (.int .i64 d) := (hF.cell _ _ (by simp; omega)).trans (rinst_cell w (cells 55 d a b n) 1)
  have i2 : w1.cell? ⟨w.heap.size, 2, none⟩ = some (.int .i64 a) := (hF.cell _ _ (by simp; omega)).trans (rinst_cell w (cells 55 d a b n) 2)
  have k1 : w1.cell? ⟨B, 33 + 0, none⟩ = some (.int .u32 old) := by rw [H1.out.1.c 0 (by omega), O.out]
  have k2 : w1.frozen? ⟨B, 33 + 0, none⟩ = false := H1.out.1.z _ (by omega)
  have p1 : w1.cell? ⟨B, 0, none⟩ = some (.int .u32 s.pc) := H1.out.1.pc
  have p2 : w1.frozen? ⟨B, 0, none⟩ = false := H1.out.1.z 0 (by decide)
  have nb : ¬ w.heap.size = B := by omega
  go_wp2_with fail
  have H2 : Hid (RNow B C v ((s.setC 0 z).go nx) w ((w1.setCell ⟨B, 33 + 0, none⟩ (.int .u32 z)).setCell ⟨B, 0, none⟩ (.int .u32 nx))) := (H1.out.setC 0 (by omega) z).setPc nx
  have B2 : Hid (Box (w.heap.size + 1) ((w1.setCell ⟨B, 33 + 0, none⟩ (.int .u32 z)).setCell ⟨B, 0, none⟩ (.int .u32 nx))) := (B1.out.set _ _ (by show w.heap.size + 1 ≠ B; omega)).set _ _ (by show w.heap.size + 1 ≠ B; omega)
  refine (rput_as B C ((s.setC 0 z).go nx) s' v _ _ d hd.out _ Q S _ (by exact H2.out.1)).mono ?_; rintro e w2 ⟨rfl, hN⟩
  obtain ⟨b0, b1, b2, b3, b4, b5, b6, y0, y1, y2, y3, y4, y5, y6⟩ := Box.rchg (w := _) (by exact B2.out) hM.out (Nat.le_add_right _ 1) hN.2
  go_wp2_with fail
  refine bodyPost_ret (v := .agg (rc q1 q2 q3 q4 q5 q6 q7)) (by simp [results, Tryz.results72, go_sem, *]) rfl ⟨rfl, ?_⟩
  exact RNow.ends (RNow.then (by exact H2.out) hN) hM.out (Nat.le_add_right _ 1) q1 q2 q3 q4 q5 q6 q7
set_option maxRecDepth 100000 in
set_option maxHeartbeats 400000 in
theorem rcsr55_2 (B C : Nat) (s s' : St) (v : Value) (n vv x old y z nx : Int) (d a b : Nat) (n0 : 0 ≤ n) (n1 : n ≤ 4095) (hd : Hid ((d : Int) ≤ 31)) (a0 : (0 : Int) ≤ a) (ha : (a : Int) ≤ 31) (K : Hid (T.Num.ix n = 2)) (O : Hid (s.c 2 = old)) (Y : bits .andNot .u32 old (a : Int) = y) (Z : bits .andNot .u32 y 3 = z) (NX : (s.pc + 4) % 4294967296 = nx)
    (q1 q2 q3 : Int) (q4 : Bool) (q5 q6 q7 : Int) (Q : Hid ((bare s.pc).put d old = ⟨q1, q2, q3, q4, q5, q6, q7⟩)) (S : Hid (((s.setC 2 z).go nx).put d old = s')) (w : World) (hM : Hid (RAt B C s v w)) :
    Calls Tryz.prog 72 #[.pointer (some ⟨B, 0, none⟩), .agg (cells 55 d a b n), .int .u32 vv, .int .u32 x] w fun e w' => e = .returned (.agg (rc q1 q2 q3 q4 q5 q6 q7)) ∧ RNow B C v s' w w' := by
  have cp := hM.out.pc
  have hb := hM.out.lt
  have HW := hid (RNow.inst hM.out (cells 55 d a b n))
  have BX := hid (Box.inst w (cells 55 d a b n))
  go_enter Tryz.func72, Tryz.ntmps72
  go_wp2_with fail
  refine (T.Walks.rindex_as _ _ K _).mono ?_; rintro e w1 ⟨rfl, hF⟩
  have H1 := hid (HW.out.fr hF)
  have B1 := hid (BX.out.fr hF)
  have i0 : w1.cell? ⟨w.heap.size, 0, none⟩ = some (.int .i64 55) := (hF.cell _ _ (by simp; omega)).trans (rinst_cell w (cells 55 d a b n) 0)
  have i1 : w1.cell? ⟨w.heap.size, 1, none⟩ = some (.int .i64 d) := (hF.cell _ _ (by simp; omega)).trans (rinst_cell w (cells 55 d a b n) 1)
  have i2 : w1.cell? ⟨w.heap.size, 2, none⟩ = some (.int .i64 a) := (hF.cell _ _ (by simp; omega)).trans (rinst_cell w (cells 55 d a b n) 2)
  have k1 : w1.cell? ⟨B, 33 + 2, none⟩ = some (.int .u32 old) := by rw [H1.out.1.c 2 (by omega), O.out]
  have k2 : w1.frozen? ⟨B, 33 + 2, none⟩ = false := H1.out.1.z _ (by omega)
  have p1 : w1.cell? ⟨B, 0, none⟩ = some (.int .u32 s.pc) := H1.out.1.pc
  have p2 : w1.frozen? ⟨B, 0, none⟩ = false := H1.out.1.z 0 (by decide)
  have nb : ¬ w.heap.size = B := by omega
  go_wp2_with fail
  have H2 : Hid (RNow B C v ((s.setC 2 z).go nx) w ((w1.setCell ⟨B, 33 + 2, none⟩ (.int .u32 z)).setCell ⟨B, 0, none⟩ (.int .u32 nx))) := (H1.out.setC 2 (by omega) z).setPc nx
  have B2 : Hid (Box (w.heap.size + 1) ((w1.setCell ⟨B, 33 + 2, none⟩ (.int .u32 z)).setCell ⟨B, 0, none⟩ (.int .u32 nx))) := (B1.out.set _ _ (by show w.heap.size + 1 ≠ B; omega)).set _ _ (by show w.heap.size + 1 ≠ B; omega)
  refine (rput_as B C ((s.setC 2 z).go nx) s' v _ _ d hd.out _ Q S _ (by exact H2.out.1)).mono ?_; rintro e w2 ⟨rfl, hN⟩
  obtain ⟨b0, b1, b2, b3, b4, b5, b6, y0, y1, y2, y3, y4, y5, y6⟩ := Box.rchg (w := _) (by exact B2.out) hM.out (Nat.le_add_right _ 1) hN.2
  go_wp2_with fail
  refine bodyPost_ret (v := .agg (rc q1 q2 q3 q4 q5 q6 q7)) (by simp [results, Tryz.results72, go_sem, *]) rfl ⟨rfl, ?_⟩
  exact RNow.ends (RNow.then (by exact H2.out) hN) hM.out (Nat.le_add_right _ 1) q1 q2 q3 q4 q5 q6 q7
set_option maxRecDepth 100000 in
set_option maxHeartbeats 400000 in
theorem rcsr55_k (B C : Nat) (s s' : St) (v : Value) (n vv x old y z nx : Int) (d a b : Nat) (k : Nat) (hk : (k : Int) ≤ 4) (n0 : 0 ≤ n) (n1 : n ≤ 4095) (hd : Hid ((d : Int) ≤ 31)) (a0 : (0 : Int) ≤ a) (ha : (a : Int) ≤ 31) (K : Hid (T.Num.ix n = k)) (O : Hid (s.c k = old)) (Y : bits .andNot .u32 old (a : Int) = y) (g0 : ((k : Int) == 0) = false) (g2 : ((k : Int) == 2) = false) (NX : (s.pc + 4) % 4294967296 = nx)
    (q1 q2 q3 : Int) (q4 : Bool) (q5 q6 q7 : Int) (Q : Hid ((bare s.pc).put d old = ⟨q1, q2, q3, q4, q5, q6, q7⟩)) (S : Hid (((s.setC k y).go nx).put d old = s')) (w : World) (hM : Hid (RAt B C s v w)) :
    Calls Tryz.prog 72 #[.pointer (some ⟨B, 0, none⟩), .agg (cells 55 d a b n), .int .u32 vv, .int .u32 x] w fun e w' => e = .returned (.agg (rc q1 q2 q3 q4 q5 q6 q7)) ∧ RNow B C v s' w w' := by
  have cp := hM.out.pc
  have hb := hM.out.lt
  have HW := hid (RNow.inst hM.out (cells 55 d a b n))
  have BX := hid (Box.inst w (cells 55 d a b n))
  go_enter Tryz.func72, Tryz.ntmps72
  go_wp2_with fail
  refine (T.Walks.rindex_as _ _ K _).mono ?_; rintro e w1 ⟨rfl, hF⟩
  have H1 := hid (HW.out.fr hF)
  have B1 := hid (BX.out.fr hF)
  have i0 : w1.cell? ⟨w.heap.size, 0, none⟩ = some (.int .i64 55) := (hF.cell _ _ (by simp; omega)).trans (rinst_cell w (cells 55 d a b n) 0)
  have i1 : w1.cell? ⟨w.heap.size, 1, none⟩ = some (.int .i64 d) := (hF.cell _ _ (by simp; omega)).trans (rinst_cell w (cells 55 d a b n) 1)
  have i2 : w1.cell? ⟨w.heap.size, 2, none⟩ = some (.int .i64 a) := (hF.cell _ _ (by simp; omega)).trans (rinst_cell w (cells 55 d a b n) 2)
  have k1 : w1.cell? ⟨B, 33 + k, none⟩ = some (.int .u32 old) := by rw [H1.out.1.c k (by omega), O.out]
  have k2 : w1.frozen? ⟨B, 33 + k, none⟩ = false := H1.out.1.z _ (by omega)
  have p1 : w1.cell? ⟨B, 0, none⟩ = some (.int .u32 s.pc) := H1.out.1.pc
  have p2 : w1.frozen? ⟨B, 0, none⟩ = false := H1.out.1.z 0 (by decide)
  have nb : ¬ w.heap.size = B := by omega
  go_wp2_with fail
  have H2 : Hid (RNow B C v ((s.setC k y).go nx) w ((w1.setCell ⟨B, 33 + k, none⟩ (.int .u32 y)).setCell ⟨B, 0, none⟩ (.int .u32 nx))) := (H1.out.setC k (by omega) y).setPc nx
  have B2 : Hid (Box (w.heap.size + 1) ((w1.setCell ⟨B, 33 + k, none⟩ (.int .u32 y)).setCell ⟨B, 0, none⟩ (.int .u32 nx))) := (B1.out.set _ _ (by show w.heap.size + 1 ≠ B; omega)).set _ _ (by show w.heap.size + 1 ≠ B; omega)
  refine (rput_as B C ((s.setC k y).go nx) s' v _ _ d hd.out _ Q S _ (by exact H2.out.1)).mono ?_; rintro e w2 ⟨rfl, hN⟩
  obtain ⟨b0, b1, b2, b3, b4, b5, b6, y0, y1, y2, y3, y4, y5, y6⟩ := Box.rchg (w := _) (by exact B2.out) hM.out (Nat.le_add_right _ 1) hN.2
  go_wp2_with fail
  refine bodyPost_ret (v := .agg (rc q1 q2 q3 q4 q5 q6 q7)) (by simp [results, Tryz.results72, go_sem, *]) rfl ⟨rfl, ?_⟩
  exact RNow.ends (RNow.then (by exact H2.out) hN) hM.out (Nat.le_add_right _ 1) q1 q2 q3 q4 q5 q6 q7
end Go.Proofs.YtpkbkbllhpdfiaaGreat.M
