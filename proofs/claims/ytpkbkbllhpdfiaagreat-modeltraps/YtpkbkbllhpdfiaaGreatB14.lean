/- DoA: The program's do, op by op: what it calls, in which words. -/
import Derived.Test.YtpkbkbllhpdfiaaGreatB09
namespace Go.Proofs.YtpkbkbllhpdfiaaGreat.M
open Go.ChangeShapes Go.WideShapes Go.ChangeAt Go.RowKit Go.Proofs.YtpkbkbllhpdfiaaGreat.Walks Go.Proofs.YtpkbkbllhpdfiaaGreat.Mod
set_option linter.unusedVariables false
set_option maxRecDepth 100000 in
set_option maxHeartbeats 400000 in
theorem do1 (B : Nat) (s s' : St) (v : Value) (n u x y z vv : Int) (a b d : Nat) (ha : (a : Int) ≤ 31) (q1 q2 q3 : Int) (q4 : Bool) (q5 q6 q7 : Int) (X : Hid (s.r a = x)) (N : n % 4294967296 = u) (N' : IntKind.u32.wrap n = u) 
    (CA : Hid (∀ w, MAt B s v w → Calls Tryz.prog 50 #[.pointer (some ⟨B, 0, none⟩), .int .i64 (d : Int), .int .u32 u] w fun e w' => e = .returned (.agg (rc q1 q2 q3 q4 q5 q6 q7)) ∧ Nxt B v s' w w')) (w : World) (hM : Hid (MAt B s v w)) :
    Calls Tryz.prog 35 #[.pointer (some ⟨B, 0, none⟩), .agg (cells 1 d a b n), .int .u32 vv] w fun e w' => e = .returned (.agg (rc q1 q2 q3 q4 q5 q6 q7)) ∧ Nxt B v s' w w' := by
  have ca := hM.out.r a (by omega)
  rw [X.out] at ca
  have cp := hM.out.pc
  have c2 := hM.out.c 2 (by decide)
  have hb := hM.out.lt
  have HW := hid (Now.inst hM.out (cells 1 d a b n))
  have BX := hid (Box.inst w (cells 1 d a b n))
  go_enter Tryz.func35, Tryz.ntmps35
  go_wp2_with fail
  go_region
  all_goals
    go_wp2_with fail
    refine (CA.out _ (by exact HW.out.1.alike ⟨rfl, rfl, rfl⟩)).mono ?_
    rintro e w1 ⟨rfl, hN⟩
    obtain ⟨b0, b1, b2, b3, b4, b5, b6, y0, y1, y2, y3, y4, y5, y6⟩ := Box.chg1 (w := _) (by exact BX.out.alike ⟨rfl, rfl, rfl⟩) hM.out (Nat.le_add_right _ 1) hN.chg
    go_wp2_with fail
    refine bodyPost_ret (v := .agg (rc q1 q2 q3 q4 q5 q6 q7)) (by simp [results, Tryz.results35, go_sem, *]) rfl ⟨rfl, ?_⟩
    exact Nxt.ends hM.out (by exact Chg.alike HW.out.2 ⟨rfl, rfl, rfl⟩) hN (Nat.le_add_right _ 1) (by simp) q1 q2 q3 q4 q5 q6 q7
set_option maxRecDepth 100000 in
set_option maxHeartbeats 400000 in
theorem do2 (B : Nat) (s s' : St) (v : Value) (n u x y z vv : Int) (a b d : Nat) (ha : (a : Int) ≤ 31) (q1 q2 q3 : Int) (q4 : Bool) (q5 q6 q7 : Int) (X : Hid (s.r a = x)) (N : n % 4294967296 = u) (N' : IntKind.u32.wrap n = u) (Z : (s.pc + u) % 4294967296 = z) (Z' : IntKind.u32.wrap (s.pc + u) = z) 
    (CA : Hid (∀ w, MAt B s v w → Calls Tryz.prog 50 #[.pointer (some ⟨B, 0, none⟩), .int .i64 (d : Int), .int .u32 z] w fun e w' => e = .returned (.agg (rc q1 q2 q3 q4 q5 q6 q7)) ∧ Nxt B v s' w w')) (w : World) (hM : Hid (MAt B s v w)) :
    Calls Tryz.prog 35 #[.pointer (some ⟨B, 0, none⟩), .agg (cells 2 d a b n), .int .u32 vv] w fun e w' => e = .returned (.agg (rc q1 q2 q3 q4 q5 q6 q7)) ∧ Nxt B v s' w w' := by
  have ca := hM.out.r a (by omega)
  rw [X.out] at ca
  have cp := hM.out.pc
  have c2 := hM.out.c 2 (by decide)
  have hb := hM.out.lt
  have HW := hid (Now.inst hM.out (cells 2 d a b n))
  have BX := hid (Box.inst w (cells 2 d a b n))
  go_enter Tryz.func35, Tryz.ntmps35
  go_wp2_with fail
  go_region
  all_goals
    go_wp2_with fail
    go_region_with (go_at_call 50; refine (CA.out _ (by exact HW.out.1.alike ⟨rfl, rfl, rfl⟩)).mono ?_; rintro e w1 ⟨rfl, hN⟩; obtain ⟨b0, b1, b2, b3, b4, b5, b6, y0, y1, y2, y3, y4, y5, y6⟩ := Box.chg1 (w := _) (by exact BX.out.alike ⟨rfl, rfl, rfl⟩) hM.out (Nat.le_add_right _ 1) hN.chg)
    all_goals
      go_wp2_with fail
      refine bodyPost_ret (v := .agg (rc q1 q2 q3 q4 q5 q6 q7)) (by simp [results, Tryz.results35, go_sem, *]) rfl ⟨rfl, ?_⟩
      exact Nxt.ends hM.out (by exact Chg.alike HW.out.2 ⟨rfl, rfl, rfl⟩) hN (Nat.le_add_right _ 1) (by simp) q1 q2 q3 q4 q5 q6 q7
set_option maxRecDepth 100000 in
set_option maxHeartbeats 400000 in
theorem do3 (B : Nat) (s s' : St) (v : Value) (n u x y z vv : Int) (a b d : Nat) (ha : (a : Int) ≤ 31) (q1 q2 q3 : Int) (q4 : Bool) (q5 q6 q7 : Int) (X : Hid (s.r a = x)) (N : n % 4294967296 = u) (N' : IntKind.u32.wrap n = u) (Z : (s.pc + u) % 4294967296 = z) (Z' : IntKind.u32.wrap (s.pc + u) = z) 
    (CA : Hid (∀ w, MAt B s v w → Calls Tryz.prog 51 #[.pointer (some ⟨B, 0, none⟩), .int .i64 (d : Int), .int .u32 z] w fun e w' => e = .returned (.agg (rc q1 q2 q3 q4 q5 q6 q7)) ∧ Nxt B v s' w w')) (w : World) (hM : Hid (MAt B s v w)) :
    Calls Tryz.prog 35 #[.pointer (some ⟨B, 0, none⟩), .agg (cells 3 d a b n), .int .u32 vv] w fun e w' => e = .returned (.agg (rc q1 q2 q3 q4 q5 q6 q7)) ∧ Nxt B v s' w w' := by
  have ca := hM.out.r a (by omega)
  rw [X.out] at ca
  have cp := hM.out.pc
  have c2 := hM.out.c 2 (by decide)
  have hb := hM.out.lt
  have HW := hid (Now.inst hM.out (cells 3 d a b n))
  have BX := hid (Box.inst w (cells 3 d a b n))
  go_enter Tryz.func35, Tryz.ntmps35
  go_wp2_with fail
  go_region
  all_goals
    go_wp2_with fail
    go_region_with (go_at_call 51; refine (CA.out _ (by exact HW.out.1.alike ⟨rfl, rfl, rfl⟩)).mono ?_; rintro e w1 ⟨rfl, hN⟩; obtain ⟨b0, b1, b2, b3, b4, b5, b6, y0, y1, y2, y3, y4, y5, y6⟩ := Box.chg1 (w := _) (by exact BX.out.alike ⟨rfl, rfl, rfl⟩) hM.out (Nat.le_add_right _ 1) hN.chg)
    all_goals
      go_wp2_with fail
      refine bodyPost_ret (v := .agg (rc q1 q2 q3 q4 q5 q6 q7)) (by simp [results, Tryz.results35, go_sem, *]) rfl ⟨rfl, ?_⟩
      exact Nxt.ends hM.out (by exact Chg.alike HW.out.2 ⟨rfl, rfl, rfl⟩) hN (Nat.le_add_right _ 1) (by simp) q1 q2 q3 q4 q5 q6 q7
set_option maxRecDepth 100000 in
set_option maxHeartbeats 400000 in
theorem do4 (B : Nat) (s s' : St) (v : Value) (n u x y z vv : Int) (a b d : Nat) (ha : (a : Int) ≤ 31) (q1 q2 q3 : Int) (q4 : Bool) (q5 q6 q7 : Int) (X : Hid (s.r a = x)) (N : n % 4294967296 = u) (N' : IntKind.u32.wrap n = u) (Y0 : (x + u) % 4294967296 = y) (Y1 : IntKind.u32.wrap (x + u) = y) (Z : bits .andNot .u32 y 1 = z) 
    (CA : Hid (∀ w, MAt B s v w → Calls Tryz.prog 51 #[.pointer (some ⟨B, 0, none⟩), .int .i64 (d : Int), .int .u32 z] w fun e w' => e = .returned (.agg (rc q1 q2 q3 q4 q5 q6 q7)) ∧ Nxt B v s' w w')) (w : World) (hM : Hid (MAt B s v w)) :
    Calls Tryz.prog 35 #[.pointer (some ⟨B, 0, none⟩), .agg (cells 4 d a b n), .int .u32 vv] w fun e w' => e = .returned (.agg (rc q1 q2 q3 q4 q5 q6 q7)) ∧ Nxt B v s' w w' := by
  have ca := hM.out.r a (by omega)
  rw [X.out] at ca
  have cp := hM.out.pc
  have c2 := hM.out.c 2 (by decide)
  have hb := hM.out.lt
  have HW := hid (Now.inst hM.out (cells 4 d a b n))
  have BX := hid (Box.inst w (cells 4 d a b n))
  go_enter Tryz.func35, Tryz.ntmps35
  go_wp2_with fail
  go_region
  all_goals
    go_wp2_with fail
    refine (CA.out _ (by exact HW.out.1.alike ⟨rfl, rfl, rfl⟩)).mono ?_
    rintro e w1 ⟨rfl, hN⟩
    obtain ⟨b0, b1, b2, b3, b4, b5, b6, y0, y1, y2, y3, y4, y5, y6⟩ := Box.chg1 (w := _) (by exact BX.out.alike ⟨rfl, rfl, rfl⟩) hM.out (Nat.le_add_right _ 1) hN.chg
    go_wp2_with fail
    refine bodyPost_ret (v := .agg (rc q1 q2 q3 q4 q5 q6 q7)) (by simp [results, Tryz.results35, go_sem, *]) rfl ⟨rfl, ?_⟩
    exact Nxt.ends hM.out (by exact Chg.alike HW.out.2 ⟨rfl, rfl, rfl⟩) hN (Nat.le_add_right _ 1) (by simp) q1 q2 q3 q4 q5 q6 q7
set_option maxRecDepth 100000 in
set_option maxHeartbeats 400000 in
theorem do5 (B : Nat) (s s' : St) (v : Value) (n u x y z vv : Int) (a b d : Nat) (ha : (a : Int) ≤ 31) (q1 q2 q3 : Int) (q4 : Bool) (q5 q6 q7 : Int) (X : Hid (s.r a = x)) (N : n % 4294967296 = u) (N' : IntKind.u32.wrap n = u) 
    (CA : Hid (∀ w, MAt B s v w → Calls Tryz.prog 52 #[.pointer (some ⟨B, 0, none⟩), .agg (cells 5 d a b n)] w fun e w' => e = .returned (.agg (rc q1 q2 q3 q4 q5 q6 q7)) ∧ Nxt B v s' w w')) (w : World) (hM : Hid (MAt B s v w)) :
    Calls Tryz.prog 35 #[.pointer (some ⟨B, 0, none⟩), .agg (cells 5 d a b n), .int .u32 vv] w fun e w' => e = .returned (.agg (rc q1 q2 q3 q4 q5 q6 q7)) ∧ Nxt B v s' w w' := by
  have ca := hM.out.r a (by omega)
  rw [X.out] at ca
  have cp := hM.out.pc
  have c2 := hM.out.c 2 (by decide)
  have hb := hM.out.lt
  have HW := hid (Now.inst hM.out (cells 5 d a b n))
  have BX := hid (Box.inst w (cells 5 d a b n))
  go_enter Tryz.func35, Tryz.ntmps35
  go_wp2_with fail
  go_region
  all_goals
    go_wp2_with fail
    refine (CA.out _ (by exact HW.out.1.alike ⟨rfl, rfl, rfl⟩)).mono ?_
    rintro e w1 ⟨rfl, hN⟩
    obtain ⟨b0, b1, b2, b3, b4, b5, b6, y0, y1, y2, y3, y4, y5, y6⟩ := Box.chg1 (w := _) (by exact BX.out.alike ⟨rfl, rfl, rfl⟩) hM.out (Nat.le_add_right _ 1) hN.chg
    go_wp2_with fail
    refine bodyPost_ret (v := .agg (rc q1 q2 q3 q4 q5 q6 q7)) (by simp [results, Tryz.results35, go_sem, *]) rfl ⟨rfl, ?_⟩
    exact Nxt.ends hM.out (by exact Chg.alike HW.out.2 ⟨rfl, rfl, rfl⟩) hN (Nat.le_add_right _ 1) (by simp) q1 q2 q3 q4 q5 q6 q7
set_option maxRecDepth 100000 in
set_option maxHeartbeats 400000 in
theorem do6 (B : Nat) (s s' : St) (v : Value) (n u x y z vv : Int) (a b d : Nat) (ha : (a : Int) ≤ 31) (q1 q2 q3 : Int) (q4 : Bool) (q5 q6 q7 : Int) (X : Hid (s.r a = x)) (N : n % 4294967296 = u) (N' : IntKind.u32.wrap n = u) 
    (CA : Hid (∀ w, MAt B s v w → Calls Tryz.prog 52 #[.pointer (some ⟨B, 0, none⟩), .agg (cells 6 d a b n)] w fun e w' => e = .returned (.agg (rc q1 q2 q3 q4 q5 q6 q7)) ∧ Nxt B v s' w w')) (w : World) (hM : Hid (MAt B s v w)) :
    Calls Tryz.prog 35 #[.pointer (some ⟨B, 0, none⟩), .agg (cells 6 d a b n), .int .u32 vv] w fun e w' => e = .returned (.agg (rc q1 q2 q3 q4 q5 q6 q7)) ∧ Nxt B v s' w w' := by
  have ca := hM.out.r a (by omega)
  rw [X.out] at ca
  have cp := hM.out.pc
  have c2 := hM.out.c 2 (by decide)
  have hb := hM.out.lt
  have HW := hid (Now.inst hM.out (cells 6 d a b n))
  have BX := hid (Box.inst w (cells 6 d a b n))
  go_enter Tryz.func35, Tryz.ntmps35
  go_wp2_with fail
  go_region
  all_goals
    go_wp2_with fail
    refine (CA.out _ (by exact HW.out.1.alike ⟨rfl, rfl, rfl⟩)).mono ?_
    rintro e w1 ⟨rfl, hN⟩
    obtain ⟨b0, b1, b2, b3, b4, b5, b6, y0, y1, y2, y3, y4, y5, y6⟩ := Box.chg1 (w := _) (by exact BX.out.alike ⟨rfl, rfl, rfl⟩) hM.out (Nat.le_add_right _ 1) hN.chg
    go_wp2_with fail
    refine bodyPost_ret (v := .agg (rc q1 q2 q3 q4 q5 q6 q7)) (by simp [results, Tryz.results35, go_sem, *]) rfl ⟨rfl, ?_⟩
    exact Nxt.ends hM.out (by exact Chg.alike HW.out.2 ⟨rfl, rfl, rfl⟩) hN (Nat.le_add_right _ 1) (by simp) q1 q2 q3 q4 q5 q6 q7
set_option maxRecDepth 100000 in
set_option maxHeartbeats 400000 in
theorem do7 (B : Nat) (s s' : St) (v : Value) (n u x y z vv : Int) (a b d : Nat) (ha : (a : Int) ≤ 31) (q1 q2 q3 : Int) (q4 : Bool) (q5 q6 q7 : Int) (X : Hid (s.r a = x)) (N : n % 4294967296 = u) (N' : IntKind.u32.wrap n = u) 
    (CA : Hid (∀ w, MAt B s v w → Calls Tryz.prog 52 #[.pointer (some ⟨B, 0, none⟩), .agg (cells 7 d a b n)] w fun e w' => e = .returned (.agg (rc q1 q2 q3 q4 q5 q6 q7)) ∧ Nxt B v s' w w')) (w : World) (hM : Hid (MAt B s v w)) :
    Calls Tryz.prog 35 #[.pointer (some ⟨B, 0, none⟩), .agg (cells 7 d a b n), .int .u32 vv] w fun e w' => e = .returned (.agg (rc q1 q2 q3 q4 q5 q6 q7)) ∧ Nxt B v s' w w' := by
  have ca := hM.out.r a (by omega)
  rw [X.out] at ca
  have cp := hM.out.pc
  have c2 := hM.out.c 2 (by decide)
  have hb := hM.out.lt
  have HW := hid (Now.inst hM.out (cells 7 d a b n))
  have BX := hid (Box.inst w (cells 7 d a b n))
  go_enter Tryz.func35, Tryz.ntmps35
  go_wp2_with fail
  go_region
  all_goals
    go_wp2_with fail
    refine (CA.out _ (by exact HW.out.1.alike ⟨rfl, rfl, rfl⟩)).mono ?_
    rintro e w1 ⟨rfl, hN⟩
    obtain ⟨b0, b1, b2, b3, b4, b5, b6, y0, y1, y2, y3, y4, y5, y6⟩ := Box.chg1 (w := _) (by exact BX.out.alike ⟨rfl, rfl, rfl⟩) hM.out (Nat.le_add_right _ 1) hN.chg
    go_wp2_with fail
    refine bodyPost_ret (v := .agg (rc q1 q2 q3 q4 q5 q6 q7)) (by simp [results, Tryz.results35, go_sem, *]) rfl ⟨rfl, ?_⟩
    exact Nxt.ends hM.out (by exact Chg.alike HW.out.2 ⟨rfl, rfl, rfl⟩) hN (Nat.le_add_right _ 1) (by simp) q1 q2 q3 q4 q5 q6 q7
set_option maxRecDepth 100000 in
set_option maxHeartbeats 400000 in
theorem do8 (B : Nat) (s s' : St) (v : Value) (n u x y z vv : Int) (a b d : Nat) (ha : (a : Int) ≤ 31) (q1 q2 q3 : Int) (q4 : Bool) (q5 q6 q7 : Int) (X : Hid (s.r a = x)) (N : n % 4294967296 = u) (N' : IntKind.u32.wrap n = u) 
    (CA : Hid (∀ w, MAt B s v w → Calls Tryz.prog 52 #[.pointer (some ⟨B, 0, none⟩), .agg (cells 8 d a b n)] w fun e w' => e = .returned (.agg (rc q1 q2 q3 q4 q5 q6 q7)) ∧ Nxt B v s' w w')) (w : World) (hM : Hid (MAt B s v w)) :
    Calls Tryz.prog 35 #[.pointer (some ⟨B, 0, none⟩), .agg (cells 8 d a b n), .int .u32 vv] w fun e w' => e = .returned (.agg (rc q1 q2 q3 q4 q5 q6 q7)) ∧ Nxt B v s' w w' := by
  have ca := hM.out.r a (by omega)
  rw [X.out] at ca
  have cp := hM.out.pc
  have c2 := hM.out.c 2 (by decide)
  have hb := hM.out.lt
  have HW := hid (Now.inst hM.out (cells 8 d a b n))
  have BX := hid (Box.inst w (cells 8 d a b n))
  go_enter Tryz.func35, Tryz.ntmps35
  go_wp2_with fail
  go_region
  all_goals
    go_wp2_with fail
    refine (CA.out _ (by exact HW.out.1.alike ⟨rfl, rfl, rfl⟩)).mono ?_
    rintro e w1 ⟨rfl, hN⟩
    obtain ⟨b0, b1, b2, b3, b4, b5, b6, y0, y1, y2, y3, y4, y5, y6⟩ := Box.chg1 (w := _) (by exact BX.out.alike ⟨rfl, rfl, rfl⟩) hM.out (Nat.le_add_right _ 1) hN.chg
    go_wp2_with fail
    refine bodyPost_ret (v := .agg (rc q1 q2 q3 q4 q5 q6 q7)) (by simp [results, Tryz.results35, go_sem, *]) rfl ⟨rfl, ?_⟩
    exact Nxt.ends hM.out (by exact Chg.alike HW.out.2 ⟨rfl, rfl, rfl⟩) hN (Nat.le_add_right _ 1) (by simp) q1 q2 q3 q4 q5 q6 q7
set_option maxRecDepth 100000 in
set_option maxHeartbeats 400000 in
theorem do9 (B : Nat) (s s' : St) (v : Value) (n u x y z vv : Int) (a b d : Nat) (ha : (a : Int) ≤ 31) (q1 q2 q3 : Int) (q4 : Bool) (q5 q6 q7 : Int) (X : Hid (s.r a = x)) (N : n % 4294967296 = u) (N' : IntKind.u32.wrap n = u) 
    (CA : Hid (∀ w, MAt B s v w → Calls Tryz.prog 52 #[.pointer (some ⟨B, 0, none⟩), .agg (cells 9 d a b n)] w fun e w' => e = .returned (.agg (rc q1 q2 q3 q4 q5 q6 q7)) ∧ Nxt B v s' w w')) (w : World) (hM : Hid (MAt B s v w)) :
    Calls Tryz.prog 35 #[.pointer (some ⟨B, 0, none⟩), .agg (cells 9 d a b n), .int .u32 vv] w fun e w' => e = .returned (.agg (rc q1 q2 q3 q4 q5 q6 q7)) ∧ Nxt B v s' w w' := by
  have ca := hM.out.r a (by omega)
  rw [X.out] at ca
  have cp := hM.out.pc
  have c2 := hM.out.c 2 (by decide)
  have hb := hM.out.lt
  have HW := hid (Now.inst hM.out (cells 9 d a b n))
  have BX := hid (Box.inst w (cells 9 d a b n))
  go_enter Tryz.func35, Tryz.ntmps35
  go_wp2_with fail
  go_region
  all_goals
    go_wp2_with fail
    refine (CA.out _ (by exact HW.out.1.alike ⟨rfl, rfl, rfl⟩)).mono ?_
    rintro e w1 ⟨rfl, hN⟩
    obtain ⟨b0, b1, b2, b3, b4, b5, b6, y0, y1, y2, y3, y4, y5, y6⟩ := Box.chg1 (w := _) (by exact BX.out.alike ⟨rfl, rfl, rfl⟩) hM.out (Nat.le_add_right _ 1) hN.chg
    go_wp2_with fail
    refine bodyPost_ret (v := .agg (rc q1 q2 q3 q4 q5 q6 q7)) (by simp [results, Tryz.results35, go_sem, *]) rfl ⟨rfl, ?_⟩
    exact Nxt.ends hM.out (by exact Chg.alike HW.out.2 ⟨rfl, rfl, rfl⟩) hN (Nat.le_add_right _ 1) (by simp) q1 q2 q3 q4 q5 q6 q7
set_option maxRecDepth 100000 in
set_option maxHeartbeats 400000 in
theorem do10 (B : Nat) (s s' : St) (v : Value) (n u x y z vv : Int) (a b d : Nat) (ha : (a : Int) ≤ 31) (q1 q2 q3 : Int) (q4 : Bool) (q5 q6 q7 : Int) (X : Hid (s.r a = x)) (N : n % 4294967296 = u) (N' : IntKind.u32.wrap n = u) 
    (CA : Hid (∀ w, MAt B s v w → Calls Tryz.prog 52 #[.pointer (some ⟨B, 0, none⟩), .agg (cells 10 d a b n)] w fun e w' => e = .returned (.agg (rc q1 q2 q3 q4 q5 q6 q7)) ∧ Nxt B v s' w w')) (w : World) (hM : Hid (MAt B s v w)) :
    Calls Tryz.prog 35 #[.pointer (some ⟨B, 0, none⟩), .agg (cells 10 d a b n), .int .u32 vv] w fun e w' => e = .returned (.agg (rc q1 q2 q3 q4 q5 q6 q7)) ∧ Nxt B v s' w w' := by
  have ca := hM.out.r a (by omega)
  rw [X.out] at ca
  have cp := hM.out.pc
  have c2 := hM.out.c 2 (by decide)
  have hb := hM.out.lt
  have HW := hid (Now.inst hM.out (cells 10 d a b n))
  have BX := hid (Box.inst w (cells 10 d a b n))
  go_enter Tryz.func35, Tryz.ntmps35
  go_wp2_with fail
  go_region
  all_goals
    go_wp2_with fail
    refine (CA.out _ (by exact HW.out.1.alike ⟨rfl, rfl, rfl⟩)).mono ?_
    rintro e w1 ⟨rfl, hN⟩
    obtain ⟨b0, b1, b2, b3, b4, b5, b6, y0, y1, y2, y3, y4, y5, y6⟩ := Box.chg1 (w := _) (by exact BX.out.alike ⟨rfl, rfl, rfl⟩) hM.out (Nat.le_add_right _ 1) hN.chg
    go_wp2_with fail
    refine bodyPost_ret (v := .agg (rc q1 q2 q3 q4 q5 q6 q7)) (by simp [results, Tryz.results35, go_sem, *]) rfl ⟨rfl, ?_⟩
    exact Nxt.ends hM.out (by exact Chg.alike HW.out.2 ⟨rfl, rfl, rfl⟩) hN (Nat.le_add_right _ 1) (by simp) q1 q2 q3 q4 q5 q6 q7
set_option maxRecDepth 100000 in
set_option maxHeartbeats 400000 in
theorem do46 (B : Nat) (s s' : St) (v : Value) (n u x y z vv : Int) (a b d : Nat) (ha : (a : Int) ≤ 31) (q1 q2 q3 : Int) (q4 : Bool) (q5 q6 q7 : Int) (X : Hid (s.r a = x)) (N : n % 4294967296 = u) (N' : IntKind.u32.wrap n = u) 
    (CA : Hid (∀ w, MAt B s v w → Calls Tryz.prog 56 #[.pointer (some ⟨B, 0, none⟩)] w fun e w' => e = .returned (.agg (rc q1 q2 q3 q4 q5 q6 q7)) ∧ Nxt B v s' w w')) (w : World) (hM : Hid (MAt B s v w)) :
    Calls Tryz.prog 35 #[.pointer (some ⟨B, 0, none⟩), .agg (cells 46 d a b n), .int .u32 vv] w fun e w' => e = .returned (.agg (rc q1 q2 q3 q4 q5 q6 q7)) ∧ Nxt B v s' w w' := by
  have ca := hM.out.r a (by omega)
  rw [X.out] at ca
  have cp := hM.out.pc
  have c2 := hM.out.c 2 (by decide)
  have hb := hM.out.lt
  have HW := hid (Now.inst hM.out (cells 46 d a b n))
  have BX := hid (Box.inst w (cells 46 d a b n))
  go_enter Tryz.func35, Tryz.ntmps35
  go_wp2_with fail
  go_region
  all_goals
    go_wp2_with fail
    refine (CA.out _ (by exact HW.out.1.alike ⟨rfl, rfl, rfl⟩)).mono ?_
    rintro e w1 ⟨rfl, hN⟩
    obtain ⟨b0, b1, b2, b3, b4, b5, b6, y0, y1, y2, y3, y4, y5, y6⟩ := Box.chg1 (w := _) (by exact BX.out.alike ⟨rfl, rfl, rfl⟩) hM.out (Nat.le_add_right _ 1) hN.chg
    go_wp2_with fail
    refine bodyPost_ret (v := .agg (rc q1 q2 q3 q4 q5 q6 q7)) (by simp [results, Tryz.results35, go_sem, *]) rfl ⟨rfl, ?_⟩
    exact Nxt.ends hM.out (by exact Chg.alike HW.out.2 ⟨rfl, rfl, rfl⟩) hN (Nat.le_add_right _ 1) (by simp) q1 q2 q3 q4 q5 q6 q7
set_option maxRecDepth 100000 in
set_option maxHeartbeats 400000 in
theorem do47 (B : Nat) (s s' : St) (v : Value) (n u x y z vv : Int) (a b d : Nat) (ha : (a : Int) ≤ 31) (q1 q2 q3 : Int) (q4 : Bool) (q5 q6 q7 : Int) (X : Hid (s.r a = x)) (N : n % 4294967296 = u) (N' : IntKind.u32.wrap n = u) 
    (CA : Hid (∀ w, MAt B s v w → Calls Tryz.prog 33 #[.pointer (some ⟨B, 0, none⟩), .int .i64 11, .int .u32 0] w fun e w' => e = .returned (.agg (rc q1 q2 q3 q4 q5 q6 q7)) ∧ Nxt B v s' w w')) (w : World) (hM : Hid (MAt B s v w)) :
    Calls Tryz.prog 35 #[.pointer (some ⟨B, 0, none⟩), .agg (cells 47 d a b n), .int .u32 vv] w fun e w' => e = .returned (.agg (rc q1 q2 q3 q4 q5 q6 q7)) ∧ Nxt B v s' w w' := by
  have ca := hM.out.r a (by omega)
  rw [X.out] at ca
  have cp := hM.out.pc
  have c2 := hM.out.c 2 (by decide)
  have hb := hM.out.lt
  have HW := hid (Now.inst hM.out (cells 47 d a b n))
  have BX := hid (Box.inst w (cells 47 d a b n))
  go_enter Tryz.func35, Tryz.ntmps35
  go_wp2_with fail
  go_region
  all_goals
    go_wp2_with fail
    refine (CA.out _ (by exact HW.out.1.alike ⟨rfl, rfl, rfl⟩)).mono ?_
    rintro e w1 ⟨rfl, hN⟩
    obtain ⟨b0, b1, b2, b3, b4, b5, b6, y0, y1, y2, y3, y4, y5, y6⟩ := Box.chg1 (w := _) (by exact BX.out.alike ⟨rfl, rfl, rfl⟩) hM.out (Nat.le_add_right _ 1) hN.chg
    go_wp2_with fail
    refine bodyPost_ret (v := .agg (rc q1 q2 q3 q4 q5 q6 q7)) (by simp [results, Tryz.results35, go_sem, *]) rfl ⟨rfl, ?_⟩
    exact Nxt.ends hM.out (by exact Chg.alike HW.out.2 ⟨rfl, rfl, rfl⟩) hN (Nat.le_add_right _ 1) (by simp) q1 q2 q3 q4 q5 q6 q7
set_option maxRecDepth 100000 in
set_option maxHeartbeats 400000 in
theorem do48 (B : Nat) (s s' : St) (v : Value) (n u x y z vv : Int) (a b d : Nat) (ha : (a : Int) ≤ 31) (q1 q2 q3 : Int) (q4 : Bool) (q5 q6 q7 : Int) (X : Hid (s.r a = x)) (N : n % 4294967296 = u) (N' : IntKind.u32.wrap n = u) 
    (CA : Hid (∀ w, MAt B s v w → Calls Tryz.prog 33 #[.pointer (some ⟨B, 0, none⟩), .int .i64 3, .int .u32 0] w fun e w' => e = .returned (.agg (rc q1 q2 q3 q4 q5 q6 q7)) ∧ Nxt B v s' w w')) (w : World) (hM : Hid (MAt B s v w)) :
    Calls Tryz.prog 35 #[.pointer (some ⟨B, 0, none⟩), .agg (cells 48 d a b n), .int .u32 vv] w fun e w' => e = .returned (.agg (rc q1 q2 q3 q4 q5 q6 q7)) ∧ Nxt B v s' w w' := by
  have ca := hM.out.r a (by omega)
  rw [X.out] at ca
  have cp := hM.out.pc
  have c2 := hM.out.c 2 (by decide)
  have hb := hM.out.lt
  have HW := hid (Now.inst hM.out (cells 48 d a b n))
  have BX := hid (Box.inst w (cells 48 d a b n))
  go_enter Tryz.func35, Tryz.ntmps35
  go_wp2_with fail
  go_region
  all_goals
    go_wp2_with fail
    refine (CA.out _ (by exact HW.out.1.alike ⟨rfl, rfl, rfl⟩)).mono ?_
    rintro e w1 ⟨rfl, hN⟩
    obtain ⟨b0, b1, b2, b3, b4, b5, b6, y0, y1, y2, y3, y4, y5, y6⟩ := Box.chg1 (w := _) (by exact BX.out.alike ⟨rfl, rfl, rfl⟩) hM.out (Nat.le_add_right _ 1) hN.chg
    go_wp2_with fail
    refine bodyPost_ret (v := .agg (rc q1 q2 q3 q4 q5 q6 q7)) (by simp [results, Tryz.results35, go_sem, *]) rfl ⟨rfl, ?_⟩
    exact Nxt.ends hM.out (by exact Chg.alike HW.out.2 ⟨rfl, rfl, rfl⟩) hN (Nat.le_add_right _ 1) (by simp) q1 q2 q3 q4 q5 q6 q7
set_option maxRecDepth 100000 in
set_option maxHeartbeats 400000 in
theorem do49 (B : Nat) (s s' : St) (v : Value) (n u x y z vv : Int) (a b d : Nat) (ha : (a : Int) ≤ 31) (q1 q2 q3 : Int) (q4 : Bool) (q5 q6 q7 : Int) (X : Hid (s.r a = x)) (N : n % 4294967296 = u) (N' : IntKind.u32.wrap n = u) 
    (CA : Hid (∀ w, MAt B s v w → Calls Tryz.prog 47 #[.pointer (some ⟨B, 0, none⟩), .int .u32 (s.c 2)] w fun e w' => e = .returned (.agg (rc q1 q2 q3 q4 q5 q6 q7)) ∧ Nxt B v s' w w')) (w : World) (hM : Hid (MAt B s v w)) :
    Calls Tryz.prog 35 #[.pointer (some ⟨B, 0, none⟩), .agg (cells 49 d a b n), .int .u32 vv] w fun e w' => e = .returned (.agg (rc q1 q2 q3 q4 q5 q6 q7)) ∧ Nxt B v s' w w' := by
  have ca := hM.out.r a (by omega)
  rw [X.out] at ca
  have cp := hM.out.pc
  have c2 := hM.out.c 2 (by decide)
  have hb := hM.out.lt
  have HW := hid (Now.inst hM.out (cells 49 d a b n))
  have BX := hid (Box.inst w (cells 49 d a b n))
  go_enter Tryz.func35, Tryz.ntmps35
  go_wp2_with fail
  go_region
  all_goals
    go_wp2_with fail
    refine (CA.out _ (by exact HW.out.1.alike ⟨rfl, rfl, rfl⟩)).mono ?_
    rintro e w1 ⟨rfl, hN⟩
    obtain ⟨b0, b1, b2, b3, b4, b5, b6, y0, y1, y2, y3, y4, y5, y6⟩ := Box.chg1 (w := _) (by exact BX.out.alike ⟨rfl, rfl, rfl⟩) hM.out (Nat.le_add_right _ 1) hN.chg
    go_wp2_with fail
    refine bodyPost_ret (v := .agg (rc q1 q2 q3 q4 q5 q6 q7)) (by simp [results, Tryz.results35, go_sem, *]) rfl ⟨rfl, ?_⟩
    exact Nxt.ends hM.out (by exact Chg.alike HW.out.2 ⟨rfl, rfl, rfl⟩) hN (Nat.le_add_right _ 1) (by simp) q1 q2 q3 q4 q5 q6 q7
end Go.Proofs.YtpkbkbllhpdfiaaGreat.M
