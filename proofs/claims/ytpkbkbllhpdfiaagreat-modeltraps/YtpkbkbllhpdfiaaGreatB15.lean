/- DoB: The program's do, op by op: what it calls, in which words. -/
import Derived.Test.YtpkbkbllhpdfiaaGreatB09
namespace Go.Proofs.YtpkbkbllhpdfiaaGreat.M
open Go.ChangeShapes Go.WideShapes Go.ChangeAt Go.RowKit Go.Proofs.YtpkbkbllhpdfiaaGreat.Walks Go.Proofs.YtpkbkbllhpdfiaaGreat.Mod
set_option linter.unusedVariables false
set_option maxRecDepth 100000 in
set_option maxHeartbeats 400000 in
theorem do11 (B : Nat) (s s' : St) (v : Value) (n u x y z vv : Int) (a b d : Nat) (ha : (a : Int) ≤ 31) (q1 q2 q3 : Int) (q4 : Bool) (q5 q6 q7 : Int) (X : Hid (s.r a = x)) (N : n % 4294967296 = u) (N' : IntKind.u32.wrap n = u) 
    (CA : Hid (∀ w, MAt B s v w → Calls Tryz.prog 53 #[.pointer (some ⟨B, 0, none⟩), .agg (cells 11 d a b n)] w fun e w' => e = .returned (.agg (rc q1 q2 q3 q4 q5 q6 q7)) ∧ Nxt B v s' w w')) (w : World) (hM : Hid (MAt B s v w)) :
    Calls Tryz.prog 35 #[.pointer (some ⟨B, 0, none⟩), .agg (cells 11 d a b n), .int .u32 vv] w fun e w' => e = .returned (.agg (rc q1 q2 q3 q4 q5 q6 q7)) ∧ Nxt B v s' w w' := by
  have ca := hM.out.r a (by omega)
  rw [X.out] at ca
  have cp := hM.out.pc
  have c2 := hM.out.c 2 (by decide)
  have hb := hM.out.lt
  have HW := hid (Now.inst hM.out (cells 11 d a b n))
  have BX := hid (Box.inst w (cells 11 d a b n))
  go_enter Tryz.func35, Tryz.ntmps35
  go_wp2_with fail
  go_region
  all_goals
    go_wp2_with fail
    refine (CA.out _ (by exact HW.out.1.alike ⟨rfl, rfl, rfl⟩)).mono ?_
    rintro e w1 ⟨rfl, hN⟩
    obtain ⟨b0, b1, b2, b3, b4, b5, b6, y0, y1, y2, y3, y4, y5, y6⟩ := Box.chg1 (w := _) (by exact BX.out.alike ⟨rfl, rfl, rfl⟩) hM.out (Nat.le_add_right _ 1) hN.chg
    go_wp2_with fail
    refine bodyPost_ret (v := .agg (rc q1 q2 q3 q4 q5 q6 q7)) (by simp [results, Tryz.results35, go_sem, *]) rfl ⟨rfl, ?_⟩
    exact Nxt.ends hM.out (by exact Chg.alike HW.out.2 ⟨rfl, rfl, rfl⟩) hN (Nat.le_add_right _ 1) (by simp) q1 q2 q3 q4 q5 q6 q7
set_option maxRecDepth 100000 in
set_option maxHeartbeats 400000 in
theorem do12 (B : Nat) (s s' : St) (v : Value) (n u x y z vv : Int) (a b d : Nat) (ha : (a : Int) ≤ 31) (q1 q2 q3 : Int) (q4 : Bool) (q5 q6 q7 : Int) (X : Hid (s.r a = x)) (N : n % 4294967296 = u) (N' : IntKind.u32.wrap n = u) 
    (CA : Hid (∀ w, MAt B s v w → Calls Tryz.prog 53 #[.pointer (some ⟨B, 0, none⟩), .agg (cells 12 d a b n)] w fun e w' => e = .returned (.agg (rc q1 q2 q3 q4 q5 q6 q7)) ∧ Nxt B v s' w w')) (w : World) (hM : Hid (MAt B s v w)) :
    Calls Tryz.prog 35 #[.pointer (some ⟨B, 0, none⟩), .agg (cells 12 d a b n), .int .u32 vv] w fun e w' => e = .returned (.agg (rc q1 q2 q3 q4 q5 q6 q7)) ∧ Nxt B v s' w w' := by
  have ca := hM.out.r a (by omega)
  rw [X.out] at ca
  have cp := hM.out.pc
  have c2 := hM.out.c 2 (by decide)
  have hb := hM.out.lt
  have HW := hid (Now.inst hM.out (cells 12 d a b n))
  have BX := hid (Box.inst w (cells 12 d a b n))
  go_enter Tryz.func35, Tryz.ntmps35
  go_wp2_with fail
  go_region
  all_goals
    go_wp2_with fail
    refine (CA.out _ (by exact HW.out.1.alike ⟨rfl, rfl, rfl⟩)).mono ?_
    rintro e w1 ⟨rfl, hN⟩
    obtain ⟨b0, b1, b2, b3, b4, b5, b6, y0, y1, y2, y3, y4, y5, y6⟩ := Box.chg1 (w := _) (by exact BX.out.alike ⟨rfl, rfl, rfl⟩) hM.out (Nat.le_add_right _ 1) hN.chg
    go_wp2_with fail
    refine bodyPost_ret (v := .agg (rc q1 q2 q3 q4 q5 q6 q7)) (by simp [results, Tryz.results35, go_sem, *]) rfl ⟨rfl, ?_⟩
    exact Nxt.ends hM.out (by exact Chg.alike HW.out.2 ⟨rfl, rfl, rfl⟩) hN (Nat.le_add_right _ 1) (by simp) q1 q2 q3 q4 q5 q6 q7
set_option maxRecDepth 100000 in
set_option maxHeartbeats 400000 in
theorem do13 (B : Nat) (s s' : St) (v : Value) (n u x y z vv : Int) (a b d : Nat) (ha : (a : Int) ≤ 31) (q1 q2 q3 : Int) (q4 : Bool) (q5 q6 q7 : Int) (X : Hid (s.r a = x)) (N : n % 4294967296 = u) (N' : IntKind.u32.wrap n = u) 
    (CA : Hid (∀ w, MAt B s v w → Calls Tryz.prog 53 #[.pointer (some ⟨B, 0, none⟩), .agg (cells 13 d a b n)] w fun e w' => e = .returned (.agg (rc q1 q2 q3 q4 q5 q6 q7)) ∧ Nxt B v s' w w')) (w : World) (hM : Hid (MAt B s v w)) :
    Calls Tryz.prog 35 #[.pointer (some ⟨B, 0, none⟩), .agg (cells 13 d a b n), .int .u32 vv] w fun e w' => e = .returned (.agg (rc q1 q2 q3 q4 q5 q6 q7)) ∧ Nxt B v s' w w' := by
  have ca := hM.out.r a (by omega)
  rw [X.out] at ca
  have cp := hM.out.pc
  have c2 := hM.out.c 2 (by decide)
  have hb := hM.out.lt
  have HW := hid (Now.inst hM.out (cells 13 d a b n))
  have BX := hid (Box.inst w (cells 13 d a b n))
  go_enter Tryz.func35, Tryz.ntmps35
  go_wp2_with fail
  go_region
  all_goals
    go_wp2_with fail
    refine (CA.out _ (by exact HW.out.1.alike ⟨rfl, rfl, rfl⟩)).mono ?_
    rintro e w1 ⟨rfl, hN⟩
    obtain ⟨b0, b1, b2, b3, b4, b5, b6, y0, y1, y2, y3, y4, y5, y6⟩ := Box.chg1 (w := _) (by exact BX.out.alike ⟨rfl, rfl, rfl⟩) hM.out (Nat.le_add_right _ 1) hN.chg
    go_wp2_with fail
    refine bodyPost_ret (v := .agg (rc q1 q2 q3 q4 q5 q6 q7)) (by simp [results, Tryz.results35, go_sem, *]) rfl ⟨rfl, ?_⟩
    exact Nxt.ends hM.out (by exact Chg.alike HW.out.2 ⟨rfl, rfl, rfl⟩) hN (Nat.le_add_right _ 1) (by simp) q1 q2 q3 q4 q5 q6 q7
set_option maxRecDepth 100000 in
set_option maxHeartbeats 400000 in
theorem do14 (B : Nat) (s s' : St) (v : Value) (n u x y z vv : Int) (a b d : Nat) (ha : (a : Int) ≤ 31) (q1 q2 q3 : Int) (q4 : Bool) (q5 q6 q7 : Int) (X : Hid (s.r a = x)) (N : n % 4294967296 = u) (N' : IntKind.u32.wrap n = u) 
    (CA : Hid (∀ w, MAt B s v w → Calls Tryz.prog 53 #[.pointer (some ⟨B, 0, none⟩), .agg (cells 14 d a b n)] w fun e w' => e = .returned (.agg (rc q1 q2 q3 q4 q5 q6 q7)) ∧ Nxt B v s' w w')) (w : World) (hM : Hid (MAt B s v w)) :
    Calls Tryz.prog 35 #[.pointer (some ⟨B, 0, none⟩), .agg (cells 14 d a b n), .int .u32 vv] w fun e w' => e = .returned (.agg (rc q1 q2 q3 q4 q5 q6 q7)) ∧ Nxt B v s' w w' := by
  have ca := hM.out.r a (by omega)
  rw [X.out] at ca
  have cp := hM.out.pc
  have c2 := hM.out.c 2 (by decide)
  have hb := hM.out.lt
  have HW := hid (Now.inst hM.out (cells 14 d a b n))
  have BX := hid (Box.inst w (cells 14 d a b n))
  go_enter Tryz.func35, Tryz.ntmps35
  go_wp2_with fail
  go_region
  all_goals
    go_wp2_with fail
    refine (CA.out _ (by exact HW.out.1.alike ⟨rfl, rfl, rfl⟩)).mono ?_
    rintro e w1 ⟨rfl, hN⟩
    obtain ⟨b0, b1, b2, b3, b4, b5, b6, y0, y1, y2, y3, y4, y5, y6⟩ := Box.chg1 (w := _) (by exact BX.out.alike ⟨rfl, rfl, rfl⟩) hM.out (Nat.le_add_right _ 1) hN.chg
    go_wp2_with fail
    refine bodyPost_ret (v := .agg (rc q1 q2 q3 q4 q5 q6 q7)) (by simp [results, Tryz.results35, go_sem, *]) rfl ⟨rfl, ?_⟩
    exact Nxt.ends hM.out (by exact Chg.alike HW.out.2 ⟨rfl, rfl, rfl⟩) hN (Nat.le_add_right _ 1) (by simp) q1 q2 q3 q4 q5 q6 q7
set_option maxRecDepth 100000 in
set_option maxHeartbeats 400000 in
theorem do15 (B : Nat) (s s' : St) (v : Value) (n u x y z vv : Int) (a b d : Nat) (ha : (a : Int) ≤ 31) (q1 q2 q3 : Int) (q4 : Bool) (q5 q6 q7 : Int) (X : Hid (s.r a = x)) (N : n % 4294967296 = u) (N' : IntKind.u32.wrap n = u) 
    (CA : Hid (∀ w, MAt B s v w → Calls Tryz.prog 53 #[.pointer (some ⟨B, 0, none⟩), .agg (cells 15 d a b n)] w fun e w' => e = .returned (.agg (rc q1 q2 q3 q4 q5 q6 q7)) ∧ Nxt B v s' w w')) (w : World) (hM : Hid (MAt B s v w)) :
    Calls Tryz.prog 35 #[.pointer (some ⟨B, 0, none⟩), .agg (cells 15 d a b n), .int .u32 vv] w fun e w' => e = .returned (.agg (rc q1 q2 q3 q4 q5 q6 q7)) ∧ Nxt B v s' w w' := by
  have ca := hM.out.r a (by omega)
  rw [X.out] at ca
  have cp := hM.out.pc
  have c2 := hM.out.c 2 (by decide)
  have hb := hM.out.lt
  have HW := hid (Now.inst hM.out (cells 15 d a b n))
  have BX := hid (Box.inst w (cells 15 d a b n))
  go_enter Tryz.func35, Tryz.ntmps35
  go_wp2_with fail
  go_region
  all_goals
    go_wp2_with fail
    refine (CA.out _ (by exact HW.out.1.alike ⟨rfl, rfl, rfl⟩)).mono ?_
    rintro e w1 ⟨rfl, hN⟩
    obtain ⟨b0, b1, b2, b3, b4, b5, b6, y0, y1, y2, y3, y4, y5, y6⟩ := Box.chg1 (w := _) (by exact BX.out.alike ⟨rfl, rfl, rfl⟩) hM.out (Nat.le_add_right _ 1) hN.chg
    go_wp2_with fail
    refine bodyPost_ret (v := .agg (rc q1 q2 q3 q4 q5 q6 q7)) (by simp [results, Tryz.results35, go_sem, *]) rfl ⟨rfl, ?_⟩
    exact Nxt.ends hM.out (by exact Chg.alike HW.out.2 ⟨rfl, rfl, rfl⟩) hN (Nat.le_add_right _ 1) (by simp) q1 q2 q3 q4 q5 q6 q7
set_option maxRecDepth 100000 in
set_option maxHeartbeats 400000 in
theorem do16 (B : Nat) (s s' : St) (v : Value) (n u x y z vv : Int) (a b d : Nat) (ha : (a : Int) ≤ 31) (q1 q2 q3 : Int) (q4 : Bool) (q5 q6 q7 : Int) (X : Hid (s.r a = x)) (N : n % 4294967296 = u) (N' : IntKind.u32.wrap n = u) 
    (CA : Hid (∀ w, MAt B s v w → Calls Tryz.prog 54 #[.pointer (some ⟨B, 0, none⟩), .agg (cells 16 d a b n)] w fun e w' => e = .returned (.agg (rc q1 q2 q3 q4 q5 q6 q7)) ∧ Nxt B v s' w w')) (w : World) (hM : Hid (MAt B s v w)) :
    Calls Tryz.prog 35 #[.pointer (some ⟨B, 0, none⟩), .agg (cells 16 d a b n), .int .u32 vv] w fun e w' => e = .returned (.agg (rc q1 q2 q3 q4 q5 q6 q7)) ∧ Nxt B v s' w w' := by
  have ca := hM.out.r a (by omega)
  rw [X.out] at ca
  have cp := hM.out.pc
  have c2 := hM.out.c 2 (by decide)
  have hb := hM.out.lt
  have HW := hid (Now.inst hM.out (cells 16 d a b n))
  have BX := hid (Box.inst w (cells 16 d a b n))
  go_enter Tryz.func35, Tryz.ntmps35
  go_wp2_with fail
  go_region
  all_goals
    go_wp2_with fail
    refine (CA.out _ (by exact HW.out.1.alike ⟨rfl, rfl, rfl⟩)).mono ?_
    rintro e w1 ⟨rfl, hN⟩
    obtain ⟨b0, b1, b2, b3, b4, b5, b6, y0, y1, y2, y3, y4, y5, y6⟩ := Box.chg1 (w := _) (by exact BX.out.alike ⟨rfl, rfl, rfl⟩) hM.out (Nat.le_add_right _ 1) hN.chg
    go_wp2_with fail
    refine bodyPost_ret (v := .agg (rc q1 q2 q3 q4 q5 q6 q7)) (by simp [results, Tryz.results35, go_sem, *]) rfl ⟨rfl, ?_⟩
    exact Nxt.ends hM.out (by exact Chg.alike HW.out.2 ⟨rfl, rfl, rfl⟩) hN (Nat.le_add_right _ 1) (by simp) q1 q2 q3 q4 q5 q6 q7
set_option maxRecDepth 100000 in
set_option maxHeartbeats 400000 in
theorem do17 (B : Nat) (s s' : St) (v : Value) (n u x y z vv : Int) (a b d : Nat) (ha : (a : Int) ≤ 31) (q1 q2 q3 : Int) (q4 : Bool) (q5 q6 q7 : Int) (X : Hid (s.r a = x)) (N : n % 4294967296 = u) (N' : IntKind.u32.wrap n = u) 
    (CA : Hid (∀ w, MAt B s v w → Calls Tryz.prog 54 #[.pointer (some ⟨B, 0, none⟩), .agg (cells 17 d a b n)] w fun e w' => e = .returned (.agg (rc q1 q2 q3 q4 q5 q6 q7)) ∧ Nxt B v s' w w')) (w : World) (hM : Hid (MAt B s v w)) :
    Calls Tryz.prog 35 #[.pointer (some ⟨B, 0, none⟩), .agg (cells 17 d a b n), .int .u32 vv] w fun e w' => e = .returned (.agg (rc q1 q2 q3 q4 q5 q6 q7)) ∧ Nxt B v s' w w' := by
  have ca := hM.out.r a (by omega)
  rw [X.out] at ca
  have cp := hM.out.pc
  have c2 := hM.out.c 2 (by decide)
  have hb := hM.out.lt
  have HW := hid (Now.inst hM.out (cells 17 d a b n))
  have BX := hid (Box.inst w (cells 17 d a b n))
  go_enter Tryz.func35, Tryz.ntmps35
  go_wp2_with fail
  go_region
  all_goals
    go_wp2_with fail
    refine (CA.out _ (by exact HW.out.1.alike ⟨rfl, rfl, rfl⟩)).mono ?_
    rintro e w1 ⟨rfl, hN⟩
    obtain ⟨b0, b1, b2, b3, b4, b5, b6, y0, y1, y2, y3, y4, y5, y6⟩ := Box.chg1 (w := _) (by exact BX.out.alike ⟨rfl, rfl, rfl⟩) hM.out (Nat.le_add_right _ 1) hN.chg
    go_wp2_with fail
    refine bodyPost_ret (v := .agg (rc q1 q2 q3 q4 q5 q6 q7)) (by simp [results, Tryz.results35, go_sem, *]) rfl ⟨rfl, ?_⟩
    exact Nxt.ends hM.out (by exact Chg.alike HW.out.2 ⟨rfl, rfl, rfl⟩) hN (Nat.le_add_right _ 1) (by simp) q1 q2 q3 q4 q5 q6 q7
set_option maxRecDepth 100000 in
set_option maxHeartbeats 400000 in
theorem do18 (B : Nat) (s s' : St) (v : Value) (n u x y z vv : Int) (a b d : Nat) (ha : (a : Int) ≤ 31) (q1 q2 q3 : Int) (q4 : Bool) (q5 q6 q7 : Int) (X : Hid (s.r a = x)) (N : n % 4294967296 = u) (N' : IntKind.u32.wrap n = u) 
    (CA : Hid (∀ w, MAt B s v w → Calls Tryz.prog 54 #[.pointer (some ⟨B, 0, none⟩), .agg (cells 18 d a b n)] w fun e w' => e = .returned (.agg (rc q1 q2 q3 q4 q5 q6 q7)) ∧ Nxt B v s' w w')) (w : World) (hM : Hid (MAt B s v w)) :
    Calls Tryz.prog 35 #[.pointer (some ⟨B, 0, none⟩), .agg (cells 18 d a b n), .int .u32 vv] w fun e w' => e = .returned (.agg (rc q1 q2 q3 q4 q5 q6 q7)) ∧ Nxt B v s' w w' := by
  have ca := hM.out.r a (by omega)
  rw [X.out] at ca
  have cp := hM.out.pc
  have c2 := hM.out.c 2 (by decide)
  have hb := hM.out.lt
  have HW := hid (Now.inst hM.out (cells 18 d a b n))
  have BX := hid (Box.inst w (cells 18 d a b n))
  go_enter Tryz.func35, Tryz.ntmps35
  go_wp2_with fail
  go_region
  all_goals
    go_wp2_with fail
    refine (CA.out _ (by exact HW.out.1.alike ⟨rfl, rfl, rfl⟩)).mono ?_
    rintro e w1 ⟨rfl, hN⟩
    obtain ⟨b0, b1, b2, b3, b4, b5, b6, y0, y1, y2, y3, y4, y5, y6⟩ := Box.chg1 (w := _) (by exact BX.out.alike ⟨rfl, rfl, rfl⟩) hM.out (Nat.le_add_right _ 1) hN.chg
    go_wp2_with fail
    refine bodyPost_ret (v := .agg (rc q1 q2 q3 q4 q5 q6 q7)) (by simp [results, Tryz.results35, go_sem, *]) rfl ⟨rfl, ?_⟩
    exact Nxt.ends hM.out (by exact Chg.alike HW.out.2 ⟨rfl, rfl, rfl⟩) hN (Nat.le_add_right _ 1) (by simp) q1 q2 q3 q4 q5 q6 q7
set_option maxRecDepth 100000 in
set_option maxHeartbeats 400000 in
theorem do50 (B : Nat) (s s' : St) (v : Value) (n u x y z vv : Int) (a b d : Nat) (ha : (a : Int) ≤ 31) (q1 q2 q3 : Int) (q4 : Bool) (q5 q6 q7 : Int) (X : Hid (s.r a = x)) (N : n % 4294967296 = u) (N' : IntKind.u32.wrap n = u) 
    (CA : Hid (∀ w, MAt B s v w → Calls Tryz.prog 57 #[.pointer (some ⟨B, 0, none⟩), .agg (cells 50 d a b n), .int .u32 vv] w fun e w' => e = .returned (.agg (rc q1 q2 q3 q4 q5 q6 q7)) ∧ Nxt B v s' w w')) (w : World) (hM : Hid (MAt B s v w)) :
    Calls Tryz.prog 35 #[.pointer (some ⟨B, 0, none⟩), .agg (cells 50 d a b n), .int .u32 vv] w fun e w' => e = .returned (.agg (rc q1 q2 q3 q4 q5 q6 q7)) ∧ Nxt B v s' w w' := by
  have ca := hM.out.r a (by omega)
  rw [X.out] at ca
  have cp := hM.out.pc
  have c2 := hM.out.c 2 (by decide)
  have hb := hM.out.lt
  have HW := hid (Now.inst hM.out (cells 50 d a b n))
  have BX := hid (Box.inst w (cells 50 d a b n))
  go_enter Tryz.func35, Tryz.ntmps35
  go_wp2_with fail
  go_region
  all_goals
    go_wp2_with fail
    refine (CA.out _ (by exact HW.out.1.alike ⟨rfl, rfl, rfl⟩)).mono ?_
    rintro e w1 ⟨rfl, hN⟩
    obtain ⟨b0, b1, b2, b3, b4, b5, b6, y0, y1, y2, y3, y4, y5, y6⟩ := Box.chg1 (w := _) (by exact BX.out.alike ⟨rfl, rfl, rfl⟩) hM.out (Nat.le_add_right _ 1) hN.chg
    go_wp2_with fail
    refine bodyPost_ret (v := .agg (rc q1 q2 q3 q4 q5 q6 q7)) (by simp [results, Tryz.results35, go_sem, *]) rfl ⟨rfl, ?_⟩
    exact Nxt.ends hM.out (by exact Chg.alike HW.out.2 ⟨rfl, rfl, rfl⟩) hN (Nat.le_add_right _ 1) (by simp) q1 q2 q3 q4 q5 q6 q7
set_option maxRecDepth 100000 in
set_option maxHeartbeats 400000 in
theorem do51 (B : Nat) (s s' : St) (v : Value) (n u x y z vv : Int) (a b d : Nat) (ha : (a : Int) ≤ 31) (q1 q2 q3 : Int) (q4 : Bool) (q5 q6 q7 : Int) (X : Hid (s.r a = x)) (N : n % 4294967296 = u) (N' : IntKind.u32.wrap n = u) 
    (CA : Hid (∀ w, MAt B s v w → Calls Tryz.prog 57 #[.pointer (some ⟨B, 0, none⟩), .agg (cells 51 d a b n), .int .u32 vv] w fun e w' => e = .returned (.agg (rc q1 q2 q3 q4 q5 q6 q7)) ∧ Nxt B v s' w w')) (w : World) (hM : Hid (MAt B s v w)) :
    Calls Tryz.prog 35 #[.pointer (some ⟨B, 0, none⟩), .agg (cells 51 d a b n), .int .u32 vv] w fun e w' => e = .returned (.agg (rc q1 q2 q3 q4 q5 q6 q7)) ∧ Nxt B v s' w w' := by
  have ca := hM.out.r a (by omega)
  rw [X.out] at ca
  have cp := hM.out.pc
  have c2 := hM.out.c 2 (by decide)
  have hb := hM.out.lt
  have HW := hid (Now.inst hM.out (cells 51 d a b n))
  have BX := hid (Box.inst w (cells 51 d a b n))
  go_enter Tryz.func35, Tryz.ntmps35
  go_wp2_with fail
  go_region
  all_goals
    go_wp2_with fail
    refine (CA.out _ (by exact HW.out.1.alike ⟨rfl, rfl, rfl⟩)).mono ?_
    rintro e w1 ⟨rfl, hN⟩
    obtain ⟨b0, b1, b2, b3, b4, b5, b6, y0, y1, y2, y3, y4, y5, y6⟩ := Box.chg1 (w := _) (by exact BX.out.alike ⟨rfl, rfl, rfl⟩) hM.out (Nat.le_add_right _ 1) hN.chg
    go_wp2_with fail
    refine bodyPost_ret (v := .agg (rc q1 q2 q3 q4 q5 q6 q7)) (by simp [results, Tryz.results35, go_sem, *]) rfl ⟨rfl, ?_⟩
    exact Nxt.ends hM.out (by exact Chg.alike HW.out.2 ⟨rfl, rfl, rfl⟩) hN (Nat.le_add_right _ 1) (by simp) q1 q2 q3 q4 q5 q6 q7
set_option maxRecDepth 100000 in
set_option maxHeartbeats 400000 in
theorem do52 (B : Nat) (s s' : St) (v : Value) (n u x y z vv : Int) (a b d : Nat) (ha : (a : Int) ≤ 31) (q1 q2 q3 : Int) (q4 : Bool) (q5 q6 q7 : Int) (X : Hid (s.r a = x)) (N : n % 4294967296 = u) (N' : IntKind.u32.wrap n = u) 
    (CA : Hid (∀ w, MAt B s v w → Calls Tryz.prog 57 #[.pointer (some ⟨B, 0, none⟩), .agg (cells 52 d a b n), .int .u32 vv] w fun e w' => e = .returned (.agg (rc q1 q2 q3 q4 q5 q6 q7)) ∧ Nxt B v s' w w')) (w : World) (hM : Hid (MAt B s v w)) :
    Calls Tryz.prog 35 #[.pointer (some ⟨B, 0, none⟩), .agg (cells 52 d a b n), .int .u32 vv] w fun e w' => e = .returned (.agg (rc q1 q2 q3 q4 q5 q6 q7)) ∧ Nxt B v s' w w' := by
  have ca := hM.out.r a (by omega)
  rw [X.out] at ca
  have cp := hM.out.pc
  have c2 := hM.out.c 2 (by decide)
  have hb := hM.out.lt
  have HW := hid (Now.inst hM.out (cells 52 d a b n))
  have BX := hid (Box.inst w (cells 52 d a b n))
  go_enter Tryz.func35, Tryz.ntmps35
  go_wp2_with fail
  go_region
  all_goals
    go_wp2_with fail
    refine (CA.out _ (by exact HW.out.1.alike ⟨rfl, rfl, rfl⟩)).mono ?_
    rintro e w1 ⟨rfl, hN⟩
    obtain ⟨b0, b1, b2, b3, b4, b5, b6, y0, y1, y2, y3, y4, y5, y6⟩ := Box.chg1 (w := _) (by exact BX.out.alike ⟨rfl, rfl, rfl⟩) hM.out (Nat.le_add_right _ 1) hN.chg
    go_wp2_with fail
    refine bodyPost_ret (v := .agg (rc q1 q2 q3 q4 q5 q6 q7)) (by simp [results, Tryz.results35, go_sem, *]) rfl ⟨rfl, ?_⟩
    exact Nxt.ends hM.out (by exact Chg.alike HW.out.2 ⟨rfl, rfl, rfl⟩) hN (Nat.le_add_right _ 1) (by simp) q1 q2 q3 q4 q5 q6 q7
set_option maxRecDepth 100000 in
set_option maxHeartbeats 400000 in
theorem do53 (B : Nat) (s s' : St) (v : Value) (n u x y z vv : Int) (a b d : Nat) (ha : (a : Int) ≤ 31) (q1 q2 q3 : Int) (q4 : Bool) (q5 q6 q7 : Int) (X : Hid (s.r a = x)) (N : n % 4294967296 = u) (N' : IntKind.u32.wrap n = u) 
    (CA : Hid (∀ w, MAt B s v w → Calls Tryz.prog 57 #[.pointer (some ⟨B, 0, none⟩), .agg (cells 53 d a b n), .int .u32 vv] w fun e w' => e = .returned (.agg (rc q1 q2 q3 q4 q5 q6 q7)) ∧ Nxt B v s' w w')) (w : World) (hM : Hid (MAt B s v w)) :
    Calls Tryz.prog 35 #[.pointer (some ⟨B, 0, none⟩), .agg (cells 53 d a b n), .int .u32 vv] w fun e w' => e = .returned (.agg (rc q1 q2 q3 q4 q5 q6 q7)) ∧ Nxt B v s' w w' := by
  have ca := hM.out.r a (by omega)
  rw [X.out] at ca
  have cp := hM.out.pc
  have c2 := hM.out.c 2 (by decide)
  have hb := hM.out.lt
  have HW := hid (Now.inst hM.out (cells 53 d a b n))
  have BX := hid (Box.inst w (cells 53 d a b n))
  go_enter Tryz.func35, Tryz.ntmps35
  go_wp2_with fail
  go_region
  all_goals
    go_wp2_with fail
    refine (CA.out _ (by exact HW.out.1.alike ⟨rfl, rfl, rfl⟩)).mono ?_
    rintro e w1 ⟨rfl, hN⟩
    obtain ⟨b0, b1, b2, b3, b4, b5, b6, y0, y1, y2, y3, y4, y5, y6⟩ := Box.chg1 (w := _) (by exact BX.out.alike ⟨rfl, rfl, rfl⟩) hM.out (Nat.le_add_right _ 1) hN.chg
    go_wp2_with fail
    refine bodyPost_ret (v := .agg (rc q1 q2 q3 q4 q5 q6 q7)) (by simp [results, Tryz.results35, go_sem, *]) rfl ⟨rfl, ?_⟩
    exact Nxt.ends hM.out (by exact Chg.alike HW.out.2 ⟨rfl, rfl, rfl⟩) hN (Nat.le_add_right _ 1) (by simp) q1 q2 q3 q4 q5 q6 q7
set_option maxRecDepth 100000 in
set_option maxHeartbeats 400000 in
theorem do54 (B : Nat) (s s' : St) (v : Value) (n u x y z vv : Int) (a b d : Nat) (ha : (a : Int) ≤ 31) (q1 q2 q3 : Int) (q4 : Bool) (q5 q6 q7 : Int) (X : Hid (s.r a = x)) (N : n % 4294967296 = u) (N' : IntKind.u32.wrap n = u) 
    (CA : Hid (∀ w, MAt B s v w → Calls Tryz.prog 57 #[.pointer (some ⟨B, 0, none⟩), .agg (cells 54 d a b n), .int .u32 vv] w fun e w' => e = .returned (.agg (rc q1 q2 q3 q4 q5 q6 q7)) ∧ Nxt B v s' w w')) (w : World) (hM : Hid (MAt B s v w)) :
    Calls Tryz.prog 35 #[.pointer (some ⟨B, 0, none⟩), .agg (cells 54 d a b n), .int .u32 vv] w fun e w' => e = .returned (.agg (rc q1 q2 q3 q4 q5 q6 q7)) ∧ Nxt B v s' w w' := by
  have ca := hM.out.r a (by omega)
  rw [X.out] at ca
  have cp := hM.out.pc
  have c2 := hM.out.c 2 (by decide)
  have hb := hM.out.lt
  have HW := hid (Now.inst hM.out (cells 54 d a b n))
  have BX := hid (Box.inst w (cells 54 d a b n))
  go_enter Tryz.func35, Tryz.ntmps35
  go_wp2_with fail
  go_region
  all_goals
    go_wp2_with fail
    refine (CA.out _ (by exact HW.out.1.alike ⟨rfl, rfl, rfl⟩)).mono ?_
    rintro e w1 ⟨rfl, hN⟩
    obtain ⟨b0, b1, b2, b3, b4, b5, b6, y0, y1, y2, y3, y4, y5, y6⟩ := Box.chg1 (w := _) (by exact BX.out.alike ⟨rfl, rfl, rfl⟩) hM.out (Nat.le_add_right _ 1) hN.chg
    go_wp2_with fail
    refine bodyPost_ret (v := .agg (rc q1 q2 q3 q4 q5 q6 q7)) (by simp [results, Tryz.results35, go_sem, *]) rfl ⟨rfl, ?_⟩
    exact Nxt.ends hM.out (by exact Chg.alike HW.out.2 ⟨rfl, rfl, rfl⟩) hN (Nat.le_add_right _ 1) (by simp) q1 q2 q3 q4 q5 q6 q7
set_option maxRecDepth 100000 in
set_option maxHeartbeats 400000 in
theorem do55 (B : Nat) (s s' : St) (v : Value) (n u x y z vv : Int) (a b d : Nat) (ha : (a : Int) ≤ 31) (q1 q2 q3 : Int) (q4 : Bool) (q5 q6 q7 : Int) (X : Hid (s.r a = x)) (N : n % 4294967296 = u) (N' : IntKind.u32.wrap n = u) 
    (CA : Hid (∀ w, MAt B s v w → Calls Tryz.prog 57 #[.pointer (some ⟨B, 0, none⟩), .agg (cells 55 d a b n), .int .u32 vv] w fun e w' => e = .returned (.agg (rc q1 q2 q3 q4 q5 q6 q7)) ∧ Nxt B v s' w w')) (w : World) (hM : Hid (MAt B s v w)) :
    Calls Tryz.prog 35 #[.pointer (some ⟨B, 0, none⟩), .agg (cells 55 d a b n), .int .u32 vv] w fun e w' => e = .returned (.agg (rc q1 q2 q3 q4 q5 q6 q7)) ∧ Nxt B v s' w w' := by
  have ca := hM.out.r a (by omega)
  rw [X.out] at ca
  have cp := hM.out.pc
  have c2 := hM.out.c 2 (by decide)
  have hb := hM.out.lt
  have HW := hid (Now.inst hM.out (cells 55 d a b n))
  have BX := hid (Box.inst w (cells 55 d a b n))
  go_enter Tryz.func35, Tryz.ntmps35
  go_wp2_with fail
  go_region
  all_goals
    go_wp2_with fail
    refine (CA.out _ (by exact HW.out.1.alike ⟨rfl, rfl, rfl⟩)).mono ?_
    rintro e w1 ⟨rfl, hN⟩
    obtain ⟨b0, b1, b2, b3, b4, b5, b6, y0, y1, y2, y3, y4, y5, y6⟩ := Box.chg1 (w := _) (by exact BX.out.alike ⟨rfl, rfl, rfl⟩) hM.out (Nat.le_add_right _ 1) hN.chg
    go_wp2_with fail
    refine bodyPost_ret (v := .agg (rc q1 q2 q3 q4 q5 q6 q7)) (by simp [results, Tryz.results35, go_sem, *]) rfl ⟨rfl, ?_⟩
    exact Nxt.ends hM.out (by exact Chg.alike HW.out.2 ⟨rfl, rfl, rfl⟩) hN (Nat.le_add_right _ 1) (by simp) q1 q2 q3 q4 q5 q6 q7
end Go.Proofs.YtpkbkbllhpdfiaaGreat.M
