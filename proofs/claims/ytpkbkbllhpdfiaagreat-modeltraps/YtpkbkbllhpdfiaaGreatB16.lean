/- DoC: The program's do, op by op: what it calls, in which words. -/
import Derived.Test.YtpkbkbllhpdfiaaGreatB09
namespace Go.Proofs.YtpkbkbllhpdfiaaGreat.M
open Go.ChangeShapes Go.WideShapes Go.ChangeAt Go.RowKit Go.Proofs.YtpkbkbllhpdfiaaGreat.Walks Go.Proofs.YtpkbkbllhpdfiaaGreat.Mod
set_option linter.unusedVariables false
set_option maxRecDepth 100000 in
set_option maxHeartbeats 400000 in
theorem do19 (B : Nat) (s s' : St) (v : Value) (n u x y z vv : Int) (a b d : Nat) (ha : (a : Int) ≤ 31) (q1 q2 q3 : Int) (q4 : Bool) (q5 q6 q7 : Int) (X : Hid (s.r a = x)) (N : n % 4294967296 = u) (N' : IntKind.u32.wrap n = u) (x0 : Hid (0 ≤ x ∧ x ≤ 4294967295)) (u0 : Hid (0 ≤ u ∧ u ≤ 4294967295)) (Z : Hid (U.Num.ad 19 x u = z)) 
    (CA : Hid (∀ w, MAt B s v w → Calls Tryz.prog 50 #[.pointer (some ⟨B, 0, none⟩), .int .i64 (d : Int), .int .u32 z] w fun e w' => e = .returned (.agg (rc q1 q2 q3 q4 q5 q6 q7)) ∧ Nxt B v s' w w')) (w : World) (hM : Hid (MAt B s v w)) :
    Calls Tryz.prog 35 #[.pointer (some ⟨B, 0, none⟩), .agg (cells 19 d a b n), .int .u32 vv] w fun e w' => e = .returned (.agg (rc q1 q2 q3 q4 q5 q6 q7)) ∧ Nxt B v s' w w' := by
  have ca := hM.out.r a (by omega)
  rw [X.out] at ca
  have cp := hM.out.pc
  have c2 := hM.out.c 2 (by decide)
  have hb := hM.out.lt
  have HW := hid (Now.inst hM.out (cells 19 d a b n))
  have BX := hid (Box.inst w (cells 19 d a b n))
  go_enter Tryz.func35, Tryz.ntmps35
  go_wp2_with fail
  go_region
  all_goals
    go_wp2_with fail
    go_region_with (first | (go_at_call 55; refine (U.Walks.do_as _ _ _ _ x0.out.1 x0.out.2 u0.out.1 u0.out.2 Z _).mono ?_; rintro e w1 ⟨rfl, rfl⟩) | (go_at_call 50; refine (CA.out _ (by exact HW.out.1.alike ⟨rfl, rfl, rfl⟩)).mono ?_; rintro e w1 ⟨rfl, hN⟩; obtain ⟨b0, b1, b2, b3, b4, b5, b6, y0, y1, y2, y3, y4, y5, y6⟩ := Box.chg1 (w := _) (by exact BX.out.alike ⟨rfl, rfl, rfl⟩) hM.out (Nat.le_add_right _ 1) hN.chg))
    all_goals
      go_wp2_with fail
      refine bodyPost_ret (v := .agg (rc q1 q2 q3 q4 q5 q6 q7)) (by simp [results, Tryz.results35, go_sem, *]) rfl ⟨rfl, ?_⟩
      exact Nxt.ends hM.out (by exact Chg.alike HW.out.2 ⟨rfl, rfl, rfl⟩) hN (Nat.le_add_right _ 1) (by simp) q1 q2 q3 q4 q5 q6 q7
set_option maxRecDepth 100000 in
set_option maxHeartbeats 400000 in
theorem do20 (B : Nat) (s s' : St) (v : Value) (n u x y z vv : Int) (a b d : Nat) (ha : (a : Int) ≤ 31) (q1 q2 q3 : Int) (q4 : Bool) (q5 q6 q7 : Int) (X : Hid (s.r a = x)) (N : n % 4294967296 = u) (N' : IntKind.u32.wrap n = u) (x0 : Hid (0 ≤ x ∧ x ≤ 4294967295)) (u0 : Hid (0 ≤ u ∧ u ≤ 4294967295)) (Z : Hid (U.Num.ad 20 x u = z)) 
    (CA : Hid (∀ w, MAt B s v w → Calls Tryz.prog 50 #[.pointer (some ⟨B, 0, none⟩), .int .i64 (d : Int), .int .u32 z] w fun e w' => e = .returned (.agg (rc q1 q2 q3 q4 q5 q6 q7)) ∧ Nxt B v s' w w')) (w : World) (hM : Hid (MAt B s v w)) :
    Calls Tryz.prog 35 #[.pointer (some ⟨B, 0, none⟩), .agg (cells 20 d a b n), .int .u32 vv] w fun e w' => e = .returned (.agg (rc q1 q2 q3 q4 q5 q6 q7)) ∧ Nxt B v s' w w' := by
  have ca := hM.out.r a (by omega)
  rw [X.out] at ca
  have cp := hM.out.pc
  have c2 := hM.out.c 2 (by decide)
  have hb := hM.out.lt
  have HW := hid (Now.inst hM.out (cells 20 d a b n))
  have BX := hid (Box.inst w (cells 20 d a b n))
  go_enter Tryz.func35, Tryz.ntmps35
  go_wp2_with fail
  go_region
  all_goals
    go_wp2_with fail
    go_region_with (first | (go_at_call 55; refine (U.Walks.do_as _ _ _ _ x0.out.1 x0.out.2 u0.out.1 u0.out.2 Z _).mono ?_; rintro e w1 ⟨rfl, rfl⟩) | (go_at_call 50; refine (CA.out _ (by exact HW.out.1.alike ⟨rfl, rfl, rfl⟩)).mono ?_; rintro e w1 ⟨rfl, hN⟩; obtain ⟨b0, b1, b2, b3, b4, b5, b6, y0, y1, y2, y3, y4, y5, y6⟩ := Box.chg1 (w := _) (by exact BX.out.alike ⟨rfl, rfl, rfl⟩) hM.out (Nat.le_add_right _ 1) hN.chg))
    all_goals
      go_wp2_with fail
      refine bodyPost_ret (v := .agg (rc q1 q2 q3 q4 q5 q6 q7)) (by simp [results, Tryz.results35, go_sem, *]) rfl ⟨rfl, ?_⟩
      exact Nxt.ends hM.out (by exact Chg.alike HW.out.2 ⟨rfl, rfl, rfl⟩) hN (Nat.le_add_right _ 1) (by simp) q1 q2 q3 q4 q5 q6 q7
set_option maxRecDepth 100000 in
set_option maxHeartbeats 400000 in
theorem do21 (B : Nat) (s s' : St) (v : Value) (n u x y z vv : Int) (a b d : Nat) (ha : (a : Int) ≤ 31) (q1 q2 q3 : Int) (q4 : Bool) (q5 q6 q7 : Int) (X : Hid (s.r a = x)) (N : n % 4294967296 = u) (N' : IntKind.u32.wrap n = u) (x0 : Hid (0 ≤ x ∧ x ≤ 4294967295)) (u0 : Hid (0 ≤ u ∧ u ≤ 4294967295)) (Z : Hid (U.Num.ad 21 x u = z)) 
    (CA : Hid (∀ w, MAt B s v w → Calls Tryz.prog 50 #[.pointer (some ⟨B, 0, none⟩), .int .i64 (d : Int), .int .u32 z] w fun e w' => e = .returned (.agg (rc q1 q2 q3 q4 q5 q6 q7)) ∧ Nxt B v s' w w')) (w : World) (hM : Hid (MAt B s v w)) :
    Calls Tryz.prog 35 #[.pointer (some ⟨B, 0, none⟩), .agg (cells 21 d a b n), .int .u32 vv] w fun e w' => e = .returned (.agg (rc q1 q2 q3 q4 q5 q6 q7)) ∧ Nxt B v s' w w' := by
  have ca := hM.out.r a (by omega)
  rw [X.out] at ca
  have cp := hM.out.pc
  have c2 := hM.out.c 2 (by decide)
  have hb := hM.out.lt
  have HW := hid (Now.inst hM.out (cells 21 d a b n))
  have BX := hid (Box.inst w (cells 21 d a b n))
  go_enter Tryz.func35, Tryz.ntmps35
  go_wp2_with fail
  go_region
  all_goals
    go_wp2_with fail
    go_region_with (first | (go_at_call 55; refine (U.Walks.do_as _ _ _ _ x0.out.1 x0.out.2 u0.out.1 u0.out.2 Z _).mono ?_; rintro e w1 ⟨rfl, rfl⟩) | (go_at_call 50; refine (CA.out _ (by exact HW.out.1.alike ⟨rfl, rfl, rfl⟩)).mono ?_; rintro e w1 ⟨rfl, hN⟩; obtain ⟨b0, b1, b2, b3, b4, b5, b6, y0, y1, y2, y3, y4, y5, y6⟩ := Box.chg1 (w := _) (by exact BX.out.alike ⟨rfl, rfl, rfl⟩) hM.out (Nat.le_add_right _ 1) hN.chg))
    all_goals
      go_wp2_with fail
      refine bodyPost_ret (v := .agg (rc q1 q2 q3 q4 q5 q6 q7)) (by simp [results, Tryz.results35, go_sem, *]) rfl ⟨rfl, ?_⟩
      exact Nxt.ends hM.out (by exact Chg.alike HW.out.2 ⟨rfl, rfl, rfl⟩) hN (Nat.le_add_right _ 1) (by simp) q1 q2 q3 q4 q5 q6 q7
set_option maxRecDepth 100000 in
set_option maxHeartbeats 400000 in
theorem do22 (B : Nat) (s s' : St) (v : Value) (n u x y z vv : Int) (a b d : Nat) (ha : (a : Int) ≤ 31) (q1 q2 q3 : Int) (q4 : Bool) (q5 q6 q7 : Int) (X : Hid (s.r a = x)) (N : n % 4294967296 = u) (N' : IntKind.u32.wrap n = u) (x0 : Hid (0 ≤ x ∧ x ≤ 4294967295)) (u0 : Hid (0 ≤ u ∧ u ≤ 4294967295)) (Z : Hid (U.Num.ad 22 x u = z)) 
    (CA : Hid (∀ w, MAt B s v w → Calls Tryz.prog 50 #[.pointer (some ⟨B, 0, none⟩), .int .i64 (d : Int), .int .u32 z] w fun e w' => e = .returned (.agg (rc q1 q2 q3 q4 q5 q6 q7)) ∧ Nxt B v s' w w')) (w : World) (hM : Hid (MAt B s v w)) :
    Calls Tryz.prog 35 #[.pointer (some ⟨B, 0, none⟩), .agg (cells 22 d a b n), .int .u32 vv] w fun e w' => e = .returned (.agg (rc q1 q2 q3 q4 q5 q6 q7)) ∧ Nxt B v s' w w' := by
  have ca := hM.out.r a (by omega)
  rw [X.out] at ca
  have cp := hM.out.pc
  have c2 := hM.out.c 2 (by decide)
  have hb := hM.out.lt
  have HW := hid (Now.inst hM.out (cells 22 d a b n))
  have BX := hid (Box.inst w (cells 22 d a b n))
  go_enter Tryz.func35, Tryz.ntmps35
  go_wp2_with fail
  go_region
  all_goals
    go_wp2_with fail
    go_region_with (first | (go_at_call 55; refine (U.Walks.do_as _ _ _ _ x0.out.1 x0.out.2 u0.out.1 u0.out.2 Z _).mono ?_; rintro e w1 ⟨rfl, rfl⟩) | (go_at_call 50; refine (CA.out _ (by exact HW.out.1.alike ⟨rfl, rfl, rfl⟩)).mono ?_; rintro e w1 ⟨rfl, hN⟩; obtain ⟨b0, b1, b2, b3, b4, b5, b6, y0, y1, y2, y3, y4, y5, y6⟩ := Box.chg1 (w := _) (by exact BX.out.alike ⟨rfl, rfl, rfl⟩) hM.out (Nat.le_add_right _ 1) hN.chg))
    all_goals
      go_wp2_with fail
      refine bodyPost_ret (v := .agg (rc q1 q2 q3 q4 q5 q6 q7)) (by simp [results, Tryz.results35, go_sem, *]) rfl ⟨rfl, ?_⟩
      exact Nxt.ends hM.out (by exact Chg.alike HW.out.2 ⟨rfl, rfl, rfl⟩) hN (Nat.le_add_right _ 1) (by simp) q1 q2 q3 q4 q5 q6 q7
set_option maxRecDepth 100000 in
set_option maxHeartbeats 400000 in
theorem do23 (B : Nat) (s s' : St) (v : Value) (n u x y z vv : Int) (a b d : Nat) (ha : (a : Int) ≤ 31) (q1 q2 q3 : Int) (q4 : Bool) (q5 q6 q7 : Int) (X : Hid (s.r a = x)) (N : n % 4294967296 = u) (N' : IntKind.u32.wrap n = u) (x0 : Hid (0 ≤ x ∧ x ≤ 4294967295)) (u0 : Hid (0 ≤ u ∧ u ≤ 4294967295)) (Z : Hid (U.Num.ad 23 x u = z)) 
    (CA : Hid (∀ w, MAt B s v w → Calls Tryz.prog 50 #[.pointer (some ⟨B, 0, none⟩), .int .i64 (d : Int), .int .u32 z] w fun e w' => e = .returned (.agg (rc q1 q2 q3 q4 q5 q6 q7)) ∧ Nxt B v s' w w')) (w : World) (hM : Hid (MAt B s v w)) :
    Calls Tryz.prog 35 #[.pointer (some ⟨B, 0, none⟩), .agg (cells 23 d a b n), .int .u32 vv] w fun e w' => e = .returned (.agg (rc q1 q2 q3 q4 q5 q6 q7)) ∧ Nxt B v s' w w' := by
  have ca := hM.out.r a (by omega)
  rw [X.out] at ca
  have cp := hM.out.pc
  have c2 := hM.out.c 2 (by decide)
  have hb := hM.out.lt
  have HW := hid (Now.inst hM.out (cells 23 d a b n))
  have BX := hid (Box.inst w (cells 23 d a b n))
  go_enter Tryz.func35, Tryz.ntmps35
  go_wp2_with fail
  go_region
  all_goals
    go_wp2_with fail
    go_region_with (first | (go_at_call 55; refine (U.Walks.do_as _ _ _ _ x0.out.1 x0.out.2 u0.out.1 u0.out.2 Z _).mono ?_; rintro e w1 ⟨rfl, rfl⟩) | (go_at_call 50; refine (CA.out _ (by exact HW.out.1.alike ⟨rfl, rfl, rfl⟩)).mono ?_; rintro e w1 ⟨rfl, hN⟩; obtain ⟨b0, b1, b2, b3, b4, b5, b6, y0, y1, y2, y3, y4, y5, y6⟩ := Box.chg1 (w := _) (by exact BX.out.alike ⟨rfl, rfl, rfl⟩) hM.out (Nat.le_add_right _ 1) hN.chg))
    all_goals
      go_wp2_with fail
      refine bodyPost_ret (v := .agg (rc q1 q2 q3 q4 q5 q6 q7)) (by simp [results, Tryz.results35, go_sem, *]) rfl ⟨rfl, ?_⟩
      exact Nxt.ends hM.out (by exact Chg.alike HW.out.2 ⟨rfl, rfl, rfl⟩) hN (Nat.le_add_right _ 1) (by simp) q1 q2 q3 q4 q5 q6 q7
set_option maxRecDepth 100000 in
set_option maxHeartbeats 400000 in
theorem do24 (B : Nat) (s s' : St) (v : Value) (n u x y z vv : Int) (a b d : Nat) (ha : (a : Int) ≤ 31) (q1 q2 q3 : Int) (q4 : Bool) (q5 q6 q7 : Int) (X : Hid (s.r a = x)) (N : n % 4294967296 = u) (N' : IntKind.u32.wrap n = u) (x0 : Hid (0 ≤ x ∧ x ≤ 4294967295)) (u0 : Hid (0 ≤ u ∧ u ≤ 4294967295)) (Z : Hid (U.Num.ad 24 x u = z)) 
    (CA : Hid (∀ w, MAt B s v w → Calls Tryz.prog 50 #[.pointer (some ⟨B, 0, none⟩), .int .i64 (d : Int), .int .u32 z] w fun e w' => e = .returned (.agg (rc q1 q2 q3 q4 q5 q6 q7)) ∧ Nxt B v s' w w')) (w : World) (hM : Hid (MAt B s v w)) :
    Calls Tryz.prog 35 #[.pointer (some ⟨B, 0, none⟩), .agg (cells 24 d a b n), .int .u32 vv] w fun e w' => e = .returned (.agg (rc q1 q2 q3 q4 q5 q6 q7)) ∧ Nxt B v s' w w' := by
  have ca := hM.out.r a (by omega)
  rw [X.out] at ca
  have cp := hM.out.pc
  have c2 := hM.out.c 2 (by decide)
  have hb := hM.out.lt
  have HW := hid (Now.inst hM.out (cells 24 d a b n))
  have BX := hid (Box.inst w (cells 24 d a b n))
  go_enter Tryz.func35, Tryz.ntmps35
  go_wp2_with fail
  go_region
  all_goals
    go_wp2_with fail
    go_region_with (first | (go_at_call 55; refine (U.Walks.do_as _ _ _ _ x0.out.1 x0.out.2 u0.out.1 u0.out.2 Z _).mono ?_; rintro e w1 ⟨rfl, rfl⟩) | (go_at_call 50; refine (CA.out _ (by exact HW.out.1.alike ⟨rfl, rfl, rfl⟩)).mono ?_; rintro e w1 ⟨rfl, hN⟩; obtain ⟨b0, b1, b2, b3, b4, b5, b6, y0, y1, y2, y3, y4, y5, y6⟩ := Box.chg1 (w := _) (by exact BX.out.alike ⟨rfl, rfl, rfl⟩) hM.out (Nat.le_add_right _ 1) hN.chg))
    all_goals
      go_wp2_with fail
      refine bodyPost_ret (v := .agg (rc q1 q2 q3 q4 q5 q6 q7)) (by simp [results, Tryz.results35, go_sem, *]) rfl ⟨rfl, ?_⟩
      exact Nxt.ends hM.out (by exact Chg.alike HW.out.2 ⟨rfl, rfl, rfl⟩) hN (Nat.le_add_right _ 1) (by simp) q1 q2 q3 q4 q5 q6 q7
set_option maxRecDepth 100000 in
set_option maxHeartbeats 400000 in
theorem do25 (B : Nat) (s s' : St) (v : Value) (n u x y z vv : Int) (a b d : Nat) (ha : (a : Int) ≤ 31) (q1 q2 q3 : Int) (q4 : Bool) (q5 q6 q7 : Int) (X : Hid (s.r a = x)) (N : n % 4294967296 = u) (N' : IntKind.u32.wrap n = u) (x0 : Hid (0 ≤ x ∧ x ≤ 4294967295)) (u0 : Hid (0 ≤ u ∧ u ≤ 4294967295)) (Z : Hid (U.Num.ad 25 x u = z)) 
    (CA : Hid (∀ w, MAt B s v w → Calls Tryz.prog 50 #[.pointer (some ⟨B, 0, none⟩), .int .i64 (d : Int), .int .u32 z] w fun e w' => e = .returned (.agg (rc q1 q2 q3 q4 q5 q6 q7)) ∧ Nxt B v s' w w')) (w : World) (hM : Hid (MAt B s v w)) :
    Calls Tryz.prog 35 #[.pointer (some ⟨B, 0, none⟩), .agg (cells 25 d a b n), .int .u32 vv] w fun e w' => e = .returned (.agg (rc q1 q2 q3 q4 q5 q6 q7)) ∧ Nxt B v s' w w' := by
  have ca := hM.out.r a (by omega)
  rw [X.out] at ca
  have cp := hM.out.pc
  have c2 := hM.out.c 2 (by decide)
  have hb := hM.out.lt
  have HW := hid (Now.inst hM.out (cells 25 d a b n))
  have BX := hid (Box.inst w (cells 25 d a b n))
  go_enter Tryz.func35, Tryz.ntmps35
  go_wp2_with fail
  go_region
  all_goals
    go_wp2_with fail
    go_region_with (first | (go_at_call 55; refine (U.Walks.do_as _ _ _ _ x0.out.1 x0.out.2 u0.out.1 u0.out.2 Z _).mono ?_; rintro e w1 ⟨rfl, rfl⟩) | (go_at_call 50; refine (CA.out _ (by exact HW.out.1.alike ⟨rfl, rfl, rfl⟩)).mono ?_; rintro e w1 ⟨rfl, hN⟩; obtain ⟨b0, b1, b2, b3, b4, b5, b6, y0, y1, y2, y3, y4, y5, y6⟩ := Box.chg1 (w := _) (by exact BX.out.alike ⟨rfl, rfl, rfl⟩) hM.out (Nat.le_add_right _ 1) hN.chg))
    all_goals
      go_wp2_with fail
      refine bodyPost_ret (v := .agg (rc q1 q2 q3 q4 q5 q6 q7)) (by simp [results, Tryz.results35, go_sem, *]) rfl ⟨rfl, ?_⟩
      exact Nxt.ends hM.out (by exact Chg.alike HW.out.2 ⟨rfl, rfl, rfl⟩) hN (Nat.le_add_right _ 1) (by simp) q1 q2 q3 q4 q5 q6 q7
set_option maxRecDepth 100000 in
set_option maxHeartbeats 400000 in
theorem do26 (B : Nat) (s s' : St) (v : Value) (n u x y z vv : Int) (a b d : Nat) (ha : (a : Int) ≤ 31) (q1 q2 q3 : Int) (q4 : Bool) (q5 q6 q7 : Int) (X : Hid (s.r a = x)) (N : n % 4294967296 = u) (N' : IntKind.u32.wrap n = u) (x0 : Hid (0 ≤ x ∧ x ≤ 4294967295)) (u0 : Hid (0 ≤ u ∧ u ≤ 4294967295)) (Z : Hid (U.Num.ad 26 x u = z)) 
    (CA : Hid (∀ w, MAt B s v w → Calls Tryz.prog 50 #[.pointer (some ⟨B, 0, none⟩), .int .i64 (d : Int), .int .u32 z] w fun e w' => e = .returned (.agg (rc q1 q2 q3 q4 q5 q6 q7)) ∧ Nxt B v s' w w')) (w : World) (hM : Hid (MAt B s v w)) :
    Calls Tryz.prog 35 #[.pointer (some ⟨B, 0, none⟩), .agg (cells 26 d a b n), .int .u32 vv] w fun e w' => e = .returned (.agg (rc q1 q2 q3 q4 q5 q6 q7)) ∧ Nxt B v s' w w' := by
  have ca := hM.out.r a (by omega)
  rw [X.out] at ca
  have cp := hM.out.pc
  have c2 := hM.out.c 2 (by decide)
  have hb := hM.out.lt
  have HW := hid (Now.inst hM.out (cells 26 d a b n))
  have BX := hid (Box.inst w (cells 26 d a b n))
  go_enter Tryz.func35, Tryz.ntmps35
  go_wp2_with fail
  go_region
  all_goals
    go_wp2_with fail
    go_region_with (first | (go_at_call 55; refine (U.Walks.do_as _ _ _ _ x0.out.1 x0.out.2 u0.out.1 u0.out.2 Z _).mono ?_; rintro e w1 ⟨rfl, rfl⟩) | (go_at_call 50; refine (CA.out _ (by exact HW.out.1.alike ⟨rfl, rfl, rfl⟩)).mono ?_; rintro e w1 ⟨rfl, hN⟩; obtain ⟨b0, b1, b2, b3, b4, b5, b6, y0, y1, y2, y3, y4, y5, y6⟩ := Box.chg1 (w := _) (by exact BX.out.alike ⟨rfl, rfl, rfl⟩) hM.out (Nat.le_add_right _ 1) hN.chg))
    all_goals
      go_wp2_with fail
      refine bodyPost_ret (v := .agg (rc q1 q2 q3 q4 q5 q6 q7)) (by simp [results, Tryz.results35, go_sem, *]) rfl ⟨rfl, ?_⟩
      exact Nxt.ends hM.out (by exact Chg.alike HW.out.2 ⟨rfl, rfl, rfl⟩) hN (Nat.le_add_right _ 1) (by simp) q1 q2 q3 q4 q5 q6 q7
set_option maxRecDepth 100000 in
set_option maxHeartbeats 400000 in
theorem do27 (B : Nat) (s s' : St) (v : Value) (n u x y z vv : Int) (a b d : Nat) (ha : (a : Int) ≤ 31) (q1 q2 q3 : Int) (q4 : Bool) (q5 q6 q7 : Int) (X : Hid (s.r a = x)) (N : n % 4294967296 = u) (N' : IntKind.u32.wrap n = u) (x0 : Hid (0 ≤ x ∧ x ≤ 4294967295)) (u0 : Hid (0 ≤ u ∧ u ≤ 4294967295)) (Z : Hid (U.Num.ad 27 x u = z)) 
    (CA : Hid (∀ w, MAt B s v w → Calls Tryz.prog 50 #[.pointer (some ⟨B, 0, none⟩), .int .i64 (d : Int), .int .u32 z] w fun e w' => e = .returned (.agg (rc q1 q2 q3 q4 q5 q6 q7)) ∧ Nxt B v s' w w')) (w : World) (hM : Hid (MAt B s v w)) :
    Calls Tryz.prog 35 #[.pointer (some ⟨B, 0, none⟩), .agg (cells 27 d a b n), .int .u32 vv] w fun e w' => e = .returned (.agg (rc q1 q2 q3 q4 q5 q6 q7)) ∧ Nxt B v s' w w' := by
  have ca := hM.out.r a (by omega)
  rw [X.out] at ca
  have cp := hM.out.pc
  have c2 := hM.out.c 2 (by decide)
  have hb := hM.out.lt
  have HW := hid (Now.inst hM.out (cells 27 d a b n))
  have BX := hid (Box.inst w (cells 27 d a b n))
  go_enter Tryz.func35, Tryz.ntmps35
  go_wp2_with fail
  go_region
  all_goals
    go_wp2_with fail
    go_region_with (first | (go_at_call 55; refine (U.Walks.do_as _ _ _ _ x0.out.1 x0.out.2 u0.out.1 u0.out.2 Z _).mono ?_; rintro e w1 ⟨rfl, rfl⟩) | (go_at_call 50; refine (CA.out _ (by exact HW.out.1.alike ⟨rfl, rfl, rfl⟩)).mono ?_; rintro e w1 ⟨rfl, hN⟩; obtain ⟨b0, b1, b2, b3, b4, b5, b6, y0, y1, y2, y3, y4, y5, y6⟩ := Box.chg1 (w := _) (by exact BX.out.alike ⟨rfl, rfl, rfl⟩) hM.out (Nat.le_add_right _ 1) hN.chg))
    all_goals
      go_wp2_with fail
      refine bodyPost_ret (v := .agg (rc q1 q2 q3 q4 q5 q6 q7)) (by simp [results, Tryz.results35, go_sem, *]) rfl ⟨rfl, ?_⟩
      exact Nxt.ends hM.out (by exact Chg.alike HW.out.2 ⟨rfl, rfl, rfl⟩) hN (Nat.le_add_right _ 1) (by simp) q1 q2 q3 q4 q5 q6 q7
end Go.Proofs.YtpkbkbllhpdfiaaGreat.M
