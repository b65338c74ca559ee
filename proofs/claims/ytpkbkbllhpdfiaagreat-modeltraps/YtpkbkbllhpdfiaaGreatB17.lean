/- DoL: The program's do, op by op: what it calls, in which words. -/
import Derived.Test.YtpkbkbllhpdfiaaGreatB09
namespace Go.Proofs.YtpkbkbllhpdfiaaGreat.M
open Go.ChangeShapes Go.WideShapes Go.ChangeAt Go.RowKit Go.Proofs.YtpkbkbllhpdfiaaGreat.Walks Go.Proofs.YtpkbkbllhpdfiaaGreat.Mod
set_option linter.unusedVariables false
set_option maxRecDepth 100000 in
set_option maxHeartbeats 8000000 in
theorem doR (o : Int) (g1 : (o == 1) = false) (g2 : (o == 2) = false) (g3 : (o == 3) = false) (g4 : (o == 4) = false) (g5 : (o == 5) = false) (g6 : (o == 6) = false) (g7 : (o == 7) = false) (g8 : (o == 8) = false) (g9 : (o == 9) = false) (g10 : (o == 10) = false) (g11 : (o == 11) = false) (g12 : (o == 12) = false) (g13 : (o == 13) = false) (g14 : (o == 14) = false) (g15 : (o == 15) = false) (g16 : (o == 16) = false) (g17 : (o == 17) = false) (g18 : (o == 18) = false) (g19 : (o == 19) = false) (g20 : (o == 20) = false) (g21 : (o == 21) = false) (g22 : (o == 22) = false) (g23 : (o == 23) = false) (g24 : (o == 24) = false) (g25 : (o == 25) = false) (g26 : (o == 26) = false) (g27 : (o == 27) = false) (g46 : (o == 46) = false) (g47 : (o == 47) = false) (g48 : (o == 48) = false) (g49 : (o == 49) = false) (g50 : (o == 50) = false) (g51 : (o == 51) = false) (g52 : (o == 52) = false) (g53 : (o == 53) = false) (g54 : (o == 54) = false) (g55 : (o == 55) = false) (B : Nat) (s s' : St) (v : Value) (n u x y z vv : Int) (a b d : Nat) (ha : (a : Int) ≤ 31) (q1 q2 q3 : Int) (q4 : Bool) (q5 q6 q7 : Int) (X : Hid (s.r a = x)) (N : n % 4294967296 = u) (N' : IntKind.u32.wrap n = u) (x0 : Hid (0 ≤ x ∧ x ≤ 4294967295)) (Y : Hid (s.r b = y)) (hb31 : (b : Int) ≤ 31) (y0 : Hid (0 ≤ y ∧ y ≤ 4294967295)) (Z : Hid (U.Num.ad o x y = z)) 
    (CA : Hid (∀ w, MAt B s v w → Calls Tryz.prog 50 #[.pointer (some ⟨B, 0, none⟩), .int .i64 (d : Int), .int .u32 z] w fun e w' => e = .returned (.agg (rc q1 q2 q3 q4 q5 q6 q7)) ∧ Nxt B v s' w w')) (w : World) (hM : Hid (MAt B s v w)) :
    Calls Tryz.prog 35 #[.pointer (some ⟨B, 0, none⟩), .agg (cells o d a b n), .int .u32 vv] w fun e w' => e = .returned (.agg (rc q1 q2 q3 q4 q5 q6 q7)) ∧ Nxt B v s' w w' := by
  have ca := hM.out.r a (by omega)
  rw [X.out] at ca
  have cp := hM.out.pc
  have c2 := hM.out.c 2 (by decide)
  have hb := hM.out.lt
  have HW := hid (Now.inst hM.out (cells o d a b n))
  have BX := hid (Box.inst w (cells o d a b n))
  have cb := hM.out.r b (by omega)
  rw [Y.out] at cb
  go_enter Tryz.func35, Tryz.ntmps35
  go_wp2_with fail
  go_region
  all_goals
    go_wp2_with fail
    go_region_with (first | (go_at_call 55; refine (U.Walks.do_as _ _ _ _ x0.out.1 x0.out.2 y0.out.1 y0.out.2 Z _).mono ?_; rintro e w1 ⟨rfl, rfl⟩) | (go_at_call 50; refine (CA.out _ (by exact HW.out.1.alike ⟨rfl, rfl, rfl⟩)).mono ?_; rintro e w1 ⟨rfl, hN⟩; obtain ⟨b0, b1, b2, b3, b4, b5, b6, y0, y1, y2, y3, y4, y5, y6⟩ := Box.chg1 (w := _) (by exact BX.out.alike ⟨rfl, rfl, rfl⟩) hM.out (Nat.le_add_right _ 1) hN.chg))
    all_goals
      go_wp2_with fail
      refine bodyPost_ret (v := .agg (rc q1 q2 q3 q4 q5 q6 q7)) (by simp [results, Tryz.results35, go_sem, *]) rfl ⟨rfl, ?_⟩
      exact Nxt.ends hM.out (by exact Chg.alike HW.out.2 ⟨rfl, rfl, rfl⟩) hN (Nat.le_add_right _ 1) (by simp) q1 q2 q3 q4 q5 q6 q7
end Go.Proofs.YtpkbkbllhpdfiaaGreat.M
