/- Load: Contract of the program's loads. -/
import Derived.Test.YtpkbkbllhpdfiaaGreatB07
namespace Go.Proofs.YtpkbkbllhpdfiaaGreat.M
open Go.ChangeShapes Go.WideShapes Go.ChangeAt Go.RowKit Go.Proofs.YtpkbkbllhpdfiaaGreat.Walks Go.Proofs.YtpkbkbllhpdfiaaGreat.Mod
set_option linter.unusedVariables false
theorem acc_in (o a : Int) : 0 ≤ acc o a ∧ acc o a ≤ 11 := by
  unfold acc T.Num.ac
  repeat (first | split | decide)
theorem access_to (o a c : Int) (b : Bool) (a0 : 0 ≤ a) (C : Hid (acc o a = c)) (X : Hid (acb o a = b)) (w : World) :
    Calls Tryz.prog 94 #[.int .i64 o, .int .u32 a] w fun e w' => e = .returned (.tuple #[.int .i64 c, .bool b]) ∧ w' = w :=
  T.Walks.access_as o a (a % 4) _ _ _ _ _ _ c b a0 rfl rfl rfl rfl rfl rfl rfl C X w
theorem raccess_to (o a c : Int) (b : Bool) (a0 : 0 ≤ a) (C : Hid (acc o a = c)) (X : Hid (acb o a = b)) (w : World) :
    Calls Tryz.prog 113 #[.int .i64 o, .int .u32 a] w fun e w' => e = .returned (.tuple #[.int .i64 c, .bool b]) ∧ w' = w :=
  T.Walks.raccess_as o a (a % 4) _ _ _ _ _ _ c b a0 rfl rfl rfl rfl rfl rfl rfl C X w
set_option maxRecDepth 100000 in
set_option maxHeartbeats 600000 in
theorem loads_bad (B : Nat) (s : St) (v : Value) (o n x u ad c : Int) (a b d : Nat) (ha : (a : Int) ≤ 31)
    (X : Hid (s.r a = x)) (N : n % 4294967296 = u) (AD : (x + u) % 4294967296 = ad) (a0 : Hid (0 ≤ ad)) (C : Hid (acc o ad = c)) (c0 : Hid (0 ≤ c ∧ c ≤ 11)) (G : Hid (acb o ad = true)) (w : World) (hM : Hid (MAt B s v w)) :
    Calls Tryz.prog 53 #[.pointer (some ⟨B, 0, none⟩), .agg (cells o d a b n)] w fun e w' => e = .returned (.agg (rc s.pc 0 0 false 0 0 0)) ∧ Now B v (s.trap c ad) w w' := by
  have ca := hM.out.r a (by omega)
  rw [X.out] at ca
  have hb := hM.out.lt
  have HW := hid (Now.inst hM.out (cells o d a b n))
  have BX := hid (Box.inst w (cells o d a b n))
  have N' : IntKind.u32.wrap n = u := N
  have AD' : IntKind.u32.wrap (x + u) = ad := AD
  go_enter Tryz.func53, Tryz.ntmps53
  go_wp2_with fail
  go_region
  all_goals
    go_wp2_with fail
    refine (access_to _ _ _ _ a0.out C G _).mono ?_; rintro e w1 ⟨rfl, rfl⟩
    go_wp2_with fail
    refine (trapped_as B s v _ _ c0.out.1 c0.out.2 _ (by exact HW.out.1.alike ⟨rfl, rfl, rfl⟩)).mono ?_; rintro e w1 ⟨rfl, hN⟩
    obtain ⟨b0, b1, b2, b3, b4, b5, b6, y0, y1, y2, y3, y4, y5, y6⟩ := Now.boxed (by exact HW.out.alike ⟨rfl, rfl, rfl⟩) hM.out (Nat.le_add_right _ 1) (by exact BX.out.alike ⟨rfl, rfl, rfl⟩) hN
    go_wp2_with fail
    refine bodyPost_ret (v := .agg (rc s.pc 0 0 false 0 0 0)) (by simp [results, Tryz.results53, go_sem, *]) rfl ⟨rfl, ?_⟩
    exact (Now.then (by exact HW.out.alike ⟨rfl, rfl, rfl⟩) hN).ends1 hM.out (Nat.le_add_right _ 1) s.pc 0 0 false 0 0 0
set_option maxRecDepth 100000 in
set_option maxHeartbeats 8000000 in
theorem loads_good (B : Nat) (s : St) (v : Value) (o n x u ad c y z : Int) (a b d k : Nat) (ha : (a : Int) ≤ 31) (hd : (d : Int) ≤ 31) (q1 q2 q3 : Int) (q4 : Bool) (q5 q6 q7 : Int) (s' : St)
    (X : Hid (s.r a = x)) (N : n % 4294967296 = u) (AD : (x + u) % 4294967296 = ad) (a0 : Hid (0 ≤ ad)) (C : Hid (acc o ad = c)) (G : Hid (acb o ad = false))
    (K : ad / 4 = (k : Int)) (hk : (k : Int) ≤ 1023) (Y : Hid (s.m k = y)) (y0 : Hid (0 ≤ y ∧ y ≤ 4294967295)) (Z : Hid (V.Num.ld o (ad % 4) y = z)) (E : Hid (s.wrt d z = (⟨q1, q2, q3, q4, q5, q6, q7⟩, s')))
    (p0 : 0 ≤ s.pc) (p1 : s.pc ≤ 4294967295) (w : World) (hM : Hid (MAt B s v w)) :
    Calls Tryz.prog 53 #[.pointer (some ⟨B, 0, none⟩), .agg (cells o d a b n)] w fun e w' => e = .returned (.agg (rc q1 q2 q3 q4 q5 q6 q7)) ∧ Now B v s' w w' := by
  have ca := hM.out.r a (by omega)
  rw [X.out] at ca
  have cm := hM.out.m k (by omega)
  rw [Y.out] at cm
  have hb := hM.out.lt
  have HW := hid (Now.inst hM.out (cells o d a b n))
  have BX := hid (Box.inst w (cells o d a b n))
  have N' : IntKind.u32.wrap n = u := N
  have AD' : IntKind.u32.wrap (x + u) = ad := AD
  have K1 : ad.tdiv 4 = (k : Int) := by rw [Int.tdiv_eq_ediv_of_nonneg a0.out]; exact K
  have K2 : IntKind.u32.wrap (k : Int) = k := by rw [wrap_is]; omega
  have k0 : (0 : Int) ≤ k := by omega
  have k9 : (k : Int) < 1024 := by omega
  go_enter Tryz.func53, Tryz.ntmps53
  go_wp2_with fail
  go_region
  all_goals
    go_wp2_with fail
    refine (access_to _ _ _ _ a0.out C G _).mono ?_; rintro e w1 ⟨rfl, rfl⟩
    go_wp2_with fail
    go_region_with (first | (go_at_call 95; refine (V.Walks.load_as _ _ _ _ a0.out y0.out.1 y0.out.2 rfl _ Z _).mono ?_; rintro e w1 ⟨rfl, rfl⟩) | (go_at_call 50; refine (writes_as B s v _ d hd _ s' E p0 p1 _ (by exact HW.out.1.alike ⟨rfl, rfl, rfl⟩)).mono ?_; rintro e w1 ⟨rfl, hN⟩; obtain ⟨b0, b1, b2, b3, b4, b5, b6, y0, y1, y2, y3, y4, y5, y6⟩ := Now.boxed (by exact HW.out.alike ⟨rfl, rfl, rfl⟩) hM.out (Nat.le_add_right _ 1) (by exact BX.out.alike ⟨rfl, rfl, rfl⟩) hN))
    all_goals
      go_wp2_with fail
      refine bodyPost_ret (v := .agg (rc q1 q2 q3 q4 q5 q6 q7)) (by simp [results, Tryz.results53, go_sem, *]) rfl ⟨rfl, ?_⟩
      exact (Now.then (by exact HW.out.alike ⟨rfl, rfl, rfl⟩) hN).ends1 hM.out (Nat.le_add_right _ 1) q1 q2 q3 q4 q5 q6 q7
end Go.Proofs.YtpkbkbllhpdfiaaGreat.M
