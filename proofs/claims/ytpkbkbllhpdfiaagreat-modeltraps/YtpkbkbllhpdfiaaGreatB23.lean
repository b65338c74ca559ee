/- RDoK: The document's do: ops that write a register. -/
import Derived.Test.YtpkbkbllhpdfiaaGreatB07
import Derived.Test.YtpkbkbllhpdfiaaGreatB03
import Derived.Deep.RegionWith
namespace Go.Proofs.YtpkbkbllhpdfiaaGreat.M
open Go.ChangeShapes Go.WideShapes Go.ChangeAt Go.RowKit Go.Proofs.YtpkbkbllhpdfiaaGreat.Walks Go.Proofs.YtpkbkbllhpdfiaaGreat.Mod
set_option linter.unusedVariables false
set_option maxRecDepth 100000 in
set_option maxHeartbeats 20000000 in
theorem rdo_pIr (B C : Nat) (s : St) (v : Value) (o f n u x y z nx vv : Int) (a b : Nat) (d : Nat) (h0 : (1 : Int) ≤ d) (h1 : (d : Int) ≤ 31) (ha : (a : Int) ≤ 31) (hb31 : (b : Int) ≤ 31) (X : Hid (s.r a = x)) (Y : Hid (s.r b = y)) (N : n % 4294967296 = u) (N' : IntKind.u32.wrap n = u) (NX : (s.pc + 4) % 4294967296 = nx) (F : Hid (Num.lt (Num.fm o) = f)) (f66 : (f == 66) = false) (f74 : (f == 74) = false) (f67 : (f == 67) = false) (f82 : (f == 82) = false) (Z : Hid (V.Num.sz o = 0)) (o4 : (o == 4) = false) (o47 : (o == 47) = false) (o48 : (o == 48) = false) (o49 : (o == 49) = false) (o1 : (o == 1) = false) (o2 : (o == 2) = false) (o46 : (o == 46) = false) (n46 : ¬ o = 46) (m46 : (o != 46) = true) (x0 : Hid (W32 x)) (u0 : Hid (W32 u)) (ZZ : Hid (U.Num.ad o x u = z))
    (w : World) (hM : Hid (RAt B C s v w)) :
    Calls Tryz.prog 40 #[.pointer (some ⟨B, 0, none⟩), .agg (cells o (d : Int) a b n), .int .u32 vv] w fun e w' => e = .returned (.agg (rc s.pc z d false 0 0 0)) ∧ RNow B C v ((s.setR d z).go nx) w w' := by
  have cp := hM.out.pc
  have zp := hM.out.z 0 (by decide)
  have ca := hM.out.r a (by omega)
  rw [X.out] at ca
  have cb := hM.out.r b (by omega)
  rw [Y.out] at cb
  obtain ⟨old, cd⟩ : ∃ old, w.cell? ⟨B, 1 + d, none⟩ = some (.int .u32 old) := ⟨_, hM.out.r d (by omega)⟩
  have zd := hM.out.z (1 + d) (by omega)
  have hb := hM.out.lt
  have hb1 : B < w.heap.size + 1 := by omega
  have hb2 : B < w.heap.size + 1 + 1 := by omega
  have hb3 : B < w.heap.size + 1 + 1 + 1 := by omega
  have hb4 : B < w.heap.size + 1 + 1 + 1 + 1 := by omega
  have hw2 : w.heap.size < w.heap.size + 1 + 1 := by omega
  have hw3 : w.heap.size + 1 < w.heap.size + 1 + 1 + 1 := by omega
  have hw4 : w.heap.size + 1 < w.heap.size + 1 + 1 + 1 + 1 := by omega
  have hw5 : w.heap.size + 1 + 1 < w.heap.size + 1 + 1 + 1 + 1 := by omega
  have FW : Hid (Fr w (((w.alloc (.cells (cells o (d : Int) a b n) 62)).alloc (.cells z7 38)).alloc (.cells (rc s.pc 0 0 false 0 0 0) 38))) := (((Fr.refl w).alloc _).alloc _).alloc _
  have CD : Hid (∀ W : World, W.Alike (((w.alloc (.cells (cells o (d : Int) a b n) 62)).alloc (.cells z7 38)).alloc (.cells (rc s.pc 0 0 false 0 0 0) 38)) → B < W.heap.size ∧ W.cell? ⟨B, 1 + d, none⟩ = some (.int .u32 old) ∧ W.frozen? ⟨B, 1 + d, none⟩ = false) := fun W e => ⟨by rw [e.1]; exact Nat.lt_of_lt_of_le hb FW.out.size, (World.cell?_of_block (w := _) (by rw [e.1]; exact FW.out.block B hb)).trans cd, (World.frozen?_of_block (w := _) (by rw [e.1]; exact FW.out.block B hb)).trans zd⟩
  go_enter Tryz.func40, Tryz.ntmps40
  go_wp2_with fail
  go_region
  all_goals
    go_wp2_with fail
    refine (rformat_as _ _ F _).mono ?_; rintro e w1 ⟨rfl, rfl⟩
    go_wp2_with fail
    refine (V.Walks.rsize_as _ _ Z _).mono ?_; rintro e w1 ⟨rfl, rfl⟩
    go_wp2_with fail
    clear o4 o47 o48 o49 o1 o2 o46 n46 m46 f66 f74 f67 f82
    go_region_with (first | (go_at_call 74; refine (U.Walks.rdo_as _ _ _ _ x0.out.1 x0.out.2 u0.out.1 u0.out.2 ZZ _).mono ?_; rintro e w1 ⟨rfl, rfl⟩) | (go_at_call 73; refine (rputR B _ _ _ _ _ _ _ _ old d h0 h1 _ (by exact (CD.out _ ⟨rfl, rfl, rfl⟩).1) (by exact (CD.out _ ⟨rfl, rfl, rfl⟩).2.1) (by exact (CD.out _ ⟨rfl, rfl, rfl⟩).2.2)).mono ?_; rintro e w1 ⟨rfl, rfl⟩))
    all_goals
      go_wp2_with fail
      refine bodyPost_ret (v := .agg (rc s.pc z d false 0 0 0)) (by simp [results, Tryz.results40, go_sem, *]) rfl ⟨rfl, ?_⟩
      first
        | exact ((((((((RNow.refl hM.out).setR d (by omega) z).setPc nx).alloc _).alloc _).alloc _).alloc _).alloc _).drew
        | exact ((((((((RNow.refl hM.out).setR d (by omega) z).setPc nx).alloc _).alloc _).alloc _).alloc _).alloc _).drew.drew
        | (trace_state; fail)
end Go.Proofs.YtpkbkbllhpdfiaaGreat.M
