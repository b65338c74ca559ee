/- RAcc: Contract of the document's access. RAccL: The document's access: a load. RAccS: The document's access: stores. -/
import Derived.Test.YtpkbkbllhpdfiaaGreatB07
import Derived.Test.YtpkbkbllhpdfiaaGreatB03
import Derived.Test.YtpkbkbllhpdfiaaGreatB08
import Derived.Test.YtpkbkbllhpdfiaaGreatB04
import Derived.Handy
import Derived.Deep.RegionHeld3
namespace Go.Proofs.YtpkbkbllhpdfiaaGreat.M
open Go.ChangeShapes Go.WideShapes Go.ChangeAt Go.RowKit Go.Proofs.YtpkbkbllhpdfiaaGreat.Walks Go.Proofs.YtpkbkbllhpdfiaaGreat.Mod
set_option linter.unusedVariables false
set_option maxRecDepth 100000 in
set_option maxHeartbeats 400000 in
theorem racc_bad (B C : Nat) (s s' : St) (v : Value) (o n ad y c : Int) (d a b : Nat) (a0 : Hid (0 ≤ ad)) (AC : Hid (acc o ad = c)) (c0 : Hid (0 ≤ c ∧ c ≤ 11)) (G : Hid (acb o ad = true)) (S : Hid (s.trap c ad = s')) (I : Hid (Inv s)) (w : World) (hM : Hid (RAt B C s v w)) :
    Calls Tryz.prog 71 #[.pointer (some ⟨B, 0, none⟩), .agg (cells o d a b n), .int .u32 ad, .int .u32 y] w fun e w' => e = .returned (.agg (rc s.pc 0 0 false 0 0 0)) ∧ RNow B C v s' w w' := by
  have cp := hM.out.pc
  have hb := hM.out.lt
  have HW := hid (RNow.inst hM.out (cells o d a b n))
  have BX := hid (Box.inst w (cells o d a b n))
  go_enter Tryz.func71, Tryz.ntmps71
  go_wp2_with fail
  refine (raccess_to _ _ _ _ a0.out AC G _).mono ?_; rintro e w1 ⟨rfl, rfl⟩
  go_wp2_with fail
  refine (rtrap_as B C s s' v _ _ _ I.out rfl c0.out.1 c0.out.2 S _ (by exact HW.out.1.alike ⟨rfl, rfl, rfl⟩)).mono ?_; rintro e w1 ⟨rfl, hN⟩
  obtain ⟨b0, b1, b2, b3, b4, b5, b6, y0, y1, y2, y3, y4, y5, y6⟩ := Box.rchg (w := _) (by exact BX.out.alike ⟨rfl, rfl, rfl⟩) hM.out (Nat.le_add_right _ 1) hN.2
  go_wp2_with fail
  refine bodyPost_ret (v := .agg (rc s.pc 0 0 false 0 0 0)) (by simp [results, Tryz.results71, go_sem, *]) rfl ⟨rfl, ?_⟩
  exact RNow.ends (RNow.then (by exact HW.out.alike ⟨rfl, rfl, rfl⟩) hN) hM.out (Nat.le_add_right _ 1) s.pc 0 0 false 0 0 0
/-- what the loads of access read -/
structure AccS (b B C k : Nat) (o d p x : Int) (W : World) : Prop where
  o : W.cell? ⟨b, 0, none⟩ = some (.int .i64 o)
  d : W.cell? ⟨b, 1, none⟩ = some (.int .i64 d)
  l : W.cell? ⟨B, 38, none⟩ = some (.slice (some ⟨C, 0, none⟩) 1024 1024)
  m : W.cell? ⟨C, k, none⟩ = some (.int .u32 x)
  r0 : W.cell? ⟨b + 1 + 1, 0, none⟩ = some (.int .u32 p)
  r1 : W.cell? ⟨b + 1 + 1, 1, none⟩ = some (.int .u32 0)
  r2 : W.cell? ⟨b + 1 + 1, 2, none⟩ = some (.int .i64 0)
  r3 : W.cell? ⟨b + 1 + 1, 3, none⟩ = some (.bool false)
  r4 : W.cell? ⟨b + 1 + 1, 4, none⟩ = some (.int .u32 0)
  r5 : W.cell? ⟨b + 1 + 1, 5, none⟩ = some (.int .u32 0)
  r6 : W.cell? ⟨b + 1 + 1, 6, none⟩ = some (.int .i64 0)
theorem AccS.alike {b B C k : Nat} {o d p x : Int} {W W' : World} (h : AccS b B C k o d p x W) (e : W'.Alike W) : AccS b B C k o d p x W' := by
  have c : ∀ a, W'.cell? a = W.cell? a := fun a => World.cell?_of_block (w := W) (by rw [e.1])
  exact ⟨by rw [c]; exact h.o, by rw [c]; exact h.d, by rw [c]; exact h.l, by rw [c]; exact h.m, by rw [c]; exact h.r0, by rw [c]; exact h.r1, by rw [c]; exact h.r2, by rw [c]; exact h.r3, by rw [c]; exact h.r4, by rw [c]; exact h.r5, by rw [c]; exact h.r6⟩
/-- the world in which they are read -/
def accW (w : World) (B : Nat) (nx : Int) (c : Array Value) (p : Int) : World := (((w.setCell ⟨B, 0, none⟩ (.int .u32 nx)).alloc (.cells c 62)).alloc (.cells z7 38)).alloc (.cells (rc p 0 0 false 0 0 0) 38)
theorem accW_now {B C : Nat} {s : St} {v : Value} {w : World} (h : RAt B C s v w) (nx : Int) (c : Array Value) (p : Int) : RNow B C v (s.go nx) w (accW w B nx c p) := ((((RNow.refl h).setPc nx).alloc _).alloc _).alloc _
theorem accW_box (w : World) (B : Nat) (nx : Int) (c : Array Value) (p : Int) : Box (w.heap.size + 1) (accW w B nx c p) := (Box.at _ _ (by simp)).alloc _
theorem accW_size (w : World) (B : Nat) (nx : Int) (c : Array Value) (p : Int) : (accW w B nx c p).heap.size = w.heap.size + 3 := by simp [accW]
theorem accW_inst (w : World) (B : Nat) (nx : Int) (c : Array Value) (p : Int) (j : Nat) : (accW w B nx c p).cell? ⟨w.heap.size, j, none⟩ = c[j]? := by
  have := Walks.box_cell (w.setCell ⟨B, 0, none⟩ (.int .u32 nx)) (accW w B nx c p) c 62 (((Fr.refl _).alloc _).alloc _) j
  simpa using this
theorem accW_r (w : World) (B : Nat) (nx : Int) (c : Array Value) (p : Int) (j : Nat) : (accW w B nx c p).cell? ⟨w.heap.size + 1 + 1, j, none⟩ = (rc p 0 0 false 0 0 0)[j]? := by
  have := Walks.box_cell (((w.setCell ⟨B, 0, none⟩ (.int .u32 nx)).alloc (.cells c 62)).alloc (.cells z7 38)) (accW w B nx c p) (rc p 0 0 false 0 0 0) 38 (Fr.refl _) j
  simpa using this
theorem accW_s {B C : Nat} {s : St} {v : Value} {w : World} (h : RAt B C s v w) (nx o n p x : Int) (d a b k : Nat) (hk : k < 1024) (X : s.m k = x) : AccS w.heap.size B C k o d p x (accW w B nx (cells o d a b n) p) := by
  have hn := accW_now h nx (cells o d a b n) p
  exact ⟨accW_inst w B nx (cells o d a b n) p 0, accW_inst w B nx (cells o d a b n) p 1, hn.1.l, by rw [hn.1.m k hk]; show some (Value.int .u32 (s.m k)) = _; rw [X], accW_r _ _ _ _ _ 0, accW_r _ _ _ _ _ 1, accW_r _ _ _ _ _ 2, accW_r _ _ _ _ _ 3, accW_r _ _ _ _ _ 4, accW_r _ _ _ _ _ 5, accW_r _ _ _ _ _ 6⟩
/-- behind a call that turns nothing but the machine, whose memory stays -/
theorem AccS.past {B C : Nat} {s s' : St} {v v' : Value} {w W w1 : World} {o d p x : Int} {k : Nat} (h : AccS w.heap.size B C k o d p x W) (h0 : RAt B C s v w) (hs : w.heap.size + 3 ≤ W.heap.size) (h1 : RAt B C s' v' w1) (hc : RChg B C W w1) (hk : k < 1024) (X : s'.m k = x) : AccS w.heap.size B C k o d p x w1 := by
  have a := h0.lt
  have b := h0.ltc
  have e : ∀ q j, w.heap.size ≤ q → q < w.heap.size + 3 → w1.cell? ⟨q, j, none⟩ = W.cell? ⟨q, j, none⟩ := fun q j x y => hc.cell q j (by omega) (by omega) (by omega)
  exact ⟨by rw [e _ _ (by omega) (by omega)]; exact h.o, by rw [e _ _ (by omega) (by omega)]; exact h.d, h1.l, by rw [h1.m k hk, X], by rw [e _ _ (by omega) (by omega)]; exact h.r0, by rw [e _ _ (by omega) (by omega)]; exact h.r1, by rw [e _ _ (by omega) (by omega)]; exact h.r2, by rw [e _ _ (by omega) (by omega)]; exact h.r3, by rw [e _ _ (by omega) (by omega)]; exact h.r4, by rw [e _ _ (by omega) (by omega)]; exact h.r5, by rw [e _ _ (by omega) (by omega)]; exact h.r6⟩
theorem AccS.all {b B C k : Nat} {o d p x : Int} {W : World} (h : AccS b B C k o d p x W) : W.cell? ⟨b, 0, none⟩ = some (.int .i64 o) ∧ W.cell? ⟨b, 1, none⟩ = some (.int .i64 d) ∧ W.cell? ⟨B, 38, none⟩ = some (.slice (some ⟨C, 0, none⟩) 1024 1024) ∧ W.cell? ⟨C, k, none⟩ = some (.int .u32 x)
    ∧ W.cell? ⟨b + 1 + 1, 0, none⟩ = some (.int .u32 p) ∧ W.cell? ⟨b + 1 + 1, 1, none⟩ = some (.int .u32 0) ∧ W.cell? ⟨b + 1 + 1, 2, none⟩ = some (.int .i64 0) ∧ W.cell? ⟨b + 1 + 1, 3, none⟩ = some (.bool false) ∧ W.cell? ⟨b + 1 + 1, 4, none⟩ = some (.int .u32 0) ∧ W.cell? ⟨b + 1 + 1, 5, none⟩ = some (.int .u32 0) ∧ W.cell? ⟨b + 1 + 1, 6, none⟩ = some (.int .i64 0) :=
  ⟨h.o, h.d, h.l, h.m, h.r0, h.r1, h.r2, h.r3, h.r4, h.r5, h.r6⟩
theorem put_m (s : St) (d : Nat) (z : Int) : (s.put d z).m = s.m := by unfold St.put; split <;> rfl
end Go.Proofs.YtpkbkbllhpdfiaaGreat.M
namespace Go.Proofs.YtpkbkbllhpdfiaaGreat.M
open Go.ChangeShapes Go.WideShapes Go.ChangeAt Go.RowKit Go.Proofs.YtpkbkbllhpdfiaaGreat.Walks Go.Proofs.YtpkbkbllhpdfiaaGreat.Mod
set_option linter.unusedVariables false
theorem AccS.set {b B C k : Nat} {o d p x : Int} {W : World} (h : AccS b B C k o d p x W) (hB : b + 1 ≠ B) (hC : b + 1 ≠ C) (j : Nat) (y : Value) : AccS b B C k o d p x (W.setCell ⟨b + 1, j, none⟩ y) := by
  have e : ∀ q i, q ≠ b + 1 → (W.setCell ⟨b + 1, j, none⟩ y).cell? ⟨q, i, none⟩ = W.cell? ⟨q, i, none⟩ := fun q i hq => set_other (far_ne (Ne.symm hq))
  exact ⟨by rw [e _ _ (by omega)]; exact h.o, by rw [e _ _ (by omega)]; exact h.d, by rw [e _ _ (Ne.symm hB)]; exact h.l, by rw [e _ _ (Ne.symm hC)]; exact h.m, by rw [e _ _ (by omega)]; exact h.r0, by rw [e _ _ (by omega)]; exact h.r1, by rw [e _ _ (by omega)]; exact h.r2, by rw [e _ _ (by omega)]; exact h.r3, by rw [e _ _ (by omega)]; exact h.r4, by rw [e _ _ (by omega)]; exact h.r5, by rw [e _ _ (by omega)]; exact h.r6⟩
theorem AccS.put7 {b B C k : Nat} {o d p x : Int} {W : World} (h : AccS b B C k o d p x W) (hB : b + 1 ≠ B) (hC : b + 1 ≠ C) (q1 q2 q3 : Int) (q4 : Bool) (q5 q6 q7 : Int) : AccS b B C k o d p x (put7 W (b + 1) q1 q2 q3 q4 q5 q6 q7) :=
  ((((((h.set hB hC 0 _).set hB hC 1 _).set hB hC 2 _).set hB hC 3 _).set hB hC 4 _).set hB hC 5 _).set hB hC 6 _
set_option maxRecDepth 100000 in
set_option maxHeartbeats 2000000 in
theorem racc_load (B C : Nat) (s s' : St) (v : Value) (o n ad y c x z nx : Int) (d a b k : Nat) (hd : Hid ((d : Int) ≤ 31)) (ho : o ≤ 15) (q1 q2 q3 : Int) (q4 : Bool) (q5 q6 q7 : Int) (a0 : Hid (0 ≤ ad ∧ ad ≤ 4294967295)) (AC : Hid (acc o ad = c)) (G : Hid (acb o ad = false)) (NX : (s.pc + 4) % 4294967296 = nx) (NX' : IntKind.u32.wrap (s.pc + 4) = nx)
    (K : ad / 4 = (k : Int)) (K1 : ad.tdiv 4 = (k : Int)) (hk : (k : Int) ≤ 1023) (XW : Hid (s.m k = x)) (x0 : Hid (W32 x)) (Z : Hid (V.Num.ld o (ad % 4) x = z)) (Q : Hid ((bare s.pc).put d z = ⟨q1, q2, q3, q4, q5, q6, q7⟩)) (S : Hid ((s.go nx).put d z = s')) (w : World) (hM : Hid (RAt B C s v w)) :
    Calls Tryz.prog 71 #[.pointer (some ⟨B, 0, none⟩), .agg (cells o d a b n), .int .u32 ad, .int .u32 y] w fun e w' => e = .returned (.agg (rc q1 q2 q3 q4 q5 q6 q7)) ∧ RNow B C v s' w w' := by
  have cp := hM.out.pc
  have zp := hM.out.z 0 (by decide)
  have cl := hM.out.l
  have cm := hM.out.m k (by omega)
  rw [XW.out] at cm
  have hb := hM.out.lt
  have hc := hM.out.ltc
  have bc := hM.out.bc
  have k9 : (k : Int) < 1024 := by omega
  have k0 : (0 : Int) ≤ k := by omega
  have K2 : IntKind.u32.wrap (k : Int) = k := by rw [wrap_is]; omega
  have hb1 : B < w.heap.size + 1 := by omega
  have hb2 : B < w.heap.size + 1 + 1 := by omega
  have hc1 : C < w.heap.size + 1 := by omega
  have hc2 : C < w.heap.size + 1 + 1 := by omega
  have hw2 : w.heap.size < w.heap.size + 1 + 1 := by omega
  go_enter Tryz.func71, Tryz.ntmps71
  go_wp2_with fail
  refine (raccess_to _ _ _ _ a0.out.1 AC G _).mono ?_; rintro e w1 ⟨rfl, rfl⟩
  go_wp2_with fail
  have NB : Hid (w.heap.size + 1 ≠ B ∧ w.heap.size + 1 ≠ C) := ⟨by omega, by omega⟩
  have HW := hid (accW_now hM.out nx (cells o d a b n) s.pc)
  have BX := hid (accW_box w B nx (cells o d a b n) s.pc)
  have SZ := hid (accW_size w B nx (cells o d a b n) s.pc)
  have AS := hid (accW_s hM.out nx o n s.pc x d a b k (by omega) XW.out)
  have MM : Hid (s'.m k = x) := by unfold Hid; rw [← S.out, put_m]; exact XW.out
  go_region_held3 (fun w' => w'.cell? ⟨w.heap.size, 0, none⟩ = some (.int .i64 o) ∧ w'.cell? ⟨w.heap.size, 1, none⟩ = some (.int .i64 d) ∧ w'.cell? ⟨B, 38, none⟩ = some (.slice (some ⟨C, 0, none⟩) 1024 1024) ∧ w'.cell? ⟨C, k, none⟩ = some (.int .u32 x)
      ∧ w'.cell? ⟨w.heap.size + 1 + 1, 0, none⟩ = some (.int .u32 s.pc) ∧ w'.cell? ⟨w.heap.size + 1 + 1, 1, none⟩ = some (.int .u32 0) ∧ w'.cell? ⟨w.heap.size + 1 + 1, 2, none⟩ = some (.int .i64 0) ∧ w'.cell? ⟨w.heap.size + 1 + 1, 3, none⟩ = some (.bool false) ∧ w'.cell? ⟨w.heap.size + 1 + 1, 4, none⟩ = some (.int .u32 0) ∧ w'.cell? ⟨w.heap.size + 1 + 1, 5, none⟩ = some (.int .u32 0) ∧ w'.cell? ⟨w.heap.size + 1 + 1, 6, none⟩ = some (.int .i64 0))
    (first | with_reducible exact AccS.all G1.out | exact AccS.all (AccS.put7 G1.out NB.out.1 NB.out.2 q1 q2 q3 q4 q5 q6 q7) | exact AccS.all (AS.out.alike ⟨rfl, rfl, rfl⟩))
    (first
      | (go_at_call 114; refine (V.Walks.rload_as _ _ _ _ a0.out.1 a0.out.2 x0.out.1 x0.out.2 rfl _ Z _).mono ?_; rintro e w1 ⟨rfl, rfl⟩)
      | (go_at_call 73; refine (rput_as B C (s.go nx) s' v _ _ d hd.out _ Q S _ (by exact HW.out.1.alike ⟨rfl, rfl, rfl⟩)).mono ?_; rintro e w1 ⟨rfl, hN⟩; have G1 := hid (AccS.past (W := _) (by exact AS.out.alike ⟨rfl, rfl, rfl⟩) hM.out (by simp) hN.1 hN.2 (by omega) MM.out); obtain ⟨b0, b1, b2, b3, b4, b5, b6, y0, y1, y2, y3, y4, y5, y6⟩ := Box.rchg (w := _) (by exact BX.out.alike ⟨rfl, rfl, rfl⟩) hM.out (Nat.le_add_right _ 1) hN.2))
  all_goals
    go_wp2_with fail
    refine bodyPost_ret (v := .agg (rc q1 q2 q3 q4 q5 q6 q7)) (by simp [results, Tryz.results71, go_sem, *]) rfl ⟨rfl, ?_⟩
    exact RNow.ends (RNow.then (by exact HW.out.alike ⟨rfl, rfl, rfl⟩) hN) hM.out (Nat.le_add_right _ 1) q1 q2 q3 q4 q5 q6 q7
end Go.Proofs.YtpkbkbllhpdfiaaGreat.M
namespace Go.Proofs.YtpkbkbllhpdfiaaGreat.M
open Go.ChangeShapes Go.WideShapes Go.ChangeAt Go.RowKit Go.Proofs.YtpkbkbllhpdfiaaGreat.Walks Go.Proofs.YtpkbkbllhpdfiaaGreat.Mod
set_option linter.unusedVariables false
set_option maxRecDepth 100000 in
set_option maxHeartbeats 1000000 in
theorem racc_mem (B C : Nat) (s : St) (v : Value) (o n ad y c x z nx al t q : Int) (d a b k : Nat) (ho : 16 ≤ o) (a0 : Hid (0 ≤ ad ∧ ad ≤ 4294967295)) (y0 : Hid (W32 y)) (AC : Hid (acc o ad = c)) (G : Hid (acb o ad = false)) (NX : (s.pc + 4) % 4294967296 = nx) (NX' : IntKind.u32.wrap (s.pc + 4) = nx)
    (AL : bits .andNot .u32 ad 3 = al) (g1 : (ad == 268435456) = false) (g2 : (ad == 268435460) = false)
    (K : ad / 4 = (k : Int)) (K1 : ad.tdiv 4 = (k : Int)) (hk : (k : Int) ≤ 1023) (XW : Hid (s.m k = x)) (x0 : Hid (W32 x)) (T : Hid (V.Num.st o (ad % 4) y = t)) (t0 : Hid (W32 t)) (Q : Hid (V.Num.sm o (ad % 4) = q)) (Z : Hid (V.Num.mgm x t q = z)) (w : World) (hM : Hid (RAt B C s v w)) :
    Calls Tryz.prog 71 #[.pointer (some ⟨B, 0, none⟩), .agg (cells o d a b n), .int .u32 ad, .int .u32 y] w fun e w' => e = .returned (.agg (rc s.pc 0 0 true al t q)) ∧ RNow B C v ((s.go nx).setM k z) w w' := by
  have cp := hM.out.pc
  have zp := hM.out.z 0 (by decide)
  have cl := hM.out.l
  have cm := hM.out.m k (by omega)
  rw [XW.out] at cm
  have zm := hM.out.y k (by omega)
  have hb := hM.out.lt
  have hc := hM.out.ltc
  have bc := hM.out.bc
  have k9 : (k : Int) < 1024 := by omega
  have k0 : (0 : Int) ≤ k := by omega
  have K2 : IntKind.u32.wrap (k : Int) = k := by rw [wrap_is]; omega
  have hb1 : B < w.heap.size + 1 := by omega
  have hb2 : B < w.heap.size + 1 + 1 := by omega
  have hc1 : C < w.heap.size + 1 := by omega
  have hc2 : C < w.heap.size + 1 + 1 := by omega
  have hw2 : w.heap.size < w.heap.size + 1 + 1 := by omega
  go_enter Tryz.func71, Tryz.ntmps71
  go_wp2_with fail
  refine (raccess_to _ _ _ _ a0.out.1 AC G _).mono ?_; rintro e w1 ⟨rfl, rfl⟩
  go_wp2_with fail
  refine (V.Walks.rstore_as _ _ _ _ a0.out.1 a0.out.2 y0.out.1 y0.out.2 rfl _ _ T Q _).mono ?_; rintro e w1 ⟨rfl, rfl⟩
  go_wp2_with fail
  go_region_with (go_at_call 116; refine (V.Walks.rmerge_as _ _ _ _ x0.out.1 x0.out.2 t0.out.1 t0.out.2 Z _).mono ?_; rintro e w1 ⟨rfl, rfl⟩)
  all_goals
    go_wp2_with fail
    refine bodyPost_ret (v := .agg (rc s.pc 0 0 true al t q)) (by simp [results, Tryz.results71, go_sem, *]) rfl ⟨rfl, ?_⟩
    exact ((((((RNow.refl hM.out).setPc nx).setM k (by omega) z).alloc _).alloc _).alloc _).drew
end Go.Proofs.YtpkbkbllhpdfiaaGreat.M
