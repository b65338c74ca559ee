/- The walk of GateBytes. -/
import Derived.Test.YtedcamljgnblmaaKnow
import Derived.Test.YtedcamljgnblmaaAsks
import Derived.Test.YtedcamljgnblmaaBytN
import Derived.Deep.RegionHeld3
namespace Go.Proofs.Ytedcamljgnblmaa.M
open Go.ChangeShapes Go.WideShapes Go.ChangeAt Go.RowKit Go.Proofs.Ytedcamljgnblmaa.Walks Go.Proofs.Ytedcamljgnblmaa.Al
set_option linter.unusedVariables false
/-- four bytes at block q -/
structure BAt (q : Nat) (a b c d : Int) (w : World) : Prop where
  c0 : w.cell? ⟨q, 0, none⟩ = some (.int .u8 a)
  c1 : w.cell? ⟨q, 1, none⟩ = some (.int .u8 b)
  c2 : w.cell? ⟨q, 2, none⟩ = some (.int .u8 c)
  c3 : w.cell? ⟨q, 3, none⟩ = some (.int .u8 d)
  z0 : w.frozen? ⟨q, 0, none⟩ = false
  z1 : w.frozen? ⟨q, 1, none⟩ = false
  z2 : w.frozen? ⟨q, 2, none⟩ = false
  z3 : w.frozen? ⟨q, 3, none⟩ = false
theorem oth (w : World) (q i j : Nat) (v : Value) (h : i ≠ j) : (w.setCell ⟨q, i, none⟩ v).cell? ⟨q, j, none⟩ = w.cell? ⟨q, j, none⟩ := by
  apply World.cell?_setCell_other
  exact fun e => h (congrArg Addr.off e)
section
variable {q : Nat} {a b c d : Int} {w w' : World}
theorem BAt.of (h : BAt q a b c d w) (e : w'.heap[q]? = w.heap[q]?) : BAt q a b c d w' := by
  have k := fun o => World.cell?_of_block (a := ⟨q, o, none⟩) (w := w) e
  have z := fun o => World.frozen?_of_block (a := ⟨q, o, none⟩) (w := w) e
  exact ⟨(k 0).trans h.c0, (k 1).trans h.c1, (k 2).trans h.c2, (k 3).trans h.c3, (z 0).trans h.z0, (z 1).trans h.z1, (z 2).trans h.z2, (z 3).trans h.z3⟩
theorem BAt.s0 (h : BAt q a b c d w) (x : Int) : BAt q x b c d (w.setCell ⟨q, 0, none⟩ (.int .u8 x)) :=
  ⟨World.cell?_setCell_same _ _ _ h.c0, (oth w q _ _ _ (by decide)).trans h.c1, (oth w q _ _ _ (by decide)).trans h.c2, (oth w q _ _ _ (by decide)).trans h.c3, by rw [World.frozen?_setCell]; exact h.z0, by rw [World.frozen?_setCell]; exact h.z1, by rw [World.frozen?_setCell]; exact h.z2, by rw [World.frozen?_setCell]; exact h.z3⟩
theorem BAt.s1 (h : BAt q a b c d w) (x : Int) : BAt q a x c d (w.setCell ⟨q, 1, none⟩ (.int .u8 x)) :=
  ⟨(oth w q _ _ _ (by decide)).trans h.c0, World.cell?_setCell_same _ _ _ h.c1, (oth w q _ _ _ (by decide)).trans h.c2, (oth w q _ _ _ (by decide)).trans h.c3, by rw [World.frozen?_setCell]; exact h.z0, by rw [World.frozen?_setCell]; exact h.z1, by rw [World.frozen?_setCell]; exact h.z2, by rw [World.frozen?_setCell]; exact h.z3⟩
theorem BAt.s2 (h : BAt q a b c d w) (x : Int) : BAt q a b x d (w.setCell ⟨q, 2, none⟩ (.int .u8 x)) :=
  ⟨(oth w q _ _ _ (by decide)).trans h.c0, (oth w q _ _ _ (by decide)).trans h.c1, World.cell?_setCell_same _ _ _ h.c2, (oth w q _ _ _ (by decide)).trans h.c3, by rw [World.frozen?_setCell]; exact h.z0, by rw [World.frozen?_setCell]; exact h.z1, by rw [World.frozen?_setCell]; exact h.z2, by rw [World.frozen?_setCell]; exact h.z3⟩
theorem BAt.s3 (h : BAt q a b c d w) (x : Int) : BAt q a b c x (w.setCell ⟨q, 3, none⟩ (.int .u8 x)) :=
  ⟨(oth w q _ _ _ (by decide)).trans h.c0, (oth w q _ _ _ (by decide)).trans h.c1, (oth w q _ _ _ (by decide)).trans h.c2, World.cell?_setCell_same _ _ _ h.c3, by rw [World.frozen?_setCell]; exact h.z0, by rw [World.frozen?_setCell]; exact h.z1, by rw [World.frozen?_setCell]; exact h.z2, by rw [World.frozen?_setCell]; exact h.z3⟩
theorem But.set {V : World} (h : But q V w) (o : Nat) (v : Value) : But q V (w.setCell ⟨q, o, none⟩ v) :=
  ⟨h.os, h.output, by rw [World.size_setCell]; exact h.size, fun k hk e => (Below.heap_setCell _ _ _ k e).trans (h.block k hk e)⟩
end
/-- the first k are the new ones -/
def sel (k j : Nat) (y x : Int) : Int := if j < k then y else x
/-- the bytes of a word lie at q -/
def WAt (q : Nat) (x : Int) (w : World) : Prop := BAt q (x % 256) (x / 256 % 256) (x / 65536 % 256) (x / 16777216 % 256) w
theorem top (x : Int) (h0 : 0 ≤ x) (h1 : x ≤ 4294967295) : x / 16777216 = x / 16777216 % 256 := by omega
/-- with its address cut -/
def cut (r : Rt) : Rt := ⟨r.p, r.v, r.d, r.s, bits .and .u32 r.a 4, r.t, r.m⟩
/-- what one store makes of the word's bytes -/
def Step (s e c0 c1 c2 c3 : Bool) (x0 x1 x2 x3 t0 t1 t2 t3 y0 y1 y2 y3 : Int) : Prop :=
  (s = false → y0 = x0 ∧ y1 = x1 ∧ y2 = x2 ∧ y3 = x3) ∧ (e = false → y0 = x0 ∧ y1 = x1 ∧ y2 = x2 ∧ y3 = x3) ∧
  (s = true → e = true → (y0 = if c0 then t0 else x0) ∧ (y1 = if c1 then t1 else x1) ∧ (y2 = if c2 then t2 else x2) ∧ (y3 = if c3 then t3 else x3))
theorem step_of (f : Nat → Rt) (r : Rt) (x an : Int) (i : Nat) (c0 c1 c2 c3 : Bool) (h : f i = r) (ha : r.a = an) (B0 : (r.m % 2 == 1) = c0) (B1 : (r.m / 2 % 2 == 1) = c1) (B2 : (r.m / 4 % 2 == 1) = c2) (B3 : (r.m / 8 % 2 == 1) = c3) :
    Step r.s (an == 4) c0 c1 c2 c3 (fw f 4 x i % 256) (fw f 4 x i / 256 % 256) (fw f 4 x i / 65536 % 256) (fw f 4 x i / 16777216 % 256) (r.t % 256) (r.t / 256 % 256) (r.t / 65536 % 256) (r.t / 16777216 % 256)
      (fw f 4 x (i + 1) % 256) (fw f 4 x (i + 1) / 256 % 256) (fw f 4 x (i + 1) / 65536 % 256) (fw f 4 x (i + 1) / 16777216 % 256) := by
  subst h
  subst ha
  refine ⟨fun h => ?_, fun h => ?_, fun h1 h2 => ?_⟩
  · rw [fw_no1 h]; exact ⟨rfl, rfl, rfl, rfl⟩
  · rw [fw_no2 h]; exact ⟨rfl, rfl, rfl, rfl⟩
  · rw [fw_yes h1 (by simpa using h2)]
    have k := mg_by c0 c1 c2 c3 (fw f 4 x i) (f i).t
    unfold Num.mgm
    rw [B0, B1, B2, B3]
    unfold Num.pk at k
    exact k
theorem shift_bits (m : Int) : (bits .and .i64 m 1 == 1) = (m % 2 == 1) := by rw [Num.and_one]
set_option maxRecDepth 100000 in
set_option maxHeartbeats 4000000 in
theorem bytesW (A : Option Addr) (len cap : Nat) (f : Nat → Rt) (x : Int) (x0 : 0 ≤ x) (x1 : x ≤ 4294967295) (w : World) (hA : Hid (RIn w A len f)) (hf : Hid (∀ j, j < len → (f j).In)) :
    Calls Try.prog 6 #[.slice A len cap, .int .u32 x] w fun e w' => e = .returned (.bool true) ∧ Fr w w' := by
  have X0 := hid x0
  have X1 := hid x1
  go_enter Try.func6, Try.ntmps6
  go_wp2_with fail
  refine (new_as w.heap.size _ (Nat.le_refl _) (fun j => cut (f j))).mono ?_; rintro e w1 ⟨rfl, hg, hF⟩
  have G1 := hid hg
  have F1 := hid hF
  have lG : Hid (w.heap.size < w1.heap.size) := hg.lt
  clear hg hF
  go_wp2_with fail
  have B1 : Hid (BAt w1.heap.size 0 0 0 0 (w1.alloc (.cells #[.int .u8 0, .int .u8 0, .int .u8 0, .int .u8 0] 39))) := by
    have k : ∀ o, (w1.alloc (.cells #[.int .u8 0, .int .u8 0, .int .u8 0, .int .u8 0] 39)).cell? ⟨w1.heap.size, o, none⟩ = (#[.int .u8 0, .int .u8 0, .int .u8 0, .int .u8 0] : Array Value)[o]? := fun o => World.cell?_alloc_at _ _ _ _ rfl
    have z : ∀ o, (w1.alloc (.cells #[.int .u8 0, .int .u8 0, .int .u8 0, .int .u8 0] 39)).frozen? ⟨w1.heap.size, o, none⟩ = false := fun o => by rw [World.frozen?_alloc_at _ _ _ _ rfl]
    exact ⟨by rw [k]; rfl, by rw [k]; rfl, by rw [k]; rfl, by rw [k]; rfl, z 0, z 1, z 2, z 3⟩
  have U1 : Hid (But w1.heap.size (w1.alloc (.cells #[.int .u8 0, .int .u8 0, .int .u8 0, .int .u8 0] 39)) (w1.alloc (.cells #[.int .u8 0, .int .u8 0, .int .u8 0, .int .u8 0] 39))) := but_set _ [] 0 _
  have G2 : Hid (GAt w.heap.size w.heap.size none 0 0 (fun j => cut (f j)) (w1.alloc (.cells #[.int .u8 0, .int .u8 0, .int .u8 0, .int .u8 0] 39))) := G1.out.fr ((Fr.refl _).alloc _)
  have F2 : Hid (Fr w (w1.alloc (.cells #[.int .u8 0, .int .u8 0, .int .u8 0, .int .u8 0] 39))) := F1.out.alloc _
  have lq : Hid (w1.heap.size < (w1.alloc (.cells #[.int .u8 0, .int .u8 0, .int .u8 0, .int .u8 0] 39)).heap.size) := by unfold Hid; simp
  clear G1 F1
  generalize w1.alloc (.cells #[.int .u8 0, .int .u8 0, .int .u8 0, .int .u8 0] 39) = V1 at *
  generalize w1.heap.size = q at *
  go_loopw [14] (fun t wr => ∃ k : Nat, (k : Int) ≤ 4 ∧ t = .int .i64 k ∧ Hid (BAt q (sel k 0 (x % 256) 0) (sel k 1 (x / 256 % 256) 0) (sel k 2 (x / 65536 % 256) 0) (sel k 3 (x / 16777216 % 256) 0) wr) ∧ Hid (But q V1 wr)) (fun t _ => 4 - (intOf t).toNat)
  case atStart => exact ⟨0, by decide, rfl, B1, U1⟩
  case round =>
    obtain ⟨k, hk, rfl, HB, HU⟩ := hrel
    rename_i wr
    by_cases hlt : (k : Int) < 4
    · rcases (show k = 0 ∨ k = 1 ∨ k = 2 ∨ k = 3 by omega) with rfl | rfl | rfl | rfl
      · have cc := HB.out.c0
        have zz := HB.out.z0
        go_wp2_with fail
        exact ⟨⟨1, by decide, rfl, HB.out.s0 _, HU.out.set _ _⟩, by decide⟩
      · have cc := HB.out.c1
        have zz := HB.out.z1
        go_wp2_with fail
        exact ⟨⟨2, by decide, rfl, HB.out.s1 _, HU.out.set _ _⟩, by decide⟩
      · have cc := HB.out.c2
        have zz := HB.out.z2
        go_wp2_with fail
        exact ⟨⟨3, by decide, rfl, HB.out.s2 _, HU.out.set _ _⟩, by decide⟩
      · have cc := HB.out.c3
        have zz := HB.out.z3
        go_wp2_with fail
        exact ⟨⟨4, by decide, rfl, (top x X0.out X1.out) ▸ HB.out.s3 _, HU.out.set _ _⟩, by decide⟩
    · obtain rfl : k = 4 := by omega
      have W3 : Hid (WAt q x wr) := HB.out
      have G3 : Hid (GAt w.heap.size w.heap.size none 0 0 (fun j => cut (f j)) wr) := G2.out.of HU.out.size (HU.out.block _ G2.out.lt (by have := lG.out; omega)) (fun k hk => by cases hk)
      have L3 : Hid (q < wr.heap.size) := Nat.lt_of_lt_of_le lq.out HU.out.size
      have F3 : Hid (Fr w wr) := HU.out.fr F2.out (by have := lG.out; omega)
      clear HB HU B1 U1 G2 F2 lq
      generalize hF4 : (fun j => cut (f j)) = g at *
      go_wp2_with fail
      go_loopw [8] (fun t wr => ∃ (i : Nat) (D : Option Addr) (c : Nat), (i : Int) ≤ 16 ∧ (i : Int) ≤ len ∧ t = .int .i64 i ∧ Hid (GAt w.heap.size w.heap.size D c i g wr) ∧ Hid (∀ k, D.map (·.block) = some k → k ≠ q) ∧ Hid (WAt q (fw g 4 x i) wr) ∧ Hid (Fr w wr) ∧ Hid (q < wr.heap.size)) (fun t _ => 16 - (intOf t).toNat)
      case atStart => exact ⟨0, none, 0, by decide, by omega, rfl, G3, (fun k hk => by cases hk), W3, F3, L3⟩
      case round =>
        obtain ⟨i, D, c, hi, hil, rfl, HG, HD, HW, HF, HL⟩ := hrel
        obtain ⟨wo, hwo⟩ : ∃ u, u = wr := ⟨_, rfl⟩
        subst hwo
        by_cases hlt : (i : Int) < len
        · by_cases hlt2 : (i : Int) < 16
          · obtain ⟨b0, o0, rfl, cb, hr⟩ := (hA.out.fr HF.out) i (by omega)
            have e0 := hr 0 _ rfl
            have e1 := hr 1 _ rfl
            have e2 := hr 2 _ rfl
            have e3 := hr 3 _ rfl
            have e4 := hr 4 _ rfl
            have e5 := hr 5 _ rfl
            have e6 := hr 6 _ rfl
            rw [Nat.add_zero] at e0
            have hin := hid (hf.out i (by omega))
            have gi0 : g i = cut (f i) := by rw [← hF4]
            have gi := hid gi0
            clear gi0
            clear hr cb
            obtain ⟨r, hr⟩ : ∃ r, f i = r := ⟨_, rfl⟩
            rw [hr] at e0 e1 e2 e3 e4 e5 e6 gi hin
            clear hr
            obtain ⟨an, AN⟩ : ∃ an, bits .and .u32 r.a 4 = an := ⟨_, rfl⟩
            have gr : Hid (g i = ⟨r.p, r.v, r.d, r.s, an, r.t, r.m⟩) := by rw [gi.out, ← AN]; rfl
            obtain ⟨c0, C0⟩ : ∃ c, (r.m % 2 == 1) = c := ⟨_, rfl⟩
            obtain ⟨c1, C1⟩ : ∃ c, (r.m / 2 % 2 == 1) = c := ⟨_, rfl⟩
            obtain ⟨c2, C2⟩ : ∃ c, (r.m / 4 % 2 == 1) = c := ⟨_, rfl⟩
            obtain ⟨c3, C3⟩ : ∃ c, (r.m / 8 % 2 == 1) = c := ⟨_, rfl⟩
            have ST0 := hid (step_of g ⟨r.p, r.v, r.d, r.s, an, r.t, r.m⟩ x an i c0 c1 c2 c3 gr.out rfl C0 C1 C2 C3)
            have B0 := (shift_bits r.m).trans C0
            have B1 := (shift_bits (r.m / 2)).trans C1
            have B2 := (shift_bits (r.m / 4)).trans C2
            have B3 := (shift_bits (r.m / 8)).trans C3
            clear C0 C1 C2 C3 gi
            have hi16 := hid hlt2
            have GA := hid (HG.out.fr ((Fr.refl wo).alloc (.cells #[.int .u32 r.p, .int .u32 r.v, .int .i64 r.d, .bool r.s, .int .u32 an, .int .u32 r.t, .int .i64 r.m] 25)))
            go_wp2_with fail
            refine (first_as w.heap.size w.heap.size c i D g ⟨r.p, r.v, r.d, r.s, an, r.t, r.m⟩ _ hi16.out GA hin (HF.out.alloc (.cells #[.int .u32 r.p, .int .u32 r.v, .int .i64 r.d, .bool r.s, .int .u32 an, .int .u32 r.t, .int .i64 r.m] 25)).size).mono ?_; rintro e w3 ⟨rfl, D3, c3', hg, hm⟩
            have GB : Hid (GAt w.heap.size w.heap.size D3 c3' (i + 1) g w3) := hg.congr rfl (fun j hj => by rw [← gr.out]; unfold sn cat; split; rfl; rw [show j = i by omega])
            have FB := hid (hm.fr (HF.out.alloc _) (Nat.le_refl _) (fun k hk => (HG.out.own k hk).1))
            have DB : Hid (∀ k, D3.map (·.block) = some k → k ≠ q) := fun k hk e => by
              rcases hm.own with h | h
              · rw [hk] at h; exact HD.out k h.symm e
              · have := Nat.lt_of_lt_of_le HL.out (Nat.le_trans (show wo.heap.size ≤ (wo.alloc (.cells #[.int .u32 r.p, .int .u32 r.v, .int .i64 r.d, .bool r.s, .int .u32 an, .int .u32 r.t, .int .i64 r.m] 25)).heap.size by simp) (h k hk)); omega
            have lq3 : Hid (q < w3.heap.size) := Nat.lt_of_lt_of_le HL.out (Nat.le_trans (by simp) hm.size)
            have pq : Hid (wo.heap.size ≠ q) := fun e => by have := HL.out; omega
            have lp : Hid (wo.heap.size < w3.heap.size) := Nat.lt_of_lt_of_le (by simp) hm.size
            have WB : Hid (WAt q (fw g 4 x i) w3) := HW.out.of ((hm.frame (Nat.lt_of_lt_of_le HL.out (by simp)) (by have := lG.out; omega) HD.out).trans (alloc_block _ _ HL.out))
            have pb : Hid (w3.heap[wo.heap.size]? = (wo.alloc (.cells #[.int .u32 r.p, .int .u32 r.v, .int .i64 r.d, .bool r.s, .int .u32 an, .int .u32 r.t, .int .i64 r.m] 25)).heap[wo.heap.size]?) := hm.frame (by simp) (by have := HG.out.lt; omega) (fun j hj e => by have := (HG.out.own j hj).2; omega)
            have pc : Hid (∀ o, w3.cell? ⟨wo.heap.size, o, none⟩ = (#[.int .u32 r.p, .int .u32 r.v, .int .i64 r.d, .bool r.s, .int .u32 an, .int .u32 r.t, .int .i64 r.m] : Array Value)[o]?) := fun o => (World.cell?_of_block (a := ⟨wo.heap.size, o, none⟩) (w := wo.alloc (.cells #[.int .u32 r.p, .int .u32 r.v, .int .i64 r.d, .bool r.s, .int .u32 an, .int .u32 r.t, .int .i64 r.m] 25)) pb.out).trans (World.cell?_alloc_at _ _ _ _ rfl)
            have p3 : Hid (w3.cell? ⟨wo.heap.size, 3, none⟩ = some (.bool r.s)) := pc.out 3
            have p4 : Hid (w3.cell? ⟨wo.heap.size, 4, none⟩ = some (.int .u32 an)) := pc.out 4
            have p5 : Hid (w3.cell? ⟨wo.heap.size, 5, none⟩ = some (.int .u32 r.t)) := pc.out 5
            have p6 : Hid (w3.cell? ⟨wo.heap.size, 6, none⟩ = some (.int .i64 r.m)) := pc.out 6
            clear hg hm pb pc e0 e1 e2 e3 e4 e5 e6 GA AN gr HW HG HF HD HL hin
            obtain ⟨x0, hx0⟩ : ∃ z, fw g 4 x i % 256 = z := ⟨_, rfl⟩
            obtain ⟨x1', hx1⟩ : ∃ z, fw g 4 x i / 256 % 256 = z := ⟨_, rfl⟩
            obtain ⟨x2, hx2⟩ : ∃ z, fw g 4 x i / 65536 % 256 = z := ⟨_, rfl⟩
            obtain ⟨x3, hx3⟩ : ∃ z, fw g 4 x i / 16777216 % 256 = z := ⟨_, rfl⟩
            obtain ⟨y0, hy0⟩ : ∃ z, fw g 4 x (i + 1) % 256 = z := ⟨_, rfl⟩
            obtain ⟨y1, hy1⟩ : ∃ z, fw g 4 x (i + 1) / 256 % 256 = z := ⟨_, rfl⟩
            obtain ⟨y2, hy2⟩ : ∃ z, fw g 4 x (i + 1) / 65536 % 256 = z := ⟨_, rfl⟩
            obtain ⟨y3, hy3⟩ : ∃ z, fw g 4 x (i + 1) / 16777216 % 256 = z := ⟨_, rfl⟩
            obtain ⟨t0, T0⟩ : ∃ z, r.t % 256 = z := ⟨_, rfl⟩
            obtain ⟨t1, T1⟩ : ∃ z, r.t / 256 % 256 = z := ⟨_, rfl⟩
            obtain ⟨t2, T2⟩ : ∃ z, r.t / 65536 % 256 = z := ⟨_, rfl⟩
            obtain ⟨t3, T3⟩ : ∃ z, r.t / 16777216 % 256 = z := ⟨_, rfl⟩
            have ST : Hid (Step r.s (an == 4) c0 c1 c2 c3 x0 x1' x2 x3 t0 t1 t2 t3 y0 y1 y2 y3) := by
              have k := ST0.out
              rw [hx0, hx1, hx2, hx3, hy0, hy1, hy2, hy3] at k
              simp only [T0, T1, T2, T3] at k
              exact k
            have WX : Hid (BAt q x0 x1' x2 x3 w3) := by
              have k := WB.out
              unfold WAt at k
              rw [hx0, hx1, hx2, hx3] at k
              exact k
            have WY : Hid (∀ V, BAt q y0 y1 y2 y3 V → WAt q (fw g 4 x (i + 1)) V) := fun V k => by
              unfold WAt
              rw [hy0, hy1, hy2, hy3]
              exact k
            clear ST0 WB hx0 hx1 hx2 hx3 hy0 hy1 hy2 hy3
            have U3 : Hid (But q w3 w3) := but_set q [] 0 w3
            go_wp2_with fail
            go_loopw [48] (fun t wr => ∃ k : Nat, (k : Int) ≤ 4 ∧ t = .int .i64 k ∧ Hid (BAt q (sel k 0 y0 x0) (sel k 1 y1 x1') (sel k 2 y2 x2) (sel k 3 y3 x3) wr) ∧ Hid (But q w3 wr)) (fun t _ => 4 - (intOf t).toNat)
            case atStart => exact ⟨0, by decide, rfl, WX, U3⟩
            case round =>
              obtain ⟨k, hk, rfl, HB, HU⟩ := hrel
              by_cases hkt : (k : Int) < 4
              · rcases (show k = 0 ∨ k = 1 ∨ k = 2 ∨ k = 3 by omega) with rfl | rfl | rfl | rfl
                · have k3 : wr.cell? ⟨wo.heap.size, 3, none⟩ = some (.bool r.s) := (World.cell?_of_block (a := ⟨wo.heap.size, 3, none⟩) (w := w3) (HU.out.block _ lp.out pq.out)).trans p3.out
                  have k4 : wr.cell? ⟨wo.heap.size, 4, none⟩ = some (.int .u32 an) := (World.cell?_of_block (a := ⟨wo.heap.size, 4, none⟩) (w := w3) (HU.out.block _ lp.out pq.out)).trans p4.out
                  have k5 : wr.cell? ⟨wo.heap.size, 5, none⟩ = some (.int .u32 r.t) := (World.cell?_of_block (a := ⟨wo.heap.size, 5, none⟩) (w := w3) (HU.out.block _ lp.out pq.out)).trans p5.out
                  have k6 : wr.cell? ⟨wo.heap.size, 6, none⟩ = some (.int .i64 r.m) := (World.cell?_of_block (a := ⟨wo.heap.size, 6, none⟩) (w := w3) (HU.out.block _ lp.out pq.out)).trans p6.out
                  cases hs : r.s with
                  | false =>
                    rw [hs] at k3
                    have ee := hid ((ST.out.1 hs).1)
                    clear ST
                    go_wp2_with fail
                    exact ⟨⟨1, by decide, rfl, by rw [ee.out]; exact HB.out, HU⟩, by decide⟩
                  | true =>
                    rw [hs] at k3
                    cases ha : an == 4 with
                    | false =>
                      have ee := hid ((ST.out.2.1 ha).1)
                      clear ST
                      go_wp2_with fail
                      exact ⟨⟨1, by decide, rfl, by rw [ee.out]; exact HB.out, HU⟩, by decide⟩
                    | true =>
                      have ee := hid ((ST.out.2.2 hs ha).1)
                      clear ST
                      cases hc : c0 with
                      | false =>
                        rw [hc] at B0 ee
                        go_wp2_with fail
                        exact ⟨⟨1, by decide, rfl, by rw [ee.out]; exact HB.out, HU⟩, by decide⟩
                      | true =>
                        rw [hc] at B0 ee
                        have cc := HB.out.c0
                        have zz := HB.out.z0
                        go_wp2_with fail
                        exact ⟨⟨1, by decide, rfl, by rw [ee.out]; exact HB.out.s0 _, HU.out.set _ _⟩, by decide⟩
                · have k3 : wr.cell? ⟨wo.heap.size, 3, none⟩ = some (.bool r.s) := (World.cell?_of_block (a := ⟨wo.heap.size, 3, none⟩) (w := w3) (HU.out.block _ lp.out pq.out)).trans p3.out
                  have k4 : wr.cell? ⟨wo.heap.size, 4, none⟩ = some (.int .u32 an) := (World.cell?_of_block (a := ⟨wo.heap.size, 4, none⟩) (w := w3) (HU.out.block _ lp.out pq.out)).trans p4.out
                  have k5 : wr.cell? ⟨wo.heap.size, 5, none⟩ = some (.int .u32 r.t) := (World.cell?_of_block (a := ⟨wo.heap.size, 5, none⟩) (w := w3) (HU.out.block _ lp.out pq.out)).trans p5.out
                  have k6 : wr.cell? ⟨wo.heap.size, 6, none⟩ = some (.int .i64 r.m) := (World.cell?_of_block (a := ⟨wo.heap.size, 6, none⟩) (w := w3) (HU.out.block _ lp.out pq.out)).trans p6.out
                  cases hs : r.s with
                  | false =>
                    rw [hs] at k3
                    have ee := hid ((ST.out.1 hs).2.1)
                    clear ST
                    go_wp2_with fail
                    exact ⟨⟨2, by decide, rfl, by rw [ee.out]; exact HB.out, HU⟩, by decide⟩
                  | true =>
                    rw [hs] at k3
                    cases ha : an == 4 with
                    | false =>
                      have ee := hid ((ST.out.2.1 ha).2.1)
                      clear ST
                      go_wp2_with fail
                      exact ⟨⟨2, by decide, rfl, by rw [ee.out]; exact HB.out, HU⟩, by decide⟩
                    | true =>
                      have ee := hid ((ST.out.2.2 hs ha).2.1)
                      clear ST
                      cases hc : c1 with
                      | false =>
                        rw [hc] at B1 ee
                        go_wp2_with fail
                        exact ⟨⟨2, by decide, rfl, by rw [ee.out]; exact HB.out, HU⟩, by decide⟩
                      | true =>
                        rw [hc] at B1 ee
                        have cc := HB.out.c1
                        have zz := HB.out.z1
                        go_wp2_with fail
                        exact ⟨⟨2, by decide, rfl, by rw [ee.out]; exact HB.out.s1 _, HU.out.set _ _⟩, by decide⟩
                · have k3 : wr.cell? ⟨wo.heap.size, 3, none⟩ = some (.bool r.s) := (World.cell?_of_block (a := ⟨wo.heap.size, 3, none⟩) (w := w3) (HU.out.block _ lp.out pq.out)).trans p3.out
                  have k4 : wr.cell? ⟨wo.heap.size, 4, none⟩ = some (.int .u32 an) := (World.cell?_of_block (a := ⟨wo.heap.size, 4, none⟩) (w := w3) (HU.out.block _ lp.out pq.out)).trans p4.out
                  have k5 : wr.cell? ⟨wo.heap.size, 5, none⟩ = some (.int .u32 r.t) := (World.cell?_of_block (a := ⟨wo.heap.size, 5, none⟩) (w := w3) (HU.out.block _ lp.out pq.out)).trans p5.out
                  have k6 : wr.cell? ⟨wo.heap.size, 6, none⟩ = some (.int .i64 r.m) := (World.cell?_of_block (a := ⟨wo.heap.size, 6, none⟩) (w := w3) (HU.out.block _ lp.out pq.out)).trans p6.out
                  cases hs : r.s with
                  | false =>
                    rw [hs] at k3
                    have ee := hid ((ST.out.1 hs).2.2.1)
                    clear ST
                    go_wp2_with fail
                    exact ⟨⟨3, by decide, rfl, by rw [ee.out]; exact HB.out, HU⟩, by decide⟩
                  | true =>
                    rw [hs] at k3
                    cases ha : an == 4 with
                    | false =>
                      have ee := hid ((ST.out.2.1 ha).2.2.1)
                      clear ST
                      go_wp2_with fail
                      exact ⟨⟨3, by decide, rfl, by rw [ee.out]; exact HB.out, HU⟩, by decide⟩
                    | true =>
                      have ee := hid ((ST.out.2.2 hs ha).2.2.1)
                      clear ST
                      cases hc : c2 with
                      | false =>
                        rw [hc] at B2 ee
                        go_wp2_with fail
                        exact ⟨⟨3, by decide, rfl, by rw [ee.out]; exact HB.out, HU⟩, by decide⟩
                      | true =>
                        rw [hc] at B2 ee
                        have cc := HB.out.c2
                        have zz := HB.out.z2
                        go_wp2_with fail
                        exact ⟨⟨3, by decide, rfl, by rw [ee.out]; exact HB.out.s2 _, HU.out.set _ _⟩, by decide⟩
                · have k3 : wr.cell? ⟨wo.heap.size, 3, none⟩ = some (.bool r.s) := (World.cell?_of_block (a := ⟨wo.heap.size, 3, none⟩) (w := w3) (HU.out.block _ lp.out pq.out)).trans p3.out
                  have k4 : wr.cell? ⟨wo.heap.size, 4, none⟩ = some (.int .u32 an) := (World.cell?_of_block (a := ⟨wo.heap.size, 4, none⟩) (w := w3) (HU.out.block _ lp.out pq.out)).trans p4.out
                  have k5 : wr.cell? ⟨wo.heap.size, 5, none⟩ = some (.int .u32 r.t) := (World.cell?_of_block (a := ⟨wo.heap.size, 5, none⟩) (w := w3) (HU.out.block _ lp.out pq.out)).trans p5.out
                  have k6 : wr.cell? ⟨wo.heap.size, 6, none⟩ = some (.int .i64 r.m) := (World.cell?_of_block (a := ⟨wo.heap.size, 6, none⟩) (w := w3) (HU.out.block _ lp.out pq.out)).trans p6.out
                  cases hs : r.s with
                  | false =>
                    rw [hs] at k3
                    have ee := hid ((ST.out.1 hs).2.2.2)
                    clear ST
                    go_wp2_with fail
                    exact ⟨⟨4, by decide, rfl, by rw [ee.out]; exact HB.out, HU⟩, by decide⟩
                  | true =>
                    rw [hs] at k3
                    cases ha : an == 4 with
                    | false =>
                      have ee := hid ((ST.out.2.1 ha).2.2.2)
                      clear ST
                      go_wp2_with fail
                      exact ⟨⟨4, by decide, rfl, by rw [ee.out]; exact HB.out, HU⟩, by decide⟩
                    | true =>
                      have ee := hid ((ST.out.2.2 hs ha).2.2.2)
                      clear ST
                      cases hc : c3 with
                      | false =>
                        rw [hc] at B3 ee
                        go_wp2_with fail
                        exact ⟨⟨4, by decide, rfl, by rw [ee.out]; exact HB.out, HU⟩, by decide⟩
                      | true =>
                        rw [hc] at B3 ee
                        have cc := HB.out.c3
                        have zz := HB.out.z3
                        go_wp2_with fail
                        exact ⟨⟨4, by decide, rfl, by rw [ee.out]; exact HB.out.s3 _, HU.out.set _ _⟩, by decide⟩
              · obtain rfl : k = 4 := by omega
                go_wp2_with fail
                exact ⟨⟨i + 1, D3, c3', by omega, by omega, by rw [Int.natCast_add]; rfl, GB.out.of HU.out.size (HU.out.block _ GB.out.lt (by have := lG.out; omega)) (fun k hk => HU.out.block k (GB.out.own k hk).2 (DB.out k hk)), DB, WY.out _ HB.out, HU.out.fr FB.out (by have := lG.out; omega), Nat.lt_of_lt_of_le lq3.out HU.out.size⟩, by simp [intOf]; omega⟩
          · have hi16 := hi
            obtain ⟨y, hy⟩ : ∃ y, fw g 4 x i = y := ⟨_, rfl⟩
            have Y := hid hy
            have yb := fw_in g 4 x X0.out X1.out i
            have WB := HW.out
            unfold WAt at WB
            rw [hy] at yb WB
            clear hy HW
            obtain ⟨a, ha⟩ : ∃ z, y % 256 = z := ⟨_, rfl⟩
            obtain ⟨b, hb⟩ : ∃ z, y / 256 % 256 = z := ⟨_, rfl⟩
            obtain ⟨c', hc⟩ : ∃ z, y / 65536 % 256 = z := ⟨_, rfl⟩
            obtain ⟨d, hd⟩ : ∃ z, y / 16777216 % 256 = z := ⟨_, rfl⟩
            rw [ha, hb, hc, hd] at WB
            have WQ := hid WB
            have E3 := ors_wrap y yb.1 yb.2 a b c' d ha hb hc hd
            have q0 := WB.c0
            have q1 := WB.c1
            have q2 := WB.c2
            have q3 := WB.c3
            have LQ := hid HL.out
            clear ha hb hc hd yb WB
            go_wp2_with fail
            go_region_held3 (fun w' => w'.cell? ⟨q, 0, none⟩ = some (.int .u8 a) ∧ w'.cell? ⟨q, 1, none⟩ = some (.int .u8 b) ∧ w'.cell? ⟨q, 2, none⟩ = some (.int .u8 c') ∧ w'.cell? ⟨q, 3, none⟩ = some (.int .u8 d)) (first | go_keep | assumption)
              (first
                | (go_at_call 14; refine (fwd_as w.heap.size w.heap.size c i D g 4 x y _ (by exact hid (HG.out.fr ((Fr.refl _).drew))) hi16 X0.out X1.out Y).mono ?_; rintro e w5 ⟨rfl, hF⟩; have F5 := hid (HF.out.drew.trans hF); have W5 := hid (WQ.out.of (hF.block q LQ.out)); have L5 : Hid (q < w5.heap.size) := Nat.lt_of_lt_of_le LQ.out hF.size; have q50 := W5.out.c0; have q51 := W5.out.c1; have q52 := W5.out.c2; have q53 := W5.out.c3; clear hF)
                | (go_at_call 8; refine (known_as _).mono ?_; rintro e w6 ⟨rfl, hF⟩; have F6 := hid (F5.out.trans hF); have W6 := W5.out.of (hF.block q L5.out); have q60 := W6.c0; have q61 := W6.c1; have q62 := W6.c2; have q63 := W6.c3; clear hF W6))
            go_wp2_with fail
            go_ret
            exact ⟨rfl, F6.out⟩
        · have hi16 := hi
          obtain ⟨y, hy⟩ : ∃ y, fw g 4 x i = y := ⟨_, rfl⟩
          have Y := hid hy
          have yb := fw_in g 4 x X0.out X1.out i
          have WB := HW.out
          unfold WAt at WB
          rw [hy] at yb WB
          clear hy HW
          obtain ⟨a, ha⟩ : ∃ z, y % 256 = z := ⟨_, rfl⟩
          obtain ⟨b, hb⟩ : ∃ z, y / 256 % 256 = z := ⟨_, rfl⟩
          obtain ⟨c', hc⟩ : ∃ z, y / 65536 % 256 = z := ⟨_, rfl⟩
          obtain ⟨d, hd⟩ : ∃ z, y / 16777216 % 256 = z := ⟨_, rfl⟩
          rw [ha, hb, hc, hd] at WB
          have WQ := hid WB
          have E3 := ors_wrap y yb.1 yb.2 a b c' d ha hb hc hd
          have q0 := WB.c0
          have q1 := WB.c1
          have q2 := WB.c2
          have q3 := WB.c3
          have LQ := hid HL.out
          clear ha hb hc hd yb WB
          go_wp2_with fail
          go_region_held3 (fun w' => w'.cell? ⟨q, 0, none⟩ = some (.int .u8 a) ∧ w'.cell? ⟨q, 1, none⟩ = some (.int .u8 b) ∧ w'.cell? ⟨q, 2, none⟩ = some (.int .u8 c') ∧ w'.cell? ⟨q, 3, none⟩ = some (.int .u8 d)) (first | go_keep | assumption)
            (first
              | (go_at_call 14; refine (fwd_as w.heap.size w.heap.size c i D g 4 x y _ (by exact hid (HG.out.fr ((Fr.refl _).drew))) hi16 X0.out X1.out Y).mono ?_; rintro e w5 ⟨rfl, hF⟩; have F5 := hid (HF.out.drew.trans hF); have W5 := hid (WQ.out.of (hF.block q LQ.out)); have L5 : Hid (q < w5.heap.size) := Nat.lt_of_lt_of_le LQ.out hF.size; have q50 := W5.out.c0; have q51 := W5.out.c1; have q52 := W5.out.c2; have q53 := W5.out.c3; clear hF)
              | (go_at_call 8; refine (known_as _).mono ?_; rintro e w6 ⟨rfl, hF⟩; have F6 := hid (F5.out.trans hF); have W6 := W5.out.of (hF.block q L5.out); have q60 := W6.c0; have q61 := W6.c1; have q62 := W6.c2; have q63 := W6.c3; clear hF W6))
          go_wp2_with fail
          go_ret
          exact ⟨rfl, F6.out⟩
end Go.Proofs.Ytedcamljgnblmaa.M
