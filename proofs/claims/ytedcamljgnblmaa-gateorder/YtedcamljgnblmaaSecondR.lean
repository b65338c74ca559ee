/- The program's Second where it releases. -/
import Derived.Test.YtedcamljgnblmaaSecond
namespace Go.Proofs.Ytedcamljgnblmaa.M
open Go.ChangeShapes Go.WideShapes Go.ChangeAt Go.RowKit Go.Proofs.Ytedcamljgnblmaa.Walks
set_option linter.unusedVariables false
theorem there_block {W W' : World} {b n : Nat} (h : W.there b 0 n) (e : W'.heap[b]? = W.heap[b]?) : W'.there b 0 n := fun j hj => by
  rw [World.cell?_of_block (w := W) e, World.frozen?_of_block (w := W) e]; exact h j hj
theorem five_there (w : World) (a b c d Y : Array Value) (h : Y.size = 7) : (((((w.alloc (.cells a 25)).alloc (.cells b 25)).alloc (.cells c 25)).alloc (.cells d 25)).alloc (.cells Y 25)).drew.there (w.heap.size + 1 + 1 + 1 + 1) 0 7 := by
  have k := there_new ((((w.alloc (.cells a 25)).alloc (.cells b 25)).alloc (.cells c 25)).alloc (.cells d 25)) Y.toList 25
  have e : ((((w.alloc (.cells a 25)).alloc (.cells b 25)).alloc (.cells c 25)).alloc (.cells d 25)).heap.size = w.heap.size + 1 + 1 + 1 + 1 := by simp
  rw [e] at k
  have k2 : ((((((w.alloc (.cells a 25)).alloc (.cells b 25)).alloc (.cells c 25)).alloc (.cells d 25)).alloc (.cells Y 25))).there (w.heap.size + 1 + 1 + 1 + 1) 0 7 := by simpa [h] using k
  exact k2
theorem rel_after {w W1 w2 : World} {B G c m g : Nat} {f : Nat → Rt} (hG : GAt B G (some ⟨g, 0, none⟩) c (m + 1) f w) (F1 : Fr w W1) (e : w2 = (W1.drew.setCells g 0 (rl (tl f) m)).setCells g (m * 7) zs7) :
    (w2.cell? ⟨G, 0, none⟩ = some (.slice (some ⟨g, 0, none⟩) (m + 1) c) ∧ w2.frozen? ⟨G, 0, none⟩ = false) ∧ GAt B G (some ⟨g, 0, none⟩) c m (tl f) (w2.setCell ⟨G, 0, none⟩ (.slice (some ⟨g, 0, none⟩) m c)) ∧
    Mv G (some ⟨g, 0, none⟩) (some ⟨g, 0, none⟩) W1 (w2.setCell ⟨G, 0, none⟩ (.slice (some ⟨g, 0, none⟩) m c)) ∧ (∀ k, w.heap.size ≤ k → (w2.setCell ⟨G, 0, none⟩ (.slice (some ⟨g, 0, none⟩) m c)).heap[k]? = W1.heap[k]?) := by
  have h1 := hG.fr F1
  have hgG : g ≠ G := fun e => hG.ne (by rw [e]; rfl)
  have hgl := (hG.own g rfl).2
  have z1 := size_setCells g (rl (tl f) m) 0 W1.drew
  have z2 := size_setCells g zs7 (m * 7) (W1.drew.setCells g 0 (rl (tl f) m))
  rw [← e] at z2
  have bl : ∀ k, k ≠ g → w2.heap[k]? = W1.heap[k]? := fun k hk => by
    rw [e]; exact (block_setCells g _ _ _ k hk).trans (block_setCells g _ _ _ k hk)
  have ow := gone h1.o
  rw [← e] at ow
  have sz : w2.heap.size = W1.heap.size := z2.1.trans z1.1
  obtain ⟨p1, p2⟩ := h1.put (w1 := w2) (m := m) (g := tl f) (A' := some ⟨g, 0, none⟩) (c' := c) ow (by rw [sz]; exact Nat.le_refl _) (fun k _ hk => bl k (fun e => hk (by rw [e]; rfl))) (z2.2.1.trans z1.2.1) (z2.2.2.trans z1.2.2) (.inl rfl) (fun j hj => hG.wf (j + 1) (by omega))
  refine ⟨⟨by rw [World.cell?_of_block (w := W1) (bl G hgG.symm)]; exact h1.c0, by rw [World.frozen?_of_block (w := W1) (bl G hgG.symm)]; exact h1.z⟩, p1, p2, fun k hk => ?_⟩
  have := hG.lt
  exact (Below.heap_setCell _ _ _ k (by show k ≠ G; omega)).trans (bl k (by omega))
theorem Mv.but {G b : Nat} {A A' : Option Addr} {w W1 W3 W4 : World} (F : Fr w W1) (h : Mv G A A' W1 W3) (hb : But b W3 W4) (hwb : w.heap.size ≤ b) (hA : A'.map (·.block) = A.map (·.block)) : Mv G A A' w W4 :=
  ⟨hb.os.trans (h.os.trans F.os), hb.output.trans (h.output.trans F.output), Nat.le_trans F.size (Nat.le_trans h.size hb.size), fun k hk e1 e2 => (hb.block k (Nat.lt_of_lt_of_le hk (Nat.le_trans F.size h.size)) (by omega)).trans ((h.block k (Nat.lt_of_lt_of_le hk F.size) e1 e2).trans (F.block k hk)), .inl hA⟩
set_option maxRecDepth 100000 in
set_option maxHeartbeats 2000000 in
theorem second_rel (B G c m : Nat) (A : Option Addr) (f : Nat → Rt) (x r : Rt) (w : World) (hG : Hid (GAt B G A c (m + 1) f w)) (X : Hid (f 0 = x)) (hne : Hid (x.eq r = true)) (hm16 : Hid ((m : Int) ≤ 16)) :
    Calls Try.prog 12 #[.pointer (some ⟨G, 0, none⟩), .agg #[.int .u32 r.p, .int .u32 r.v, .int .i64 r.d, .bool r.s, .int .u32 r.a, .int .u32 r.t, .int .i64 r.m]] w fun e w' => e = .returned (.tuple #[.agg x.cs.toArray, .int .i64 1]) ∧ GAt B G A c m (tl f) w' ∧ Mv G A A w w' := by
  obtain ⟨g, hA, hg, _⟩ := hG.out.head (by omega)
  subst hA
  have c0 : ∀ W, Fr w W → W.cell? ⟨G, 0, none⟩ = some (.slice (some ⟨g, 0, none⟩) (m + 1) c) := fun W F => (hG.out.fr F).c0
  have c0b := fun o1 o2 => c0 ((w.alloc o1).alloc o2) (((Fr.refl w).alloc o1).alloc o2)
  have c0d := fun o1 o2 o3 o4 => c0 ((((w.alloc o1).alloc o2).alloc o3).alloc o4) (((((Fr.refl w).alloc o1).alloc o2).alloc o3).alloc o4)
  have H7 := fun W F => cells7 (head_at hG.out (W := W) F rfl (by omega))
  rw [X.out] at H7
  have b0 := fun o1 o2 => (H7 ((w.alloc o1).alloc o2) (((Fr.refl w).alloc o1).alloc o2)).1
  have b1 := fun o1 o2 => (H7 ((w.alloc o1).alloc o2) (((Fr.refl w).alloc o1).alloc o2)).2.1
  have b2 := fun o1 o2 => (H7 ((w.alloc o1).alloc o2) (((Fr.refl w).alloc o1).alloc o2)).2.2.1
  have b3 := fun o1 o2 => (H7 ((w.alloc o1).alloc o2) (((Fr.refl w).alloc o1).alloc o2)).2.2.2.1
  have b4 := fun o1 o2 => (H7 ((w.alloc o1).alloc o2) (((Fr.refl w).alloc o1).alloc o2)).2.2.2.2.1
  have b5 := fun o1 o2 => (H7 ((w.alloc o1).alloc o2) (((Fr.refl w).alloc o1).alloc o2)).2.2.2.2.2.1
  have b6 := fun o1 o2 => (H7 ((w.alloc o1).alloc o2) (((Fr.refl w).alloc o1).alloc o2)).2.2.2.2.2.2
  have H0 : Hid (∀ W, Fr w W → W.rangeAt g 0 x.cs) := fun W F => by rw [← X.out]; exact head_at hG.out (W := W) F rfl (by omega)
  clear H7 c0
  have TH : Hid (∀ W, Fr ((w.alloc (.cells #[.int .u32 r.p, .int .u32 r.v, .int .i64 r.d, .bool r.s, .int .u32 r.a, .int .u32 r.t, .int .i64 r.m] 25)).alloc (.cells #[.int .u32 0, .int .u32 0, .int .i64 0, .bool false, .int .u32 0, .int .u32 0, .int .i64 0] 25)) W → W.there (w.heap.size + 1) 0 7 ∧ Fr w W) := fun W F => ⟨there_fr (two_there w #[.int .u32 r.p, .int .u32 r.v, .int .i64 r.d, .bool r.s, .int .u32 r.a, .int .u32 r.t, .int .i64 r.m] #[.int .u32 0, .int .u32 0, .int .i64 0, .bool false, .int .u32 0, .int .u32 0, .int .i64 0] rfl) F (by simp), (((Fr.refl w).alloc _).alloc _).trans F⟩
  have n0 : ((m : Int) + 1 == 0) = false := by rw [beq_eq_false_iff_ne]; omega
  have lc := hid (hG.out.o)
  have lm : (m : Int) + 1 ≤ c ∧ (c : Int) ≤ 9223372036854775807 := by
    rcases lc.out.2 with ⟨e, _⟩ | ⟨g', cap', cur, e, h2, h3, h4, h5, h6, h7⟩
    · injection e with e; cases e
    · injection e with e1 e2 e3
      subst e3
      simp only [maxLen] at h5
      omega
  have lm1 := hid lm.1
  have lm2 := hid lm.2
  clear lm
  have n1 : (0 : Int) < (m : Int) + 1 := by omega
  go_enter Try.func12, Try.ntmps12
  go_wp2_with fail
  go_region_with (go_at_call 19; refine (same_is _ _ _ hne _).mono ?_; rintro e w' ⟨rfl, rfl⟩)
  all_goals
    clear b0 b1 b2 b3 b4 b5 b6
    go_wp2_with (first
      | (refine load_want (by rfl) 25 _ rfl g 0 rfl x.cs _ (H0.out _ (TH.out _ ((((Fr.refl _).alloc _).alloc _).drew)).2) Try.underlying25 rfl size25 ?_)
      | (refine wpList_put _ (w.heap.size + 1 + 1 + 1 + 1) (by exact five_there w #[.int .u32 r.p, .int .u32 r.v, .int .i64 r.d, .bool r.s, .int .u32 r.a, .int .u32 r.t, .int .i64 r.m] #[.int .u32 0, .int .u32 0, .int .i64 0, .bool false, .int .u32 0, .int .u32 0, .int .i64 0] x.cs.toArray r.cs.toArray #[.int .u32 0, .int .u32 0, .int .i64 0, .bool false, .int .u32 0, .int .u32 0, .int .i64 0] rfl) rfl _ _ rfl x _ rfl rfl rfl ?_))
    intro W1 hR hF
    have F1 := hid (hF.out.fr ((TH.out _ ((((Fr.refl _).alloc _).alloc _).alloc _).drew)).2 (by omega))
    have T1 := hid (hF.out.there (TH.out _ ((((Fr.refl _).alloc _).alloc _).alloc _).drew).1 (by omega) (by simp))
    have c1 := (hG.out.fr F1.out).c0
    clear hF c0d
    go_wp2_with fail
    refine (delete_as B g m c f W1 (hG.out.fr F1.out).o (by have := hm16.out; omega) lm1.out lm2.out).mono ?_
    rintro e w2 ⟨rfl, hw2⟩
    obtain ⟨⟨c2, z2⟩, P1, P2, P3⟩ := rel_after hG.out F1.out hw2
    have hP1 := hid P1
    have hP2 := hid P2
    have hP3 := hid P3
    clear P1 P2 P3 hw2 c1
    go_wp2_with (first
      | (refine load_want (by rfl) 25 _ rfl (w.heap.size + 1 + 1 + 1 + 1) 0 rfl x.cs _ (range_block hR.out (hP3.out (w.heap.size + 1 + 1 + 1 + 1) (by omega))) Try.underlying25 rfl size25 ?_)
      | (refine wpList_put _ (w.heap.size + 1) (there_block T1.out (hP3.out (w.heap.size + 1) (by omega))) rfl _ _ rfl x _ rfl rfl rfl ?_))
    intro W4 hR4 hF4
    go_wp2_with fail
    (try simp only [Exit.inBlock, Exit.then])
    refine bodyPost_ret (v := .tuple #[.agg x.cs.toArray, .int .i64 1]) ?_ rfl ⟨rfl, ?_, Mv.but F1.out hP2.out hF4.out (by omega) rfl⟩
    · rw [results_cell_tmp rfl]
      simp [asAddr, Result.andThen, load_cell W4 _ x hR4.out]
    · have l1 := hG.out.lt
      exact hP1.out.of hF4.out.size (hF4.out.block G hP1.out.lt (by omega)) fun k hk => by
        have : g = k := by simpa using hk
        subst this
        exact hF4.out.block g (hP1.out.own g rfl).2 (by omega)
end Go.Proofs.Ytedcamljgnblmaa.M
