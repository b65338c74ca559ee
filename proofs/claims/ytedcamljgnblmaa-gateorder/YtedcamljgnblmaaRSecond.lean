/- Contracts of the document's Second. -/
import Derived.Test.YtedcamljgnblmaaSecondR
namespace Go.Proofs.Ytedcamljgnblmaa.M
open Go.ChangeShapes Go.WideShapes Go.ChangeAt Go.RowKit Go.Proofs.Ytedcamljgnblmaa.Walks
set_option linter.unusedVariables false
set_option maxRecDepth 100000 in
set_option maxHeartbeats 1000000 in
theorem rsecond_none (B G c : Nat) (A : Option Addr) (f : Nat → Rt) (r : Rt) (w : World) (hG : Hid (GAt B G A c 0 f w)) :
    Calls Try.prog 15 #[.pointer (some ⟨G, 0, none⟩), .agg #[.int .u32 r.p, .int .u32 r.v, .int .i64 r.d, .bool r.s, .int .u32 r.a, .int .u32 r.t, .int .i64 r.m]] w fun e w' => e = .returned (.tuple #[.agg #[.int .u32 0, .int .u32 0, .int .i64 0, .bool false, .int .u32 0, .int .u32 0, .int .i64 0], .int .i64 2]) ∧ Fr w w' := by
  have c0b : ∀ o o', ((w.alloc o).alloc o').cell? ⟨G, 0, none⟩ = some (.slice A 0 c) := fun o o' => (hG.out.fr (((Fr.refl w).alloc o).alloc o')).c0
  have TH := hid (there_drew (two_there w #[.int .u32 r.p, .int .u32 r.v, .int .i64 r.d, .bool r.s, .int .u32 r.a, .int .u32 r.t, .int .i64 r.m] #[.int .u32 0, .int .u32 0, .int .i64 0, .bool false, .int .u32 0, .int .u32 0, .int .i64 0] rfl))
  go_enter Try.func15, Try.ntmps15
  go_wp2_with fail
  go_region
  all_goals
    go_wp2_with (refine wpList_put _ (w.heap.size + 1) TH.out rfl _ _ rfl zR _ rfl rfl rfl ?_)
    intro W1 hR hF
    go_wp2_with fail
    (try simp only [Exit.inBlock, Exit.then])
    refine bodyPost_ret (v := .tuple #[.agg zR.cs.toArray, .int .i64 2]) ?_ rfl ⟨rfl, hF.out.fr (((Fr.refl w).alloc _).alloc _).drew (by simp)⟩
    rw [results_cell_tmp rfl]
    simp [asAddr, Result.andThen, load_cell W1 _ zR hR.out]
set_option maxRecDepth 100000 in
set_option maxHeartbeats 2000000 in
theorem rsecond_diff (B G c n : Nat) (A : Option Addr) (f : Nat → Rt) (r : Rt) (w : World) (hG : Hid (GAt B G A c n f w)) (hn : (0 : Int) < n) (hne : Hid ((f 0).eq r = false)) :
    Calls Try.prog 15 #[.pointer (some ⟨G, 0, none⟩), .agg #[.int .u32 r.p, .int .u32 r.v, .int .i64 r.d, .bool r.s, .int .u32 r.a, .int .u32 r.t, .int .i64 r.m]] w fun e w' => e = .returned (.tuple #[.agg #[.int .u32 0, .int .u32 0, .int .i64 0, .bool false, .int .u32 0, .int .u32 0, .int .i64 0], .int .i64 2]) ∧ Fr w w' := by
  obtain ⟨g, hA, hg, _⟩ := hG.out.head (by omega)
  subst hA
  have c0b : ∀ o o', ((w.alloc o).alloc o').cell? ⟨G, 0, none⟩ = some (.slice (some ⟨g, 0, none⟩) n c) := fun o o' => (hG.out.fr (((Fr.refl w).alloc o).alloc o')).c0
  have H7 := fun o o' => cells7 (head_at hG.out (((Fr.refl w).alloc o).alloc o') rfl (by omega))
  have q0 := fun o o' => (H7 o o').1
  have q1 := fun o o' => (H7 o o').2.1
  have q2 := fun o o' => (H7 o o').2.2.1
  have q3 := fun o o' => (H7 o o').2.2.2.1
  have q4 := fun o o' => (H7 o o').2.2.2.2.1
  have q5 := fun o o' => (H7 o o').2.2.2.2.2.1
  have q6 := fun o o' => (H7 o o').2.2.2.2.2.2
  clear H7
  have TH := hid (there_drew (two_there w #[.int .u32 r.p, .int .u32 r.v, .int .i64 r.d, .bool r.s, .int .u32 r.a, .int .u32 r.t, .int .i64 r.m] #[.int .u32 0, .int .u32 0, .int .i64 0, .bool false, .int .u32 0, .int .u32 0, .int .i64 0] rfl))
  generalize f 0 = x at *
  have E : ∀ W, (binOp .neq 25 (.agg #[.int .u32 x.p, .int .u32 x.v, .int .i64 x.d, .bool x.s, .int .u32 x.a, .int .u32 x.t, .int .i64 x.m]) (.agg #[.int .u32 r.p, .int .u32 r.v, .int .i64 r.d, .bool r.s, .int .u32 r.a, .int .u32 r.t, .int .i64 r.m])).run Try.prog W = .ok (.bool true) W := fun W => (neq25 x r W).trans (by rw [hne.out]; rfl)
  have n0 : ((n : Int) == 0) = false := by rw [beq_eq_false_iff_ne]; omega
  go_enter Try.func15, Try.ntmps15
  go_wp2_with fail
  go_region
  all_goals
    clear q0 q1 q2 q3 q4 q5 q6
    go_wp2_with (refine wpList_put _ (w.heap.size + 1) TH.out rfl _ _ rfl zR _ rfl rfl rfl ?_)
    intro W1 hR hF
    go_wp2_with fail
    (try simp only [Exit.inBlock, Exit.then])
    refine bodyPost_ret (v := .tuple #[.agg zR.cs.toArray, .int .i64 2]) ?_ rfl ⟨rfl, hF.out.fr (((Fr.refl w).alloc _).alloc _).drew (by simp)⟩
    rw [results_cell_tmp rfl]
    simp [asAddr, Result.andThen, load_cell W1 _ zR hR.out]
/-- it lies where A lay, or above n -/
def Near (A A' : Option Addr) (n : Nat) : Prop := A'.map (·.block) = A.map (·.block) ∨ ∀ k, A'.map (·.block) = some k → n ≤ k
theorem wpList_own2 {ops : Array Oper} {rest : List Oper} {o : Oper} {a : Act} {w : World} {Q : Exit → Act → World → Prop} (hgd : o.guard = none) (s x : Operand) (ho : o.op = .call { callee := .builtin .append, args := #[s, x], argTypes := #[31, 31] })
    (u : World) (A : Option Addr) (n c : Nat) (f : Nat → Rt) (hs : a.eval s = .slice A n c) (hO : Own u w A n c f) (F : Fr u w) (D : Option Addr) (m d : Nat) (g : Nat → Rt) (hx : a.eval x = .slice D m d) (hD : RIn w D m g) (hN : D = none → m = 0 ∧ d = 0) (hb : n + m ≤ 1048576)
    (h : ∀ A' c' w', Hid (Own u w' A' (n + m) c' (cat f g n)) → Hid (Fr u w') → Hid (w.grownBy w' (A.map (·.block))) → Hid (Near A A' w.heap.size) → wpList Try.prog ops Q rest (a.put o.dst (.slice A' (n + m) c')) w') : wpList Try.prog ops Q (o :: rest) a w := by
  refine wpList_plain hgd fun K hK => ?_
  obtain ⟨A', c', w', hr, h2, h3, h4⟩ := run_app w o.type u.heap.size A n c f hO D m d g hD hN hb F.size
  unfold Oper.wp execOp
  simp only [ho, resolve, invoke, builtin, Sem.run_bind, Sem.run_pure, Result.andThen_ok, List.map_toArray, List.map_cons, List.map_nil, hs, hx, hr]
  exact hK _ _ (h A' c' w' h2 (F.grow (fun b e => (hO.ge b e).1) h3) h3 h4)
theorem Mv.but2 {G b : Nat} {A A' : Option Addr} {w W3 W4 : World} (h : Mv G A A' w W3) (hb : But b W3 W4) (hwb : w.heap.size ≤ b) : Mv G A A' w W4 :=
  ⟨hb.os.trans h.os, hb.output.trans h.output, Nat.le_trans h.size hb.size, fun k hk e1 e2 => (hb.block k (Nat.lt_of_lt_of_le hk h.size) (by omega)).trans (h.block k hk e1 e2), h.own⟩
/-- the row but its first one -/
theorem GAt.rest {B G c m g : Nat} {f : Nat → Rt} {w W : World} (h : GAt B G (some ⟨g, 0, none⟩) c (m + 1) f w) (F : Fr w W) : RIn W (some ⟨g, 7, none⟩) m (tl f) := fun j hj => by
  obtain ⟨b, o, h1, h2, h3⟩ := (h.fr F).rin (j + 1) (by omega)
  injection h1 with h1
  injection h1 with h1 h4
  subst h1
  subst h4
  refine ⟨g, 7, rfl, h2, ?_⟩
  rwa [show 0 + (j + 1) * 7 = 7 + j * 7 by omega] at h3
theorem two_own (w : World) (X Y : Array Value) (f : Nat → Rt) : Own w (((w.alloc (.cells X 25)).alloc (.cells Y 25)).alloc (.cells #[] 25)).drew (some ⟨w.heap.size + 1 + 1, 0, none⟩) 0 0 f ∧ Fr w (((w.alloc (.cells X 25)).alloc (.cells Y 25)).alloc (.cells #[] 25)).drew := by
  have F := ((Fr.refl w).alloc (.cells X 25)).alloc (.cells Y 25)
  have k := Own.new w _ F f
  have e : ((w.alloc (.cells X 25)).alloc (.cells Y 25)).heap.size = w.heap.size + 1 + 1 := by simp
  rw [e] at k
  exact ⟨k.fr ((Fr.refl _).drew), (F.alloc _).drew⟩
theorem three_there (w : World) (X Y : Array Value) (h : Y.size = 7) : (((w.alloc (.cells X 25)).alloc (.cells Y 25)).alloc (.cells #[] 25)).drew.there (w.heap.size + 1) 0 7 := there_drew (there_fr (two_there w X Y h) ((Fr.refl _).alloc _) (by simp))
theorem three_range (w : World) (r : Rt) (X Y : Array Value) (h : X = r.cs.toArray) : (((w.alloc (.cells X 25)).alloc (.cells Y 25)).alloc (.cells #[] 25)).drew.rangeAt w.heap.size 0 r.cs := by
  subst h
  exact range_fr (range_new w r.cs 25) ((((Fr.refl _).alloc _).alloc _).drew) (by simp)
set_option maxRecDepth 100000 in
set_option maxHeartbeats 2000000 in
theorem rsecond_rel (B G c m : Nat) (A : Option Addr) (f : Nat → Rt) (x r : Rt) (w : World) (hG : Hid (GAt B G A c (m + 1) f w)) (X : Hid (f 0 = x)) (hne : Hid (x.eq r = true)) (hm16 : Hid ((m : Int) ≤ 16)) (hB : Hid (B ≤ w.heap.size)) :
    Calls Try.prog 15 #[.pointer (some ⟨G, 0, none⟩), .agg #[.int .u32 r.p, .int .u32 r.v, .int .i64 r.d, .bool r.s, .int .u32 r.a, .int .u32 r.t, .int .i64 r.m]] w fun e w' => e = .returned (.tuple #[.agg r.cs.toArray, .int .i64 1]) ∧ ∃ A' c', GAt B G A' c' m (tl f) w' ∧ Mv G A A' w w' := by
  obtain ⟨g, hA, hg, _⟩ := hG.out.head (by omega)
  subst hA
  have c0 : ∀ W, Fr w W → W.cell? ⟨G, 0, none⟩ = some (.slice (some ⟨g, 0, none⟩) (m + 1) c) := fun W F => (hG.out.fr F).c0
  have c0b := fun o1 o2 => c0 ((w.alloc o1).alloc o2) (((Fr.refl w).alloc o1).alloc o2)
  have c0d := fun o1 o2 o3 => c0 (((w.alloc o1).alloc o2).alloc o3) ((((Fr.refl w).alloc o1).alloc o2).alloc o3)
  have H7 := fun W F => cells7 (head_at hG.out (W := W) F rfl (by omega))
  rw [X.out] at H7
  have b0 := fun o1 o2 => (H7 ((w.alloc o1).alloc o2) (((Fr.refl w).alloc o1).alloc o2)).1
  have b1 := fun o1 o2 => (H7 ((w.alloc o1).alloc o2) (((Fr.refl w).alloc o1).alloc o2)).2.1
  have b2 := fun o1 o2 => (H7 ((w.alloc o1).alloc o2) (((Fr.refl w).alloc o1).alloc o2)).2.2.1
  have b3 := fun o1 o2 => (H7 ((w.alloc o1).alloc o2) (((Fr.refl w).alloc o1).alloc o2)).2.2.2.1
  have b4 := fun o1 o2 => (H7 ((w.alloc o1).alloc o2) (((Fr.refl w).alloc o1).alloc o2)).2.2.2.2.1
  have b5 := fun o1 o2 => (H7 ((w.alloc o1).alloc o2) (((Fr.refl w).alloc o1).alloc o2)).2.2.2.2.2.1
  have b6 := fun o1 o2 => (H7 ((w.alloc o1).alloc o2) (((Fr.refl w).alloc o1).alloc o2)).2.2.2.2.2.2
  clear H7 c0
  have E : ∀ W, (binOp .neq 25 (.agg #[.int .u32 x.p, .int .u32 x.v, .int .i64 x.d, .bool x.s, .int .u32 x.a, .int .u32 x.t, .int .i64 x.m]) (.agg #[.int .u32 r.p, .int .u32 r.v, .int .i64 r.d, .bool r.s, .int .u32 r.a, .int .u32 r.t, .int .i64 r.m])).run Try.prog W = .ok (.bool false) W := fun W => (neq25 x r W).trans (by rw [hne.out]; rfl)
  have OW := hid (two_own w #[.int .u32 r.p, .int .u32 r.v, .int .i64 r.d, .bool r.s, .int .u32 r.a, .int .u32 r.t, .int .i64 r.m] #[.int .u32 0, .int .u32 0, .int .i64 0, .bool false, .int .u32 0, .int .u32 0, .int .i64 0] (tl f))
  have TH := hid (three_there w #[.int .u32 r.p, .int .u32 r.v, .int .i64 r.d, .bool r.s, .int .u32 r.a, .int .u32 r.t, .int .i64 r.m] #[.int .u32 0, .int .u32 0, .int .i64 0, .bool false, .int .u32 0, .int .u32 0, .int .i64 0] rfl)
  have RR := hid (three_range w r #[.int .u32 r.p, .int .u32 r.v, .int .i64 r.d, .bool r.s, .int .u32 r.a, .int .u32 r.t, .int .i64 r.m] #[.int .u32 0, .int .u32 0, .int .i64 0, .bool false, .int .u32 0, .int .u32 0, .int .i64 0] rfl)
  have n0 : ((m : Int) + 1 == 0) = false := by rw [beq_eq_false_iff_ne]; omega
  have hb : Hid (0 + m ≤ 1048576) := by have := hm16.out; unfold Hid; omega
  have lc := hid (hG.out.o)
  have lm : (m : Int) + 1 ≤ c := by
    rcases lc.out.2 with ⟨e, _⟩ | ⟨g', cap', cur, e, h2, h3, h4, h5, h6, h7⟩
    · injection e with e; cases e
    · injection e with e1 e2 e3
      subst e3
      omega
  obtain ⟨D, hD, RD, nD⟩ : ∃ D : Option Addr, (if c = 1 then (some ⟨g, 0, none⟩ : Option Addr) else some ⟨g, 7, none⟩) = D ∧ Hid (∀ W, Fr w W → RIn W D m (tl f)) ∧ Hid (D = none → m = 0 ∧ c - 1 = 0) := by
    refine ⟨_, rfl, fun W F => ?_, fun e => ?_⟩
    · split
      · obtain rfl : m = 0 := by omega
        exact RIn.zero _ _ _
      · exact hG.out.rest F
    · split at e <;> cases e
  have lm1 := hid lm
  clear lm
  have n1 : (0 : Int) < (m : Int) + 1 := by omega
  have n2 : (1 : Int) ≤ (m : Int) + 1 := by omega
  go_enter Try.func15, Try.ntmps15
  go_wp2_with fail
  go_region
  all_goals
    clear b0 b1 b2 b3 b4 b5 b6
    go_wp2_with (refine wpList_own2 rfl _ _ rfl w (some ⟨w.heap.size + 1 + 1, 0, none⟩) 0 0 (tl f) rfl OW.out.1 OW.out.2 D m (c - 1) (tl f) rfl (RD.out _ OW.out.2) nD.out hb.out ?_)
    intro A' c' W1 hO hF hg hA
    have c1 := (hG.out.fr hF.out).c0
    have z1 := (hG.out.fr hF.out).z
    have HX := hid (hG.out.put3 hB.out hO.out hF.out (fun j hj => by unfold cat; split <;> exact hG.out.wf (_ + 1) (by omega)))
    have bx : Hid (W1.heap[w.heap.size]? = ((((w.alloc (.cells #[.int .u32 r.p, .int .u32 r.v, .int .i64 r.d, .bool r.s, .int .u32 r.a, .int .u32 r.t, .int .i64 r.m] 25)).alloc (.cells #[.int .u32 0, .int .u32 0, .int .i64 0, .bool false, .int .u32 0, .int .u32 0, .int .i64 0] 25)).alloc (.cells #[] 25)).drew).heap[w.heap.size]?) := hg.out.block _ (by simp; omega) (by simp; omega)
    have by' : Hid (W1.heap[w.heap.size + 1]? = ((((w.alloc (.cells #[.int .u32 r.p, .int .u32 r.v, .int .i64 r.d, .bool r.s, .int .u32 r.a, .int .u32 r.t, .int .i64 r.m] 25)).alloc (.cells #[.int .u32 0, .int .u32 0, .int .i64 0, .bool false, .int .u32 0, .int .u32 0, .int .i64 0] 25)).alloc (.cells #[] 25)).drew).heap[w.heap.size + 1]?) := hg.out.block _ (by simp) (by simp)
    have bG : Hid (∀ v k, w.heap.size ≤ k → (W1.setCell ⟨G, 0, none⟩ v).heap[k]? = W1.heap[k]?) := fun v k hk => Below.heap_setCell _ _ _ k (by have := hG.out.lt; show k ≠ G; omega)
    have lo : Hid (∀ k, A'.map (·.block) = some k → k ≠ w.heap.size + 1) := fun k hk e => by
      have hA' := hA.out
      unfold Near at hA'
      rcases hA' with h | h
      · rw [hk] at h
        injection h with h
        simp only at h
        omega
      · have := h k hk
        omega
    clear hO hF hg hA
    go_wp2_with (first
      | (refine load_want (by rfl) 25 _ rfl w.heap.size 0 rfl r.cs _ (range_block RR.out ((bG.out _ _ (Nat.le_refl _)).trans bx.out)) Try.underlying25 rfl size25 ?_)
      | (refine wpList_put _ (w.heap.size + 1) (there_block TH.out ((bG.out _ (w.heap.size + 1) (by omega)).trans by'.out)) rfl _ _ rfl r _ rfl rfl rfl ?_))
    intro W4 hR4 hF4
    go_wp2_with fail
    (try simp only [Exit.inBlock, Exit.then])
    refine bodyPost_ret (v := .tuple #[.agg r.cs.toArray, .int .i64 1]) ?_ rfl ⟨rfl, A', c', ?_, HX.out.2.but2 hF4.out (by omega)⟩
    · rw [results_cell_tmp rfl]
      simp [asAddr, Result.andThen, load_cell W4 _ r hR4.out]
    · have l1 := hG.out.lt
      have k := HX.out.1.of hF4.out.size (hF4.out.block G HX.out.1.lt (by omega)) fun k hk => hF4.out.block k (HX.out.1.own k hk).2 (lo.out k hk)
      exact k.congr (by omega) (fun j _ => by unfold cat; simp)
end Go.Proofs.Ytedcamljgnblmaa.M
