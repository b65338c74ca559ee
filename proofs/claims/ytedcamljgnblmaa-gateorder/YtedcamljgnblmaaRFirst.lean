/- Contracts of the document's First; rows that are made. -/
import Derived.Test.YtedcamljgnblmaaFirst
namespace Go.Proofs.Ytedcamljgnblmaa.M
open Go.ChangeShapes Go.WideShapes Go.ChangeAt Go.RowKit Go.Proofs.Ytedcamljgnblmaa.Walks
set_option linter.unusedVariables false
set_option maxHeartbeats 400000 in
theorem rfirst_full (B G c n : Nat) (A : Option Addr) (f : Nat → Rt) (r : Rt) (w : World) (hn : (16 : Int) ≤ n) (hG : Hid (GAt B G A c n f w)) :
    Calls Try.prog 18 #[.pointer (some ⟨G, 0, none⟩), .agg #[.int .u32 r.p, .int .u32 r.v, .int .i64 r.d, .bool r.s, .int .u32 r.a, .int .u32 r.t, .int .i64 r.m]] w fun e w' => e = .returned (.bool false) ∧ Fr w w' := by
  have c0 : ∀ o, (w.alloc o).cell? ⟨G, 0, none⟩ = some (.slice A n c) := fun o => (hG.out.fr ((Fr.refl w).alloc o)).c0
  go_enter Try.func18, Try.ntmps18
  go_wp2_with fail
  go_ret
  exact ⟨rfl, (Fr.refl w).alloc _⟩
theorem _root_.Go.Proofs.Ytedcamljgnblmaa.Walks.Fr.grow {u w w' : World} {row : Option Nat} (h : Fr u w) (hv : ∀ b, row = some b → u.heap.size ≤ b) (k : w.grownBy w' row) : Fr u w' :=
  ⟨k.os.trans h.os, k.output.trans h.output, Nat.le_trans h.size k.size, fun i hi => (k.block i (Nat.lt_of_lt_of_le hi h.size) fun e => by have := hv i e.symm; omega).trans (h.block i hi)⟩
/-- a row that was made behind u -/
def Own (u w : World) (A : Option Addr) (n c : Nat) (f : Nat → Rt) : Prop := w.ownsRow u.heap.size 25 7 (.slice A n c) n (rl f n)
theorem Own.ge {u w : World} {A : Option Addr} {n c : Nat} {f : Nat → Rt} (h : Own u w A n c f) : ∀ k, A.map (·.block) = some k → u.heap.size ≤ k ∧ k < w.heap.size := fun k hk => h.lt k (by rw [vb]; exact hk)
theorem Own.fr {u w w' : World} {A : Option Addr} {n c : Nat} {f : Nat → Rt} (h : Own u w A n c f) (F : Fr w w') : Own u w' A n c f := own_block h fun k hk => F.block k (h.ge k hk).2
theorem Own.new (u w : World) (F : Fr u w) (f : Nat → Rt) : Own u (w.alloc (.cells #[] 25)) (some ⟨w.heap.size, 0, none⟩) 0 0 f :=
  ⟨rfl, .inr ⟨w.heap.size, 0, #[], rfl, F.size, by show (w.heap.push _)[w.heap.size]? = _; simp, Nat.le_refl _, Nat.zero_le _, rfl, rfl⟩⟩
theorem Own.rin {u w : World} {A : Option Addr} {n c : Nat} {f : Nat → Rt} (h : Own u w A n c f) : RIn w A n f := by
  rcases h.2 with ⟨e, e2⟩ | ⟨g, cap, cur, e, h2, h3, h4⟩
  · rw [e2]; exact RIn.zero _ _ _
  · injection e with e1 e2 e3
    subst e1
    exact RIn.of (fun j x hx => by have := h.cells (g := g) rfl j x hx; rwa [Addr.add_mid] at this) (h.ge g rfl).2
theorem step_own {ops : Array Oper} {o : Oper} {a : Act} {w : World} {K : Act → World → Prop} {Q : Exit → Act → World → Prop} {E : Prop} (hg : o.guard = none) (s x : Operand) (ho : o.op = .call { callee := .builtin .append, args := #[s, x], argTypes := #[31, 31] })
    (u : World) (A : Option Addr) (n c : Nat) (f : Nat → Rt) (hs : a.eval s = .slice A n c) (hO : Own u w A n c f) (F : Fr u w) (D : Option Addr) (m d : Nat) (g : Nat → Rt) (hx : a.eval x = .slice D m d) (hD : RIn w D m g) (hN : D = none → m = 0 ∧ d = 0) (hb : n + m ≤ 1048576)
    (h : ∀ A' c' w', Own u w' A' (n + m) c' (cat f g n) → Fr u w' → w.grownBy w' (A.map (·.block)) → K (a.put o.dst (.slice A' (n + m) c')) w') :
    if Region.wanted o (yielded ops a.tmps) = true then Oper.wp Try.prog o a w K Q else E :=
  step_app hg s x ho u.heap.size A n c f hs hO D m d g hx hD hN hb F.size fun A' c' w' h1 h2 h3 => h A' c' w' h1 (F.grow (fun b e => (hO.ge b e).1) h2) h2
theorem wpList_own {ops : Array Oper} {rest : List Oper} {o : Oper} {a : Act} {w : World} {Q : Exit → Act → World → Prop} (hgd : o.guard = none) (s x : Operand) (ho : o.op = .call { callee := .builtin .append, args := #[s, x], argTypes := #[31, 31] })
    (u : World) (A : Option Addr) (n c : Nat) (f : Nat → Rt) (hs : a.eval s = .slice A n c) (hO : Own u w A n c f) (F : Fr u w) (D : Option Addr) (m d : Nat) (g : Nat → Rt) (hx : a.eval x = .slice D m d) (hD : RIn w D m g) (hN : D = none → m = 0 ∧ d = 0) (hb : n + m ≤ 1048576)
    (h : ∀ A' c' w', Hid (Own u w' A' (n + m) c' (cat f g n)) → Hid (Fr u w') → wpList Try.prog ops Q rest (a.put o.dst (.slice A' (n + m) c')) w') : wpList Try.prog ops Q (o :: rest) a w := by
  refine wpList_plain hgd fun K hK => ?_
  obtain ⟨A', c', w', hr, h2, h3, h4⟩ := run_app w o.type u.heap.size A n c f hO D m d g hD hN hb F.size
  unfold Oper.wp execOp
  simp only [ho, resolve, invoke, builtin, Sem.run_bind, Sem.run_pure, Result.andThen_ok, List.map_toArray, List.map_cons, List.map_nil, hs, hx, hr]
  exact hK _ _ (h A' c' w' h2 (F.grow (fun b e => (hO.ge b e).1) h3))
theorem GAt.nil {B G c n : Nat} {A : Option Addr} {f : Nat → Rt} {w : World} (h : GAt B G A c n f w) : A = none → n = 0 ∧ c = 0 := by
  rintro rfl
  rcases h.o.2 with ⟨e, e2⟩ | ⟨g, cap, cur, e, h2, h3, h4⟩
  · injection e with e1 e2 e3
    exact ⟨e2, e3⟩
  · injection e with e1; cases e1
/-- a row that was made is stored in the gate -/
theorem GAt.put3 {B G c c' n m : Nat} {A A' : Option Addr} {f g : Nat → Rt} {w w1 : World} (h : GAt B G A c n f w) (hB : B ≤ w.heap.size) (hO : Own w w1 A' m c' g) (F : Fr w w1) (wf : ∀ j, j < m → (g j).In) :
    GAt B G A' c' m g (w1.setCell ⟨G, 0, none⟩ (.slice A' m c')) ∧ Mv G A A' w (w1.setCell ⟨G, 0, none⟩ (.slice A' m c')) :=
  h.put (w1 := w1) ⟨hO.1, hO.2.imp id fun ⟨g, cap, cur, e, h2, h3⟩ => ⟨g, cap, cur, e, Nat.le_trans hB h2, h3⟩⟩ F.size (fun k hk _ => F.block k hk) F.os F.output (.inr fun k hk => (hO.ge k hk).1) wf
theorem RIn.grown {w w' : World} {b n : Nat} {f : Nat → Rt} {row : Option Nat} (h : RIn w (some ⟨b, 0, none⟩) n f) (hg : w.grownBy w' row) (hb : b < w.heap.size) (e : some b ≠ row) : RIn w' (some ⟨b, 0, none⟩) n f := fun j hj => by
  obtain ⟨b', o, h1, h2, h3⟩ := h j hj
  injection h1 with h1
  injection h1 with h1 h4
  subst h1
  subst h4
  exact ⟨b, 0, rfl, Nat.lt_of_lt_of_le h2 hg.size, range_block h3 (hg.block b hb e)⟩
theorem snc (f g : Nat → Rt) (n : Nat) (r : Rt) : ∀ j, cat (cat f f 0) (fun _ => r) n j = sn f n r j := fun j => by
  unfold sn cat
  simp
theorem GAt.congr {B G c n m : Nat} {A : Option Addr} {f g : Nat → Rt} {w : World} (h : GAt B G A c n f w) (e : n = m) (e2 : ∀ j, j < n → f j = g j) : GAt B G A c m g w := by
  subst e
  exact ⟨h.c0, h.z, by rw [← rl_congr n e2]; exact h.o, h.ne, h.ge, h.lt, fun j hj => by rw [← e2 j hj]; exact h.wf j hj⟩
/-- the end: both appends are done -/
theorem GAt.put4 {B G c c' n : Nat} {A A' : Option Addr} {f : Nat → Rt} {r : Rt} {w w1 : World} (h : GAt B G A c n f w) (hB : B ≤ w.heap.size) (hO : Own w w1 A' (n + 1) c' (cat (cat f f 0) (fun _ => r) n)) (F : Fr w w1) (hr : r.In) :
    (GAt B G A' c' (n + 1) (sn f n r) (w1.setCell ⟨G, 0, none⟩ (.slice A' (n + 1) c')) ∧ Mv G A A' w (w1.setCell ⟨G, 0, none⟩ (.slice A' (n + 1) c'))) := by
  have k := h.put3 hB hO F (fun j hj => by rw [snc f f n r j]; exact sn_in h.wf hr j hj)
  exact ⟨k.1.congr rfl fun j _ => snc f f n r j, k.2⟩
/-- where the three orders of the document's First come by: the row that is new and empty, and the one instruction -/
theorem three (w : World) (r : Rt) (X : Array Value) (hX : X = r.cs.toArray) (f : Nat → Rt) :
    (Fr w ((w.alloc (.cells X 25)).alloc (.cells #[] 25)).drew ∧ Own w ((w.alloc (.cells X 25)).alloc (.cells #[] 25)).drew (some ⟨w.heap.size + 1, 0, none⟩) 0 0 f ∧ RIn ((w.alloc (.cells X 25)).alloc (.cells #[] 25)).drew (some ⟨w.heap.size, 0, none⟩) 1 (fun _ => r)) ∧
    (Fr w (((w.alloc (.cells X 25)).alloc (.cells #[] 25)).alloc (.cells X 25)).drew ∧ Own w (((w.alloc (.cells X 25)).alloc (.cells #[] 25)).alloc (.cells X 25)).drew (some ⟨w.heap.size + 1, 0, none⟩) 0 0 f ∧ RIn (((w.alloc (.cells X 25)).alloc (.cells #[] 25)).alloc (.cells X 25)).drew (some ⟨w.heap.size + 1 + 1, 0, none⟩) 1 (fun _ => r) ∧ RIn (((w.alloc (.cells X 25)).alloc (.cells #[] 25)).alloc (.cells X 25)).drew (some ⟨w.heap.size, 0, none⟩) 1 (fun _ => r)) ∧
    (Fr w (((w.alloc (.cells X 25)).alloc (.cells X 25)).alloc (.cells #[] 25)).drew ∧ Own w (((w.alloc (.cells X 25)).alloc (.cells X 25)).alloc (.cells #[] 25)).drew (some ⟨w.heap.size + 1 + 1, 0, none⟩) 0 0 f ∧ RIn (((w.alloc (.cells X 25)).alloc (.cells X 25)).alloc (.cells #[] 25)).drew (some ⟨w.heap.size + 1, 0, none⟩) 1 (fun _ => r) ∧ RIn (((w.alloc (.cells X 25)).alloc (.cells X 25)).alloc (.cells #[] 25)).drew (some ⟨w.heap.size, 0, none⟩) 1 (fun _ => r)) := by
  subst hX
  have F1 : Fr w (w.alloc (.cells r.cs.toArray 25)) := (Fr.refl w).alloc _
  have O1 := Own.new w _ F1 f
  have s1 : (w.alloc (.cells r.cs.toArray 25)).heap.size = w.heap.size + 1 := by simp
  rw [s1] at O1
  have R1 := RIn.one (w.alloc (.cells r.cs.toArray 25)) r
  rw [s1] at R1
  have F2 := F1.alloc (.cells #[] 25)
  have s2 : ((w.alloc (.cells r.cs.toArray 25)).alloc (.cells #[] 25)).heap.size = w.heap.size + 1 + 1 := by simp
  have R2 := RIn.one ((w.alloc (.cells r.cs.toArray 25)).alloc (.cells #[] 25)) r
  rw [s2] at R2
  have F3 := F1.alloc (.cells r.cs.toArray 25)
  have s3 : ((w.alloc (.cells r.cs.toArray 25)).alloc (.cells r.cs.toArray 25)).heap.size = w.heap.size + 1 + 1 := by simp
  have O3 := Own.new w _ F3 f
  rw [s3] at O3
  have RB := RIn.one w r
  exact ⟨⟨F2.drew, O1.fr ((Fr.refl _).drew), RB.fr (((Fr.refl _).alloc _).drew)⟩, ⟨(F2.alloc _).drew, (O1.fr ((Fr.refl _).alloc _)).fr ((Fr.refl _).drew), R2.fr ((Fr.refl _).drew), RB.fr ((((Fr.refl _).alloc _).alloc _).drew)⟩, ⟨(F3.alloc _).drew, O3.fr ((Fr.refl _).drew), (R1.fr ((Fr.refl _).alloc _)).fr ((Fr.refl _).drew), RB.fr ((((Fr.refl _).alloc _).alloc _).drew)⟩⟩
theorem RIn.seven {W : World} {b : Nat} {r : Rt} (h : RIn W (some ⟨b, 0, none⟩) 1 (fun _ => r)) : W.rangeAt b 0 r.cs := by
  obtain ⟨b', o, h1, h2, h3⟩ := h 0 (by decide)
  injection h1 with h1
  injection h1 with h1 h4
  subst h1
  subst h4
  rwa [Nat.zero_mul] at h3
set_option maxHeartbeats 4000000 in
theorem rfirst_as (B G c n : Nat) (A : Option Addr) (f : Nat → Rt) (r : Rt) (w : World) (hn : (n : Int) < 16) (hG : Hid (GAt B G A c n f w)) (hr : Hid r.In) (hB : Hid (B ≤ w.heap.size)) :
    Calls Try.prog 18 #[.pointer (some ⟨G, 0, none⟩), .agg #[.int .u32 r.p, .int .u32 r.v, .int .i64 r.d, .bool r.s, .int .u32 r.a, .int .u32 r.t, .int .i64 r.m]] w fun e w' => e = .returned (.bool true) ∧ ∃ A' c', GAt B G A' c' (n + 1) (sn f n r) w' ∧ Mv G A A' w w' := by
  have c0 : ∀ o, (w.alloc o).cell? ⟨G, 0, none⟩ = some (.slice A n c) := fun o => (hG.out.fr ((Fr.refl w).alloc o)).c0
  have c0b : ∀ o o', ((w.alloc o).alloc o').cell? ⟨G, 0, none⟩ = some (.slice A n c) := fun o o' => (hG.out.fr (((Fr.refl w).alloc o).alloc o')).c0
  have c0c : ∀ o o' o'', (((w.alloc o).alloc o').alloc o'').cell? ⟨G, 0, none⟩ = some (.slice A n c) := fun o o' o'' => (hG.out.fr ((((Fr.refl w).alloc o).alloc o').alloc o'')).c0
  have hb : Hid (n + 1 ≤ 1048576) := by unfold Hid; omega
  have hb0 : Hid (0 + n ≤ 1048576) := by unfold Hid; omega
  have T := hid (three w r #[.int .u32 r.p, .int .u32 r.v, .int .i64 r.d, .bool r.s, .int .u32 r.a, .int .u32 r.t, .int .i64 r.m] rfl f)
  have T1 := hid T.out.1
  have T2 := hid T.out.2.1
  have T3 := hid T.out.2.2
  have hq : Hid (w.heap.size + 1 ≠ w.heap.size + 1 + 1) := by unfold Hid; omega
  clear T
  go_enter Try.func18, Try.ntmps18
  go_wp2_with fail
  go_region_law (first
    | (refine step_own rfl (.tmp 12) (.tmp 16) rfl w (some ⟨w.heap.size + 1, 0, none⟩) 0 0 f (by simp [Act.eval]) T1.out.2.1 T1.out.1 A n c f (by simp [Act.eval]) (hG.out.fr T1.out.1).rin hG.out.nil hb0.out ?_; intro A1 c1 w1 hO hF hg; rw [Nat.zero_add] at hO; have O1 := hid hO; have F1 := hid hF; have cg := (hG.out.fr hF).c0; have b7 := cells7 (T1.out.2.2.grown hg (by simp <;> omega) (by simp <;> omega)).seven; obtain ⟨b70, b71, b72, b73, b74, b75, b76⟩ := b7; have cga := fun o => ((hG.out.fr hF).fr ((Fr.refl w1).alloc o)).c0; clear hO hF hg)
    | (refine step_own rfl (.tmp 12) (.tmp 16) rfl w (some ⟨w.heap.size + 1, 0, none⟩) 0 0 f (by simp [Act.eval]) T2.out.2.1 T2.out.1 A n c f (by simp [Act.eval]) (hG.out.fr T2.out.1).rin hG.out.nil hb0.out ?_; intro A1 c1 w1 hO hF hg; rw [Nat.zero_add] at hO; have O1 := hid hO; have F1 := hid hF; have cg := (hG.out.fr hF).c0; have R1 := hid (T2.out.2.2.1.grown hg (by simp <;> omega) (by simp <;> omega)); clear hO hF hg)
    | (refine step_own rfl (.tmp 12) (.tmp 16) rfl w (some ⟨w.heap.size + 1 + 1, 0, none⟩) 0 0 f (by simp [Act.eval]) T3.out.2.1 T3.out.1 A n c f (by simp [Act.eval]) (hG.out.fr T3.out.1).rin hG.out.nil hb0.out ?_; intro A1 c1 w1 hO hF hg; rw [Nat.zero_add] at hO; have O1 := hid hO; have F1 := hid hF; have cg := (hG.out.fr hF).c0; have R1 := hid (T3.out.2.2.1.grown hg (by simp <;> omega) (by simp <;> omega)); clear hO hF hg)
    | (refine step_own rfl (.tmp 17) (.tmp 19) rfl w A1 n c1 (cat f f 0) (by simp [Act.eval]) O1.out F1.out _ 1 1 (fun _ => r) (by simp [Act.eval]) R1.out (fun e => by cases e) hb.out ?_; intro A2 c2 w2 hO hF hg; have HX := hid (hG.out.put4 hB.out hO hF hr.out); have cg2 := (hG.out.fr hF).c0; have zg2 := (hG.out.fr hF).z; clear hO hF hg)
    | (refine step_own rfl (.tmp 17) (.tmp 19) rfl w A1 n c1 (cat f f 0) (by simp [Act.eval]) (O1.out.fr ((Fr.refl _).alloc _)) (F1.out.alloc _) _ 1 1 (fun _ => r) (by simp [Act.eval]) (RIn.one _ r) (fun e => by cases e) hb.out ?_; intro A2 c2 w2 hO hF hg; have HX := hid (hG.out.put4 hB.out hO hF hr.out); have cg2 := (hG.out.fr hF).c0; have zg2 := (hG.out.fr hF).z; clear hO hF hg))
  all_goals
    go_wp2_with fail
    go_ret
    exact ⟨rfl, _, _, HX.out⟩
end Go.Proofs.Ytedcamljgnblmaa.M
