/- Contracts of Same and of the program's Second where it differs. -/
import Derived.Test.YtedcamljgnblmaaDelete
import Derived.Deep.RegionWith
import Derived.Laws.ResultCell
namespace Go.Proofs.Ytedcamljgnblmaa.M
open Go.ChangeShapes Go.WideShapes Go.ChangeAt Go.RowKit Go.Proofs.Ytedcamljgnblmaa.Walks
set_option linter.unusedVariables false
set_option maxRecDepth 100000 in
set_option maxHeartbeats 400000 in
theorem same_is (x y : Rt) (c : Bool) (hc : Hid (x.eq y = c)) (w : World) :
    Calls Try.prog 19 #[.agg #[.int .u32 x.p, .int .u32 x.v, .int .i64 x.d, .bool x.s, .int .u32 x.a, .int .u32 x.t, .int .i64 x.m], .agg #[.int .u32 y.p, .int .u32 y.v, .int .i64 y.d, .bool y.s, .int .u32 y.a, .int .u32 y.t, .int .i64 y.m]] w fun e w' => e = .returned (.bool c) ∧ w' = (w.alloc (.cells x.cs.toArray 25)).alloc (.cells y.cs.toArray 25) := by
  have E : ∀ W, (binOp .eql 25 (.agg #[.int .u32 x.p, .int .u32 x.v, .int .i64 x.d, .bool x.s, .int .u32 x.a, .int .u32 x.t, .int .i64 x.m]) (.agg #[.int .u32 y.p, .int .u32 y.v, .int .i64 y.d, .bool y.s, .int .u32 y.a, .int .u32 y.t, .int .i64 y.m])).run Try.prog W = .ok (.bool c) W := fun W => by rw [← hc.out]; exact eql25 x y W
  go_enter Try.func19, Try.ntmps19
  go_wp2_with fail
  go_ret
  exact ⟨rfl, rfl⟩
theorem GAt.head {B G c n : Nat} {A : Option Addr} {f : Nat → Rt} {w : World} (h : GAt B G A c n f w) (hn : 0 < n) : ∃ g, A = some ⟨g, 0, none⟩ ∧ g < w.heap.size ∧ w.rangeAt g 0 (f 0).cs := by
  rcases h.o.2 with ⟨e, e2⟩ | ⟨g, cap, cur, e, h2, h3, h4⟩
  · omega
  · injection e with e1 e2 e3
    subst e1
    refine ⟨g, rfl, (h.own g rfl).2, ?_⟩
    obtain ⟨b', o, h1, _, h5⟩ := h.rin 0 hn
    injection h1 with h1
    injection h1 with h1 h6
    subst h1
    subst h6
    exact h5
/-- nothing but the block b has turned; what is new lies above -/
structure But (b : Nat) (W W' : World) : Prop where
  os : W'.os = W.os
  output : W'.output = W.output
  size : W.heap.size ≤ W'.heap.size
  block : ∀ k, k < W.heap.size → k ≠ b → W'.heap[k]? = W.heap[k]?
theorem but_set (b : Nat) : ∀ (cs : List Value) (o : Nat) (W : World), But b W (W.setCells b o cs)
  | [], _, W => ⟨rfl, rfl, Nat.le_refl _, fun _ _ _ => rfl⟩
  | x :: cs, o, W => by
    have h := but_set b cs (o + 1) (W.setCell ⟨b, o, none⟩ x)
    refine ⟨h.os, h.output, ?_, fun k hk hkb => ?_⟩
    · have := h.size; rwa [World.size_setCell] at this
    · exact (h.block k (by rw [World.size_setCell]; exact hk) hkb).trans (Below.heap_setCell _ _ _ k hkb)
theorem But.fr {b : Nat} {u W W' : World} (h : But b W W') (F : Fr u W) (hb : u.heap.size ≤ b) : Fr u W' :=
  ⟨h.os.trans F.os, h.output.trans F.output, Nat.le_trans F.size h.size, fun k hk => (h.block k (Nat.lt_of_lt_of_le hk F.size) (by omega)).trans (F.block k hk)⟩
theorem But.there {b c n : Nat} {W W' : World} (h : But b W W') (H : W.there c 0 n) (e : c ≠ b) (hc : c < W.heap.size) : W'.there c 0 n := fun j hj => by
  rw [World.cell?_of_block (w := W) (h.block c hc e), World.frozen?_of_block (w := W) (h.block c hc e)]; exact H j hj
theorem there_fr {c n : Nat} {W W' : World} (H : W.there c 0 n) (F : Fr W W') (hc : c < W.heap.size) : W'.there c 0 n := fun j hj => by
  rw [World.cell?_of_block (w := W) (F.block c hc), World.frozen?_of_block (w := W) (F.block c hc)]; exact H j hj
theorem there_new (w : World) (cs : List Value) (t : TypeId) : (w.alloc (.cells cs.toArray t)).there w.heap.size 0 cs.length := fun j hj => by
  refine ⟨?_, by rw [World.frozen?_alloc_at _ _ _ _ rfl]⟩
  rw [World.cell?_alloc_at _ _ _ _ rfl, Nat.zero_add, List.getElem?_toArray, List.getElem?_eq_getElem hj]
  rfl
/-- an instruction that was done is stored into a box -/
theorem wpList_put {ops : Array Oper} {rest : List Oper} {op : Oper} {a : Act} {Q : Exit → Act → World → Prop} (W : World) (b : Nat) (T : W.there b 0 7) (hgd : op.guard = none) (x y : Operand) (ho : op.op = .store 25 x y) (r : Rt) (Y : Array Value) (hY : Y = r.cs.toArray)
    (hx : a.eval x = .pointer (some ⟨b, 0, none⟩)) (hy : a.eval y = .agg Y)
    (h : ∀ W', Hid (W'.rangeAt b 0 r.cs) → Hid (But b W W') → wpList Try.prog ops Q rest (a.put op.dst undef) W') : wpList Try.prog ops Q (op :: rest) a W := by
  subst hY
  refine wpList_store_mid hgd 25 x y ho b 0 _ hx hy T size25 (all_oneCell_toArray (one_cs r)) ?_
  exact h _ (World.rangeAt_setCells_same _ b 0 _ T) (but_set b _ 0 W)
/-- the result that lies in a box -/
theorem load_cell (w : World) (b : Nat) (r : Rt) (h : w.rangeAt b 0 r.cs) : (loadVar 25 ⟨b, 0, none⟩).run Try.prog w = .ok (.agg r.cs.toArray) w := run_loadVar_mid w b 0 25 r.cs _ h under25 rfl size25
def zR : Rt := ⟨0, 0, 0, false, 0, 0, 0⟩
theorem two_there (w : World) (X Y : Array Value) (h : Y.size = 7) : ((w.alloc (.cells X 25)).alloc (.cells Y 25)).there (w.heap.size + 1) 0 7 := by
  have k := there_new (w.alloc (.cells X 25)) Y.toList 25
  simpa [h] using k
theorem there_drew {w : World} {b n : Nat} (h : w.there b 0 n) : w.drew.there b 0 n := h
set_option maxRecDepth 100000 in
set_option maxHeartbeats 1000000 in
theorem second_none (B G c : Nat) (A : Option Addr) (f : Nat → Rt) (r : Rt) (w : World) (hG : Hid (GAt B G A c 0 f w)) :
    Calls Try.prog 12 #[.pointer (some ⟨G, 0, none⟩), .agg #[.int .u32 r.p, .int .u32 r.v, .int .i64 r.d, .bool r.s, .int .u32 r.a, .int .u32 r.t, .int .i64 r.m]] w fun e w' => e = .returned (.tuple #[.agg #[.int .u32 0, .int .u32 0, .int .i64 0, .bool false, .int .u32 0, .int .u32 0, .int .i64 0], .int .i64 2]) ∧ Fr w w' := by
  have c0b : ∀ o o', ((w.alloc o).alloc o').cell? ⟨G, 0, none⟩ = some (.slice A 0 c) := fun o o' => (hG.out.fr (((Fr.refl w).alloc o).alloc o')).c0
  have TH := hid (there_drew (two_there w #[.int .u32 r.p, .int .u32 r.v, .int .i64 r.d, .bool r.s, .int .u32 r.a, .int .u32 r.t, .int .i64 r.m] #[.int .u32 0, .int .u32 0, .int .i64 0, .bool false, .int .u32 0, .int .u32 0, .int .i64 0] rfl))
  go_enter Try.func12, Try.ntmps12
  go_wp2_with fail
  go_region
  all_goals
    go_wp2_with (refine wpList_put _ (w.heap.size + 1) TH.out rfl _ _ rfl zR _ rfl rfl rfl ?_)
    intro W1 hR hF
    go_wp2_with fail
    (try simp only [Exit.inBlock, Exit.then])
    refine bodyPost_ret (v := .tuple #[.agg zR.cs.toArray, .int .i64 2]) ?_ rfl ⟨rfl, hF.out.fr (((Fr.refl w).alloc _).alloc _).drew (by simp)⟩
    rw [results_cell_tmp rfl]
    simp [asAddr, Result.andThen, load_cell W1 _ zR hR.out]
theorem head_at {w W : World} {B G c n : Nat} {A : Option Addr} {f : Nat → Rt} (h : GAt B G A c n f w) (F : Fr w W) {g : Nat} (hA : A = some ⟨g, 0, none⟩) (hn : 0 < n) : W.rangeAt g 0 (f 0).cs := by
  obtain ⟨g', e, h1, h2⟩ := (h.fr F).head hn
  rw [hA] at e
  injection e with e
  injection e with e
  subst e
  exact h2
set_option maxRecDepth 100000 in
set_option maxHeartbeats 2000000 in
theorem second_diff (B G c n : Nat) (A : Option Addr) (f : Nat → Rt) (r : Rt) (w : World) (hG : Hid (GAt B G A c n f w)) (hn : (0 : Int) < n) (hne : Hid ((f 0).eq r = false)) :
    Calls Try.prog 12 #[.pointer (some ⟨G, 0, none⟩), .agg #[.int .u32 r.p, .int .u32 r.v, .int .i64 r.d, .bool r.s, .int .u32 r.a, .int .u32 r.t, .int .i64 r.m]] w fun e w' => e = .returned (.tuple #[.agg #[.int .u32 0, .int .u32 0, .int .i64 0, .bool false, .int .u32 0, .int .u32 0, .int .i64 0], .int .i64 2]) ∧ Fr w w' := by
  obtain ⟨g, hA, hg, _⟩ := hG.out.head (by omega)
  subst hA
  have c0b : ∀ o o', ((w.alloc o).alloc o').cell? ⟨G, 0, none⟩ = some (.slice (some ⟨g, 0, none⟩) n c) := fun o o' => (hG.out.fr (((Fr.refl w).alloc o).alloc o')).c0
  have H7 := fun o o' => cells7 (head_at hG.out (((Fr.refl w).alloc o).alloc o') rfl (by omega))
  have q0 := fun o o' => (H7 o o').1
  have q1 := fun o o' => (H7 o o').2.1
  have q2 := fun o o' => (H7 o o').2.2.1
  have q3 := fun o o' => (H7 o o').2.2.2.1
  have q4 := fun o o' => (H7 o o').2.2.2.2.1
  have q5 := fun o o' => (H7 o o').2.2.2.2.2.1
  have q6 := fun o o' => (H7 o o').2.2.2.2.2.2
  clear H7
  have TH : Hid (∀ W, Fr ((w.alloc (.cells #[.int .u32 r.p, .int .u32 r.v, .int .i64 r.d, .bool r.s, .int .u32 r.a, .int .u32 r.t, .int .i64 r.m] 25)).alloc (.cells #[.int .u32 0, .int .u32 0, .int .i64 0, .bool false, .int .u32 0, .int .u32 0, .int .i64 0] 25)) W → W.there (w.heap.size + 1) 0 7 ∧ Fr w W) := fun W F => ⟨there_fr (two_there w #[.int .u32 r.p, .int .u32 r.v, .int .i64 r.d, .bool r.s, .int .u32 r.a, .int .u32 r.t, .int .i64 r.m] #[.int .u32 0, .int .u32 0, .int .i64 0, .bool false, .int .u32 0, .int .u32 0, .int .i64 0] rfl) F (by simp), (((Fr.refl w).alloc _).alloc _).trans F⟩
  generalize f 0 = x at *
  have n0 : ((n : Int) == 0) = false := by rw [beq_eq_false_iff_ne]; omega
  go_enter Try.func12, Try.ntmps12
  go_wp2_with fail
  go_region_with (go_at_call 19; refine (same_is _ _ _ hne _).mono ?_; rintro e w' ⟨rfl, rfl⟩)
  all_goals
    clear q0 q1 q2 q3 q4 q5 q6
    go_wp2_with (refine wpList_put _ (w.heap.size + 1) (TH.out _ (by exact (((Fr.refl _).alloc _).alloc _).drew)).1 rfl _ _ rfl zR _ rfl rfl rfl ?_)
    intro W1 hR hF
    have F1 := hid (hF.out.fr (TH.out _ ((((Fr.refl _).alloc _).alloc _).drew)).2 (by simp))
    clear hF
    go_wp2_with fail
    (try simp only [Exit.inBlock, Exit.then])
    refine bodyPost_ret (v := .tuple #[.agg zR.cs.toArray, .int .i64 2]) ?_ rfl ⟨rfl, F1.out⟩
    rw [results_cell_tmp rfl]
    simp [asAddr, Result.andThen, load_cell W1 _ zR hR.out]
end Go.Proofs.Ytedcamljgnblmaa.M
