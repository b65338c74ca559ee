/- Contracts of First: the program's, the document's. -/
import Derived.Test.YtedcamljgnblmaaGate
namespace Go.Proofs.Ytedcamljgnblmaa.M
open Go.ChangeShapes Go.WideShapes Go.ChangeAt Go.RowKit Go.Proofs.Ytedcamljgnblmaa.Walks
set_option linter.unusedVariables false
/-- one more behind -/
def sn (f : Nat → Rt) (n : Nat) (r : Rt) : Nat → Rt := cat f (fun _ => r) n
theorem RIn.one (w : World) (r : Rt) : RIn (w.alloc (.cells r.cs.toArray 25)) (some ⟨w.heap.size, 0, none⟩) 1 (fun _ => r) := RIn.new w (fun _ => r) 1 _ rfl 25
theorem GAt.put {B G c c' n m : Nat} {A A' : Option Addr} {f g : Nat → Rt} {w w1 : World} (h : GAt B G A c n f w) (hO : w1.ownsRow B 25 7 (.slice A' m c') m (rl g m)) (s : w.heap.size ≤ w1.heap.size) (hg : ∀ k, k < w.heap.size → some k ≠ A.map (·.block) → w1.heap[k]? = w.heap[k]?)
    (o1 : w1.os = w.os) (o2 : w1.output = w.output) (hA : A'.map (·.block) = A.map (·.block) ∨ ∀ k, A'.map (·.block) = some k → w.heap.size ≤ k) (wf : ∀ j, j < m → (g j).In) :
    GAt B G A' c' m g (w1.setCell ⟨G, 0, none⟩ (.slice A' m c')) ∧ Mv G A A' w (w1.setCell ⟨G, 0, none⟩ (.slice A' m c')) := by
  have ne' : A'.map (·.block) ≠ some G := by
    rcases hA with e | e
    · rw [e]; exact h.ne
    · intro e'; have := e _ e'; have := h.lt; omega
  have hGb := hg G h.lt h.ne.symm
  refine ⟨⟨World.cell?_setCell_same _ _ _ (by rw [World.cell?_of_block (w := w) hGb]; exact h.c0), by rw [World.frozen?_setCell, World.frozen?_of_block (w := w) hGb]; exact h.z, own_block hO fun k hk => Below.heap_setCell _ _ _ k (fun e => ne' (by rw [hk, e])), ne', h.ge, by rw [World.size_setCell]; exact Nat.lt_of_lt_of_le h.lt s, wf⟩,
    ⟨o1, o2, by rw [World.size_setCell]; exact s, fun k hk e1 e2 => (Below.heap_setCell _ _ _ k e1).trans (hg k hk e2), hA⟩⟩
theorem sn_in {f : Nat → Rt} {n : Nat} {r : Rt} (h : ∀ j, j < n → (f j).In) (hr : r.In) : ∀ j, j < n + 1 → (sn f n r j).In := by
  intro j hj
  unfold sn cat
  split
  · exact h j (by assumption)
  · exact hr
set_option maxHeartbeats 400000 in
theorem first_full (B G c n : Nat) (A : Option Addr) (f : Nat → Rt) (r : Rt) (w : World) (hn : (16 : Int) ≤ n) (hG : Hid (GAt B G A c n f w)) :
    Calls Try.prog 11 #[.pointer (some ⟨G, 0, none⟩), .agg #[.int .u32 r.p, .int .u32 r.v, .int .i64 r.d, .bool r.s, .int .u32 r.a, .int .u32 r.t, .int .i64 r.m]] w fun e w' => e = .returned (.bool false) ∧ Fr w w' := by
  have c0 : ∀ o, (w.alloc o).cell? ⟨G, 0, none⟩ = some (.slice A n c) := fun o => (hG.out.fr ((Fr.refl w).alloc o)).c0
  go_enter Try.func11, Try.ntmps11
  go_wp2_with fail
  go_ret
  exact ⟨rfl, (Fr.refl w).alloc _⟩
theorem two_boxes (w : World) (r : Rt) (X : Array Value) (hX : X = r.cs.toArray) : Fr w ((w.alloc (.cells X 25)).alloc (.cells X 25)).drew ∧ RIn ((w.alloc (.cells X 25)).alloc (.cells X 25)).drew (some ⟨w.heap.size + 1, 0, none⟩) 1 (fun _ => r) := by
  subst hX
  refine ⟨(((Fr.refl w).alloc _).alloc _).drew, ?_⟩
  have := (RIn.one (w.alloc (.cells r.cs.toArray 25)) r).fr ((Fr.refl _).drew)
  simpa using this
theorem GAt.grown {B G c n : Nat} {A : Option Addr} {f : Nat → Rt} {w W w1 : World} (h : GAt B G A c n f w) (F : Fr w W) (hg : W.grownBy w1 (A.map (·.block))) : w1.cell? ⟨G, 0, none⟩ = some (.slice A n c) ∧ w1.frozen? ⟨G, 0, none⟩ = false := by
  have e : w1.heap[G]? = w.heap[G]? := (hg.block G (Nat.lt_of_lt_of_le h.lt F.size) h.ne.symm).trans (F.block G h.lt)
  exact ⟨by rw [World.cell?_of_block (w := w) e]; exact h.c0, by rw [World.frozen?_of_block (w := w) e]; exact h.z⟩
/-- the row is appended to, in a world with new blocks, and stored -/
theorem GAt.put2 {B G c c' n m : Nat} {A A' : Option Addr} {f g : Nat → Rt} {w W w1 : World} (h : GAt B G A c n f w) (F : Fr w W) (hO : w1.ownsRow B 25 7 (.slice A' m c') m (rl g m)) (hg : W.grownBy w1 (A.map (·.block)))
    (hA : A'.map (·.block) = A.map (·.block) ∨ ∀ k, A'.map (·.block) = some k → W.heap.size ≤ k) (wf : ∀ j, j < m → (g j).In) :
    GAt B G A' c' m g (w1.setCell ⟨G, 0, none⟩ (.slice A' m c')) ∧ Mv G A A' w (w1.setCell ⟨G, 0, none⟩ (.slice A' m c')) :=
  h.put hO (Nat.le_trans F.size hg.size) (fun k hk e => (hg.block k (Nat.lt_of_lt_of_le hk F.size) e).trans (F.block k hk)) (hg.os.trans F.os) (hg.output.trans F.output) (hA.imp id fun h k hk => Nat.le_trans F.size (h k hk)) wf
set_option maxHeartbeats 1000000 in
theorem first_as (B G c n : Nat) (A : Option Addr) (f : Nat → Rt) (r : Rt) (w : World) (hn : (n : Int) < 16) (hG : Hid (GAt B G A c n f w)) (hr : Hid r.In) (hB : Hid (B ≤ w.heap.size)) :
    Calls Try.prog 11 #[.pointer (some ⟨G, 0, none⟩), .agg #[.int .u32 r.p, .int .u32 r.v, .int .i64 r.d, .bool r.s, .int .u32 r.a, .int .u32 r.t, .int .i64 r.m]] w fun e w' => e = .returned (.bool true) ∧ ∃ A' c', GAt B G A' c' (n + 1) (sn f n r) w' ∧ Mv G A A' w w' := by
  have c0 : ∀ o, (w.alloc o).cell? ⟨G, 0, none⟩ = some (.slice A n c) := fun o => (hG.out.fr ((Fr.refl w).alloc o)).c0
  have c0b : ∀ o o', ((w.alloc o).alloc o').cell? ⟨G, 0, none⟩ = some (.slice A n c) := fun o o' => (hG.out.fr (((Fr.refl w).alloc o).alloc o')).c0
  have hb : Hid (n + 1 ≤ 1048576) := by unfold Hid; omega
  have T := hid (two_boxes w r #[.int .u32 r.p, .int .u32 r.v, .int .i64 r.d, .bool r.s, .int .u32 r.a, .int .u32 r.t, .int .i64 r.m] rfl)
  go_enter Try.func11, Try.ntmps11
  go_wp2_with fail
  go_region_law (refine step_app rfl (.tmp 15) (.tmp 17) rfl B A n c f (by simp [Act.eval]) ((hG.out.fr T.out.1).o) (some ⟨w.heap.size + 1, 0, none⟩) 1 1 (fun _ => r) (by simp [Act.eval]) T.out.2 (fun e => by cases e) hb.out (Nat.le_trans hB.out T.out.1.size) ?_; intro A' c' w1 hO hg hA; have HX := hid (hG.out.put2 T.out.1 hO hg hA (sn_in hG.out.wf hr.out)); have c1 := (hG.out.grown T.out.1 hg).1; have z1 := (hG.out.grown T.out.1 hg).2; clear hO hg hA)
  all_goals
    go_wp2_with fail
    go_ret
    exact ⟨rfl, _, _, HX.out⟩
end Go.Proofs.Ytedcamljgnblmaa.M
