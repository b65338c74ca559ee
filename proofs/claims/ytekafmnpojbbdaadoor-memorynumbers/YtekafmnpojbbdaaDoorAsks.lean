/- Rows of asks that a law makes by append; the book's Within; slices of literals. -/
import Derived.Test.YtekafmnpojbbdaaDoorMPair
import Derived.Test.YtekafmnpojbbdaaDoorOpen
import Derived.Test.YtekafmnpojbbdaaDoorRWords
import Derived.OwnWalk
namespace Go.Proofs.YtekafmnpojbbdaaDoor.Walks
open Go.ChangeShapes Go.WideShapes Go.ChangeAt Go.RowKit
set_option linter.unusedVariables false
theorem info25 : (Tryd.prog.info? 25).map (fun i => (i.zero, i.size, i.bytes)) = some (some (.agg #[.int .i64 0, .int .i64 0, .int .u32 0, .int .u32 0]), 4, 24) := by kernel_rfl
def Okay (xs : List Value) (k : Nat) : Prop := ∀ j, j < k → ∃ q : Int × Int × Int × Int, xs[j * 4]? = some (.int .i64 q.1) ∧ xs[j * 4 + 1]? = some (.int .i64 q.2.1) ∧ xs[j * 4 + 2]? = some (.int .u32 q.2.2.1) ∧ xs[j * 4 + 3]? = some (.int .u32 q.2.2.2) ∧ 0 ≤ q.2.2.1 ∧ q.2.2.1 < 4294967296 ∧ 0 ≤ q.2.2.2 ∧ q.2.2.2 < 4294967296
theorem Okay.nil : Okay [] 0 := fun j hj => absurd hj (Nat.not_lt_zero _)
theorem Okay.snoc {xs : List Value} {k : Nat} (h : Okay xs k) (hl : xs.length = k * 4) (p q r s : Int) (h0 : 0 ≤ r) (h1 : r < 4294967296) (h2 : 0 ≤ s) (h3 : s < 4294967296) : Okay (xs ++ [.int .i64 p, .int .i64 q, .int .u32 r, .int .u32 s]) (k + 1) := by
  intro j hj
  by_cases e : j < k
  · obtain ⟨t, a, b, c, d, r'⟩ := h j e
    refine ⟨t, ?_, ?_, ?_, ?_, r'⟩
    · rw [List.getElem?_append_left (by omega)]; exact a
    · rw [List.getElem?_append_left (by omega)]; exact b
    · rw [List.getElem?_append_left (by omega)]; exact c
    · rw [List.getElem?_append_left (by omega)]; exact d
  · have ej : j = k := by omega
    subst ej
    refine ⟨(p, q, r, s), ?_, ?_, ?_, ?_, h0, h1, h2, h3⟩
    · rw [List.getElem?_append_right (by omega), hl, show j * 4 - j * 4 = 0 by omega]; rfl
    · rw [List.getElem?_append_right (by omega), hl, show j * 4 + 1 - j * 4 = 1 by omega]; rfl
    · rw [List.getElem?_append_right (by omega), hl, show j * 4 + 2 - j * 4 = 2 by omega]; rfl
    · rw [List.getElem?_append_right (by omega), hl, show j * 4 + 3 - j * 4 = 3 by omega]; rfl
/-- what was appended can be played -/
theorem own_asks {w : World} {base k : Nat} {v : Value} {xs : List Value} (h : w.ownsRow base 25 4 v k xs) (ok : Okay xs k) : ∃ A cap kd nn aa dd, v = .slice A k cap ∧ AsksIn w A k kd nn aa dd := by
  have h0 := h
  rcases h.2 with ⟨rfl, rfl⟩ | ⟨g, cap, cur, rfl, hb, hg, _⟩
  · exact ⟨none, 0, fun _ => 0, fun _ => 0, fun _ => 0, fun _ => 0, rfl, fun j hj => absurd hj (Nat.not_lt_zero _)⟩
  · have hgl : g < w.heap.size := by
      by_cases e : g < w.heap.size
      · exact e
      · rw [Array.getElem?_eq_none (by omega)] at hg; cases hg
    let Q : Nat → Int × Int × Int × Int := fun j => if hj : j < k then (ok j hj).choose else (0, 0, 0, 0)
    refine ⟨_, cap, fun j => (Q j).1, fun j => (Q j).2.1, fun j => (Q j).2.2.1, fun j => (Q j).2.2.2, rfl, fun j hj => ⟨g, 0, rfl, hgl, ?_⟩⟩
    have s := (ok j hj).choose_spec
    have eQ : Q j = (ok j hj).choose := dif_pos hj
    show w.cell? ⟨g, 0 + j * 4, none⟩ = some (.int .i64 (Q j).1) ∧ w.cell? ⟨g, 0 + j * 4 + 1, none⟩ = some (.int .i64 (Q j).2.1) ∧ w.cell? ⟨g, 0 + j * 4 + 2, none⟩ = some (.int .u32 (Q j).2.2.1) ∧ w.cell? ⟨g, 0 + j * 4 + 3, none⟩ = some (.int .u32 (Q j).2.2.2) ∧ 0 ≤ (Q j).2.2.1 ∧ (Q j).2.2.1 < 4294967296 ∧ 0 ≤ (Q j).2.2.2 ∧ (Q j).2.2.2 < 4294967296
    rw [eQ, Nat.zero_add, h0.cellAt _ (by omega), h0.cellAt _ (by omega), h0.cellAt _ (by omega), h0.cellAt _ (by omega)]
    exact s
theorem IntsIn.lit (w : World) (c : Array Value) (T : TypeId) (n : Nat) (zs : Nat → Int) (h : ∀ i, i < n → c[i]? = some (.int .u32 (zs i)) ∧ (Lit.int .u32 (zs i)).wf = true) : IntsIn .u32 (w.alloc (.cells c T)) (some ⟨w.heap.size, 0, none⟩) n zs := by
  intro j hj
  exact ⟨_, _, rfl, by simp, by rw [World.cell?_alloc_at _ _ _ _ rfl, Nat.zero_add, (h j hj).1], (h j hj).2⟩
theorem IntsIn.cut {k : IntKind} {w : World} {A : Option Addr} {len n : Nat} {zs : Nat → Int} (h : IntsIn k w A len zs) (hn : n ≤ len) : IntsIn k w A n zs := fun j hj => h j (by omega)
theorem IntsIn.none (k : IntKind) (w : World) (A : Option Addr) (zs : Nat → Int) : IntsIn k w A 0 zs := fun j hj => absurd hj (Nat.not_lt_zero _)
theorem IntsIn.frb2 {k : IntKind} {w w' : World} {A : Option Addr} {len : Nat} {zs : Nat → Int} (h : IntsIn k w A len zs) (f : FrB w.heap.size w w') : IntsIn k w' A len zs := by
  intro j hj
  obtain ⟨b, o, e, hb, c, r⟩ := h j hj
  exact ⟨b, o, e, Nat.lt_of_lt_of_le hb f.size, by rw [f.cell _ _ hb]; exact c, r⟩
def z789 : Nat → Int := fun i => if i = 0 then 7 else if i = 1 then 8 else 9
theorem lit789 (w : World) (T : TypeId) : IntsIn .u32 (w.alloc (.cells #[.int .u32 7, .int .u32 8, .int .u32 9] T)) (some ⟨w.heap.size, 0, Option.none⟩) 3 z789 :=
  IntsIn.lit w _ T 3 z789 fun i hi => by
    rcases (show i = 0 ∨ i = 1 ∨ i = 2 by omega) with rfl | rfl | rfl <;> exact ⟨rfl, by decide⟩
set_option maxHeartbeats 1000000 in
theorem within_kind (n : Int) (w : World) : Calls Tryd.prog 9 #[.int .i64 n, .int .i64 0, .int .i64 6] w fun e w' => (∃ r, e = .returned (.int .i64 r)) ∧ w' = w := by
  go_enter Tryd.func9, Tryd.ntmps9
  go_wp2
  all_goals
    go_ret
    exact ⟨⟨_, rfl⟩, rfl⟩
set_option maxHeartbeats 1000000 in
theorem within_n (n : Int) (w : World) : Calls Tryd.prog 9 #[.int .i64 n, .int .i64 (-1), .int .i64 300] w fun e w' => (∃ r, e = .returned (.int .i64 r)) ∧ w' = w := by
  go_enter Tryd.func9, Tryd.ntmps9
  go_wp2
  all_goals
    go_ret
    exact ⟨⟨_, rfl⟩, rfl⟩
theorem news4 (wr : World) (c : Obj) (p q r s : Value) (T : TypeId) (j : Nat) (u : Value) (hj : [p, q, r, s][j]? = some u) : ((wr.alloc c).drew.alloc (.cells #[p, q, r, s] T)).cell? ((⟨wr.heap.size + 1, 0, Option.none⟩ : Addr).add j) = some u := by
  have e : wr.heap.size + 1 = (wr.alloc c).drew.heap.size := by show _ = (wr.alloc c).heap.size; simp
  have h : ∀ i, ((wr.alloc c).drew.alloc (.cells #[p, q, r, s] T)).cell? ⟨wr.heap.size + 1, i, Option.none⟩ = #[p, q, r, s][i]? := fun i => World.cell?_alloc_at _ _ _ _ e
  rw [add_plain, h, ← hj]
  simp
theorem four (p q r s : Int) : ∀ u ∈ [Value.int .i64 p, .int .i64 q, .int .u32 r, .int .u32 s], u.oneCell' = true := by
  intro u hu
  simp only [List.mem_cons, List.not_mem_nil, or_false] at hu
  rcases hu with rfl | rfl | rfl | rfl <;> rfl
theorem FrB.app4 {B : Nat} {w wr w1 : World} {c c' : Obj} {row : Option Nat} (h : FrB B w wr) (hg : ((wr.alloc c).drew.alloc c').grownBy w1 row) (hB : B ≤ wr.heap.size) (hr : ∀ k, row = some k → B ≤ k) : FrB B w w1 := by
  have z : (wr.alloc c).drew.heap.size = wr.heap.size + 1 := by show (wr.alloc c).heap.size = _; simp
  have a : FrB B wr (wr.alloc c) := (FrB.alloc wr c).mono hB
  have a2 : FrB B (wr.alloc c) (wr.alloc c).drew := FrB.alike ⟨rfl, rfl, rfl⟩
  have b : FrB B (wr.alloc c).drew ((wr.alloc c).drew.alloc c') := (FrB.alloc _ c').mono (by omega)
  have y : ((wr.alloc c).drew.alloc c').heap.size = wr.heap.size + 2 := by rw [show ((wr.alloc c).drew.alloc c').heap.size = (wr.alloc c).drew.heap.size + 1 by simp, z]
  exact (((h.trans a).trans a2).trans b).trans (FrB.grown hg (by omega) hr)
end Go.Proofs.YtekafmnpojbbdaaDoor.Walks
