/- Rows of instructions that were done, as rows of cells. -/
import Derived.Test.YtkchpegpmpijcaaSameL
namespace Go.Proofs.Ytkchpegpmpijcaa.M
open Go.ChangeShapes Go.WideShapes Go.ChangeAt Go.RowKit Go.Proofs.Ytkchpegpmpijcaa.Walks
set_option linter.unusedVariables false
/-- the cells of n of them -/
def rl (f : Nat → Rt) : Nat → List Value
  | 0 => []
  | n + 1 => rl f n ++ (f n).cs
theorem rl_len (f : Nat → Rt) : ∀ n, (rl f n).length = n * 7
  | 0 => rfl
  | n + 1 => by
    have e : (f n).cs.length = 7 := rfl
    rw [rl, List.length_append, rl_len f n, e]; omega
theorem rl_at (f : Nat → Rt) (j i : Nat) (hi : i < 7) : ∀ n, j < n → (rl f n)[j * 7 + i]? = (f j).cs[i]?
  | 0, h => absurd h (Nat.not_lt_zero _)
  | n + 1, h => by
    rw [rl]
    by_cases e : j = n
    · subst e
      rw [List.getElem?_append_right (by rw [rl_len]; omega), rl_len, show j * 7 + i - j * 7 = i by omega]
    · rw [List.getElem?_append_left (by rw [rl_len]; omega)]
      exact rl_at f j i hi n (by omega)
theorem rl_congr {f g : Nat → Rt} : ∀ n, (∀ j, j < n → f j = g j) → rl f n = rl g n
  | 0, _ => rfl
  | n + 1, h => by rw [rl, rl, rl_congr n (fun j hj => h j (by omega)), h n (by omega)]
/-- one row behind another -/
def cat (f g : Nat → Rt) (n : Nat) : Nat → Rt := fun j => if j < n then f j else g (j - n)
theorem rl_cat (f g : Nat → Rt) (n : Nat) : ∀ m, rl f n ++ rl g m = rl (cat f g n) (n + m)
  | 0 => by
    rw [rl, List.append_nil, Nat.add_zero]
    exact rl_congr n fun j hj => by simp [cat, hj]
  | m + 1 => by
    have e : cat f g n (n + m) = g m := by rw [cat, if_neg (by omega), Nat.add_sub_cancel_left]
    rw [rl, ← List.append_assoc, rl_cat f g n m, ← Nat.add_assoc, rl, e]
theorem one_cs (r : Rt) : ∀ u ∈ r.cs, u.oneCell' = true := by
  intro u hu
  simp only [Rt.cs, List.mem_cons, List.not_mem_nil, or_false] at hu
  rcases hu with rfl | rfl | rfl | rfl | rfl | rfl | rfl <;> rfl
theorem one_rl (f : Nat → Rt) : ∀ n, ∀ u ∈ rl f n, u.oneCell' = true
  | 0, u, h => by simp [rl] at h
  | n + 1, u, h => by
    rw [rl] at h
    rcases List.mem_append.1 h with h | h
    · exact one_rl f n u h
    · exact one_cs _ u h
/-- a row that lies in a block from its head on -/
theorem RIn.of {W : World} {g n : Nat} {f : Nat → Rt} (h : W.rangeAt g 0 (rl f n)) (hg : g < W.heap.size) : RIn W (some ⟨g, 0, none⟩) n f := fun j hj => by
  refine ⟨g, 0, rfl, hg, fun i u hu => ?_⟩
  have hi : i < 7 := (List.getElem?_eq_some_iff.1 hu).1
  have := h (j * 7 + i) u (by rw [rl_at f j i hi n hj]; exact hu)
  rw [Nat.zero_add] at this
  rw [Nat.zero_add]
  exact this
theorem RIn.new (W : World) (f : Nat → Rt) (n : Nat) (X : Array Value) (hX : X = (rl f n).toArray) (t : TypeId) : RIn (W.alloc (.cells X t)) (some ⟨W.heap.size, 0, none⟩) n f := by
  subst hX
  exact RIn.of (range_new W _ t) (by simp)
theorem WIn.of {W : World} {g n : Nat} {f : Nat → Int} (h : W.rangeAt g 0 (wl f n)) (hg : g < W.heap.size) : WIn W (some ⟨g, 0, none⟩) n f := fun j hj => ⟨g, 0, rfl, hg, h j _ (wl_at f n j hj)⟩
theorem WIn.new (W : World) (f : Nat → Int) (n : Nat) (X : Array Value) (hX : X = (wl f n).toArray) (t : TypeId) : WIn (W.alloc (.cells X t)) (some ⟨W.heap.size, 0, none⟩) n f := by
  subst hX
  exact WIn.of (range_new W _ t) (by simp)
theorem WIn.none (W : World) (A : Option Addr) (f : Nat → Int) : WIn W A 0 f := fun j hj => absurd hj (Nat.not_lt_zero _)
theorem RIn.none (W : World) (A : Option Addr) (f : Nat → Rt) : RIn W A 0 f := fun j hj => absurd hj (Nat.not_lt_zero _)
theorem cells7 {W : World} {b : Nat} {r : Rt} (h : W.rangeAt b 0 r.cs) : W.cell? ⟨b, 0, none⟩ = some (.int .u32 r.p) ∧ W.cell? ⟨b, 1, none⟩ = some (.int .u32 r.v) ∧ W.cell? ⟨b, 2, none⟩ = some (.int .i64 r.d) ∧ W.cell? ⟨b, 3, none⟩ = some (.bool r.s) ∧ W.cell? ⟨b, 4, none⟩ = some (.int .u32 r.a) ∧ W.cell? ⟨b, 5, none⟩ = some (.int .u32 r.t) ∧ W.cell? ⟨b, 6, none⟩ = some (.int .i64 r.m) := by
  have g : ∀ j u, r.cs[j]? = some u → W.cell? ⟨b, j, Option.none⟩ = some u := fun j u hu => by have := h j u hu; rwa [Nat.zero_add] at this
  exact ⟨g 0 _ rfl, g 1 _ rfl, g 2 _ rfl, g 3 _ rfl, g 4 _ rfl, g 5 _ rfl, g 6 _ rfl⟩
theorem same_lit (x y : Rt) (X Y : Array Value) (hX : X = x.cs.toArray) (hY : Y = y.cs.toArray) (c : Bool) (hc : Hid (x.eq y = c)) (w : World) :
    Calls Try.prog 6 #[.agg X, .agg Y] w fun e w' => e = .returned (.bool c) ∧ Fr w w' := by
  subst hX; subst hY; exact same_is x y c hc w
theorem states_lit (s t : Ss) (X Y : Array Value) (hX : X = s.cs.toArray) (hY : Y = t.cs.toArray) (c : Bool) (hc : Hid (s.eq t = c)) (w : World) (hS : Hid (s.In w)) (hT : Hid (t.In w)) :
    Calls Try.prog 8 #[.agg X, .agg Y] w fun e w' => e = .returned (.bool c) ∧ Fr w w' := by
  subst hX; subst hY; exact states_as s t c hc w hS hT
theorem sameL_lit (A B P Q : Option Addr) (n m k l ca cb cp cq : Nat) (f g : Nat → Rt) (x y : Nat → Int) (s t : Ss) (X Y : Array Value) (hX : X = s.cs.toArray) (hY : Y = t.cs.toArray) (hn : (n : Int) ≤ 1000000000000000) (hm : (m : Int) ≤ 1000000000000000) (hk : (k : Int) ≤ 1000000000000000) (hl : (l : Int) ≤ 1000000000000000) (w : World)
    (hA : Hid (RIn w A n f)) (hB : Hid (RIn w B m g)) (hP : Hid (WIn w P k x)) (hQ : Hid (WIn w Q l y)) (hS : Hid (s.In w)) (hT : Hid (t.In w)) :
    Calls Try.prog 7 #[.slice A n ca, .slice B m cb, .slice P k cp, .slice Q l cq, .agg X, .agg Y] w fun e w' => e = .returned (.bool true) ∧ Fr w w' := by
  subst hX; subst hY; exact same_as A B P Q n m k l ca cb cp cq f g x y s t hn hm hk hl w hA hB hP hQ hS hT
end Go.Proofs.Ytkchpegpmpijcaa.M
