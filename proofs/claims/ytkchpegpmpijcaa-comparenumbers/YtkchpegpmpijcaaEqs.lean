/- Two instructions that were done, two arrays of words: when Go's == says yes. -/
import Derived.Test.YtkchpegpmpijcaaMem
import Derived.Laws.StructEq
import Derived.ChangeKeysEq
import Derived.Deep.MidRow
namespace Go.Proofs.Ytkchpegpmpijcaa.M
open Go.ChangeShapes Go.WideShapes Go.ChangeAt Go.RowKit Go.Proofs.Ytkchpegpmpijcaa.Walks
set_option linter.unusedVariables false
theorem hid {p : Prop} (h : p) : Hid p := h
/-- an instruction that was done -/
structure Rt where
  p : Int
  v : Int
  d : Int
  s : Bool
  a : Int
  t : Int
  m : Int
/-- its cells -/
def Rt.cs (r : Rt) : List Value := [.int .u32 r.p, .int .u32 r.v, .int .i64 r.d, .bool r.s, .int .u32 r.a, .int .u32 r.t, .int .i64 r.m]
/-- are they the same? -/
def Rt.eq (x y : Rt) : Bool := x.p == y.p && (x.v == y.v && (x.d == y.d && (x.s == y.s && (x.a == y.a && (x.t == y.t && x.m == y.m)))))
theorem Rt.eq_iff (x y : Rt) : x.eq y = true ↔ x = y := by
  cases x; cases y
  simp [Rt.eq]
theorem Rt.eq_self (x : Rt) : x.eq x = true := (Rt.eq_iff x x).2 rfl
theorem Rt.eq_symm (x y : Rt) : x.eq y = y.eq x := by
  cases h : x.eq y with
  | true => rw [(Rt.eq_iff x y).1 h, Rt.eq_self]
  | false =>
    cases h' : y.eq x with
    | false => rfl
    | true => rw [(Rt.eq_iff y x).1 h', Rt.eq_self] at h; cases h
theorem fields24 : (Try.prog.fieldsOf 24).toList = [{ name := "PC", type := 22, offset := 0, embedded := false, tag := "", pkgPath := "", byteOffset := 0 },
        { name := "Value", type := 22, offset := 1, embedded := false, tag := "", pkgPath := "", byteOffset := 4 },
        { name := "Rd", type := 3, offset := 2, embedded := false, tag := "", pkgPath := "", byteOffset := 8 },
        { name := "Store", type := 4, offset := 3, embedded := false, tag := "", pkgPath := "", byteOffset := 16 },
        { name := "Addr", type := 22, offset := 4, embedded := false, tag := "", pkgPath := "", byteOffset := 20 },
        { name := "Data", type := 22, offset := 5, embedded := false, tag := "", pkgPath := "", byteOffset := 24 },
        { name := "Mask", type := 3, offset := 6, embedded := false, tag := "", pkgPath := "", byteOffset := 32 }] := by
  simp only [Program.fieldsOf, Try.underlying24]
theorem under24 : Try.prog.underlying 24 = some (.struct (Try.prog.fieldsOf 24)) := by
  rw [Program.fieldsOf, Try.underlying24]
theorem held24 : Try.prog.stoodInHeld 24 = false := by kernel_rfl
theorem plain22 : Try.prog.plainKey 22 = true := by kernel_rfl
theorem plain3 : Try.prog.plainKey 3 = true := by kernel_rfl
theorem plain4 : Try.prog.plainKey 4 = true := by kernel_rfl
theorem equal24 (x y : Rt) (W : World) : (Op.equalIn 10000 24 (.agg x.cs.toArray) (.agg y.cs.toArray)).run Try.prog W = .ok (x.eq y) W := by
  rw [run_equalIn_struct W 9999 24 _ _ under24 held24, fields24]
  have pt : ∀ (r : Rt) (W : World), (part 22 r.cs.toArray 0).run Try.prog W = .ok (.int .u32 r.p) W ∧ (part 22 r.cs.toArray 1).run Try.prog W = .ok (.int .u32 r.v) W ∧ (part 3 r.cs.toArray 2).run Try.prog W = .ok (.int .i64 r.d) W ∧ (part 4 r.cs.toArray 3).run Try.prog W = .ok (.bool r.s) W ∧ (part 22 r.cs.toArray 4).run Try.prog W = .ok (.int .u32 r.a) W ∧ (part 22 r.cs.toArray 5).run Try.prog W = .ok (.int .u32 r.t) W ∧ (part 3 r.cs.toArray 6).run Try.prog W = .ok (.int .i64 r.m) W := fun r W =>
    ⟨run_part_plain W plain22 rfl, run_part_plain W plain22 rfl, run_part_plain W plain3 rfl, run_part_plain W plain4 rfl, run_part_plain W plain22 rfl, run_part_plain W plain22 rfl, run_part_plain W plain3 rfl⟩
  have qi : ∀ (a b : Int) (W : World), (Op.equalIn 9999 22 (.int .u32 a) (.int .u32 b)).run Try.prog W = .ok (a == b) W := fun a b W => run_equalIn_int W 9998 22 .u32 .u32 a b Try.underlying22
  have qj : ∀ (a b : Int) (W : World), (Op.equalIn 9999 3 (.int .i64 a) (.int .i64 b)).run Try.prog W = .ok (a == b) W := fun a b W => run_equalIn_int W 9998 3 .i64 .i64 a b Try.underlying3
  have qb : ∀ (a b : Bool) (W : World), (Op.equalIn 9999 4 (.bool a) (.bool b)).run Try.prog W = .ok (a == b) W := fun a b W => run_equalIn_bool W 9998 4 a b Try.underlying4
  have ifn : ∀ (c : Bool) (k : Sem Bool) (W : World), (if (!c) = true then (pure false : Sem Bool) else k).run Try.prog W = if c = true then k.run Try.prog W else .ok false W := fun c k W => by cases c <;> simp
  simp only [Op.eqFields, ne_eq, not_false_eq_true, if_true, Sem.run_bind, (pt x W).1, (pt x W).2.1, (pt x W).2.2.1, (pt x W).2.2.2.1, (pt x W).2.2.2.2.1, (pt x W).2.2.2.2.2.1, (pt x W).2.2.2.2.2.2, (pt y W).1, (pt y W).2.1, (pt y W).2.2.1, (pt y W).2.2.2.1, (pt y W).2.2.2.2.1, (pt y W).2.2.2.2.2.1, (pt y W).2.2.2.2.2.2, Result.andThen_ok, qi, qj, qb, ifn, Sem.run_pure, String.reduceEq]
  unfold Rt.eq
  cases x.p == y.p <;> cases x.v == y.v <;> cases x.d == y.d <;> cases x.s == y.s <;> cases x.a == y.a <;> cases x.t == y.t <;> cases x.m == y.m <;> rfl
theorem eql24 (x y : Rt) (W : World) : (binOp .eql 24 (.agg x.cs.toArray) (.agg y.cs.toArray)).run Try.prog W = .ok (.bool (x.eq y)) W := by
  rw [run_eql_struct, equal24]; rfl
theorem neq24 (x y : Rt) (W : World) : (binOp .neq 24 (.agg x.cs.toArray) (.agg y.cs.toArray)).run Try.prog W = .ok (.bool (!x.eq y)) W := by
  rw [run_neq_struct, equal24]; rfl
/-- are the first n of both the same? -/
def eqN (f g : Nat → Int) : Nat → Bool
  | 0 => true
  | n + 1 => eqN f g n && f n == g n
theorem eqN_true (f g : Nat → Int) : ∀ n, eqN f g n = true ↔ ∀ j, j < n → f j = g j
  | 0 => by simp [eqN]
  | n + 1 => by
    simp only [eqN, Bool.and_eq_true, beq_iff_eq, eqN_true f g n]
    refine ⟨fun ⟨h1, h2⟩ j hj => ?_, fun h => ⟨fun j hj => h j (by omega), h n (by omega)⟩⟩
    by_cases e : j = n
    · rw [e]; exact h2
    · exact h1 j (by omega)
theorem eqN_false {f g : Nat → Int} {n d : Nat} (hd : d < n) (h : ¬ f d = g d) : eqN f g n = false := by
  cases e : eqN f g n with
  | false => rfl
  | true => exact absurd ((eqN_true f g n).1 e d hd) h
theorem eqN_self (f : Nat → Int) (n : Nat) : eqN f f n = true := (eqN_true f f n).2 fun _ _ => rfl
/-- words as values -/
def wl (f : Nat → Int) (n : Nat) : List Value := (List.range n).map fun i => .int .u32 (f i)
theorem wl_len (f : Nat → Int) (n : Nat) : (wl f n).length = n := by simp [wl]
theorem wl_at (f : Nat → Int) (n j : Nat) (h : j < n) : (wl f n)[j]? = some (.int .u32 (f j)) := by simp [wl, h]
theorem wl_arr (f : Nat → Int) (n j : Nat) (h : j < n) : (wl f n).toArray[j]? = some (.int .u32 (f j)) := by
  rw [List.getElem?_toArray]; exact wl_at f n j h
theorem items_run (f g : Nat → Int) (n : Nat) (W : World) : ∀ (l : List Nat), (∀ i ∈ l, i < n) → (Op.eqItems 9999 22 1 (wl f n).toArray (wl g n).toArray l).run Try.prog W = .ok (l.all fun i => f i == g i) W
  | [], _ => by simp [Op.eqItems]
  | i :: l, h => by
    have e1 := run_part_plain W plain22 (xs := (wl f n).toArray) (off := i * 1) (v := .int .u32 (f i)) (by rw [Nat.mul_one]; exact wl_arr f n i (h i (by simp)))
    have e2 := run_part_plain W plain22 (xs := (wl g n).toArray) (off := i * 1) (v := .int .u32 (g i)) (by rw [Nat.mul_one]; exact wl_arr g n i (h i (by simp)))
    have e3 := run_equalIn_int W 9998 22 .u32 .u32 (f i) (g i) Try.underlying22
    have ih := items_run f g n W l (fun j hj => h j (by simp [hj]))
    simp only [Op.eqItems, Sem.run_bind, e1, e2, e3, Result.andThen_ok, List.all_cons]
    cases hb : f i == g i with
    | false => simp
    | true => simpa using ih
theorem all_eqN (f g : Nat → Int) (n : Nat) : ((List.range n).all fun i => f i == g i) = eqN f g n := by
  induction n with
  | zero => rfl
  | succ n ih => rw [List.range_succ, List.all_append, ih]; simp [eqN]
theorem cells22 : Try.prog.cellsOf 22 = 1 := by kernel_rfl
theorem cells24 : Try.prog.cellsOf 24 = 7 := by kernel_rfl
theorem info22 : (Try.prog.info? 22).map (fun i => (i.zero, i.size, i.bytes)) = some (some (.int .u32 0), 1, 4) := by kernel_rfl
theorem equal_arr (t n : Nat) (hu : Try.prog.underlying t = some (.array n 22)) (f g : Nat → Int) (W : World) : (Op.equalIn 10000 t (.agg (wl f n).toArray) (.agg (wl g n).toArray)).run Try.prog W = .ok (eqN f g n) W := by
  obtain ⟨j0, hi, _, _, _⟩ := info_parts info22
  rw [run_equalIn_array W 9999 _ _ hu hi, cells22, items_run f g n W _ (fun i hi => by simpa using hi), all_eqN]
theorem eql29 (f g : Nat → Int) (W : World) : (binOp .eql 29 (.agg (wl f 32).toArray) (.agg (wl g 32).toArray)).run Try.prog W = .ok (.bool (eqN f g 32)) W := by
  rw [run_eql_struct, equal_arr 29 32 Try.underlying29]; rfl
theorem neq29 (f g : Nat → Int) (W : World) : (binOp .neq 29 (.agg (wl f 32).toArray) (.agg (wl g 32).toArray)).run Try.prog W = .ok (.bool (!eqN f g 32)) W := by
  rw [run_neq_struct, equal_arr 29 32 Try.underlying29]; rfl
theorem eql30 (f g : Nat → Int) (W : World) : (binOp .eql 30 (.agg (wl f 5).toArray) (.agg (wl g 5).toArray)).run Try.prog W = .ok (.bool (eqN f g 5)) W := by
  rw [run_eql_struct, equal_arr 30 5 Try.underlying30]; rfl
theorem neq30 (f g : Nat → Int) (W : World) : (binOp .neq 30 (.agg (wl f 5).toArray) (.agg (wl g 5).toArray)).run Try.prog W = .ok (.bool (!eqN f g 5)) W := by
  rw [run_neq_struct, equal_arr 30 5 Try.underlying30]; rfl
theorem size24 : (Try.prog.info? 24).map (·.size) = some 7 := by kernel_rfl
theorem size29 : (Try.prog.info? 29).map (·.size) = some 32 := by kernel_rfl
theorem size30 : (Try.prog.info? 30).map (·.size) = some 5 := by kernel_rfl
theorem size32 : (Try.prog.info? 32).map (·.size) = some 39 := by kernel_rfl
end Go.Proofs.Ytkchpegpmpijcaa.M
