/- Instructions that were done (seven cells): when Go's == says yes; rows of them; append onto a row of one's own. -/
import Derived.Test.YtedcamljgnblmaaSet
import Derived.Laws.StructEq
import Derived.ChangeKeysEq
import Derived.Deep.MidRow
import Derived.BigFrame
import Derived.Laws.AppendOwn
import Derived.Laws.AppendOwnNone
namespace Go.Proofs.Ytedcamljgnblmaa.M
open Go.ChangeShapes Go.WideShapes Go.ChangeAt Go.RowKit Go.Proofs.Ytedcamljgnblmaa.Walks
set_option linter.unusedVariables false
theorem hid {p : Prop} (h : p) : Hid p := h
/-- an instruction that was done -/
structure Rt where
  p : Int
  v : Int
  d : Int
  s : Bool
  a : Int
  t : Int
  m : Int
/-- its cells -/
def Rt.cs (r : Rt) : List Value := [.int .u32 r.p, .int .u32 r.v, .int .i64 r.d, .bool r.s, .int .u32 r.a, .int .u32 r.t, .int .i64 r.m]
/-- are they the same? -/
def Rt.eq (x y : Rt) : Bool := x.p == y.p && (x.v == y.v && (x.d == y.d && (x.s == y.s && (x.a == y.a && (x.t == y.t && x.m == y.m)))))
theorem Rt.eq_iff (x y : Rt) : x.eq y = true ↔ x = y := by
  cases x; cases y
  simp [Rt.eq]
theorem Rt.eq_self (x : Rt) : x.eq x = true := (Rt.eq_iff x x).2 rfl
theorem Rt.eq_symm (x y : Rt) : x.eq y = y.eq x := by
  cases h : x.eq y with
  | true => rw [(Rt.eq_iff x y).1 h, Rt.eq_self]
  | false =>
    cases h' : y.eq x with
    | false => rfl
    | true => rw [(Rt.eq_iff y x).1 h', Rt.eq_self] at h; cases h
theorem fields25 : (Try.prog.fieldsOf 25).toList = [{ name := "PC", type := 23, offset := 0, embedded := false, tag := "", pkgPath := "", byteOffset := 0 },
        { name := "Value", type := 23, offset := 1, embedded := false, tag := "", pkgPath := "", byteOffset := 4 },
        { name := "Rd", type := 3, offset := 2, embedded := false, tag := "", pkgPath := "", byteOffset := 8 },
        { name := "Store", type := 4, offset := 3, embedded := false, tag := "", pkgPath := "", byteOffset := 16 },
        { name := "Addr", type := 23, offset := 4, embedded := false, tag := "", pkgPath := "", byteOffset := 20 },
        { name := "Data", type := 23, offset := 5, embedded := false, tag := "", pkgPath := "", byteOffset := 24 },
        { name := "Mask", type := 3, offset := 6, embedded := false, tag := "", pkgPath := "", byteOffset := 32 }] := by
  simp only [Program.fieldsOf, Try.underlying25]
theorem under25 : Try.prog.underlying 25 = some (.struct (Try.prog.fieldsOf 25)) := by
  rw [Program.fieldsOf, Try.underlying25]
theorem held25 : Try.prog.stoodInHeld 25 = false := by kernel_rfl
theorem plain23 : Try.prog.plainKey 23 = true := by kernel_rfl
theorem plain3 : Try.prog.plainKey 3 = true := by kernel_rfl
theorem plain4 : Try.prog.plainKey 4 = true := by kernel_rfl
theorem equal25 (x y : Rt) (W : World) : (Op.equalIn 10000 25 (.agg x.cs.toArray) (.agg y.cs.toArray)).run Try.prog W = .ok (x.eq y) W := by
  rw [run_equalIn_struct W 9999 25 _ _ under25 held25, fields25]
  have pt : ∀ (r : Rt) (W : World), (part 23 r.cs.toArray 0).run Try.prog W = .ok (.int .u32 r.p) W ∧ (part 23 r.cs.toArray 1).run Try.prog W = .ok (.int .u32 r.v) W ∧ (part 3 r.cs.toArray 2).run Try.prog W = .ok (.int .i64 r.d) W ∧ (part 4 r.cs.toArray 3).run Try.prog W = .ok (.bool r.s) W ∧ (part 23 r.cs.toArray 4).run Try.prog W = .ok (.int .u32 r.a) W ∧ (part 23 r.cs.toArray 5).run Try.prog W = .ok (.int .u32 r.t) W ∧ (part 3 r.cs.toArray 6).run Try.prog W = .ok (.int .i64 r.m) W := fun r W =>
    ⟨run_part_plain W plain23 rfl, run_part_plain W plain23 rfl, run_part_plain W plain3 rfl, run_part_plain W plain4 rfl, run_part_plain W plain23 rfl, run_part_plain W plain23 rfl, run_part_plain W plain3 rfl⟩
  have qi : ∀ (a b : Int) (W : World), (Op.equalIn 9999 23 (.int .u32 a) (.int .u32 b)).run Try.prog W = .ok (a == b) W := fun a b W => run_equalIn_int W 9998 23 .u32 .u32 a b Try.underlying23
  have qj : ∀ (a b : Int) (W : World), (Op.equalIn 9999 3 (.int .i64 a) (.int .i64 b)).run Try.prog W = .ok (a == b) W := fun a b W => run_equalIn_int W 9998 3 .i64 .i64 a b Try.underlying3
  have qb : ∀ (a b : Bool) (W : World), (Op.equalIn 9999 4 (.bool a) (.bool b)).run Try.prog W = .ok (a == b) W := fun a b W => run_equalIn_bool W 9998 4 a b Try.underlying4
  have ifn : ∀ (c : Bool) (k : Sem Bool) (W : World), (if (!c) = true then (pure false : Sem Bool) else k).run Try.prog W = if c = true then k.run Try.prog W else .ok false W := fun c k W => by cases c <;> simp
  simp only [Op.eqFields, ne_eq, not_false_eq_true, if_true, Sem.run_bind, (pt x W).1, (pt x W).2.1, (pt x W).2.2.1, (pt x W).2.2.2.1, (pt x W).2.2.2.2.1, (pt x W).2.2.2.2.2.1, (pt x W).2.2.2.2.2.2, (pt y W).1, (pt y W).2.1, (pt y W).2.2.1, (pt y W).2.2.2.1, (pt y W).2.2.2.2.1, (pt y W).2.2.2.2.2.1, (pt y W).2.2.2.2.2.2, Result.andThen_ok, qi, qj, qb, ifn, Sem.run_pure, String.reduceEq]
  unfold Rt.eq
  cases x.p == y.p <;> cases x.v == y.v <;> cases x.d == y.d <;> cases x.s == y.s <;> cases x.a == y.a <;> cases x.t == y.t <;> cases x.m == y.m <;> rfl
theorem eql25 (x y : Rt) (W : World) : (binOp .eql 25 (.agg x.cs.toArray) (.agg y.cs.toArray)).run Try.prog W = .ok (.bool (x.eq y)) W := by
  rw [run_eql_struct, equal25]; rfl
theorem neq25 (x y : Rt) (W : World) : (binOp .neq 25 (.agg x.cs.toArray) (.agg y.cs.toArray)).run Try.prog W = .ok (.bool (!x.eq y)) W := by
  rw [run_neq_struct, equal25]; rfl
/-- a load of many cells, guarded or not -/
theorem load_want {P : Program} {ops : Array Oper} {rest : List Oper} {op : Oper} {a : Act} {w : World} {Q : Exit → Act → World → Prop} (hw : Region.wanted op (yielded ops a.tmps) = true) (ty : TypeId) (x : Operand) (ho : op.op = .load ty x)
    (b o : Nat) (hx : a.eval x = .pointer (some ⟨b, o, none⟩)) (cs : List Value) (d : TypeDesc) (hc : w.rangeAt b o cs)
    (hu : P.underlying ty = some d) (hd : d.isRow = true) (hi : (P.info? ty).map (·.size) = some cs.length)
    (h : wpList P ops Q rest (a.put op.dst (.agg cs.toArray)) w) : wpList P ops Q (op :: rest) a w :=
  BigFrame.wpList_want hw fun _ hK => wp_load_mid ty x ho b o hx cs d hc hu hd hi (hK _ _ h)
/-- a range in a block that is as it was -/
theorem range_block {w w' : World} {b o : Nat} {cs : List Value} (h : w.rangeAt b o cs) (e : w'.heap[b]? = w.heap[b]?) : w'.rangeAt b o cs := fun j u hu => by
  rw [World.cell?_of_block (w := w) e]; exact h j u hu
theorem range_fr {w w' : World} {b o : Nat} {cs : List Value} (h : w.rangeAt b o cs) (k : Fr w w') (hb : b < w.heap.size) : w'.rangeAt b o cs := range_block h (k.block b hb)
/-- a box that is new -/
theorem range_new (w : World) (cs : List Value) (t : TypeId) : (w.alloc (.cells cs.toArray t)).rangeAt w.heap.size 0 cs := fun j u hu => by
  rw [World.cell?_alloc_at _ _ _ _ rfl, Nat.zero_add, List.getElem?_toArray]; exact hu
theorem two_a (w : World) (cs ds : List Value) (t u : TypeId) : ((w.alloc (.cells cs.toArray t)).alloc (.cells ds.toArray u)).rangeAt w.heap.size 0 cs :=
  range_fr (range_new w cs t) ((Fr.refl _).alloc _) (by simp)
theorem two_b (w : World) (cs ds : List Value) (t u : TypeId) : ((w.alloc (.cells cs.toArray t)).alloc (.cells ds.toArray u)).rangeAt (w.heap.size + 1) 0 ds := by
  have h := range_new (w.alloc (.cells cs.toArray t)) ds u
  simpa using h
/-- the cells of n of them -/
def rl (f : Nat → Rt) : Nat → List Value
  | 0 => []
  | n + 1 => rl f n ++ (f n).cs
theorem rl_len (f : Nat → Rt) : ∀ n, (rl f n).length = n * 7
  | 0 => rfl
  | n + 1 => by
    have e : (f n).cs.length = 7 := rfl
    rw [rl, List.length_append, rl_len f n, e]; omega
theorem rl_at (f : Nat → Rt) (j i : Nat) (hi : i < 7) : ∀ n, j < n → (rl f n)[j * 7 + i]? = (f j).cs[i]?
  | 0, h => absurd h (Nat.not_lt_zero _)
  | n + 1, h => by
    rw [rl]
    by_cases e : j = n
    · subst e
      rw [List.getElem?_append_right (by rw [rl_len]; omega), rl_len, show j * 7 + i - j * 7 = i by omega]
    · rw [List.getElem?_append_left (by rw [rl_len]; omega)]
      exact rl_at f j i hi n (by omega)
theorem rl_congr {f g : Nat → Rt} : ∀ n, (∀ j, j < n → f j = g j) → rl f n = rl g n
  | 0, _ => rfl
  | n + 1, h => by rw [rl, rl, rl_congr n (fun j hj => h j (by omega)), h n (by omega)]
/-- one row behind another -/
def cat (f g : Nat → Rt) (n : Nat) : Nat → Rt := fun j => if j < n then f j else g (j - n)
theorem rl_cat (f g : Nat → Rt) (n : Nat) : ∀ m, rl f n ++ rl g m = rl (cat f g n) (n + m)
  | 0 => by
    rw [rl, List.append_nil, Nat.add_zero]
    exact rl_congr n fun j hj => by simp [cat, hj]
  | m + 1 => by
    have e : cat f g n (n + m) = g m := by rw [cat, if_neg (by omega), Nat.add_sub_cancel_left]
    rw [rl, ← List.append_assoc, rl_cat f g n m, ← Nat.add_assoc, rl, e]
theorem one_cs (r : Rt) : ∀ u ∈ r.cs, u.oneCell' = true := by
  intro u hu
  simp only [Rt.cs, List.mem_cons, List.not_mem_nil, or_false] at hu
  rcases hu with rfl | rfl | rfl | rfl | rfl | rfl | rfl <;> rfl
theorem one_rl (f : Nat → Rt) : ∀ n, ∀ u ∈ rl f n, u.oneCell' = true
  | 0, u, h => by simp [rl] at h
  | n + 1, u, h => by
    rw [rl] at h
    rcases List.mem_append.1 h with h | h
    · exact one_rl f n u h
    · exact one_cs _ u h
/-- a row of instructions that were done lies in memory -/
def RIn (w : World) (A : Option Addr) (n : Nat) (f : Nat → Rt) : Prop := ∀ j, j < n → ∃ b o, A = some ⟨b, o, none⟩ ∧ b < w.heap.size ∧ w.rangeAt b (o + j * 7) (f j).cs
theorem RIn.fr {w w' : World} {A : Option Addr} {n : Nat} {f : Nat → Rt} (h : RIn w A n f) (F : Fr w w') : RIn w' A n f := fun j hj => by
  obtain ⟨b, o, h1, h2, h3⟩ := h j hj
  exact ⟨b, o, h1, Nat.lt_of_lt_of_le h2 F.size, range_fr h3 F h2⟩
theorem RIn.alike {w w' : World} {A : Option Addr} {n : Nat} {f : Nat → Rt} (h : RIn w A n f) (k : w'.Alike w) : RIn w' A n f := h.fr ((Fr.refl w).alike k)
theorem RIn.less {w : World} {A : Option Addr} {n m : Nat} {f : Nat → Rt} (h : RIn w A n f) (k : m ≤ n) : RIn w A m f := fun j hj => h j (by omega)
/-- a row that lies in a block from its head on -/
theorem RIn.of {W : World} {g n : Nat} {f : Nat → Rt} (h : W.rangeAt g 0 (rl f n)) (hg : g < W.heap.size) : RIn W (some ⟨g, 0, none⟩) n f := fun j hj => by
  refine ⟨g, 0, rfl, hg, fun i u hu => ?_⟩
  have hi : i < 7 := (List.getElem?_eq_some_iff.1 hu).1
  have := h (j * 7 + i) u (by rw [rl_at f j i hi n hj]; exact hu)
  rw [Nat.zero_add] at this
  rw [Nat.zero_add]
  exact this
theorem RIn.new (W : World) (f : Nat → Rt) (n : Nat) (X : Array Value) (hX : X = (rl f n).toArray) (t : TypeId) : RIn (W.alloc (.cells X t)) (some ⟨W.heap.size, 0, none⟩) n f := by
  subst hX
  exact RIn.of (range_new W _ t) (by simp)
theorem RIn.zero (W : World) (A : Option Addr) (f : Nat → Rt) : RIn W A 0 f := fun j hj => absurd hj (Nat.not_lt_zero _)
theorem cells7 {W : World} {b : Nat} {r : Rt} (h : W.rangeAt b 0 r.cs) : W.cell? ⟨b, 0, none⟩ = some (.int .u32 r.p) ∧ W.cell? ⟨b, 1, none⟩ = some (.int .u32 r.v) ∧ W.cell? ⟨b, 2, none⟩ = some (.int .i64 r.d) ∧ W.cell? ⟨b, 3, none⟩ = some (.bool r.s) ∧ W.cell? ⟨b, 4, none⟩ = some (.int .u32 r.a) ∧ W.cell? ⟨b, 5, none⟩ = some (.int .u32 r.t) ∧ W.cell? ⟨b, 6, none⟩ = some (.int .i64 r.m) := by
  have g : ∀ j u, r.cs[j]? = some u → W.cell? ⟨b, j, Option.none⟩ = some u := fun j u hu => by have := h j u hu; rwa [Nat.zero_add] at this
  exact ⟨g 0 _ rfl, g 1 _ rfl, g 2 _ rfl, g 3 _ rfl, g 4 _ rfl, g 5 _ rfl, g 6 _ rfl⟩
theorem size25 : (Try.prog.info? 25).map (·.size) = some 7 := by kernel_rfl
theorem cells25 : Try.prog.cellsOf 25 = 7 := by kernel_rfl
theorem info25 : (Try.prog.info? 25).map (fun i => (i.zero, i.size, i.bytes)) = some (some (.agg (⟨0, 0, 0, false, 0, 0, 0⟩ : Rt).cs.toArray), 7, 40) := by kernel_rfl
/-- append onto a row of one's own: it lies where it lay, or in a block that is new -/
theorem run_app (w : World) (ty : TypeId) (B : Nat) (A : Option Addr) (n c : Nat) (f : Nat → Rt) (hO : w.ownsRow B 25 7 (.slice A n c) n (rl f n)) (D : Option Addr) (m d : Nat) (g : Nat → Rt) (hD : RIn w D m g) (hN : D = none → m = 0 ∧ d = 0) (hb : n + m ≤ 1048576) (hB : B ≤ w.heap.size) :
    ∃ A' c' w', (Builtin.append_ #[31, 31] ty #[.slice A n c, .slice D m d]).run Try.prog w = .ok (.slice A' (n + m) c') w' ∧ w'.ownsRow B 25 7 (.slice A' (n + m) c') (n + m) (rl (cat f g n) (n + m)) ∧ w.grownBy w' (A.map (·.block)) ∧
      (A'.map (·.block) = A.map (·.block) ∨ ∀ k, A'.map (·.block) = some k → w.heap.size ≤ k) := by
  obtain ⟨i, hi, hz0, hz1, hz2⟩ := info_parts info25
  have vb : ∀ (A : Option Addr) n c, (Value.slice A n c).ownBlock = A.map (·.block) := fun A n c => by cases A <;> rfl
  rcases D with _ | ad
  · obtain ⟨rfl, rfl⟩ := hN rfl
    refine ⟨A, c, w, run_append_owned_none (P := Try.prog) (w := w) B 31 ty 25 i 7 Try.underlying31 hi _ n _ hO, ?_, ⟨rfl, rfl, rfl, Nat.le_refl _, fun _ _ _ => rfl⟩, .inl rfl⟩
    have e : rl f n = rl (cat f g n) (n + 0) := rl_congr n fun j hj => by simp [cat, hj]
    rw [← e]; exact hO
  · have hnews : ∀ j x, (rl g m)[j]? = some x → w.cell? (ad.add j) = some x := fun j x hx => by
      have hj : j < m * 7 := by have := (List.getElem?_eq_some_iff.1 hx).1; rwa [rl_len] at this
      have hq : j / 7 < m := by omega
      have hr : j % 7 < 7 := by omega
      have hjj : j = j / 7 * 7 + j % 7 := by omega
      rw [hjj, rl_at g (j / 7) (j % 7) hr m hq] at hx
      obtain ⟨b, o, e1, _, e3⟩ := hD (j / 7) hq
      injection e1 with e1
      subst e1
      have := e3 (j % 7) x hx
      rw [Addr.add_mid]
      rwa [show o + j = o + j / 7 * 7 + j % 7 by omega]
    have hl : (rl g m).length = m * 7 := rl_len g m
    have h63 : n + m ≤ maxLen := by unfold maxLen; omega
    have hby : (n + m) * 40 ≤ 140737488355328 := by omega
    obtain ⟨v', w', hr, h2, h3, h4⟩ := run_append_own (P := Try.prog) w B 31 ty 25 i _ 7 40 Try.underlying31 hi hz0 hz1 hz2 rfl (by decide) _ n _ hO ad m d (rl g m) hl hnews (one_rl g m) h63 hby hB
    rw [rl_cat] at h2
    have vs : ∃ A' c', v' = .slice A' (n + m) c' := by
      rcases h2.2 with ⟨e, e2⟩ | ⟨g', cap, cur, e, _⟩
      · exact ⟨_, _, by rw [e, e2]⟩
      · exact ⟨_, _, e⟩
    obtain ⟨A', c', rfl⟩ := vs
    rw [vb] at h3
    refine ⟨A', c', w', hr, h2, h3, ?_⟩
    have hl' : (rl g m).length = m * i.size := by rw [hz1]; exact hl
    rcases hO.2 with ⟨e, e2⟩ | ⟨g', cap, cur, e, hbg, hg, hnc, hcm, hcs, htake⟩
    · injection e with e5 e6 e7
      subst e5 e6 e7
      by_cases hm : m = 0
      · have := h4.2 ⟨rfl, hm⟩
        injection this with this
        left; rw [this]
      · have hr' := run_append_nil (P := Try.prog) w 31 ty 25 i _ Try.underlying31 hi hz0 ad m d (rl g m) hl' hnews (by omega) (by omega) (by rw [hz2]; omega)
        rw [hr'] at hr
        injection hr with hr _
        injection hr with hr _
        right; intro k hk
        rw [← hr] at hk
        injection hk with hk
        exact Nat.le_of_eq hk
    · injection e with e5 e6 e7
      subst e5
      subst e7
      by_cases hroom : n + m ≤ c
      · have hfit : n * i.size + (rl g m).length ≤ cur.size := by rw [hl', hcs, hz1, ← Nat.add_mul]; exact Nat.mul_le_mul_right _ hroom
        have hr' := run_append_room (P := Try.prog) w 31 ty 25 i Try.underlying31 hi g' n c cur hg ad m d (rl g m) hl' hnews (one_rl g m) hroom hfit
        rw [hr'] at hr
        injection hr with hr _
        injection hr with hr _
        left; rw [← hr]
      · have holds : ∀ j u, (rl f n)[j]? = some u → w.cell? ((⟨g', 0, none⟩ : Addr).add j) = some u := hO.cells (g := g') rfl
        have hr' := run_append_grow (P := Try.prog) w 31 ty 25 i _ Try.underlying31 hi hz0 ⟨g', 0, none⟩ n c _ (by rw [hz1]; exact hO.1) holds ad m d (rl g m) hl' hnews (by omega) (by omega) (growslice_fits (by omega) (by rw [hz2]; exact hby))
        rw [hr'] at hr
        injection hr with hr _
        injection hr with hr _
        right; intro k hk
        rw [← hr] at hk
        injection hk with hk
        exact Nat.le_of_eq hk
theorem step_app {ops : Array Oper} {o : Oper} {a : Act} {w : World} {K : Act → World → Prop} {Q : Exit → Act → World → Prop} {E : Prop} (hg : o.guard = none) (s x : Operand) (ho : o.op = .call { callee := .builtin .append, args := #[s, x], argTypes := #[31, 31] })
    (B : Nat) (A : Option Addr) (n c : Nat) (f : Nat → Rt) (hs : a.eval s = .slice A n c) (hO : w.ownsRow B 25 7 (.slice A n c) n (rl f n)) (D : Option Addr) (m d : Nat) (g : Nat → Rt) (hx : a.eval x = .slice D m d) (hD : RIn w D m g) (hN : D = none → m = 0 ∧ d = 0) (hb : n + m ≤ 1048576) (hB : B ≤ w.heap.size)
    (h : ∀ A' c' w', w'.ownsRow B 25 7 (.slice A' (n + m) c') (n + m) (rl (cat f g n) (n + m)) → w.grownBy w' (A.map (·.block)) → (A'.map (·.block) = A.map (·.block) ∨ ∀ k, A'.map (·.block) = some k → w.heap.size ≤ k) → K (a.put o.dst (.slice A' (n + m) c')) w') :
    if Region.wanted o (yielded ops a.tmps) = true then Oper.wp Try.prog o a w K Q else E := by
  have hw : Region.wanted o (yielded ops a.tmps) = true := by simp [Region.wanted, hg]
  rw [if_pos hw]
  obtain ⟨A', c', w', hr, h2, h3, h4⟩ := run_app w o.type B A n c f hO D m d g hD hN hb hB
  unfold Oper.wp execOp
  simp only [ho, resolve, invoke, builtin, Sem.run_bind, Sem.run_pure, Result.andThen_ok, List.map_toArray, List.map_cons, List.map_nil, hs, hx, hr]
  exact h A' c' w' h2 h3 h4
end Go.Proofs.Ytedcamljgnblmaa.M
