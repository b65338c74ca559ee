/- Contract of Load. -/
import Derived.Test.YtfhijdnbhbonpaaDoorGet
import Derived.Test.YtfhijdnbhbonpaaDoorRegs
namespace Go.Proofs.YtfhijdnbhbonpaaDoor.Walks
open Go.ChangeShapes Go.WideShapes Go.ChangeAt Go.RowKit
set_option linter.unusedVariables false
/-- while Load goes on: the store, the boxes of what is told -/
structure LdB (w : World) (M b d : Nat) (ws : Nat → Nat) (f nx : Nat) (wr : World) : Prop where
  now : SNow M b d ws f nx w wr
  a3 : ∃ zs, ArrAt w.heap.size 32 zs wr
  a4 : ∃ zs, ArrAt (w.heap.size + 1) 5 zs wr
  sz : w.heap.size + 2 ≤ wr.heap.size
/-- and the copy at P -/
structure LdP (w : World) (M b d : Nat) (ws : Nat → Nat) (f nx P : Nat) (p : Nat → Nat) (wr : World) : Prop where
  b : LdB w M b d ws f nx wr
  p0 : w.heap.size + 2 ≤ P
  p1 : P < wr.heap.size
  aP : ArrAt P 39 p wr
section
variable {w wr w' : World} {M b d f nx f' nx' P : Nat} {ws ws' p q : Nat → Nat}
theorem LdB.start (h : SAt M b d ws f nx w) : LdB w M b d ws f nx ((w.alloc (.cells z32 27)).alloc (.cells z5 28)) := by
  have s : (w.alloc (.cells z32 27)).heap.size = w.heap.size + 1 := by simp
  have a := ArrAt.zero5 (w.alloc (.cells z32 27)) 28
  rw [s] at a
  have n1 := h.alloc (.cells z32 27)
  exact ⟨n1.trans (n1.1.alloc _), ⟨_, (ArrAt.zero32 w 27).frb (FrB.alloc _ _) (by omega)⟩, ⟨_, a⟩, by simp⟩
theorem LdB.then (h : LdB w M b d ws f nx wr) (hS : SAt M b d ws f nx w ∨ (M < w.heap.size ∧ b < w.heap.size ∧ d < w.heap.size)) (k : SNow M b d ws' f' nx' wr w') : LdB w M b d ws' f' nx' w' := by
  have hM : M < w.heap.size ∧ b < w.heap.size ∧ d < w.heap.size := by
    rcases hS with hS | hS
    · exact ⟨hS.hM, hS.hb, hS.hd⟩
    · exact hS
  have sz := h.sz
  have s2 := k.2.size
  obtain ⟨z3, e3⟩ := h.a3
  obtain ⟨z4, e4⟩ := h.a4
  exact ⟨h.now.trans k, ⟨_, e3.tub k.2 (by omega) (by omega) (by omega) (by omega)⟩, ⟨_, e4.tub k.2 (by omega) (by omega) (by omega) (by omega)⟩, by omega⟩
theorem LdP.then (h : LdP w M b d ws f nx P p wr) (hM : M < w.heap.size ∧ b < w.heap.size ∧ d < w.heap.size) (k : SNow M b d ws' f' nx' wr w') : LdP w M b d ws' f' nx' P p w' := by
  have p0 := h.p0
  have p1 := h.p1
  have s2 := k.2.size
  exact ⟨h.b.then (.inr hM) k, p0, by omega, h.aP.tub k.2 p1 (by omega) (by omega) (by omega)⟩
theorem LdB.boxed (h : LdB w M b d ws f nx wr) (hM : M < w.heap.size ∧ b < w.heap.size ∧ d < w.heap.size) : LdP w M b d ws f nx wr.heap.size w0 (wr.alloc (.cells z39 54)) :=
  ⟨h.then (.inr hM) (h.now.1.alloc _), h.sz, by simp, ArrAt.zero39 wr 54⟩
theorem LdP.put (h : LdP w M b d ws f nx P p wr) (hM : M < w.heap.size ∧ b < w.heap.size ∧ d < w.heap.size) (a : ArrAt P 39 q w') (t : TouA P wr w') : LdP w M b d ws f nx P q w' := by
  have p0 := h.p0
  have p1 := h.p1
  have s := t.size
  obtain ⟨z3, e3⟩ := h.b.a3
  obtain ⟨z4, e4⟩ := h.b.a4
  exact ⟨⟨⟨h.b.now.1.arr t (by omega) (by omega) (by omega) (by omega), h.b.now.2.trans (Tub.of_frb (FrB.toua t (by omega)) _ _ _)⟩, ⟨_, e3.toua t (by omega)⟩, ⟨_, e4.toua t (by omega)⟩, by rw [s]; exact h.b.sz⟩, p0, by omega, a⟩
theorem LdP.put3 (h : LdP w M b d ws f nx P p wr) (hM : M < w.heap.size ∧ b < w.heap.size ∧ d < w.heap.size) (a : ArrAt w.heap.size 32 q w') (t : TouA w.heap.size wr w') : LdP w M b d ws f nx P p w' := by
  have p0 := h.p0
  have p1 := h.p1
  have s := t.size
  obtain ⟨z4, e4⟩ := h.b.a4
  exact ⟨⟨⟨h.b.now.1.arr t (by omega) (by omega) (by omega) (by omega), h.b.now.2.trans (Tub.of_frb (FrB.toua t (by omega)) _ _ _)⟩, ⟨_, a⟩, ⟨_, e4.toua t (by omega)⟩, by rw [s]; exact h.b.sz⟩, p0, by omega, h.aP.toua t (by omega)⟩
theorem LdP.put4 (h : LdP w M b d ws f nx P p wr) (hM : M < w.heap.size ∧ b < w.heap.size ∧ d < w.heap.size) (a : ArrAt (w.heap.size + 1) 5 q w') (t : TouA (w.heap.size + 1) wr w') : LdP w M b d ws f nx P p w' := by
  have p0 := h.p0
  have p1 := h.p1
  have s := t.size
  obtain ⟨z3, e3⟩ := h.b.a3
  exact ⟨⟨⟨h.b.now.1.arr t (by omega) (by omega) (by omega) (by omega), h.b.now.2.trans (Tub.of_frb (FrB.toua t (by omega)) _ _ _)⟩, ⟨_, e3.toua t (by omega)⟩, ⟨_, a⟩, by rw [s]; exact h.b.sz⟩, p0, by omega, h.aP.toua t (by omega)⟩
end
set_option maxRecDepth 100000 in
set_option maxHeartbeats 1000000 in
theorem load_tt (M b d f nx l : Nat) (ws : Nat → Nat) (hl : (l : Int) ≤ 1) (HL : Hid (lat ws = l)) (K : Hid (knw ws = true)) (hf : (f : Int) < 4611686018427386000) (WA : Nat → Nat) (FA : Nat) (pA : Nat → Nat) (HWA : Hid (gtK (ws1 ws) (39 * l) 39 = WA)) (HFA : Hid (gtKF (ws1 ws) (39 * l) (f1 ws f) 39 = FA)) (HpA : Hid (gtV (ws1 ws) (39 * l) = pA)) (G1 : Hid (gok (ws1 ws) (39 * l) = true)) (hfa : (FA : Int) < 4611686018427387000) (x0 x37 : Nat) (HX0 : Hid (pA 0 = x0)) (HX37 : Hid (pA 37 = x37)) (h37 : (x37 : Int) < 4294967296) (w : World) (hS : Hid (SAt M b d ws f nx w)) :
    Calls Tryd.prog 14 #[.pointer (some ⟨M, 0, none⟩)] w fun e w' => e = .returned (.tuple #[.int .u32 (x0 : Int), .agg (wn (rgs pA) 32).toArray, .agg (wn (css pA) 5).toArray, .int .i64 (x37 : Int), .bool true]) ∧ SNow M b d WA FA nx w w' := by
  have hM : Hid (M < w.heap.size ∧ b < w.heap.size ∧ d < w.heap.size) := ⟨hS.out.hM, hS.out.hb, hS.out.hd⟩
  have D0 := hideP (LdB.start hS.out)
  have hf1 : ((f1 ws f : Nat) : Int) < 4611686018427387000 := by have := f1_le ws f; omega
  have HLA : Hid (wn (gtV (ws1 ws) (39 * l)) 39 = wn pA 39) := by unfold Hid; rw [HpA.out]
  go_enter Tryd.func14, Tryd.ntmps14
  go_wp2_with fail
  generalize ((w.alloc (.cells z32 27)).alloc (.cells z5 28)) = w0' at *
  refine (latest_as M b d f nx ws _ _ HL K (by omega) _ (hideP D0.out.now.1)).mono ?_; rintro e w1 ⟨rfl, hN⟩
  have D1 := hideP (D0.out.then (.inl hS.out) hN)
  clear hN
  go_wp2_with fail
  refine (get_core M b d _ nx l _ _ (hideP rfl) hl _ G1 WA FA (wn pA 39) HWA HFA HLA hf1 _ (hideP D1.out.now.1)).mono ?_; rintro e w2 ⟨rfl, hN⟩
  have D2 := hideP ((D1.out.then (.inr hM.out) hN).boxed hM.out)
  clear hN
  go_wp2_with (first
    | (refine wpList_arrG 54 39 size54 _ w2.heap.size w0 D2.out.aP (by rfl) _ _ rfl pA _ rfl rfl rfl ?_; intro w3 hA hT; have DX := hideP (D2.out.put hM.out hA.out hT.out); clear hA hT; obtain ⟨Z3, E3⟩ : ∃ z, Hid (ArrAt w.heap.size 32 z w3) := DX.out.b.a3; obtain ⟨Z4, E4⟩ : ∃ z, Hid (ArrAt (w.heap.size + 1) 5 z w3) := DX.out.b.a4)
    | fail)
  refine wp_region_noPanic ?_
  refine wp_region_held_drew (S := fun w' => LdP w M b d WA FA nx w2.heap.size pA w') (by kernel_rfl) ?_ (fun hHeld => ?_)
  · exact DX.out.then hM.out (DX.out.b.now.1.alike ⟨rfl, rfl, rfl⟩)
  refine wpAnyH_take (i := 0) (oi := { dst := some 39, op := Op.indexAddr 54 (Operand.tmp 9) (Operand.const (Value.int IntKind.i64 0)), type := 0, pos := "save.go:70", after := #[], guard := none }) (v := ?_) rfl (by kernel_rfl) (by kernel_rfl) (by kernel_rfl) (fun _ _ _ h => h) (Or.inl ⟨by rfl, ?_⟩) hHeld ?_
  rotate_left
  · intro w hSw
    go_simp
    try with_reducible rfl
  try simp only [Act.put, List.setIfInBounds_toArray, List.set_cons_zero, List.set_cons_succ]
  refine wpAnyH_take (i := 1) (oi := { dst := some 40, op := Op.load 26 (Operand.tmp 39), type := 26, pos := "save.go:70", after := #[{ on := 0, ground := Ground.data }], guard := none }) (v := ?_) rfl (by kernel_rfl) (by kernel_rfl) (by kernel_rfl) (fun _ _ _ h => h) (Or.inl ⟨by rfl, ?_⟩) hHeld ?_
  rotate_left
  · intro w hSw
    have c := hSw.aP.hw 0 (by decide)
    rw [HX0.out] at c
    go_simp
    try with_reducible rfl
  try simp only [Act.put, List.setIfInBounds_toArray, List.set_cons_zero, List.set_cons_succ]
  refine wpAnyH_take (i := 4) (oi := { dst := some 43, op := Op.indexAddr 54 (Operand.tmp 9) (Operand.const (Value.int IntKind.i64 37)), type := 0, pos := "save.go:70", after := #[{ on := 9, ground := Ground.gcOnly Departure.lateStores }], guard := none }) (v := ?_) rfl (by kernel_rfl) (by kernel_rfl) (by kernel_rfl) (fun _ _ _ h => h) (Or.inl ⟨by rfl, ?_⟩) hHeld ?_
  rotate_left
  · intro w hSw
    go_simp
    try with_reducible rfl
  try simp only [Act.put, List.setIfInBounds_toArray, List.set_cons_zero, List.set_cons_succ]
  refine wpAnyH_take (i := 5) (oi := { dst := some 44, op := Op.load 26 (Operand.tmp 43), type := 26, pos := "save.go:70", after := #[{ on := 4, ground := Ground.data }, { on := 9, ground := Ground.gcOnly Departure.lateStores }], guard := none }) (v := ?_) rfl (by kernel_rfl) (by kernel_rfl) (by kernel_rfl) (fun _ _ _ h => h) (Or.inl ⟨by rfl, ?_⟩) hHeld ?_
  rotate_left
  · intro w hSw
    have c := hSw.aP.hw 37 (by decide)
    rw [HX37.out] at c
    go_simp
    try with_reducible rfl
  try simp only [Act.put, List.setIfInBounds_toArray, List.set_cons_zero, List.set_cons_succ]
  refine wpAnyH_take (i := 6) (oi := { dst := some 45, op := Op.convert 26 3 (Operand.tmp 44), type := 3, pos := "save.go:70", after := #[{ on := 5, ground := Ground.data }, { on := 9, ground := Ground.gcOnly Departure.lateStores }], guard := none }) (v := ?_) rfl (by kernel_rfl) (by kernel_rfl) (by kernel_rfl) (fun _ _ _ h => h) (Or.inl ⟨by rfl, ?_⟩) hHeld ?_
  rotate_left
  · intro w hSw
    go_simp
    try with_reducible rfl
  try simp only [Act.put, List.setIfInBounds_toArray, List.set_cons_zero, List.set_cons_succ]
  refine wpAnyH_ready (rs := [2]) (by kernel_rfl) (by simp) ?_
  refine AllReadyH.cons (o := { dst := some 41, op := Op.call { callee := Callee.value (Operand.func 29), args := #[Operand.tmp 9], argTypes := #[54] }, type := 27, pos := "save.go:70", after := #[], guard := none }) rfl (fun K hK => ?_) AllReadyH.nil
  go_simp
  refine (regs_as _ pA _ (hideP hHeld.p1) (hideP hHeld.aP)).mono ?_; rintro e w1 ⟨rfl, hF⟩
  have D1 := hHeld.then hM.out (hHeld.b.now.1.past hF)
  clear hF
  go_wp2_with fail
  refine hK.out _ _ ?_ (fun hHeld => ?_)
  · exact D1
  clear hK K
  try simp only [Act.put, List.setIfInBounds_toArray, List.set_cons_zero, List.set_cons_succ]
  refine wpAnyH_ready (rs := [3]) (by kernel_rfl) (by simp) ?_
  refine AllReadyH.cons (o := { dst := some 42, op := Op.call { callee := Callee.value (Operand.func 30), args := #[Operand.tmp 9], argTypes := #[54] }, type := 28, pos := "save.go:70", after := #[{ on := 2, ground := Ground.chain }], guard := none }) rfl (fun K hK => ?_) AllReadyH.nil
  go_simp
  refine (csrs_as _ pA _ (hideP hHeld.p1) (hideP hHeld.aP)).mono ?_; rintro e w2 ⟨rfl, hF⟩
  have D2 := hHeld.then hM.out (hHeld.b.now.1.past hF)
  clear hF
  go_wp2_with fail
  refine hK.out _ _ ?_ (fun hHeld => ?_)
  · exact D2
  clear hK K
  try simp only [Act.put, List.setIfInBounds_toArray, List.set_cons_zero, List.set_cons_succ]
  refine wpAnyH_take (i := 7) (oi := { dst := some 2, op := Op.assign (Operand.tmp 40), type := 26, pos := "save.go:70", after := #[{ on := 1, ground := Ground.data }, { on := 3, ground := Ground.chain }, { on := 0, ground := Ground.phase }, { on := 1, ground := Ground.phase }, { on := 2, ground := Ground.textOnly Departure.lateStoresUnsure }, { on := 3, ground := Ground.textOnly Departure.lateStoresUnsure }, { on := 4, ground := Ground.textOnly Departure.lateStores }, { on := 5, ground := Ground.textOnly Departure.lateStores }, { on := 6, ground := Ground.textOnly Departure.lateStores }], guard := none }) (v := ?_) rfl (by kernel_rfl) (by kernel_rfl) (by kernel_rfl) (fun _ _ _ h => h) (Or.inl ⟨by rfl, ?_⟩) hHeld ?_
  rotate_left
  · intro w hSw
    go_simp
    try with_reducible rfl
  try simp only [Act.put, List.setIfInBounds_toArray, List.set_cons_zero, List.set_cons_succ]
  refine wpAnyH_ready (rs := [8]) (by kernel_rfl) (by simp) ?_
  refine AllReadyH.cons (o := { dst := none, op := Op.store 27 (Operand.tmp 3) (Operand.tmp 41), type := 0, pos := "save.go:70", after := #[{ on := 2, ground := Ground.data }, { on := 7, ground := Ground.chain }, { on := 0, ground := Ground.phase }, { on := 1, ground := Ground.phase }, { on := 2, ground := Ground.phase }, { on := 3, ground := Ground.textOnly Departure.lateStoresUnsure }, { on := 4, ground := Ground.textOnly Departure.lateStores }, { on := 5, ground := Ground.textOnly Departure.lateStores }, { on := 6, ground := Ground.textOnly Departure.lateStores }, { on := 7, ground := Ground.phase }], guard := none }) rfl (fun K hK => ?_) AllReadyH.nil
  obtain ⟨z3, e3⟩ := hHeld.b.a3
  refine step_arrG 27 32 size27 w.heap.size z3 e3 (by rfl) _ _ rfl (rgs pA) _ rfl rfl rfl ?_
  intro W3 hA3 hT3
  refine hK.out _ _ ?_ (fun hHeld => ?_)
  · exact hHeld.put3 hM.out hA3.out hT3.out
  clear hK K
  try simp only [Act.put]
  refine wpAnyH_ready (rs := [9]) (by kernel_rfl) (by simp) ?_
  refine AllReadyH.cons (o := { dst := none, op := Op.store 28 (Operand.tmp 4) (Operand.tmp 42), type := 0, pos := "save.go:70", after := #[{ on := 3, ground := Ground.data }, { on := 8, ground := Ground.chain }, { on := 0, ground := Ground.phase }, { on := 1, ground := Ground.phase }, { on := 2, ground := Ground.phase }, { on := 3, ground := Ground.phase }, { on := 4, ground := Ground.textOnly Departure.lateStores }, { on := 5, ground := Ground.textOnly Departure.lateStores }, { on := 6, ground := Ground.textOnly Departure.lateStores }, { on := 7, ground := Ground.phase }, { on := 8, ground := Ground.phase }], guard := none }) rfl (fun K hK => ?_) AllReadyH.nil
  obtain ⟨z4, e4⟩ := hHeld.b.a4
  refine step_arrG 28 5 size28 (w.heap.size + 1) z4 e4 (by rfl) _ _ rfl (css pA) _ rfl rfl rfl ?_
  intro W4 hA4 hT4
  have HL4 := hA4.out.told 28 _ Tryd.underlying28 rfl size28
  have HL3 := (hA3.out.toua hT4.out (by omega)).told 27 _ Tryd.underlying27 rfl size27
  refine hK.out _ _ ?_ (fun hHeld => ?_)
  · exact hHeld.put4 hM.out hA4.out hT4.out
  clear hK K
  try simp only [Act.put]
  refine wpAnyH_take (i := 10) (oi := { dst := some 5, op := Op.assign (Operand.tmp 45), type := 3, pos := "save.go:70", after := #[{ on := 6, ground := Ground.data }, { on := 9, ground := Ground.chain }, { on := 0, ground := Ground.phase }, { on := 1, ground := Ground.phase }, { on := 2, ground := Ground.phase }, { on := 3, ground := Ground.phase }, { on := 4, ground := Ground.phase }, { on := 5, ground := Ground.phase }, { on := 6, ground := Ground.phase }, { on := 7, ground := Ground.phase }, { on := 8, ground := Ground.phase }, { on := 9, ground := Ground.phase }], guard := none }) (v := ?_) rfl (by kernel_rfl) (by kernel_rfl) (by kernel_rfl) (fun _ _ _ h => h) (Or.inl ⟨by rfl, ?_⟩) hHeld ?_
  rotate_left
  · intro w hSw
    go_simp
    try with_reducible rfl
  try simp only [Act.put, List.setIfInBounds_toArray, List.set_cons_zero, List.set_cons_succ]
  refine wpAnyH_take (i := 11) (oi := { dst := some 6, op := Op.assign (Operand.const (Value.bool true)), type := 4, pos := "save.go:70", after := #[{ on := 10, ground := Ground.chain }, { on := 0, ground := Ground.phase }, { on := 1, ground := Ground.phase }, { on := 2, ground := Ground.phase }, { on := 3, ground := Ground.phase }, { on := 4, ground := Ground.phase }, { on := 5, ground := Ground.phase }, { on := 6, ground := Ground.phase }, { on := 7, ground := Ground.phase }, { on := 8, ground := Ground.phase }, { on := 9, ground := Ground.phase }, { on := 10, ground := Ground.phase }], guard := none }) (v := ?_) rfl (by kernel_rfl) (by kernel_rfl) (by kernel_rfl) (fun _ _ _ h => h) (Or.inl ⟨by rfl, ?_⟩) hHeld ?_
  rotate_left
  · intro w hSw
    go_simp
    try with_reducible rfl
  try simp only [Act.put, List.setIfInBounds_toArray, List.set_cons_zero, List.set_cons_succ]
  refine wpAnyH_done (by kernel_rfl) ?_ _
  refine NoPanic.normal ?_
  have SN := hHeld.b.now
  have h37w : IntKind.i64.wrap ((x37 : Nat) : Int) = (x37 : Int) := by rw [IntKind.wrap_i64]; omega
  go_wp2_with fail
  refine bodyPost_ret (v := .tuple #[.int .u32 (x0 : Int), .agg (wn (rgs pA) 32).toArray, .agg (wn (css pA) 5).toArray, .int .i64 (x37 : Int), .bool true]) (by simp [results, Tryd.results14, asAddr, HL3, HL4, h37w]) rfl ⟨rfl, SN⟩
set_option maxRecDepth 100000 in
set_option maxHeartbeats 1000000 in
theorem load_tf (M b d f nx l : Nat) (ws : Nat → Nat) (hl : (l : Int) ≤ 1) (HL : Hid (lat ws = l)) (K : Hid (knw ws = false)) (hf : (f : Int) < 4611686018427386000) (WA : Nat → Nat) (FA : Nat) (pA : Nat → Nat) (HWA : Hid (gtK (ws1 ws) (39 * l) 39 = WA)) (HFA : Hid (gtKF (ws1 ws) (39 * l) (f1 ws f) 39 = FA)) (HpA : Hid (gtV (ws1 ws) (39 * l) = pA)) (G1 : Hid (gok (ws1 ws) (39 * l) = true)) (hfa : (FA : Int) < 4611686018427387000) (w : World) (hS : Hid (SAt M b d ws f nx w)) :
    Calls Tryd.prog 14 #[.pointer (some ⟨M, 0, none⟩)] w fun e w' => e = .returned (.tuple #[.int .u32 0, .agg (wn w0 32).toArray, .agg (wn w0 5).toArray, .int .i64 0, .bool false]) ∧ SNow M b d WA FA nx w w' := by
  have hM : Hid (M < w.heap.size ∧ b < w.heap.size ∧ d < w.heap.size) := ⟨hS.out.hM, hS.out.hb, hS.out.hd⟩
  have D0 := hideP (LdB.start hS.out)
  have hf1 : ((f1 ws f : Nat) : Int) < 4611686018427387000 := by have := f1_le ws f; omega
  have HLA : Hid (wn (gtV (ws1 ws) (39 * l)) 39 = wn pA 39) := by unfold Hid; rw [HpA.out]
  go_enter Tryd.func14, Tryd.ntmps14
  go_wp2_with fail
  generalize ((w.alloc (.cells z32 27)).alloc (.cells z5 28)) = w0' at *
  refine (latest_as M b d f nx ws _ _ HL K (by omega) _ (hideP D0.out.now.1)).mono ?_; rintro e w1 ⟨rfl, hN⟩
  have D1 := hideP (D0.out.then (.inl hS.out) hN)
  clear hN
  go_wp2_with fail
  refine (get_core M b d _ nx l _ _ (hideP rfl) hl _ G1 WA FA (wn pA 39) HWA HFA HLA hf1 _ (hideP D1.out.now.1)).mono ?_; rintro e w2 ⟨rfl, hN⟩
  have D2 := hideP ((D1.out.then (.inr hM.out) hN).boxed hM.out)
  clear hN
  go_wp2_with (first
    | (refine wpList_arrG 54 39 size54 _ w2.heap.size w0 D2.out.aP (by rfl) _ _ rfl pA _ rfl rfl rfl ?_; intro w3 hA hT; have DX := hideP (D2.out.put hM.out hA.out hT.out); clear hA hT; obtain ⟨Z3, E3⟩ : ∃ z, Hid (ArrAt w.heap.size 32 z w3) := DX.out.b.a3; obtain ⟨Z4, E4⟩ : ∃ z, Hid (ArrAt (w.heap.size + 1) 5 z w3) := DX.out.b.a4)
    | (refine wpList_arrG 27 32 size27 _ w.heap.size Z3 E3.out (by rfl) _ _ rfl w0 _ (by rfl) rfl rfl ?_; intro W3 hA3 hT3; have D3 := hideP (DX.out.put3 hM.out hA3.out hT3.out))
    | (refine wpList_arrG 28 5 size28 _ (w.heap.size + 1) Z4 (E4.out.toua hT3.out (by omega)) (by rfl) _ _ rfl w0 _ (by rfl) rfl rfl ?_; intro W4 hA4 hT4; have D4 := hideP (D3.out.put4 hM.out hA4.out hT4.out); have HL4 := hA4.out.told 28 _ Tryd.underlying28 rfl size28; have HL3 := (hA3.out.toua hT4.out (by omega)).told 27 _ Tryd.underlying27 rfl size27))
  refine bodyPost_ret (v := .tuple #[.int .u32 0, .agg (wn w0 32).toArray, .agg (wn w0 5).toArray, .int .i64 0, .bool false]) (by simp [results, Tryd.results14, asAddr, HL3, HL4]) rfl ⟨rfl, D4.out.b.now⟩
set_option maxRecDepth 100000 in
set_option maxHeartbeats 1000000 in
theorem load_ft (M b d f nx l : Nat) (ws : Nat → Nat) (hl : (l : Int) ≤ 1) (HL : Hid (lat ws = l)) (K : Hid (knw ws = true)) (hf : (f : Int) < 4611686018427386000) (WA : Nat → Nat) (FA : Nat) (pA : Nat → Nat) (HWA : Hid (gtK (ws1 ws) (39 * l) 39 = WA)) (HFA : Hid (gtKF (ws1 ws) (39 * l) (f1 ws f) 39 = FA)) (HpA : Hid (gtV (ws1 ws) (39 * l) = pA)) (G1 : Hid (gok (ws1 ws) (39 * l) = false)) (hfa : (FA : Int) < 4611686018427387000) (o : Nat) (HO : (1 : Int) - l = o) (ho : (o : Int) ≤ 1) (WB : Nat → Nat) (FB : Nat) (pB : Nat → Nat) (HWB : Hid (gtK WA (39 * o) 39 = WB)) (HFB : Hid (gtKF WA (39 * o) FA 39 = FB)) (HpB : Hid (gtV WA (39 * o) = pB)) (G2 : Hid (gok WA (39 * o) = true)) (x0 x37 : Nat) (HX0 : Hid (pB 0 = x0)) (HX37 : Hid (pB 37 = x37)) (h37 : (x37 : Int) < 4294967296) (w : World) (hS : Hid (SAt M b d ws f nx w)) :
    Calls Tryd.prog 14 #[.pointer (some ⟨M, 0, none⟩)] w fun e w' => e = .returned (.tuple #[.int .u32 (x0 : Int), .agg (wn (rgs pB) 32).toArray, .agg (wn (css pB) 5).toArray, .int .i64 (x37 : Int), .bool true]) ∧ SNow M b d WB FB nx w w' := by
  have hM : Hid (M < w.heap.size ∧ b < w.heap.size ∧ d < w.heap.size) := ⟨hS.out.hM, hS.out.hb, hS.out.hd⟩
  have D0 := hideP (LdB.start hS.out)
  have hf1 : ((f1 ws f : Nat) : Int) < 4611686018427387000 := by have := f1_le ws f; omega
  have HLA : Hid (wn (gtV (ws1 ws) (39 * l)) 39 = wn pA 39) := by unfold Hid; rw [HpA.out]
  go_enter Tryd.func14, Tryd.ntmps14
  go_wp2_with fail
  generalize ((w.alloc (.cells z32 27)).alloc (.cells z5 28)) = w0' at *
  refine (latest_as M b d f nx ws _ _ HL K (by omega) _ (hideP D0.out.now.1)).mono ?_; rintro e w1 ⟨rfl, hN⟩
  have D1 := hideP (D0.out.then (.inl hS.out) hN)
  clear hN
  go_wp2_with fail
  refine (get_core M b d _ nx l _ _ (hideP rfl) hl _ G1 WA FA (wn pA 39) HWA HFA HLA hf1 _ (hideP D1.out.now.1)).mono ?_; rintro e w2 ⟨rfl, hN⟩
  have D2 := hideP ((D1.out.then (.inr hM.out) hN).boxed hM.out)
  clear hN
  have HLB : Hid (wn (gtV WA (39 * o)) 39 = wn pB 39) := by unfold Hid; rw [HpB.out]

  go_wp2_with (first
    | (refine wpList_arrG 54 39 size54 _ w2.heap.size w0 D2.out.aP (by rfl) _ _ rfl pA _ rfl rfl rfl ?_; intro w3 hA hT; have D3 := hideP (D2.out.put hM.out hA.out hT.out); clear hA hT))
  refine (get_core M b d _ nx o _ _ (hideP rfl) ho _ G2 WB FB (wn pB 39) HWB HFB HLB hfa _ (hideP D3.out.b.now.1)).mono ?_; rintro e w4 ⟨rfl, hN⟩
  have D4' := hideP (D3.out.then hM.out hN)
  clear hN
  go_wp2_with (first
    | (refine wpList_arrG 54 39 size54 _ w2.heap.size pA D4'.out.aP (by rfl) _ _ rfl pB _ rfl rfl rfl ?_; intro w5 hA hT; have DX := hideP (D4'.out.put hM.out hA.out hT.out); clear hA hT; obtain ⟨Z3, E3⟩ : ∃ z, Hid (ArrAt w.heap.size 32 z w5) := DX.out.b.a3; obtain ⟨Z4, E4⟩ : ∃ z, Hid (ArrAt (w.heap.size + 1) 5 z w5) := DX.out.b.a4)
    | fail)
  refine wp_region_noPanic ?_
  refine wp_region_held_drew (S := fun w' => LdP w M b d WB FB nx w2.heap.size pB w') (by kernel_rfl) ?_ (fun hHeld => ?_)
  · exact DX.out.then hM.out (DX.out.b.now.1.alike ⟨rfl, rfl, rfl⟩)
  refine wpAnyH_take (i := 0) (oi := { dst := some 39, op := Op.indexAddr 54 (Operand.tmp 9) (Operand.const (Value.int IntKind.i64 0)), type := 0, pos := "save.go:70", after := #[], guard := none }) (v := ?_) rfl (by kernel_rfl) (by kernel_rfl) (by kernel_rfl) (fun _ _ _ h => h) (Or.inl ⟨by rfl, ?_⟩) hHeld ?_
  rotate_left
  · intro w hSw
    go_simp
    try with_reducible rfl
  try simp only [Act.put, List.setIfInBounds_toArray, List.set_cons_zero, List.set_cons_succ]
  refine wpAnyH_take (i := 1) (oi := { dst := some 40, op := Op.load 26 (Operand.tmp 39), type := 26, pos := "save.go:70", after := #[{ on := 0, ground := Ground.data }], guard := none }) (v := ?_) rfl (by kernel_rfl) (by kernel_rfl) (by kernel_rfl) (fun _ _ _ h => h) (Or.inl ⟨by rfl, ?_⟩) hHeld ?_
  rotate_left
  · intro w hSw
    have c := hSw.aP.hw 0 (by decide)
    rw [HX0.out] at c
    go_simp
    try with_reducible rfl
  try simp only [Act.put, List.setIfInBounds_toArray, List.set_cons_zero, List.set_cons_succ]
  refine wpAnyH_take (i := 4) (oi := { dst := some 43, op := Op.indexAddr 54 (Operand.tmp 9) (Operand.const (Value.int IntKind.i64 37)), type := 0, pos := "save.go:70", after := #[{ on := 9, ground := Ground.gcOnly Departure.lateStores }], guard := none }) (v := ?_) rfl (by kernel_rfl) (by kernel_rfl) (by kernel_rfl) (fun _ _ _ h => h) (Or.inl ⟨by rfl, ?_⟩) hHeld ?_
  rotate_left
  · intro w hSw
    go_simp
    try with_reducible rfl
  try simp only [Act.put, List.setIfInBounds_toArray, List.set_cons_zero, List.set_cons_succ]
  refine wpAnyH_take (i := 5) (oi := { dst := some 44, op := Op.load 26 (Operand.tmp 43), type := 26, pos := "save.go:70", after := #[{ on := 4, ground := Ground.data }, { on := 9, ground := Ground.gcOnly Departure.lateStores }], guard := none }) (v := ?_) rfl (by kernel_rfl) (by kernel_rfl) (by kernel_rfl) (fun _ _ _ h => h) (Or.inl ⟨by rfl, ?_⟩) hHeld ?_
  rotate_left
  · intro w hSw
    have c := hSw.aP.hw 37 (by decide)
    rw [HX37.out] at c
    go_simp
    try with_reducible rfl
  try simp only [Act.put, List.setIfInBounds_toArray, List.set_cons_zero, List.set_cons_succ]
  refine wpAnyH_take (i := 6) (oi := { dst := some 45, op := Op.convert 26 3 (Operand.tmp 44), type := 3, pos := "save.go:70", after := #[{ on := 5, ground := Ground.data }, { on := 9, ground := Ground.gcOnly Departure.lateStores }], guard := none }) (v := ?_) rfl (by kernel_rfl) (by kernel_rfl) (by kernel_rfl) (fun _ _ _ h => h) (Or.inl ⟨by rfl, ?_⟩) hHeld ?_
  rotate_left
  · intro w hSw
    go_simp
    try with_reducible rfl
  try simp only [Act.put, List.setIfInBounds_toArray, List.set_cons_zero, List.set_cons_succ]
  refine wpAnyH_ready (rs := [2]) (by kernel_rfl) (by simp) ?_
  refine AllReadyH.cons (o := { dst := some 41, op := Op.call { callee := Callee.value (Operand.func 29), args := #[Operand.tmp 9], argTypes := #[54] }, type := 27, pos := "save.go:70", after := #[], guard := none }) rfl (fun K hK => ?_) AllReadyH.nil
  go_simp
  refine (regs_as _ pB _ (hideP hHeld.p1) (hideP hHeld.aP)).mono ?_; rintro e w1 ⟨rfl, hF⟩
  have D1 := hHeld.then hM.out (hHeld.b.now.1.past hF)
  clear hF
  go_wp2_with fail
  refine hK.out _ _ ?_ (fun hHeld => ?_)
  · exact D1
  clear hK K
  try simp only [Act.put, List.setIfInBounds_toArray, List.set_cons_zero, List.set_cons_succ]
  refine wpAnyH_ready (rs := [3]) (by kernel_rfl) (by simp) ?_
  refine AllReadyH.cons (o := { dst := some 42, op := Op.call { callee := Callee.value (Operand.func 30), args := #[Operand.tmp 9], argTypes := #[54] }, type := 28, pos := "save.go:70", after := #[{ on := 2, ground := Ground.chain }], guard := none }) rfl (fun K hK => ?_) AllReadyH.nil
  go_simp
  refine (csrs_as _ pB _ (hideP hHeld.p1) (hideP hHeld.aP)).mono ?_; rintro e w2 ⟨rfl, hF⟩
  have D2 := hHeld.then hM.out (hHeld.b.now.1.past hF)
  clear hF
  go_wp2_with fail
  refine hK.out _ _ ?_ (fun hHeld => ?_)
  · exact D2
  clear hK K
  try simp only [Act.put, List.setIfInBounds_toArray, List.set_cons_zero, List.set_cons_succ]
  refine wpAnyH_take (i := 7) (oi := { dst := some 2, op := Op.assign (Operand.tmp 40), type := 26, pos := "save.go:70", after := #[{ on := 1, ground := Ground.data }, { on := 3, ground := Ground.chain }, { on := 0, ground := Ground.phase }, { on := 1, ground := Ground.phase }, { on := 2, ground := Ground.textOnly Departure.lateStoresUnsure }, { on := 3, ground := Ground.textOnly Departure.lateStoresUnsure }, { on := 4, ground := Ground.textOnly Departure.lateStores }, { on := 5, ground := Ground.textOnly Departure.lateStores }, { on := 6, ground := Ground.textOnly Departure.lateStores }], guard := none }) (v := ?_) rfl (by kernel_rfl) (by kernel_rfl) (by kernel_rfl) (fun _ _ _ h => h) (Or.inl ⟨by rfl, ?_⟩) hHeld ?_
  rotate_left
  · intro w hSw
    go_simp
    try with_reducible rfl
  try simp only [Act.put, List.setIfInBounds_toArray, List.set_cons_zero, List.set_cons_succ]
  refine wpAnyH_ready (rs := [8]) (by kernel_rfl) (by simp) ?_
  refine AllReadyH.cons (o := { dst := none, op := Op.store 27 (Operand.tmp 3) (Operand.tmp 41), type := 0, pos := "save.go:70", after := #[{ on := 2, ground := Ground.data }, { on := 7, ground := Ground.chain }, { on := 0, ground := Ground.phase }, { on := 1, ground := Ground.phase }, { on := 2, ground := Ground.phase }, { on := 3, ground := Ground.textOnly Departure.lateStoresUnsure }, { on := 4, ground := Ground.textOnly Departure.lateStores }, { on := 5, ground := Ground.textOnly Departure.lateStores }, { on := 6, ground := Ground.textOnly Departure.lateStores }, { on := 7, ground := Ground.phase }], guard := none }) rfl (fun K hK => ?_) AllReadyH.nil
  obtain ⟨z3, e3⟩ := hHeld.b.a3
  refine step_arrG 27 32 size27 w.heap.size z3 e3 (by rfl) _ _ rfl (rgs pB) _ rfl rfl rfl ?_
  intro W3 hA3 hT3
  refine hK.out _ _ ?_ (fun hHeld => ?_)
  · exact hHeld.put3 hM.out hA3.out hT3.out
  clear hK K
  try simp only [Act.put]
  refine wpAnyH_ready (rs := [9]) (by kernel_rfl) (by simp) ?_
  refine AllReadyH.cons (o := { dst := none, op := Op.store 28 (Operand.tmp 4) (Operand.tmp 42), type := 0, pos := "save.go:70", after := #[{ on := 3, ground := Ground.data }, { on := 8, ground := Ground.chain }, { on := 0, ground := Ground.phase }, { on := 1, ground := Ground.phase }, { on := 2, ground := Ground.phase }, { on := 3, ground := Ground.phase }, { on := 4, ground := Ground.textOnly Departure.lateStores }, { on := 5, ground := Ground.textOnly Departure.lateStores }, { on := 6, ground := Ground.textOnly Departure.lateStores }, { on := 7, ground := Ground.phase }, { on := 8, ground := Ground.phase }], guard := none }) rfl (fun K hK => ?_) AllReadyH.nil
  obtain ⟨z4, e4⟩ := hHeld.b.a4
  refine step_arrG 28 5 size28 (w.heap.size + 1) z4 e4 (by rfl) _ _ rfl (css pB) _ rfl rfl rfl ?_
  intro W4 hA4 hT4
  have HL4 := hA4.out.told 28 _ Tryd.underlying28 rfl size28
  have HL3 := (hA3.out.toua hT4.out (by omega)).told 27 _ Tryd.underlying27 rfl size27
  refine hK.out _ _ ?_ (fun hHeld => ?_)
  · exact hHeld.put4 hM.out hA4.out hT4.out
  clear hK K
  try simp only [Act.put]
  refine wpAnyH_take (i := 10) (oi := { dst := some 5, op := Op.assign (Operand.tmp 45), type := 3, pos := "save.go:70", after := #[{ on := 6, ground := Ground.data }, { on := 9, ground := Ground.chain }, { on := 0, ground := Ground.phase }, { on := 1, ground := Ground.phase }, { on := 2, ground := Ground.phase }, { on := 3, ground := Ground.phase }, { on := 4, ground := Ground.phase }, { on := 5, ground := Ground.phase }, { on := 6, ground := Ground.phase }, { on := 7, ground := Ground.phase }, { on := 8, ground := Ground.phase }, { on := 9, ground := Ground.phase }], guard := none }) (v := ?_) rfl (by kernel_rfl) (by kernel_rfl) (by kernel_rfl) (fun _ _ _ h => h) (Or.inl ⟨by rfl, ?_⟩) hHeld ?_
  rotate_left
  · intro w hSw
    go_simp
    try with_reducible rfl
  try simp only [Act.put, List.setIfInBounds_toArray, List.set_cons_zero, List.set_cons_succ]
  refine wpAnyH_take (i := 11) (oi := { dst := some 6, op := Op.assign (Operand.const (Value.bool true)), type := 4, pos := "save.go:70", after := #[{ on := 10, ground := Ground.chain }, { on := 0, ground := Ground.phase }, { on := 1, ground := Ground.phase }, { on := 2, ground := Ground.phase }, { on := 3, ground := Ground.phase }, { on := 4, ground := Ground.phase }, { on := 5, ground := Ground.phase }, { on := 6, ground := Ground.phase }, { on := 7, ground := Ground.phase }, { on := 8, ground := Ground.phase }, { on := 9, ground := Ground.phase }, { on := 10, ground := Ground.phase }], guard := none }) (v := ?_) rfl (by kernel_rfl) (by kernel_rfl) (by kernel_rfl) (fun _ _ _ h => h) (Or.inl ⟨by rfl, ?_⟩) hHeld ?_
  rotate_left
  · intro w hSw
    go_simp
    try with_reducible rfl
  try simp only [Act.put, List.setIfInBounds_toArray, List.set_cons_zero, List.set_cons_succ]
  refine wpAnyH_done (by kernel_rfl) ?_ _
  refine NoPanic.normal ?_
  have SN := hHeld.b.now
  have h37w : IntKind.i64.wrap ((x37 : Nat) : Int) = (x37 : Int) := by rw [IntKind.wrap_i64]; omega
  go_wp2_with fail
  refine bodyPost_ret (v := .tuple #[.int .u32 (x0 : Int), .agg (wn (rgs pB) 32).toArray, .agg (wn (css pB) 5).toArray, .int .i64 (x37 : Int), .bool true]) (by simp [results, Tryd.results14, asAddr, HL3, HL4, h37w]) rfl ⟨rfl, SN⟩
set_option maxRecDepth 100000 in
set_option maxHeartbeats 1000000 in
theorem load_ff (M b d f nx l : Nat) (ws : Nat → Nat) (hl : (l : Int) ≤ 1) (HL : Hid (lat ws = l)) (K : Hid (knw ws = false)) (hf : (f : Int) < 4611686018427386000) (WA : Nat → Nat) (FA : Nat) (pA : Nat → Nat) (HWA : Hid (gtK (ws1 ws) (39 * l) 39 = WA)) (HFA : Hid (gtKF (ws1 ws) (39 * l) (f1 ws f) 39 = FA)) (HpA : Hid (gtV (ws1 ws) (39 * l) = pA)) (G1 : Hid (gok (ws1 ws) (39 * l) = false)) (hfa : (FA : Int) < 4611686018427387000) (o : Nat) (HO : (1 : Int) - l = o) (ho : (o : Int) ≤ 1) (WB : Nat → Nat) (FB : Nat) (pB : Nat → Nat) (HWB : Hid (gtK WA (39 * o) 39 = WB)) (HFB : Hid (gtKF WA (39 * o) FA 39 = FB)) (HpB : Hid (gtV WA (39 * o) = pB)) (G2 : Hid (gok WA (39 * o) = true)) (w : World) (hS : Hid (SAt M b d ws f nx w)) :
    Calls Tryd.prog 14 #[.pointer (some ⟨M, 0, none⟩)] w fun e w' => e = .returned (.tuple #[.int .u32 0, .agg (wn w0 32).toArray, .agg (wn w0 5).toArray, .int .i64 0, .bool false]) ∧ SNow M b d WB FB nx w w' := by
  have hM : Hid (M < w.heap.size ∧ b < w.heap.size ∧ d < w.heap.size) := ⟨hS.out.hM, hS.out.hb, hS.out.hd⟩
  have D0 := hideP (LdB.start hS.out)
  have hf1 : ((f1 ws f : Nat) : Int) < 4611686018427387000 := by have := f1_le ws f; omega
  have HLA : Hid (wn (gtV (ws1 ws) (39 * l)) 39 = wn pA 39) := by unfold Hid; rw [HpA.out]
  go_enter Tryd.func14, Tryd.ntmps14
  go_wp2_with fail
  generalize ((w.alloc (.cells z32 27)).alloc (.cells z5 28)) = w0' at *
  refine (latest_as M b d f nx ws _ _ HL K (by omega) _ (hideP D0.out.now.1)).mono ?_; rintro e w1 ⟨rfl, hN⟩
  have D1 := hideP (D0.out.then (.inl hS.out) hN)
  clear hN
  go_wp2_with fail
  refine (get_core M b d _ nx l _ _ (hideP rfl) hl _ G1 WA FA (wn pA 39) HWA HFA HLA hf1 _ (hideP D1.out.now.1)).mono ?_; rintro e w2 ⟨rfl, hN⟩
  have D2 := hideP ((D1.out.then (.inr hM.out) hN).boxed hM.out)
  clear hN
  have HLB : Hid (wn (gtV WA (39 * o)) 39 = wn pB 39) := by unfold Hid; rw [HpB.out]

  go_wp2_with (first
    | (refine wpList_arrG 54 39 size54 _ w2.heap.size w0 D2.out.aP (by rfl) _ _ rfl pA _ rfl rfl rfl ?_; intro w3 hA hT; have D3 := hideP (D2.out.put hM.out hA.out hT.out); clear hA hT))
  refine (get_core M b d _ nx o _ _ (hideP rfl) ho _ G2 WB FB (wn pB 39) HWB HFB HLB hfa _ (hideP D3.out.b.now.1)).mono ?_; rintro e w4 ⟨rfl, hN⟩
  have D4' := hideP (D3.out.then hM.out hN)
  clear hN
  go_wp2_with (first
    | (refine wpList_arrG 54 39 size54 _ w2.heap.size pA D4'.out.aP (by rfl) _ _ rfl pB _ rfl rfl rfl ?_; intro w5 hA hT; have DX := hideP (D4'.out.put hM.out hA.out hT.out); clear hA hT; obtain ⟨Z3, E3⟩ : ∃ z, Hid (ArrAt w.heap.size 32 z w5) := DX.out.b.a3; obtain ⟨Z4, E4⟩ : ∃ z, Hid (ArrAt (w.heap.size + 1) 5 z w5) := DX.out.b.a4)
    | (refine wpList_arrG 27 32 size27 _ w.heap.size Z3 E3.out (by rfl) _ _ rfl w0 _ (by rfl) rfl rfl ?_; intro W3 hA3 hT3; have D3 := hideP (DX.out.put3 hM.out hA3.out hT3.out))
    | (refine wpList_arrG 28 5 size28 _ (w.heap.size + 1) Z4 (E4.out.toua hT3.out (by omega)) (by rfl) _ _ rfl w0 _ (by rfl) rfl rfl ?_; intro W4 hA4 hT4; have D4 := hideP (D3.out.put4 hM.out hA4.out hT4.out); have HL4 := hA4.out.told 28 _ Tryd.underlying28 rfl size28; have HL3 := (hA3.out.toua hT4.out (by omega)).told 27 _ Tryd.underlying27 rfl size27))
  refine bodyPost_ret (v := .tuple #[.int .u32 0, .agg (wn w0 32).toArray, .agg (wn w0 5).toArray, .int .i64 0, .bool false]) (by simp [results, Tryd.results14, asAddr, HL3, HL4]) rfl ⟨rfl, D4.out.b.now⟩
set_option maxRecDepth 100000 in
set_option maxHeartbeats 1000000 in
theorem load_no (M b d f nx l : Nat) (ws : Nat → Nat) (kn : Bool) (hl : (l : Int) ≤ 1) (HL : Hid (lat ws = l)) (K : Hid (knw ws = kn)) (hf : (f : Int) < 4611686018427386000) (WA : Nat → Nat) (FA : Nat) (pA : Nat → Nat) (HWA : Hid (gtK (ws1 ws) (39 * l) 39 = WA)) (HFA : Hid (gtKF (ws1 ws) (39 * l) (f1 ws f) 39 = FA)) (HpA : Hid (gtV (ws1 ws) (39 * l) = pA)) (G1 : Hid (gok (ws1 ws) (39 * l) = false)) (hfa : (FA : Int) < 4611686018427387000) (o : Nat) (HO : (1 : Int) - l = o) (ho : (o : Int) ≤ 1) (WB : Nat → Nat) (FB : Nat) (pB : Nat → Nat) (HWB : Hid (gtK WA (39 * o) 39 = WB)) (HFB : Hid (gtKF WA (39 * o) FA 39 = FB)) (HpB : Hid (gtV WA (39 * o) = pB)) (G2 : Hid (gok WA (39 * o) = false)) (w : World) (hS : Hid (SAt M b d ws f nx w)) :
    Calls Tryd.prog 14 #[.pointer (some ⟨M, 0, none⟩)] w fun e w' => e = .returned (.tuple #[.int .u32 0, .agg (wn w0 32).toArray, .agg (wn w0 5).toArray, .int .i64 0, .bool false]) ∧ SNow M b d WB FB nx w w' := by
  have hM : Hid (M < w.heap.size ∧ b < w.heap.size ∧ d < w.heap.size) := ⟨hS.out.hM, hS.out.hb, hS.out.hd⟩
  have D0 := hideP (LdB.start hS.out)
  have hf1 : ((f1 ws f : Nat) : Int) < 4611686018427387000 := by have := f1_le ws f; omega
  have HLA : Hid (wn (gtV (ws1 ws) (39 * l)) 39 = wn pA 39) := by unfold Hid; rw [HpA.out]
  go_enter Tryd.func14, Tryd.ntmps14
  go_wp2_with fail
  generalize ((w.alloc (.cells z32 27)).alloc (.cells z5 28)) = w0' at *
  refine (latest_as M b d f nx ws _ _ HL K (by omega) _ (hideP D0.out.now.1)).mono ?_; rintro e w1 ⟨rfl, hN⟩
  have D1 := hideP (D0.out.then (.inl hS.out) hN)
  clear hN
  go_wp2_with fail
  refine (get_core M b d _ nx l _ _ (hideP rfl) hl _ G1 WA FA (wn pA 39) HWA HFA HLA hf1 _ (hideP D1.out.now.1)).mono ?_; rintro e w2 ⟨rfl, hN⟩
  have D2 := hideP ((D1.out.then (.inr hM.out) hN).boxed hM.out)
  clear hN
  have HLB : Hid (wn (gtV WA (39 * o)) 39 = wn pB 39) := by unfold Hid; rw [HpB.out]

  go_wp2_with (first
    | (refine wpList_arrG 54 39 size54 _ w2.heap.size w0 D2.out.aP (by rfl) _ _ rfl pA _ rfl rfl rfl ?_; intro w3 hA hT; have D3 := hideP (D2.out.put hM.out hA.out hT.out); clear hA hT))
  refine (get_core M b d _ nx o _ _ (hideP rfl) ho _ G2 WB FB (wn pB 39) HWB HFB HLB hfa _ (hideP D3.out.b.now.1)).mono ?_; rintro e w4 ⟨rfl, hN⟩
  have D4' := hideP (D3.out.then hM.out hN)
  clear hN
  go_wp2_with (first
    | (refine wpList_arrG 54 39 size54 _ w2.heap.size pA D4'.out.aP (by rfl) _ _ rfl pB _ rfl rfl rfl ?_; intro w5 hA hT; have DX := hideP (D4'.out.put hM.out hA.out hT.out); clear hA hT; obtain ⟨Z3, E3⟩ : ∃ z, Hid (ArrAt w.heap.size 32 z w5) := DX.out.b.a3; obtain ⟨Z4, E4⟩ : ∃ z, Hid (ArrAt (w.heap.size + 1) 5 z w5) := DX.out.b.a4)
    | (refine wpList_arrG 27 32 size27 _ w.heap.size Z3 E3.out (by rfl) _ _ rfl w0 _ (by rfl) rfl rfl ?_; intro W3 hA3 hT3; have D3 := hideP (DX.out.put3 hM.out hA3.out hT3.out))
    | (refine wpList_arrG 28 5 size28 _ (w.heap.size + 1) Z4 (E4.out.toua hT3.out (by omega)) (by rfl) _ _ rfl w0 _ (by rfl) rfl rfl ?_; intro W4 hA4 hT4; have D4 := hideP (D3.out.put4 hM.out hA4.out hT4.out); have HL4 := hA4.out.told 28 _ Tryd.underlying28 rfl size28; have HL3 := (hA3.out.toua hT4.out (by omega)).told 27 _ Tryd.underlying27 rfl size27))
  refine bodyPost_ret (v := .tuple #[.int .u32 0, .agg (wn w0 32).toArray, .agg (wn w0 5).toArray, .int .i64 0, .bool false]) (by simp [results, Tryd.results14, asAddr, HL3, HL4]) rfl ⟨rfl, D4.out.b.now⟩
end Go.Proofs.YtfhijdnbhbonpaaDoor.Walks
