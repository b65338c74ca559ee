/- Contract of the document's own Load. -/
import Derived.Test.YtfhijdnbhbonpaaDoorRRead
import Derived.Test.YtfhijdnbhbonpaaDoorLoad
namespace Go.Proofs.YtfhijdnbhbonpaaDoor.Walks
open Go.ChangeShapes Go.WideShapes Go.ChangeAt Go.RowKit
set_option linter.unusedVariables false
section
variable {w wr w' : World} {M b d f nx f' nx' P A Q : Nat} {ws ws' p q rs cs : Nat → Nat}
theorem LdB.arr (h : LdB w M b d ws f nx wr) (hM : M < w.heap.size ∧ b < w.heap.size ∧ d < w.heap.size) (t : TouA Q wr w') (hQ : w.heap.size + 2 ≤ Q) : LdB w M b d ws f nx w' := by
  have s := t.size
  obtain ⟨z3, e3⟩ := h.a3
  obtain ⟨z4, e4⟩ := h.a4
  exact ⟨⟨h.now.1.arr t (by omega) (by omega) (by omega) (by omega), h.now.2.trans (Tub.of_frb (FrB.toua t (by omega)) _ _ _)⟩, ⟨_, e3.toua t (by omega)⟩, ⟨_, e4.toua t (by omega)⟩, by rw [s]; exact h.sz⟩
theorem LdB.st3 (h : LdB w M b d ws f nx wr) (hM : M < w.heap.size ∧ b < w.heap.size ∧ d < w.heap.size) (a : ArrAt w.heap.size 32 q w') (t : TouA w.heap.size wr w') : LdB w M b d ws f nx w' := by
  have s := t.size
  obtain ⟨z4, e4⟩ := h.a4
  exact ⟨⟨h.now.1.arr t (by omega) (by omega) (by omega) (by omega), h.now.2.trans (Tub.of_frb (FrB.toua t (by omega)) _ _ _)⟩, ⟨_, a⟩, ⟨_, e4.toua t (by omega)⟩, by rw [s]; exact h.sz⟩
theorem LdB.st4 (h : LdB w M b d ws f nx wr) (hM : M < w.heap.size ∧ b < w.heap.size ∧ d < w.heap.size) (a : ArrAt (w.heap.size + 1) 5 q w') (t : TouA (w.heap.size + 1) wr w') : LdB w M b d ws f nx w' := by
  have s := t.size
  obtain ⟨z3, e3⟩ := h.a3
  exact ⟨⟨h.now.1.arr t (by omega) (by omega) (by omega) (by omega), h.now.2.trans (Tub.of_frb (FrB.toua t (by omega)) _ _ _)⟩, ⟨_, e3.toua t (by omega)⟩, ⟨_, a⟩, by rw [s]; exact h.sz⟩
theorem Lie.toua {k a0 : Nat} (h : Lie A a0 k p wr) (t : TouA Q wr w') (hA : A ≠ Q) : Lie A a0 k p w' := fun i hi => by
  rw [World.cell?_of_block (w := wr) (t.block A hA)]; exact h i hi
/-- and its own boxes at P and P + 1, the list that was read at A -/
structure RlP (w : World) (M b d : Nat) (ws : Nat → Nat) (f nx P : Nat) (rs cs : Nat → Nat) (A : Nat) (p : Nat → Nat) (wr : World) : Prop where
  b : LdB w M b d ws f nx wr
  p1 : P + 1 < wr.heap.size
  aR : ArrAt P 32 rs wr
  aC : ArrAt (P + 1) 5 cs wr
  lie : Lie A 0 39 p wr
  a0 : w.heap.size + 2 ≤ A
  a1 : A < P
theorem RlP.boxed (h : LdB w M b d ws f nx wr) (hM : M < w.heap.size ∧ b < w.heap.size ∧ d < w.heap.size) (l : Lie A 0 39 p wr) (a0 : w.heap.size + 2 ≤ A) (a1 : A < wr.heap.size) : RlP w M b d ws f nx wr.heap.size w0 w0 A p ((wr.alloc (.cells z32 27)).alloc (.cells z5 28)) := by
  have a := ArrAt.zero5 (wr.alloc (.cells z32 27)) 28
  rw [show (wr.alloc (.cells z32 27)).heap.size = wr.heap.size + 1 by simp] at a
  have h1 := h.then (.inr hM) (h.now.1.alloc (.cells z32 27))
  exact ⟨h1.then (.inr hM) (h1.now.1.alloc _), by simp, (ArrAt.zero32 wr 27).frb (FrB.alloc _ _) (by simp), a, (l.frb (FrB.alloc _ _) a1).frb (FrB.alloc _ _) (by simp; omega), a0, a1⟩
theorem RlP.alike (h : RlP w M b d ws f nx P rs cs A p wr) (hM : M < w.heap.size ∧ b < w.heap.size ∧ d < w.heap.size) (k : w'.Alike wr) : RlP w M b d ws f nx P rs cs A p w' :=
  ⟨h.b.then (.inr hM) (h.b.now.1.alike k), by rw [k.1]; exact h.p1, h.aR.alike k, h.aC.alike k, fun i hi => by rw [World.cell?_of_block (w := wr) (by rw [k.1])]; exact h.lie i hi, h.a0, h.a1⟩
theorem RlP.putR (h : RlP w M b d ws f nx P rs cs A p wr) (hM : M < w.heap.size ∧ b < w.heap.size ∧ d < w.heap.size) (i x : Nat) (hi : i < 32) : RlP w M b d ws f nx P (upd rs i x) cs A p (wr.setCell ⟨P, i, none⟩ (.int .u32 (x : Int))) := by
  have t := TouA.set P i wr (.int .u32 (x : Int))
  have a0 := h.a0
  have a1 := h.a1
  exact ⟨h.b.arr hM t (by omega), by rw [t.size]; exact h.p1, h.aR.put i x hi, h.aC.toua t (by omega), h.lie.toua t (by omega), a0, a1⟩
theorem RlP.putC (h : RlP w M b d ws f nx P rs cs A p wr) (hM : M < w.heap.size ∧ b < w.heap.size ∧ d < w.heap.size) (i x : Nat) (hi : i < 5) : RlP w M b d ws f nx P rs (upd cs i x) A p (wr.setCell ⟨P + 1, i, none⟩ (.int .u32 (x : Int))) := by
  have t := TouA.set (P + 1) i wr (.int .u32 (x : Int))
  have a0 := h.a0
  have a1 := h.a1
  exact ⟨h.b.arr hM t (by omega), by rw [t.size]; exact h.p1, h.aR.toua t (by omega), h.aC.put i x hi, h.lie.toua t (by omega), a0, a1⟩
theorem RlP.put3 (h : RlP w M b d ws f nx P rs cs A p wr) (hM : M < w.heap.size ∧ b < w.heap.size ∧ d < w.heap.size) (a : ArrAt w.heap.size 32 q w') (t : TouA w.heap.size wr w') : RlP w M b d ws f nx P rs cs A p w' := by
  have a0 := h.a0
  have a1 := h.a1
  exact ⟨h.b.st3 hM a t, by rw [t.size]; exact h.p1, h.aR.toua t (by omega), h.aC.toua t (by omega), h.lie.toua t (by omega), a0, a1⟩
theorem RlP.put4 (h : RlP w M b d ws f nx P rs cs A p wr) (hM : M < w.heap.size ∧ b < w.heap.size ∧ d < w.heap.size) (a : ArrAt (w.heap.size + 1) 5 q w') (t : TouA (w.heap.size + 1) wr w') : RlP w M b d ws f nx P rs cs A p w' := by
  have a0 := h.a0
  have a1 := h.a1
  exact ⟨h.b.st4 hM a t, by rw [t.size]; exact h.p1, h.aR.toua t (by omega), h.aC.toua t (by omega), h.lie.toua t (by omega), a0, a1⟩
theorem RlP.congr {rs' cs' : Nat → Nat} (h : RlP w M b d ws f nx P rs cs A p wr) (hr : ∀ i, i < 32 → rs i = rs' i) (hc : ∀ i, i < 5 → cs i = cs' i) : RlP w M b d ws f nx P rs' cs' A p wr :=
  ⟨h.b, h.p1, h.aR.congr hr, h.aC.congr hc, h.lie, h.a0, h.a1⟩
end
/-- registers 1 to k - 1, CSRs below k have been laid -/
def rgK (p : Nat → Nat) (k i : Nat) : Nat := if 1 ≤ i ∧ i < k then p i else 0
def csK (p : Nat → Nat) (k i : Nat) : Nat := if i < k then p (32 + i) else 0
theorem rgK_0 (p : Nat → Nat) (i : Nat) : w0 i = rgK p 1 i := by unfold rgK w0; rw [if_neg (by omega)]
theorem rgK_all (p : Nat → Nat) (i : Nat) (h : i < 32) : rgK p 32 i = rgs p i := by
  unfold rgK rgs
  by_cases e : 1 ≤ i
  · rw [if_pos (by omega), if_pos (by omega)]
  · rw [if_neg (by omega), if_neg (by omega)]
theorem rgK_next (p : Nat → Nat) (k x : Nat) (hk : 1 ≤ k) (hx : p k = x) (i : Nat) : upd (rgK p k) k x i = rgK p (k + 1) i := by
  by_cases e : i = k
  · subst e; rw [upd_at, ← hx]; unfold rgK; rw [if_pos (by omega)]
  · rw [upd_off _ _ _ _ e]; unfold rgK
    by_cases h : 1 ≤ i ∧ i < k
    · rw [if_pos h, if_pos (by omega)]
    · rw [if_neg h, if_neg (by omega)]
theorem csK_0 (p : Nat → Nat) (i : Nat) : w0 i = csK p 0 i := by unfold csK w0; rw [if_neg (by omega)]
theorem csK_all (p : Nat → Nat) (i : Nat) (h : i < 5) : csK p 5 i = css p i := by unfold csK css; rw [if_pos h]
theorem csK_next (p : Nat → Nat) (k x : Nat) (hx : p (32 + k) = x) (i : Nat) : upd (csK p k) k x i = csK p (k + 1) i := by
  by_cases e : i = k
  · subst e; rw [upd_at, ← hx]; unfold csK; rw [if_pos (by omega)]
  · rw [upd_off _ _ _ _ e]; unfold csK
    by_cases h : i < k
    · rw [if_pos h, if_pos (by omega)]
    · rw [if_neg h, if_neg (by omega)]
set_option maxRecDepth 100000 in
set_option maxHeartbeats 1000000 in
theorem rload_tt (M b d f nx l : Nat) (ws : Nat → Nat) (hl : (l : Int) ≤ 1) (HL : Hid (lat ws = l)) (K : Hid (knw ws = true)) (hf : (f : Int) < 4611686018427386000) (WA : Nat → Nat) (FA : Nat) (pA : Nat → Nat) (HWA : Hid (gtK (ws1 ws) (39 * l) 39 = WA)) (HFA : Hid (gtKF (ws1 ws) (39 * l) (f1 ws f) 39 = FA)) (HpA : Hid (gtV (ws1 ws) (39 * l) = pA)) (G1 : Hid (gok (ws1 ws) (39 * l) = true)) (hfa : (FA : Int) < 4611686018427387000) (x0 x37 : Nat) (HX0 : Hid (pA 0 = x0)) (HX37 : Hid (pA 37 = x37)) (h37 : (x37 : Int) < 4294967296) (w : World) (hS : Hid (SAt M b d ws f nx w)) :
    Calls Tryd.prog 17 #[.pointer (some ⟨M, 0, none⟩)] w fun e w' => e = .returned (.tuple #[.int .u32 (x0 : Int), .agg (wn (rgs pA) 32).toArray, .agg (wn (css pA) 5).toArray, .int .i64 (x37 : Int), .bool true]) ∧ SNow M b d WA FA nx w w' := by
  have hM : Hid (M < w.heap.size ∧ b < w.heap.size ∧ d < w.heap.size) := ⟨hS.out.hM, hS.out.hb, hS.out.hd⟩
  have D0 := hideP (LdB.start hS.out)
  have hf1 : ((f1 ws f : Nat) : Int) < 4611686018427387000 := by have := f1_le ws f; omega
  have X : Hid (((pkV 79 ws 78 : Nat) : Int) = (vw ws 78 : Nat)) := by unfold Hid; rw [show (78 : Int) = ((78 : Nat) : Int) from rfl, pkV_is ws (by decide)]
  have A1 := low1 _ (vw_lt ws 78)
  rw [show vw ws 78 % 2 = l from HL.out] at A1
  obtain ⟨s, S⟩ : ∃ s : Int, Hid (((pkS 79 ws 78 : Nat) : Int) = s) := ⟨_, rfl⟩
  generalize ((vw ws 78 : Nat) : Int) = x at *
  have s2 : (s == 2) = false := by
    have := K.out
    unfold knw at this
    rw [← S.out, show (78 : Int) = ((78 : Nat) : Int) from rfl, pkS_is ws (by decide), ← nat2]
    cases e : Num.mendS (ws 78) == 2
    all_goals first | rfl | (rw [e] at this; simp at this)
  have hr := D0.out.now.1.mem.hr
  go_enter Tryd.func17, Tryd.ntmps17
  go_wp2_with fail
  refine (refget_as b d 79 f ws 78 x s X S (by decide) (by omega) _ (hideP D0.out.now.1.mem.row)).mono ?_; rintro e w1 ⟨rfl, hN⟩
  have D1 : Hid (LdB w M b d (ws1 ws) (f1 ws f) nx w1) := D0.out.then (.inl hS.out) (D0.out.now.1.now hN)
  clear hN hr D0
  go_wp2_with fail
  refine (rread_core M b d _ nx l _ _ (hideP rfl) hl _ G1 WA FA pA HWA HFA HpA hf1 _ (hideP D1.out.now.1)).mono ?_; rintro e w2 ⟨⟨A, c, rfl, hLie, hA0, hA1⟩, hN⟩
  have D2 := hideP (D1.out.then (.inr hM.out) hN)
  have LA := hideP hLie
  have ZA : Hid (w.heap.size + 2 ≤ A ∧ A < w2.heap.size) := ⟨by have := D1.out.sz; omega, hA1⟩
  clear hN hLie hA0 hA1 D1
  have D4 := hideP (RlP.boxed D2.out hM.out LA.out ZA.out.1 ZA.out.2)
  clear D2 LA ZA
  go_wp2_with fail
  generalize ((w2.alloc (.cells z32 27)).alloc (.cells z5 28)) = w4 at *
  generalize w2.heap.size = P at *
  go_loopw [13] (fun t wr => ∃ k : Nat, (1 : Int) ≤ k ∧ (k : Int) ≤ 32 ∧ t = .int .i64 k ∧ Hid (RlP w M b d WA FA nx P (rgK pA k) w0 A pA wr)) (fun t _ => 32 - (intOf t).toNat)
  case atStart => exact ⟨1, by decide, by decide, rfl, D4.out.congr (fun i _ => rgK_0 pA i) (fun _ _ => rfl)⟩
  case round =>
    obtain ⟨k, hk1, hk, rfl, HD⟩ := hrel
    rename_i wr
    clear D4
    by_cases hlt : (k : Int) < 32
    · obtain ⟨x, HX⟩ : ∃ x : Nat, Hid (pA k = x) := ⟨_, rfl⟩
      have c := HD.out.lie.at k (by omega)
      rw [HX.out] at c
      have c2 := HD.out.aR.hw k (by omega)
      have z2 := HD.out.aR.zw k (by omega)
      have HD2 := hideP ((HD.out.putR hM.out k x (by omega)).congr (fun i _ => rgK_next pA k x (by omega) HX.out i) (fun _ _ => rfl))
      go_wp2_with fail
      exact ⟨⟨k + 1, by omega, by omega, by rw [Int.natCast_add]; rfl, HD2⟩, by simp [intOf]; omega⟩
    · have e : k = 32 := by omega
      subst e
      have D5 := hideP (HD.out.congr (fun i hi => rgK_all pA i hi) (fun i _ => csK_0 pA i))
      clear HD hk hk1 hlt
      go_wp2_with fail
      go_loopw [60] (fun t wr => ∃ k : Nat, (k : Int) ≤ 5 ∧ t = .int .i64 k ∧ Hid (RlP w M b d WA FA nx P (rgs pA) (csK pA k) A pA wr)) (fun t _ => 5 - (intOf t).toNat)
      case atStart => exact ⟨0, by decide, rfl, D5⟩
      case round =>
        obtain ⟨k, hk, rfl, HD⟩ := hrel
        rename_i wr
        clear D5
        by_cases hlt : (k : Int) < 5
        · obtain ⟨x, HX⟩ : ∃ x : Nat, Hid (pA (32 + k) = x) := ⟨_, rfl⟩
          have c := HD.out.lie.at (32 + k) (by omega)
          rw [HX.out] at c
          have c2 := HD.out.aC.hw k (by omega)
          have z2 := HD.out.aC.zw k (by omega)
          have n1 : ((32 : Int) + (k : Int)).toNat = 32 + k := by omega
          have HD2 := hideP ((HD.out.putC hM.out k x (by omega)).congr (fun _ _ => rfl) (fun i _ => csK_next pA k x HX.out i))
          go_wp2_with fail
          exact ⟨⟨k + 1, by omega, by rw [Int.natCast_add]; rfl, HD2⟩, by simp [intOf]; omega⟩
        · have e : k = 5 := by omega
          subst e
          have D6 := hideP (HD.out.congr (fun _ _ => rfl) (fun i hi => csK_all pA i hi))
          clear HD hk hlt
          go_wp2_with fail
          refine wp_region_noPanic ?_
          refine wp_region_held_drew (S := fun w' => RlP w M b d WA FA nx P (rgs pA) (css pA) A pA w') (by kernel_rfl) ?_ (fun hHeld => ?_)
          · exact D6.out.alike hM.out ⟨rfl, rfl, rfl⟩
          refine wpAnyH_take (i := 0) (oi := { dst := some 71, op := Op.move (Operand.tmp 9), type := 66, pos := "ref.go:178", after := #[], guard := none }) (v := ?_) rfl (by kernel_rfl) (by kernel_rfl) (by kernel_rfl) (fun _ _ _ h => h) (Or.inl ⟨by rfl, ?_⟩) hHeld ?_
          rotate_left
          · intro w hSw
            go_simp
            try with_reducible rfl
          try simp only [Act.put, List.setIfInBounds_toArray, List.set_cons_zero, List.set_cons_succ]
          refine wpAnyH_take (i := 1) (oi := { dst := some 72, op := Op.indexAddr 66 (Operand.tmp 71) (Operand.const (Value.int IntKind.i64 0)), type := 0, pos := "ref.go:178", after := #[{ on := 0, ground := Ground.data }], guard := none }) (v := ?_) rfl (by kernel_rfl) (by kernel_rfl) (by kernel_rfl) (fun _ _ _ h => h) (Or.inl ⟨by rfl, ?_⟩) hHeld ?_
          rotate_left
          · intro w hSw
            go_simp
            try with_reducible rfl
          try simp only [Act.put, List.setIfInBounds_toArray, List.set_cons_zero, List.set_cons_succ]
          refine wpAnyH_take (i := 2) (oi := { dst := some 73, op := Op.load 26 (Operand.tmp 72), type := 26, pos := "ref.go:178", after := #[{ on := 1, ground := Ground.data }], guard := none }) (v := ?_) rfl (by kernel_rfl) (by kernel_rfl) (by kernel_rfl) (fun _ _ _ h => h) (Or.inl ⟨by rfl, ?_⟩) hHeld ?_
          rotate_left
          · intro w hSw
            have c := hSw.lie.at 0 (by decide)
            rw [HX0.out] at c
            go_simp
            try with_reducible rfl
          try simp only [Act.put, List.setIfInBounds_toArray, List.set_cons_zero, List.set_cons_succ]
          refine wpAnyH_take (i := 3) (oi := { dst := some 74, op := Op.load 27 (Operand.tmp 11), type := 27, pos := "ref.go:178", after := #[{ on := 9, ground := Ground.gcOnly Departure.lateStores }], guard := none }) (v := _) rfl (by kernel_rfl) (by kernel_rfl) (by kernel_rfl) (fun _ _ _ h => h) (yieldsIf_load_mid (by rfl) 27 _ rfl P 0 rfl (wn (rgs pA) 32) _ (fun w hSw => hSw.aR.range) Tryd.underlying27 rfl (by rw [wn_len]; exact size27)) hHeld ?_
          try simp only [Act.put, List.setIfInBounds_toArray, List.set_cons_zero, List.set_cons_succ]
          refine wpAnyH_take (i := 4) (oi := { dst := some 75, op := Op.load 28 (Operand.tmp 12), type := 28, pos := "ref.go:178", after := #[{ on := 10, ground := Ground.gcOnly Departure.lateStores }], guard := none }) (v := _) rfl (by kernel_rfl) (by kernel_rfl) (by kernel_rfl) (fun _ _ _ h => h) (yieldsIf_load_mid (by rfl) 28 _ rfl (P + 1) 0 rfl (wn (css pA) 5) _ (fun w hSw => hSw.aC.range) Tryd.underlying28 rfl (by rw [wn_len]; exact size28)) hHeld ?_
          try simp only [Act.put, List.setIfInBounds_toArray, List.set_cons_zero, List.set_cons_succ]
          refine wpAnyH_take (i := 5) (oi := { dst := some 76, op := Op.move (Operand.tmp 9), type := 66, pos := "ref.go:178", after := #[{ on := 11, ground := Ground.gcOnly Departure.lateStores }], guard := none }) (v := ?_) rfl (by kernel_rfl) (by kernel_rfl) (by kernel_rfl) (fun _ _ _ h => h) (Or.inl ⟨by rfl, ?_⟩) hHeld ?_
          rotate_left
          · intro w hSw
            go_simp
            try with_reducible rfl
          try simp only [Act.put, List.setIfInBounds_toArray, List.set_cons_zero, List.set_cons_succ]
          refine wpAnyH_take (i := 6) (oi := { dst := some 77, op := Op.indexAddr 66 (Operand.tmp 76) (Operand.const (Value.int IntKind.i64 37)), type := 0, pos := "ref.go:178", after := #[{ on := 5, ground := Ground.data }, { on := 11, ground := Ground.gcOnly Departure.lateStores }], guard := none }) (v := ?_) rfl (by kernel_rfl) (by kernel_rfl) (by kernel_rfl) (fun _ _ _ h => h) (Or.inl ⟨by rfl, ?_⟩) hHeld ?_
          rotate_left
          · intro w hSw
            go_simp
            try with_reducible rfl
          try simp only [Act.put, List.setIfInBounds_toArray, List.set_cons_zero, List.set_cons_succ]
          refine wpAnyH_take (i := 7) (oi := { dst := some 78, op := Op.load 26 (Operand.tmp 77), type := 26, pos := "ref.go:178", after := #[{ on := 6, ground := Ground.data }, { on := 11, ground := Ground.gcOnly Departure.lateStores }], guard := none }) (v := ?_) rfl (by kernel_rfl) (by kernel_rfl) (by kernel_rfl) (fun _ _ _ h => h) (Or.inl ⟨by rfl, ?_⟩) hHeld ?_
          rotate_left
          · intro w hSw
            have c := hSw.lie.at 37 (by decide)
            rw [HX37.out] at c
            go_simp
            try with_reducible rfl
          try simp only [Act.put, List.setIfInBounds_toArray, List.set_cons_zero, List.set_cons_succ]
          refine wpAnyH_take (i := 8) (oi := { dst := some 79, op := Op.convert 26 3 (Operand.tmp 78), type := 3, pos := "ref.go:178", after := #[{ on := 7, ground := Ground.data }, { on := 11, ground := Ground.gcOnly Departure.lateStores }], guard := none }) (v := ?_) rfl (by kernel_rfl) (by kernel_rfl) (by kernel_rfl) (fun _ _ _ h => h) (Or.inl ⟨by rfl, ?_⟩) hHeld ?_
          rotate_left
          · intro w hSw
            go_simp
            try with_reducible rfl
          try simp only [Act.put, List.setIfInBounds_toArray, List.set_cons_zero, List.set_cons_succ]
          refine wpAnyH_take (i := 9) (oi := { dst := some 2, op := Op.assign (Operand.tmp 73), type := 26, pos := "ref.go:178", after := #[{ on := 2, ground := Ground.data }, { on := 0, ground := Ground.phase }, { on := 1, ground := Ground.phase }, { on := 2, ground := Ground.phase }, { on := 3, ground := Ground.textOnly Departure.lateStores }, { on := 4, ground := Ground.textOnly Departure.lateStores }, { on := 5, ground := Ground.textOnly Departure.lateStores }, { on := 6, ground := Ground.textOnly Departure.lateStores }, { on := 7, ground := Ground.textOnly Departure.lateStores }, { on := 8, ground := Ground.textOnly Departure.lateStores }], guard := none }) (v := ?_) rfl (by kernel_rfl) (by kernel_rfl) (by kernel_rfl) (fun _ _ _ h => h) (Or.inl ⟨by rfl, ?_⟩) hHeld ?_
          rotate_left
          · intro w hSw
            go_simp
            try with_reducible rfl
          try simp only [Act.put, List.setIfInBounds_toArray, List.set_cons_zero, List.set_cons_succ]
          refine wpAnyH_ready (rs := [10]) (by kernel_rfl) (by simp) ?_
          refine AllReadyH.cons (o := { dst := none, op := Op.store 27 (Operand.tmp 3) (Operand.tmp 74), type := 0, pos := "ref.go:178", after := #[{ on := 3, ground := Ground.data }, { on := 9, ground := Ground.chain }, { on := 0, ground := Ground.phase }, { on := 1, ground := Ground.phase }, { on := 2, ground := Ground.phase }, { on := 3, ground := Ground.phase }, { on := 4, ground := Ground.textOnly Departure.lateStores }, { on := 5, ground := Ground.textOnly Departure.lateStores }, { on := 6, ground := Ground.textOnly Departure.lateStores }, { on := 7, ground := Ground.textOnly Departure.lateStores }, { on := 8, ground := Ground.textOnly Departure.lateStores }, { on := 9, ground := Ground.phase }], guard := none }) rfl (fun K hK => ?_) AllReadyH.nil
          obtain ⟨z3, e3⟩ := hHeld.b.a3
          refine step_arrG 27 32 size27 w.heap.size z3 e3 (by rfl) _ _ rfl (rgs pA) _ rfl rfl rfl ?_
          intro W3 hA3 hT3
          refine hK.out _ _ ?_ (fun hHeld => ?_)
          · exact hHeld.put3 hM.out hA3.out hT3.out
          clear hK K
          try simp only [Act.put]
          refine wpAnyH_ready (rs := [11]) (by kernel_rfl) (by simp) ?_
          refine AllReadyH.cons (o := { dst := none, op := Op.store 28 (Operand.tmp 4) (Operand.tmp 75), type := 0, pos := "ref.go:178", after := #[{ on := 4, ground := Ground.data }, { on := 10, ground := Ground.chain }, { on := 0, ground := Ground.phase }, { on := 1, ground := Ground.phase }, { on := 2, ground := Ground.phase }, { on := 3, ground := Ground.phase }, { on := 4, ground := Ground.phase }, { on := 5, ground := Ground.textOnly Departure.lateStores }, { on := 6, ground := Ground.textOnly Departure.lateStores }, { on := 7, ground := Ground.textOnly Departure.lateStores }, { on := 8, ground := Ground.textOnly Departure.lateStores }, { on := 9, ground := Ground.phase }, { on := 10, ground := Ground.phase }], guard := none }) rfl (fun K hK => ?_) AllReadyH.nil
          obtain ⟨z4, e4⟩ := hHeld.b.a4
          refine step_arrG 28 5 size28 (w.heap.size + 1) z4 e4 (by rfl) _ _ rfl (css pA) _ rfl rfl rfl ?_
          intro W4 hA4 hT4
          have HL4 := hA4.out.told 28 _ Tryd.underlying28 rfl size28
          have HL3 := (hA3.out.toua hT4.out (by omega)).told 27 _ Tryd.underlying27 rfl size27
          refine hK.out _ _ ?_ (fun hHeld => ?_)
          · exact hHeld.put4 hM.out hA4.out hT4.out
          clear hK K
          try simp only [Act.put]
          refine wpAnyH_take (i := 12) (oi := { dst := some 5, op := Op.assign (Operand.tmp 79), type := 3, pos := "ref.go:178", after := #[{ on := 8, ground := Ground.data }, { on := 11, ground := Ground.chain }, { on := 0, ground := Ground.phase }, { on := 1, ground := Ground.phase }, { on := 2, ground := Ground.phase }, { on := 3, ground := Ground.phase }, { on := 4, ground := Ground.phase }, { on := 5, ground := Ground.phase }, { on := 6, ground := Ground.phase }, { on := 7, ground := Ground.phase }, { on := 8, ground := Ground.phase }, { on := 9, ground := Ground.phase }, { on := 10, ground := Ground.phase }, { on := 11, ground := Ground.phase }], guard := none }) (v := ?_) rfl (by kernel_rfl) (by kernel_rfl) (by kernel_rfl) (fun _ _ _ h => h) (Or.inl ⟨by rfl, ?_⟩) hHeld ?_
          rotate_left
          · intro w hSw
            go_simp
            try with_reducible rfl
          try simp only [Act.put, List.setIfInBounds_toArray, List.set_cons_zero, List.set_cons_succ]
          refine wpAnyH_take (i := 13) (oi := { dst := some 6, op := Op.assign (Operand.const (Value.bool true)), type := 4, pos := "ref.go:178", after := #[{ on := 12, ground := Ground.chain }, { on := 0, ground := Ground.phase }, { on := 1, ground := Ground.phase }, { on := 2, ground := Ground.phase }, { on := 3, ground := Ground.phase }, { on := 4, ground := Ground.phase }, { on := 5, ground := Ground.phase }, { on := 6, ground := Ground.phase }, { on := 7, ground := Ground.phase }, { on := 8, ground := Ground.phase }, { on := 9, ground := Ground.phase }, { on := 10, ground := Ground.phase }, { on := 11, ground := Ground.phase }, { on := 12, ground := Ground.phase }], guard := none }) (v := ?_) rfl (by kernel_rfl) (by kernel_rfl) (by kernel_rfl) (fun _ _ _ h => h) (Or.inl ⟨by rfl, ?_⟩) hHeld ?_
          rotate_left
          · intro w hSw
            go_simp
            try with_reducible rfl
          try simp only [Act.put, List.setIfInBounds_toArray, List.set_cons_zero, List.set_cons_succ]
          refine wpAnyH_done (by kernel_rfl) ?_ _
          refine NoPanic.normal ?_
          have SN := hHeld.b.now
          have h37w : IntKind.i64.wrap ((x37 : Nat) : Int) = (x37 : Int) := by rw [IntKind.wrap_i64]; omega
          go_wp2_with fail
          refine bodyPost_ret (v := .tuple #[.int .u32 (x0 : Int), .agg (wn (rgs pA) 32).toArray, .agg (wn (css pA) 5).toArray, .int .i64 (x37 : Int), .bool true]) (by simp [results, Tryd.results17, asAddr, HL3, HL4, h37w]) rfl ⟨rfl, SN⟩
set_option maxRecDepth 100000 in
set_option maxHeartbeats 1000000 in
theorem rload_tf (M b d f nx l : Nat) (ws : Nat → Nat) (hl : (l : Int) ≤ 1) (HL : Hid (lat ws = l)) (K : Hid (knw ws = false)) (hf : (f : Int) < 4611686018427386000) (WA : Nat → Nat) (FA : Nat) (pA : Nat → Nat) (HWA : Hid (gtK (ws1 ws) (39 * l) 39 = WA)) (HFA : Hid (gtKF (ws1 ws) (39 * l) (f1 ws f) 39 = FA)) (HpA : Hid (gtV (ws1 ws) (39 * l) = pA)) (G1 : Hid (gok (ws1 ws) (39 * l) = true)) (hfa : (FA : Int) < 4611686018427387000) (w : World) (hS : Hid (SAt M b d ws f nx w)) :
    Calls Tryd.prog 17 #[.pointer (some ⟨M, 0, none⟩)] w fun e w' => e = .returned (.tuple #[.int .u32 0, .agg (wn w0 32).toArray, .agg (wn w0 5).toArray, .int .i64 0, .bool false]) ∧ SNow M b d WA FA nx w w' := by
  have hM : Hid (M < w.heap.size ∧ b < w.heap.size ∧ d < w.heap.size) := ⟨hS.out.hM, hS.out.hb, hS.out.hd⟩
  have D0 := hideP (LdB.start hS.out)
  have hf1 : ((f1 ws f : Nat) : Int) < 4611686018427387000 := by have := f1_le ws f; omega
  have X : Hid (((pkV 79 ws 78 : Nat) : Int) = (vw ws 78 : Nat)) := by unfold Hid; rw [show (78 : Int) = ((78 : Nat) : Int) from rfl, pkV_is ws (by decide)]
  have A1 := low1 _ (vw_lt ws 78)
  rw [show vw ws 78 % 2 = l from HL.out] at A1
  obtain ⟨s, S⟩ : ∃ s : Int, Hid (((pkS 79 ws 78 : Nat) : Int) = s) := ⟨_, rfl⟩
  generalize ((vw ws 78 : Nat) : Int) = x at *
  have s2 : (s == 2) = true := by
    have := K.out
    unfold knw at this
    rw [← S.out, show (78 : Int) = ((78 : Nat) : Int) from rfl, pkS_is ws (by decide), ← nat2]
    cases e : Num.mendS (ws 78) == 2
    all_goals first | rfl | (rw [e] at this; simp at this)
  have hr := D0.out.now.1.mem.hr
  go_enter Tryd.func17, Tryd.ntmps17
  go_wp2_with fail
  refine (refget_as b d 79 f ws 78 x s X S (by decide) (by omega) _ (hideP D0.out.now.1.mem.row)).mono ?_; rintro e w1 ⟨rfl, hN⟩
  have D1 : Hid (LdB w M b d (ws1 ws) (f1 ws f) nx w1) := D0.out.then (.inl hS.out) (D0.out.now.1.now hN)
  clear hN hr D0
  go_wp2_with fail
  refine (rread_core M b d _ nx l _ _ (hideP rfl) hl _ G1 WA FA pA HWA HFA HpA hf1 _ (hideP D1.out.now.1)).mono ?_; rintro e w2 ⟨⟨A, c, rfl, hLie, hA0, hA1⟩, hN⟩
  have D2 := hideP (D1.out.then (.inr hM.out) hN)
  have LA := hideP hLie
  have ZA : Hid (w.heap.size + 2 ≤ A ∧ A < w2.heap.size) := ⟨by have := D1.out.sz; omega, hA1⟩
  clear hN hLie hA0 hA1 D1
  have D4 := hideP (RlP.boxed D2.out hM.out LA.out ZA.out.1 ZA.out.2)
  clear D2 LA ZA
  go_wp2_with fail
  generalize ((w2.alloc (.cells z32 27)).alloc (.cells z5 28)) = w4 at *
  generalize w2.heap.size = P at *
  refine wp_region_noPanic ?_
  refine wp_region_held_drew (S := fun w' => RlP w M b d WA FA nx P w0 w0 A pA w') (by kernel_rfl) ?_ (fun hHeld => ?_)
  · exact D4.out.alike hM.out ⟨rfl, rfl, rfl⟩
  refine wpAnyH_take (i := 0) (oi := { dst := some 48, op := Op.load 27 (Operand.tmp 11), type := 27, pos := "ref.go:170", after := #[{ on := 2, ground := Ground.gcOnly Departure.lateStores }], guard := none }) (v := _) rfl (by kernel_rfl) (by kernel_rfl) (by kernel_rfl) (fun _ _ _ h => h) (yieldsIf_load_mid (by rfl) 27 _ rfl P 0 rfl (wn w0 32) _ (fun w hSw => hSw.aR.range) Tryd.underlying27 rfl (by rw [wn_len]; exact size27)) hHeld ?_
  try simp only [Act.put, List.setIfInBounds_toArray, List.set_cons_zero, List.set_cons_succ]
  refine wpAnyH_take (i := 1) (oi := { dst := some 49, op := Op.load 28 (Operand.tmp 12), type := 28, pos := "ref.go:170", after := #[{ on := 3, ground := Ground.gcOnly Departure.lateStores }], guard := none }) (v := _) rfl (by kernel_rfl) (by kernel_rfl) (by kernel_rfl) (fun _ _ _ h => h) (yieldsIf_load_mid (by rfl) 28 _ rfl (P + 1) 0 rfl (wn w0 5) _ (fun w hSw => hSw.aC.range) Tryd.underlying28 rfl (by rw [wn_len]; exact size28)) hHeld ?_
  try simp only [Act.put, List.setIfInBounds_toArray, List.set_cons_zero, List.set_cons_succ]
  refine wpAnyH_take (i := 2) (oi := { dst := some 2, op := Op.assign (Operand.const (Value.int IntKind.u32 0)), type := 26, pos := "ref.go:170", after := #[{ on := 0, ground := Ground.textOnly Departure.lateStores }, { on := 1, ground := Ground.textOnly Departure.lateStores }], guard := none }) (v := ?_) rfl (by kernel_rfl) (by kernel_rfl) (by kernel_rfl) (fun _ _ _ h => h) (Or.inl ⟨by rfl, ?_⟩) hHeld ?_
  rotate_left
  · intro w hSw
    go_simp
    try with_reducible rfl
  try simp only [Act.put, List.setIfInBounds_toArray, List.set_cons_zero, List.set_cons_succ]
  refine wpAnyH_ready (rs := [3]) (by kernel_rfl) (by simp) ?_
  refine AllReadyH.cons (o := { dst := none, op := Op.store 27 (Operand.tmp 3) (Operand.tmp 48), type := 0, pos := "ref.go:170", after := #[{ on := 0, ground := Ground.data }, { on := 2, ground := Ground.chain }, { on := 0, ground := Ground.phase }, { on := 1, ground := Ground.textOnly Departure.lateStores }, { on := 2, ground := Ground.phase }], guard := none }) rfl (fun K hK => ?_) AllReadyH.nil
  obtain ⟨z3, e3⟩ := hHeld.b.a3
  refine step_arrG 27 32 size27 w.heap.size z3 e3 (by rfl) _ _ rfl w0 _ rfl rfl rfl ?_
  intro W3 hA3 hT3
  refine hK.out _ _ ?_ (fun hHeld => ?_)
  · exact hHeld.put3 hM.out hA3.out hT3.out
  clear hK K
  try simp only [Act.put]
  refine wpAnyH_ready (rs := [4]) (by kernel_rfl) (by simp) ?_
  refine AllReadyH.cons (o := { dst := none, op := Op.store 28 (Operand.tmp 4) (Operand.tmp 49), type := 0, pos := "ref.go:170", after := #[{ on := 1, ground := Ground.data }, { on := 3, ground := Ground.chain }, { on := 0, ground := Ground.phase }, { on := 1, ground := Ground.phase }, { on := 2, ground := Ground.phase }, { on := 3, ground := Ground.phase }], guard := none }) rfl (fun K hK => ?_) AllReadyH.nil
  obtain ⟨z4, e4⟩ := hHeld.b.a4
  refine step_arrG 28 5 size28 (w.heap.size + 1) z4 e4 (by rfl) _ _ rfl w0 _ rfl rfl rfl ?_
  intro W4 hA4 hT4
  have HL4 := hA4.out.told 28 _ Tryd.underlying28 rfl size28
  have HL3 := (hA3.out.toua hT4.out (by omega)).told 27 _ Tryd.underlying27 rfl size27
  refine hK.out _ _ ?_ (fun hHeld => ?_)
  · exact hHeld.put4 hM.out hA4.out hT4.out
  clear hK K
  try simp only [Act.put]
  refine wpAnyH_take (i := 5) (oi := { dst := some 5, op := Op.assign (Operand.const (Value.int IntKind.i64 0)), type := 3, pos := "ref.go:170", after := #[{ on := 4, ground := Ground.chain }, { on := 0, ground := Ground.phase }, { on := 1, ground := Ground.phase }, { on := 2, ground := Ground.phase }, { on := 3, ground := Ground.phase }, { on := 4, ground := Ground.phase }], guard := none }) (v := ?_) rfl (by kernel_rfl) (by kernel_rfl) (by kernel_rfl) (fun _ _ _ h => h) (Or.inl ⟨by rfl, ?_⟩) hHeld ?_
  rotate_left
  · intro w hSw
    go_simp
    try with_reducible rfl
  try simp only [Act.put, List.setIfInBounds_toArray, List.set_cons_zero, List.set_cons_succ]
  refine wpAnyH_take (i := 6) (oi := { dst := some 6, op := Op.assign (Operand.const (Value.bool false)), type := 4, pos := "ref.go:170", after := #[{ on := 5, ground := Ground.chain }, { on := 0, ground := Ground.phase }, { on := 1, ground := Ground.phase }, { on := 2, ground := Ground.phase }, { on := 3, ground := Ground.phase }, { on := 4, ground := Ground.phase }, { on := 5, ground := Ground.phase }], guard := none }) (v := ?_) rfl (by kernel_rfl) (by kernel_rfl) (by kernel_rfl) (fun _ _ _ h => h) (Or.inl ⟨by rfl, ?_⟩) hHeld ?_
  rotate_left
  · intro w hSw
    go_simp
    try with_reducible rfl
  try simp only [Act.put, List.setIfInBounds_toArray, List.set_cons_zero, List.set_cons_succ]
  refine wpAnyH_done (by kernel_rfl) ?_ _
  refine NoPanic.normal ?_
  have SN := hHeld.b.now
  go_wp2_with fail
  refine bodyPost_ret (v := .tuple #[.int .u32 0, .agg (wn w0 32).toArray, .agg (wn w0 5).toArray, .int .i64 0, .bool false]) (by simp [results, Tryd.results17, asAddr, HL3, HL4]) rfl ⟨rfl, SN⟩
set_option maxRecDepth 100000 in
set_option maxHeartbeats 1000000 in
theorem rload_ft (M b d f nx l : Nat) (ws : Nat → Nat) (hl : (l : Int) ≤ 1) (HL : Hid (lat ws = l)) (K : Hid (knw ws = true)) (hf : (f : Int) < 4611686018427386000) (WA : Nat → Nat) (FA : Nat) (pA : Nat → Nat) (HWA : Hid (gtK (ws1 ws) (39 * l) 39 = WA)) (HFA : Hid (gtKF (ws1 ws) (39 * l) (f1 ws f) 39 = FA)) (HpA : Hid (gtV (ws1 ws) (39 * l) = pA)) (G1 : Hid (gok (ws1 ws) (39 * l) = false)) (hfa : (FA : Int) < 4611686018427387000) (o : Nat) (HO : Hid ((o : Int) = 1 - (l : Int))) (ho : (o : Int) ≤ 1) (WB : Nat → Nat) (FB : Nat) (pB : Nat → Nat) (HWB : Hid (gtK WA (39 * o) 39 = WB)) (HFB : Hid (gtKF WA (39 * o) FA 39 = FB)) (HpB : Hid (gtV WA (39 * o) = pB)) (G2 : Hid (gok WA (39 * o) = true)) (x0 x37 : Nat) (HX0 : Hid (pB 0 = x0)) (HX37 : Hid (pB 37 = x37)) (h37 : (x37 : Int) < 4294967296) (w : World) (hS : Hid (SAt M b d ws f nx w)) :
    Calls Tryd.prog 17 #[.pointer (some ⟨M, 0, none⟩)] w fun e w' => e = .returned (.tuple #[.int .u32 (x0 : Int), .agg (wn (rgs pB) 32).toArray, .agg (wn (css pB) 5).toArray, .int .i64 (x37 : Int), .bool true]) ∧ SNow M b d WB FB nx w w' := by
  have hM : Hid (M < w.heap.size ∧ b < w.heap.size ∧ d < w.heap.size) := ⟨hS.out.hM, hS.out.hb, hS.out.hd⟩
  have D0 := hideP (LdB.start hS.out)
  have hf1 : ((f1 ws f : Nat) : Int) < 4611686018427387000 := by have := f1_le ws f; omega
  have X : Hid (((pkV 79 ws 78 : Nat) : Int) = (vw ws 78 : Nat)) := by unfold Hid; rw [show (78 : Int) = ((78 : Nat) : Int) from rfl, pkV_is ws (by decide)]
  have A1 := low1 _ (vw_lt ws 78)
  rw [show vw ws 78 % 2 = l from HL.out] at A1
  obtain ⟨s, S⟩ : ∃ s : Int, Hid (((pkS 79 ws 78 : Nat) : Int) = s) := ⟨_, rfl⟩
  generalize ((vw ws 78 : Nat) : Int) = x at *
  have s2 : (s == 2) = false := by
    have := K.out
    unfold knw at this
    rw [← S.out, show (78 : Int) = ((78 : Nat) : Int) from rfl, pkS_is ws (by decide), ← nat2]
    cases e : Num.mendS (ws 78) == 2
    all_goals first | rfl | (rw [e] at this; simp at this)
  have hr := D0.out.now.1.mem.hr
  go_enter Tryd.func17, Tryd.ntmps17
  go_wp2_with fail
  refine (refget_as b d 79 f ws 78 x s X S (by decide) (by omega) _ (hideP D0.out.now.1.mem.row)).mono ?_; rintro e w1 ⟨rfl, hN⟩
  have D1 : Hid (LdB w M b d (ws1 ws) (f1 ws f) nx w1) := D0.out.then (.inl hS.out) (D0.out.now.1.now hN)
  clear hN hr D0
  go_wp2_with fail
  refine (rread_core M b d _ nx l _ _ (hideP rfl) hl _ G1 WA FA pA HWA HFA HpA hf1 _ (hideP D1.out.now.1)).mono ?_; rintro e w2 ⟨⟨A, c, rfl, hLie, hA0, hA1⟩, hN⟩
  have D2 := hideP (D1.out.then (.inr hM.out) hN)
  have LA := hideP hLie
  have ZA : Hid (w.heap.size + 2 ≤ A ∧ A < w2.heap.size) := ⟨by have := D1.out.sz; omega, hA1⟩
  clear hN hLie hA0 hA1 D1
  go_wp2_with fail
  refine (rread_core M b d _ nx o _ _ HO ho _ G2 WB FB pB HWB HFB HpB hfa _ (hideP D2.out.now.1)).mono ?_; rintro e w3 ⟨⟨A', c', rfl, hLie, hA0, hA1⟩, hN⟩
  have D3 := hideP (D2.out.then (.inr hM.out) hN)
  have LB := hideP hLie
  have ZB : Hid (w.heap.size + 2 ≤ A' ∧ A' < w3.heap.size) := ⟨by have := D2.out.sz; omega, hA1⟩
  clear hN hLie hA0 hA1 D2 LA ZA
  have D4 := hideP (RlP.boxed D3.out hM.out LB.out ZB.out.1 ZB.out.2)
  clear D3 LB ZB
  go_wp2_with fail
  generalize ((w3.alloc (.cells z32 27)).alloc (.cells z5 28)) = w4 at *
  generalize w3.heap.size = P at *
  go_loopw [13] (fun t wr => ∃ k : Nat, (1 : Int) ≤ k ∧ (k : Int) ≤ 32 ∧ t = .int .i64 k ∧ Hid (RlP w M b d WB FB nx P (rgK pB k) w0 A' pB wr)) (fun t _ => 32 - (intOf t).toNat)
  case atStart => exact ⟨1, by decide, by decide, rfl, D4.out.congr (fun i _ => rgK_0 pB i) (fun _ _ => rfl)⟩
  case round =>
    obtain ⟨k, hk1, hk, rfl, HD⟩ := hrel
    rename_i wr
    clear D4
    by_cases hlt : (k : Int) < 32
    · obtain ⟨x, HX⟩ : ∃ x : Nat, Hid (pB k = x) := ⟨_, rfl⟩
      have c := HD.out.lie.at k (by omega)
      rw [HX.out] at c
      have c2 := HD.out.aR.hw k (by omega)
      have z2 := HD.out.aR.zw k (by omega)
      have HD2 := hideP ((HD.out.putR hM.out k x (by omega)).congr (fun i _ => rgK_next pB k x (by omega) HX.out i) (fun _ _ => rfl))
      go_wp2_with fail
      exact ⟨⟨k + 1, by omega, by omega, by rw [Int.natCast_add]; rfl, HD2⟩, by simp [intOf]; omega⟩
    · have e : k = 32 := by omega
      subst e
      have D5 := hideP (HD.out.congr (fun i hi => rgK_all pB i hi) (fun i _ => csK_0 pB i))
      clear HD hk hk1 hlt
      go_wp2_with fail
      go_loopw [60] (fun t wr => ∃ k : Nat, (k : Int) ≤ 5 ∧ t = .int .i64 k ∧ Hid (RlP w M b d WB FB nx P (rgs pB) (csK pB k) A' pB wr)) (fun t _ => 5 - (intOf t).toNat)
      case atStart => exact ⟨0, by decide, rfl, D5⟩
      case round =>
        obtain ⟨k, hk, rfl, HD⟩ := hrel
        rename_i wr
        clear D5
        by_cases hlt : (k : Int) < 5
        · obtain ⟨x, HX⟩ : ∃ x : Nat, Hid (pB (32 + k) = x) := ⟨_, rfl⟩
          have c := HD.out.lie.at (32 + k) (by omega)
          rw [HX.out] at c
          have c2 := HD.out.aC.hw k (by omega)
          have z2 := HD.out.aC.zw k (by omega)
          have n1 : ((32 : Int) + (k : Int)).toNat = 32 + k := by omega
          have HD2 := hideP ((HD.out.putC hM.out k x (by omega)).congr (fun _ _ => rfl) (fun i _ => csK_next pB k x HX.out i))
          go_wp2_with fail
          exact ⟨⟨k + 1, by omega, by rw [Int.natCast_add]; rfl, HD2⟩, by simp [intOf]; omega⟩
        · have e : k = 5 := by omega
          subst e
          have D6 := hideP (HD.out.congr (fun _ _ => rfl) (fun i hi => csK_all pB i hi))
          clear HD hk hlt
          go_wp2_with fail
          refine wp_region_noPanic ?_
          refine wp_region_held_drew (S := fun w' => RlP w M b d WB FB nx P (rgs pB) (css pB) A' pB w') (by kernel_rfl) ?_ (fun hHeld => ?_)
          · exact D6.out.alike hM.out ⟨rfl, rfl, rfl⟩
          refine wpAnyH_take (i := 0) (oi := { dst := some 71, op := Op.move (Operand.tmp 9), type := 66, pos := "ref.go:178", after := #[], guard := none }) (v := ?_) rfl (by kernel_rfl) (by kernel_rfl) (by kernel_rfl) (fun _ _ _ h => h) (Or.inl ⟨by rfl, ?_⟩) hHeld ?_
          rotate_left
          · intro w hSw
            go_simp
            try with_reducible rfl
          try simp only [Act.put, List.setIfInBounds_toArray, List.set_cons_zero, List.set_cons_succ]
          refine wpAnyH_take (i := 1) (oi := { dst := some 72, op := Op.indexAddr 66 (Operand.tmp 71) (Operand.const (Value.int IntKind.i64 0)), type := 0, pos := "ref.go:178", after := #[{ on := 0, ground := Ground.data }], guard := none }) (v := ?_) rfl (by kernel_rfl) (by kernel_rfl) (by kernel_rfl) (fun _ _ _ h => h) (Or.inl ⟨by rfl, ?_⟩) hHeld ?_
          rotate_left
          · intro w hSw
            go_simp
            try with_reducible rfl
          try simp only [Act.put, List.setIfInBounds_toArray, List.set_cons_zero, List.set_cons_succ]
          refine wpAnyH_take (i := 2) (oi := { dst := some 73, op := Op.load 26 (Operand.tmp 72), type := 26, pos := "ref.go:178", after := #[{ on := 1, ground := Ground.data }], guard := none }) (v := ?_) rfl (by kernel_rfl) (by kernel_rfl) (by kernel_rfl) (fun _ _ _ h => h) (Or.inl ⟨by rfl, ?_⟩) hHeld ?_
          rotate_left
          · intro w hSw
            have c := hSw.lie.at 0 (by decide)
            rw [HX0.out] at c
            go_simp
            try with_reducible rfl
          try simp only [Act.put, List.setIfInBounds_toArray, List.set_cons_zero, List.set_cons_succ]
          refine wpAnyH_take (i := 3) (oi := { dst := some 74, op := Op.load 27 (Operand.tmp 11), type := 27, pos := "ref.go:178", after := #[{ on := 9, ground := Ground.gcOnly Departure.lateStores }], guard := none }) (v := _) rfl (by kernel_rfl) (by kernel_rfl) (by kernel_rfl) (fun _ _ _ h => h) (yieldsIf_load_mid (by rfl) 27 _ rfl P 0 rfl (wn (rgs pB) 32) _ (fun w hSw => hSw.aR.range) Tryd.underlying27 rfl (by rw [wn_len]; exact size27)) hHeld ?_
          try simp only [Act.put, List.setIfInBounds_toArray, List.set_cons_zero, List.set_cons_succ]
          refine wpAnyH_take (i := 4) (oi := { dst := some 75, op := Op.load 28 (Operand.tmp 12), type := 28, pos := "ref.go:178", after := #[{ on := 10, ground := Ground.gcOnly Departure.lateStores }], guard := none }) (v := _) rfl (by kernel_rfl) (by kernel_rfl) (by kernel_rfl) (fun _ _ _ h => h) (yieldsIf_load_mid (by rfl) 28 _ rfl (P + 1) 0 rfl (wn (css pB) 5) _ (fun w hSw => hSw.aC.range) Tryd.underlying28 rfl (by rw [wn_len]; exact size28)) hHeld ?_
          try simp only [Act.put, List.setIfInBounds_toArray, List.set_cons_zero, List.set_cons_succ]
          refine wpAnyH_take (i := 5) (oi := { dst := some 76, op := Op.move (Operand.tmp 9), type := 66, pos := "ref.go:178", after := #[{ on := 11, ground := Ground.gcOnly Departure.lateStores }], guard := none }) (v := ?_) rfl (by kernel_rfl) (by kernel_rfl) (by kernel_rfl) (fun _ _ _ h => h) (Or.inl ⟨by rfl, ?_⟩) hHeld ?_
          rotate_left
          · intro w hSw
            go_simp
            try with_reducible rfl
          try simp only [Act.put, List.setIfInBounds_toArray, List.set_cons_zero, List.set_cons_succ]
          refine wpAnyH_take (i := 6) (oi := { dst := some 77, op := Op.indexAddr 66 (Operand.tmp 76) (Operand.const (Value.int IntKind.i64 37)), type := 0, pos := "ref.go:178", after := #[{ on := 5, ground := Ground.data }, { on := 11, ground := Ground.gcOnly Departure.lateStores }], guard := none }) (v := ?_) rfl (by kernel_rfl) (by kernel_rfl) (by kernel_rfl) (fun _ _ _ h => h) (Or.inl ⟨by rfl, ?_⟩) hHeld ?_
          rotate_left
          · intro w hSw
            go_simp
            try with_reducible rfl
          try simp only [Act.put, List.setIfInBounds_toArray, List.set_cons_zero, List.set_cons_succ]
          refine wpAnyH_take (i := 7) (oi := { dst := some 78, op := Op.load 26 (Operand.tmp 77), type := 26, pos := "ref.go:178", after := #[{ on := 6, ground := Ground.data }, { on := 11, ground := Ground.gcOnly Departure.lateStores }], guard := none }) (v := ?_) rfl (by kernel_rfl) (by kernel_rfl) (by kernel_rfl) (fun _ _ _ h => h) (Or.inl ⟨by rfl, ?_⟩) hHeld ?_
          rotate_left
          · intro w hSw
            have c := hSw.lie.at 37 (by decide)
            rw [HX37.out] at c
            go_simp
            try with_reducible rfl
          try simp only [Act.put, List.setIfInBounds_toArray, List.set_cons_zero, List.set_cons_succ]
          refine wpAnyH_take (i := 8) (oi := { dst := some 79, op := Op.convert 26 3 (Operand.tmp 78), type := 3, pos := "ref.go:178", after := #[{ on := 7, ground := Ground.data }, { on := 11, ground := Ground.gcOnly Departure.lateStores }], guard := none }) (v := ?_) rfl (by kernel_rfl) (by kernel_rfl) (by kernel_rfl) (fun _ _ _ h => h) (Or.inl ⟨by rfl, ?_⟩) hHeld ?_
          rotate_left
          · intro w hSw
            go_simp
            try with_reducible rfl
          try simp only [Act.put, List.setIfInBounds_toArray, List.set_cons_zero, List.set_cons_succ]
          refine wpAnyH_take (i := 9) (oi := { dst := some 2, op := Op.assign (Operand.tmp 73), type := 26, pos := "ref.go:178", after := #[{ on := 2, ground := Ground.data }, { on := 0, ground := Ground.phase }, { on := 1, ground := Ground.phase }, { on := 2, ground := Ground.phase }, { on := 3, ground := Ground.textOnly Departure.lateStores }, { on := 4, ground := Ground.textOnly Departure.lateStores }, { on := 5, ground := Ground.textOnly Departure.lateStores }, { on := 6, ground := Ground.textOnly Departure.lateStores }, { on := 7, ground := Ground.textOnly Departure.lateStores }, { on := 8, ground := Ground.textOnly Departure.lateStores }], guard := none }) (v := ?_) rfl (by kernel_rfl) (by kernel_rfl) (by kernel_rfl) (fun _ _ _ h => h) (Or.inl ⟨by rfl, ?_⟩) hHeld ?_
          rotate_left
          · intro w hSw
            go_simp
            try with_reducible rfl
          try simp only [Act.put, List.setIfInBounds_toArray, List.set_cons_zero, List.set_cons_succ]
          refine wpAnyH_ready (rs := [10]) (by kernel_rfl) (by simp) ?_
          refine AllReadyH.cons (o := { dst := none, op := Op.store 27 (Operand.tmp 3) (Operand.tmp 74), type := 0, pos := "ref.go:178", after := #[{ on := 3, ground := Ground.data }, { on := 9, ground := Ground.chain }, { on := 0, ground := Ground.phase }, { on := 1, ground := Ground.phase }, { on := 2, ground := Ground.phase }, { on := 3, ground := Ground.phase }, { on := 4, ground := Ground.textOnly Departure.lateStores }, { on := 5, ground := Ground.textOnly Departure.lateStores }, { on := 6, ground := Ground.textOnly Departure.lateStores }, { on := 7, ground := Ground.textOnly Departure.lateStores }, { on := 8, ground := Ground.textOnly Departure.lateStores }, { on := 9, ground := Ground.phase }], guard := none }) rfl (fun K hK => ?_) AllReadyH.nil
          obtain ⟨z3, e3⟩ := hHeld.b.a3
          refine step_arrG 27 32 size27 w.heap.size z3 e3 (by rfl) _ _ rfl (rgs pB) _ rfl rfl rfl ?_
          intro W3 hA3 hT3
          refine hK.out _ _ ?_ (fun hHeld => ?_)
          · exact hHeld.put3 hM.out hA3.out hT3.out
          clear hK K
          try simp only [Act.put]
          refine wpAnyH_ready (rs := [11]) (by kernel_rfl) (by simp) ?_
          refine AllReadyH.cons (o := { dst := none, op := Op.store 28 (Operand.tmp 4) (Operand.tmp 75), type := 0, pos := "ref.go:178", after := #[{ on := 4, ground := Ground.data }, { on := 10, ground := Ground.chain }, { on := 0, ground := Ground.phase }, { on := 1, ground := Ground.phase }, { on := 2, ground := Ground.phase }, { on := 3, ground := Ground.phase }, { on := 4, ground := Ground.phase }, { on := 5, ground := Ground.textOnly Departure.lateStores }, { on := 6, ground := Ground.textOnly Departure.lateStores }, { on := 7, ground := Ground.textOnly Departure.lateStores }, { on := 8, ground := Ground.textOnly Departure.lateStores }, { on := 9, ground := Ground.phase }, { on := 10, ground := Ground.phase }], guard := none }) rfl (fun K hK => ?_) AllReadyH.nil
          obtain ⟨z4, e4⟩ := hHeld.b.a4
          refine step_arrG 28 5 size28 (w.heap.size + 1) z4 e4 (by rfl) _ _ rfl (css pB) _ rfl rfl rfl ?_
          intro W4 hA4 hT4
          have HL4 := hA4.out.told 28 _ Tryd.underlying28 rfl size28
          have HL3 := (hA3.out.toua hT4.out (by omega)).told 27 _ Tryd.underlying27 rfl size27
          refine hK.out _ _ ?_ (fun hHeld => ?_)
          · exact hHeld.put4 hM.out hA4.out hT4.out
          clear hK K
          try simp only [Act.put]
          refine wpAnyH_take (i := 12) (oi := { dst := some 5, op := Op.assign (Operand.tmp 79), type := 3, pos := "ref.go:178", after := #[{ on := 8, ground := Ground.data }, { on := 11, ground := Ground.chain }, { on := 0, ground := Ground.phase }, { on := 1, ground := Ground.phase }, { on := 2, ground := Ground.phase }, { on := 3, ground := Ground.phase }, { on := 4, ground := Ground.phase }, { on := 5, ground := Ground.phase }, { on := 6, ground := Ground.phase }, { on := 7, ground := Ground.phase }, { on := 8, ground := Ground.phase }, { on := 9, ground := Ground.phase }, { on := 10, ground := Ground.phase }, { on := 11, ground := Ground.phase }], guard := none }) (v := ?_) rfl (by kernel_rfl) (by kernel_rfl) (by kernel_rfl) (fun _ _ _ h => h) (Or.inl ⟨by rfl, ?_⟩) hHeld ?_
          rotate_left
          · intro w hSw
            go_simp
            try with_reducible rfl
          try simp only [Act.put, List.setIfInBounds_toArray, List.set_cons_zero, List.set_cons_succ]
          refine wpAnyH_take (i := 13) (oi := { dst := some 6, op := Op.assign (Operand.const (Value.bool true)), type := 4, pos := "ref.go:178", after := #[{ on := 12, ground := Ground.chain }, { on := 0, ground := Ground.phase }, { on := 1, ground := Ground.phase }, { on := 2, ground := Ground.phase }, { on := 3, ground := Ground.phase }, { on := 4, ground := Ground.phase }, { on := 5, ground := Ground.phase }, { on := 6, ground := Ground.phase }, { on := 7, ground := Ground.phase }, { on := 8, ground := Ground.phase }, { on := 9, ground := Ground.phase }, { on := 10, ground := Ground.phase }, { on := 11, ground := Ground.phase }, { on := 12, ground := Ground.phase }], guard := none }) (v := ?_) rfl (by kernel_rfl) (by kernel_rfl) (by kernel_rfl) (fun _ _ _ h => h) (Or.inl ⟨by rfl, ?_⟩) hHeld ?_
          rotate_left
          · intro w hSw
            go_simp
            try with_reducible rfl
          try simp only [Act.put, List.setIfInBounds_toArray, List.set_cons_zero, List.set_cons_succ]
          refine wpAnyH_done (by kernel_rfl) ?_ _
          refine NoPanic.normal ?_
          have SN := hHeld.b.now
          have h37w : IntKind.i64.wrap ((x37 : Nat) : Int) = (x37 : Int) := by rw [IntKind.wrap_i64]; omega
          go_wp2_with fail
          refine bodyPost_ret (v := .tuple #[.int .u32 (x0 : Int), .agg (wn (rgs pB) 32).toArray, .agg (wn (css pB) 5).toArray, .int .i64 (x37 : Int), .bool true]) (by simp [results, Tryd.results17, asAddr, HL3, HL4, h37w]) rfl ⟨rfl, SN⟩
set_option maxRecDepth 100000 in
set_option maxHeartbeats 1000000 in
theorem rload_ff (M b d f nx l : Nat) (ws : Nat → Nat) (hl : (l : Int) ≤ 1) (HL : Hid (lat ws = l)) (K : Hid (knw ws = false)) (hf : (f : Int) < 4611686018427386000) (WA : Nat → Nat) (FA : Nat) (pA : Nat → Nat) (HWA : Hid (gtK (ws1 ws) (39 * l) 39 = WA)) (HFA : Hid (gtKF (ws1 ws) (39 * l) (f1 ws f) 39 = FA)) (HpA : Hid (gtV (ws1 ws) (39 * l) = pA)) (G1 : Hid (gok (ws1 ws) (39 * l) = false)) (hfa : (FA : Int) < 4611686018427387000) (o : Nat) (HO : Hid ((o : Int) = 1 - (l : Int))) (ho : (o : Int) ≤ 1) (WB : Nat → Nat) (FB : Nat) (pB : Nat → Nat) (HWB : Hid (gtK WA (39 * o) 39 = WB)) (HFB : Hid (gtKF WA (39 * o) FA 39 = FB)) (HpB : Hid (gtV WA (39 * o) = pB)) (G2 : Hid (gok WA (39 * o) = true)) (w : World) (hS : Hid (SAt M b d ws f nx w)) :
    Calls Tryd.prog 17 #[.pointer (some ⟨M, 0, none⟩)] w fun e w' => e = .returned (.tuple #[.int .u32 0, .agg (wn w0 32).toArray, .agg (wn w0 5).toArray, .int .i64 0, .bool false]) ∧ SNow M b d WB FB nx w w' := by
  have hM : Hid (M < w.heap.size ∧ b < w.heap.size ∧ d < w.heap.size) := ⟨hS.out.hM, hS.out.hb, hS.out.hd⟩
  have D0 := hideP (LdB.start hS.out)
  have hf1 : ((f1 ws f : Nat) : Int) < 4611686018427387000 := by have := f1_le ws f; omega
  have X : Hid (((pkV 79 ws 78 : Nat) : Int) = (vw ws 78 : Nat)) := by unfold Hid; rw [show (78 : Int) = ((78 : Nat) : Int) from rfl, pkV_is ws (by decide)]
  have A1 := low1 _ (vw_lt ws 78)
  rw [show vw ws 78 % 2 = l from HL.out] at A1
  obtain ⟨s, S⟩ : ∃ s : Int, Hid (((pkS 79 ws 78 : Nat) : Int) = s) := ⟨_, rfl⟩
  generalize ((vw ws 78 : Nat) : Int) = x at *
  have s2 : (s == 2) = true := by
    have := K.out
    unfold knw at this
    rw [← S.out, show (78 : Int) = ((78 : Nat) : Int) from rfl, pkS_is ws (by decide), ← nat2]
    cases e : Num.mendS (ws 78) == 2
    all_goals first | rfl | (rw [e] at this; simp at this)
  have hr := D0.out.now.1.mem.hr
  go_enter Tryd.func17, Tryd.ntmps17
  go_wp2_with fail
  refine (refget_as b d 79 f ws 78 x s X S (by decide) (by omega) _ (hideP D0.out.now.1.mem.row)).mono ?_; rintro e w1 ⟨rfl, hN⟩
  have D1 : Hid (LdB w M b d (ws1 ws) (f1 ws f) nx w1) := D0.out.then (.inl hS.out) (D0.out.now.1.now hN)
  clear hN hr D0
  go_wp2_with fail
  refine (rread_core M b d _ nx l _ _ (hideP rfl) hl _ G1 WA FA pA HWA HFA HpA hf1 _ (hideP D1.out.now.1)).mono ?_; rintro e w2 ⟨⟨A, c, rfl, hLie, hA0, hA1⟩, hN⟩
  have D2 := hideP (D1.out.then (.inr hM.out) hN)
  have LA := hideP hLie
  have ZA : Hid (w.heap.size + 2 ≤ A ∧ A < w2.heap.size) := ⟨by have := D1.out.sz; omega, hA1⟩
  clear hN hLie hA0 hA1 D1
  go_wp2_with fail
  refine (rread_core M b d _ nx o _ _ HO ho _ G2 WB FB pB HWB HFB HpB hfa _ (hideP D2.out.now.1)).mono ?_; rintro e w3 ⟨⟨A', c', rfl, hLie, hA0, hA1⟩, hN⟩
  have D3 := hideP (D2.out.then (.inr hM.out) hN)
  have LB := hideP hLie
  have ZB : Hid (w.heap.size + 2 ≤ A' ∧ A' < w3.heap.size) := ⟨by have := D2.out.sz; omega, hA1⟩
  clear hN hLie hA0 hA1 D2 LA ZA
  have D4 := hideP (RlP.boxed D3.out hM.out LB.out ZB.out.1 ZB.out.2)
  clear D3 LB ZB
  go_wp2_with fail
  generalize ((w3.alloc (.cells z32 27)).alloc (.cells z5 28)) = w4 at *
  generalize w3.heap.size = P at *
  refine wp_region_noPanic ?_
  refine wp_region_held_drew (S := fun w' => RlP w M b d WB FB nx P w0 w0 A' pB w') (by kernel_rfl) ?_ (fun hHeld => ?_)
  · exact D4.out.alike hM.out ⟨rfl, rfl, rfl⟩
  refine wpAnyH_take (i := 0) (oi := { dst := some 48, op := Op.load 27 (Operand.tmp 11), type := 27, pos := "ref.go:170", after := #[{ on := 2, ground := Ground.gcOnly Departure.lateStores }], guard := none }) (v := _) rfl (by kernel_rfl) (by kernel_rfl) (by kernel_rfl) (fun _ _ _ h => h) (yieldsIf_load_mid (by rfl) 27 _ rfl P 0 rfl (wn w0 32) _ (fun w hSw => hSw.aR.range) Tryd.underlying27 rfl (by rw [wn_len]; exact size27)) hHeld ?_
  try simp only [Act.put, List.setIfInBounds_toArray, List.set_cons_zero, List.set_cons_succ]
  refine wpAnyH_take (i := 1) (oi := { dst := some 49, op := Op.load 28 (Operand.tmp 12), type := 28, pos := "ref.go:170", after := #[{ on := 3, ground := Ground.gcOnly Departure.lateStores }], guard := none }) (v := _) rfl (by kernel_rfl) (by kernel_rfl) (by kernel_rfl) (fun _ _ _ h => h) (yieldsIf_load_mid (by rfl) 28 _ rfl (P + 1) 0 rfl (wn w0 5) _ (fun w hSw => hSw.aC.range) Tryd.underlying28 rfl (by rw [wn_len]; exact size28)) hHeld ?_
  try simp only [Act.put, List.setIfInBounds_toArray, List.set_cons_zero, List.set_cons_succ]
  refine wpAnyH_take (i := 2) (oi := { dst := some 2, op := Op.assign (Operand.const (Value.int IntKind.u32 0)), type := 26, pos := "ref.go:170", after := #[{ on := 0, ground := Ground.textOnly Departure.lateStores }, { on := 1, ground := Ground.textOnly Departure.lateStores }], guard := none }) (v := ?_) rfl (by kernel_rfl) (by kernel_rfl) (by kernel_rfl) (fun _ _ _ h => h) (Or.inl ⟨by rfl, ?_⟩) hHeld ?_
  rotate_left
  · intro w hSw
    go_simp
    try with_reducible rfl
  try simp only [Act.put, List.setIfInBounds_toArray, List.set_cons_zero, List.set_cons_succ]
  refine wpAnyH_ready (rs := [3]) (by kernel_rfl) (by simp) ?_
  refine AllReadyH.cons (o := { dst := none, op := Op.store 27 (Operand.tmp 3) (Operand.tmp 48), type := 0, pos := "ref.go:170", after := #[{ on := 0, ground := Ground.data }, { on := 2, ground := Ground.chain }, { on := 0, ground := Ground.phase }, { on := 1, ground := Ground.textOnly Departure.lateStores }, { on := 2, ground := Ground.phase }], guard := none }) rfl (fun K hK => ?_) AllReadyH.nil
  obtain ⟨z3, e3⟩ := hHeld.b.a3
  refine step_arrG 27 32 size27 w.heap.size z3 e3 (by rfl) _ _ rfl w0 _ rfl rfl rfl ?_
  intro W3 hA3 hT3
  refine hK.out _ _ ?_ (fun hHeld => ?_)
  · exact hHeld.put3 hM.out hA3.out hT3.out
  clear hK K
  try simp only [Act.put]
  refine wpAnyH_ready (rs := [4]) (by kernel_rfl) (by simp) ?_
  refine AllReadyH.cons (o := { dst := none, op := Op.store 28 (Operand.tmp 4) (Operand.tmp 49), type := 0, pos := "ref.go:170", after := #[{ on := 1, ground := Ground.data }, { on := 3, ground := Ground.chain }, { on := 0, ground := Ground.phase }, { on := 1, ground := Ground.phase }, { on := 2, ground := Ground.phase }, { on := 3, ground := Ground.phase }], guard := none }) rfl (fun K hK => ?_) AllReadyH.nil
  obtain ⟨z4, e4⟩ := hHeld.b.a4
  refine step_arrG 28 5 size28 (w.heap.size + 1) z4 e4 (by rfl) _ _ rfl w0 _ rfl rfl rfl ?_
  intro W4 hA4 hT4
  have HL4 := hA4.out.told 28 _ Tryd.underlying28 rfl size28
  have HL3 := (hA3.out.toua hT4.out (by omega)).told 27 _ Tryd.underlying27 rfl size27
  refine hK.out _ _ ?_ (fun hHeld => ?_)
  · exact hHeld.put4 hM.out hA4.out hT4.out
  clear hK K
  try simp only [Act.put]
  refine wpAnyH_take (i := 5) (oi := { dst := some 5, op := Op.assign (Operand.const (Value.int IntKind.i64 0)), type := 3, pos := "ref.go:170", after := #[{ on := 4, ground := Ground.chain }, { on := 0, ground := Ground.phase }, { on := 1, ground := Ground.phase }, { on := 2, ground := Ground.phase }, { on := 3, ground := Ground.phase }, { on := 4, ground := Ground.phase }], guard := none }) (v := ?_) rfl (by kernel_rfl) (by kernel_rfl) (by kernel_rfl) (fun _ _ _ h => h) (Or.inl ⟨by rfl, ?_⟩) hHeld ?_
  rotate_left
  · intro w hSw
    go_simp
    try with_reducible rfl
  try simp only [Act.put, List.setIfInBounds_toArray, List.set_cons_zero, List.set_cons_succ]
  refine wpAnyH_take (i := 6) (oi := { dst := some 6, op := Op.assign (Operand.const (Value.bool false)), type := 4, pos := "ref.go:170", after := #[{ on := 5, ground := Ground.chain }, { on := 0, ground := Ground.phase }, { on := 1, ground := Ground.phase }, { on := 2, ground := Ground.phase }, { on := 3, ground := Ground.phase }, { on := 4, ground := Ground.phase }, { on := 5, ground := Ground.phase }], guard := none }) (v := ?_) rfl (by kernel_rfl) (by kernel_rfl) (by kernel_rfl) (fun _ _ _ h => h) (Or.inl ⟨by rfl, ?_⟩) hHeld ?_
  rotate_left
  · intro w hSw
    go_simp
    try with_reducible rfl
  try simp only [Act.put, List.setIfInBounds_toArray, List.set_cons_zero, List.set_cons_succ]
  refine wpAnyH_done (by kernel_rfl) ?_ _
  refine NoPanic.normal ?_
  have SN := hHeld.b.now
  go_wp2_with fail
  refine bodyPost_ret (v := .tuple #[.int .u32 0, .agg (wn w0 32).toArray, .agg (wn w0 5).toArray, .int .i64 0, .bool false]) (by simp [results, Tryd.results17, asAddr, HL3, HL4]) rfl ⟨rfl, SN⟩
set_option maxRecDepth 100000 in
set_option maxHeartbeats 1000000 in
theorem rload_no (M b d f nx l : Nat) (ws : Nat → Nat) (kn : Bool) (hl : (l : Int) ≤ 1) (HL : Hid (lat ws = l)) (K : Hid (knw ws = kn)) (hf : (f : Int) < 4611686018427386000) (WA : Nat → Nat) (FA : Nat) (pA : Nat → Nat) (HWA : Hid (gtK (ws1 ws) (39 * l) 39 = WA)) (HFA : Hid (gtKF (ws1 ws) (39 * l) (f1 ws f) 39 = FA)) (HpA : Hid (gtV (ws1 ws) (39 * l) = pA)) (G1 : Hid (gok (ws1 ws) (39 * l) = false)) (hfa : (FA : Int) < 4611686018427387000) (o : Nat) (HO : Hid ((o : Int) = 1 - (l : Int))) (ho : (o : Int) ≤ 1) (WB : Nat → Nat) (FB : Nat) (pB : Nat → Nat) (HWB : Hid (gtK WA (39 * o) 39 = WB)) (HFB : Hid (gtKF WA (39 * o) FA 39 = FB)) (HpB : Hid (gtV WA (39 * o) = pB)) (G2 : Hid (gok WA (39 * o) = false)) (w : World) (hS : Hid (SAt M b d ws f nx w)) :
    Calls Tryd.prog 17 #[.pointer (some ⟨M, 0, none⟩)] w fun e w' => e = .returned (.tuple #[.int .u32 0, .agg (wn w0 32).toArray, .agg (wn w0 5).toArray, .int .i64 0, .bool false]) ∧ SNow M b d WB FB nx w w' := by
  have hM : Hid (M < w.heap.size ∧ b < w.heap.size ∧ d < w.heap.size) := ⟨hS.out.hM, hS.out.hb, hS.out.hd⟩
  have D0 := hideP (LdB.start hS.out)
  have hf1 : ((f1 ws f : Nat) : Int) < 4611686018427387000 := by have := f1_le ws f; omega
  have X : Hid (((pkV 79 ws 78 : Nat) : Int) = (vw ws 78 : Nat)) := by unfold Hid; rw [show (78 : Int) = ((78 : Nat) : Int) from rfl, pkV_is ws (by decide)]
  have A1 := low1 _ (vw_lt ws 78)
  rw [show vw ws 78 % 2 = l from HL.out] at A1
  obtain ⟨s, S⟩ : ∃ s : Int, Hid (((pkS 79 ws 78 : Nat) : Int) = s) := ⟨_, rfl⟩
  generalize ((vw ws 78 : Nat) : Int) = x at *
  have hr := D0.out.now.1.mem.hr
  go_enter Tryd.func17, Tryd.ntmps17
  go_wp2_with fail
  refine (refget_as b d 79 f ws 78 x s X S (by decide) (by omega) _ (hideP D0.out.now.1.mem.row)).mono ?_; rintro e w1 ⟨rfl, hN⟩
  have D1 : Hid (LdB w M b d (ws1 ws) (f1 ws f) nx w1) := D0.out.then (.inl hS.out) (D0.out.now.1.now hN)
  clear hN hr D0
  go_wp2_with fail
  refine (rread_core M b d _ nx l _ _ (hideP rfl) hl _ G1 WA FA pA HWA HFA HpA hf1 _ (hideP D1.out.now.1)).mono ?_; rintro e w2 ⟨⟨A, c, rfl, hLie, hA0, hA1⟩, hN⟩
  have D2 := hideP (D1.out.then (.inr hM.out) hN)
  have LA := hideP hLie
  have ZA : Hid (w.heap.size + 2 ≤ A ∧ A < w2.heap.size) := ⟨by have := D1.out.sz; omega, hA1⟩
  clear hN hLie hA0 hA1 D1
  go_wp2_with fail
  refine (rread_core M b d _ nx o _ _ HO ho _ G2 WB FB pB HWB HFB HpB hfa _ (hideP D2.out.now.1)).mono ?_; rintro e w3 ⟨⟨A', c', rfl, hLie, hA0, hA1⟩, hN⟩
  have D3 := hideP (D2.out.then (.inr hM.out) hN)
  have LB := hideP hLie
  have ZB : Hid (w.heap.size + 2 ≤ A' ∧ A' < w3.heap.size) := ⟨by have := D2.out.sz; omega, hA1⟩
  clear hN hLie hA0 hA1 D2 LA ZA
  have D4 := hideP (RlP.boxed D3.out hM.out LB.out ZB.out.1 ZB.out.2)
  clear D3 LB ZB
  go_wp2_with fail
  generalize ((w3.alloc (.cells z32 27)).alloc (.cells z5 28)) = w4 at *
  generalize w3.heap.size = P at *
  refine wp_region_noPanic ?_
  refine wp_region_held_drew (S := fun w' => RlP w M b d WB FB nx P w0 w0 A' pB w') (by kernel_rfl) ?_ (fun hHeld => ?_)
  · exact D4.out.alike hM.out ⟨rfl, rfl, rfl⟩
  refine wpAnyH_take (i := 0) (oi := { dst := some 48, op := Op.load 27 (Operand.tmp 11), type := 27, pos := "ref.go:170", after := #[{ on := 2, ground := Ground.gcOnly Departure.lateStores }], guard := none }) (v := _) rfl (by kernel_rfl) (by kernel_rfl) (by kernel_rfl) (fun _ _ _ h => h) (yieldsIf_load_mid (by rfl) 27 _ rfl P 0 rfl (wn w0 32) _ (fun w hSw => hSw.aR.range) Tryd.underlying27 rfl (by rw [wn_len]; exact size27)) hHeld ?_
  try simp only [Act.put, List.setIfInBounds_toArray, List.set_cons_zero, List.set_cons_succ]
  refine wpAnyH_take (i := 1) (oi := { dst := some 49, op := Op.load 28 (Operand.tmp 12), type := 28, pos := "ref.go:170", after := #[{ on := 3, ground := Ground.gcOnly Departure.lateStores }], guard := none }) (v := _) rfl (by kernel_rfl) (by kernel_rfl) (by kernel_rfl) (fun _ _ _ h => h) (yieldsIf_load_mid (by rfl) 28 _ rfl (P + 1) 0 rfl (wn w0 5) _ (fun w hSw => hSw.aC.range) Tryd.underlying28 rfl (by rw [wn_len]; exact size28)) hHeld ?_
  try simp only [Act.put, List.setIfInBounds_toArray, List.set_cons_zero, List.set_cons_succ]
  refine wpAnyH_take (i := 2) (oi := { dst := some 2, op := Op.assign (Operand.const (Value.int IntKind.u32 0)), type := 26, pos := "ref.go:170", after := #[{ on := 0, ground := Ground.textOnly Departure.lateStores }, { on := 1, ground := Ground.textOnly Departure.lateStores }], guard := none }) (v := ?_) rfl (by kernel_rfl) (by kernel_rfl) (by kernel_rfl) (fun _ _ _ h => h) (Or.inl ⟨by rfl, ?_⟩) hHeld ?_
  rotate_left
  · intro w hSw
    go_simp
    try with_reducible rfl
  try simp only [Act.put, List.setIfInBounds_toArray, List.set_cons_zero, List.set_cons_succ]
  refine wpAnyH_ready (rs := [3]) (by kernel_rfl) (by simp) ?_
  refine AllReadyH.cons (o := { dst := none, op := Op.store 27 (Operand.tmp 3) (Operand.tmp 48), type := 0, pos := "ref.go:170", after := #[{ on := 0, ground := Ground.data }, { on := 2, ground := Ground.chain }, { on := 0, ground := Ground.phase }, { on := 1, ground := Ground.textOnly Departure.lateStores }, { on := 2, ground := Ground.phase }], guard := none }) rfl (fun K hK => ?_) AllReadyH.nil
  obtain ⟨z3, e3⟩ := hHeld.b.a3
  refine step_arrG 27 32 size27 w.heap.size z3 e3 (by rfl) _ _ rfl w0 _ rfl rfl rfl ?_
  intro W3 hA3 hT3
  refine hK.out _ _ ?_ (fun hHeld => ?_)
  · exact hHeld.put3 hM.out hA3.out hT3.out
  clear hK K
  try simp only [Act.put]
  refine wpAnyH_ready (rs := [4]) (by kernel_rfl) (by simp) ?_
  refine AllReadyH.cons (o := { dst := none, op := Op.store 28 (Operand.tmp 4) (Operand.tmp 49), type := 0, pos := "ref.go:170", after := #[{ on := 1, ground := Ground.data }, { on := 3, ground := Ground.chain }, { on := 0, ground := Ground.phase }, { on := 1, ground := Ground.phase }, { on := 2, ground := Ground.phase }, { on := 3, ground := Ground.phase }], guard := none }) rfl (fun K hK => ?_) AllReadyH.nil
  obtain ⟨z4, e4⟩ := hHeld.b.a4
  refine step_arrG 28 5 size28 (w.heap.size + 1) z4 e4 (by rfl) _ _ rfl w0 _ rfl rfl rfl ?_
  intro W4 hA4 hT4
  have HL4 := hA4.out.told 28 _ Tryd.underlying28 rfl size28
  have HL3 := (hA3.out.toua hT4.out (by omega)).told 27 _ Tryd.underlying27 rfl size27
  refine hK.out _ _ ?_ (fun hHeld => ?_)
  · exact hHeld.put4 hM.out hA4.out hT4.out
  clear hK K
  try simp only [Act.put]
  refine wpAnyH_take (i := 5) (oi := { dst := some 5, op := Op.assign (Operand.const (Value.int IntKind.i64 0)), type := 3, pos := "ref.go:170", after := #[{ on := 4, ground := Ground.chain }, { on := 0, ground := Ground.phase }, { on := 1, ground := Ground.phase }, { on := 2, ground := Ground.phase }, { on := 3, ground := Ground.phase }, { on := 4, ground := Ground.phase }], guard := none }) (v := ?_) rfl (by kernel_rfl) (by kernel_rfl) (by kernel_rfl) (fun _ _ _ h => h) (Or.inl ⟨by rfl, ?_⟩) hHeld ?_
  rotate_left
  · intro w hSw
    go_simp
    try with_reducible rfl
  try simp only [Act.put, List.setIfInBounds_toArray, List.set_cons_zero, List.set_cons_succ]
  refine wpAnyH_take (i := 6) (oi := { dst := some 6, op := Op.assign (Operand.const (Value.bool false)), type := 4, pos := "ref.go:170", after := #[{ on := 5, ground := Ground.chain }, { on := 0, ground := Ground.phase }, { on := 1, ground := Ground.phase }, { on := 2, ground := Ground.phase }, { on := 3, ground := Ground.phase }, { on := 4, ground := Ground.phase }, { on := 5, ground := Ground.phase }], guard := none }) (v := ?_) rfl (by kernel_rfl) (by kernel_rfl) (by kernel_rfl) (fun _ _ _ h => h) (Or.inl ⟨by rfl, ?_⟩) hHeld ?_
  rotate_left
  · intro w hSw
    go_simp
    try with_reducible rfl
  try simp only [Act.put, List.setIfInBounds_toArray, List.set_cons_zero, List.set_cons_succ]
  refine wpAnyH_done (by kernel_rfl) ?_ _
  refine NoPanic.normal ?_
  have SN := hHeld.b.now
  go_wp2_with fail
  refine bodyPost_ret (v := .tuple #[.int .u32 0, .agg (wn w0 32).toArray, .agg (wn w0 5).toArray, .int .i64 0, .bool false]) (by simp [results, Tryd.results17, asAddr, HL3, HL4]) rfl ⟨rfl, SN⟩
end Go.Proofs.YtfhijdnbhbonpaaDoor.Walks
