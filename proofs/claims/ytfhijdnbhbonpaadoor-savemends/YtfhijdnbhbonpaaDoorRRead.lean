/- Contract of the document's own read. -/
import Derived.Test.YtfhijdnbhbonpaaDoorRSav
import Derived.Test.YtfhijdnbhbonpaaDoorGet
namespace Go.Proofs.YtfhijdnbhbonpaaDoor.Walks
open Go.ChangeShapes Go.WideShapes Go.ChangeAt Go.RowKit
set_option linter.unusedVariables false
theorem owns_tub {w w' : World} {B M b d n : Nat} {v : Value} {xs : List Value} (h : w.ownsRow B 26 1 v n xs) (t : Tub w.heap.size M b d w w') (hM : M < B) (hb : b < B) (hd : d < B) : w'.ownsRow B 26 1 v n xs := by
  refine ⟨h.1, ?_⟩
  rcases h.2 with h' | ⟨g, cap, cur, e1, e2, e3, e4⟩
  · exact .inl h'
  · have l := h.lt g (by rw [e1]; rfl)
    exact .inr ⟨g, cap, cur, e1, e2, by rw [t.block g l.2 (by omega) (by omega) (by omega)]; exact e3, e4⟩
theorem wn_snoc (p : Nat → Nat) (k x : Nat) (h : p k = x) : wn p k ++ [.int .u32 ((x : Nat) : Int)] = wn p (k + 1) := by
  subst h
  exact (wn_app p k 1).symm
/-- what the document's read tells -/
def RdTold (M b d : Nat) (ws : Nat → Nat) (f nx : Nat) (p : Nat → Nat) (g : Bool) (w : World) (e : Ending) (w' : World) : Prop :=
  (∃ A c, e = .returned (.tuple #[.slice (some ⟨A, 0, none⟩) 39 c, .bool g]) ∧ Lie A 0 39 p w' ∧ w.heap.size ≤ A ∧ A < w'.heap.size) ∧ SNow M b d ws f nx w w'
/-- behind the loop: the store, the row -/
structure RdB (M b d : Nat) (ws : Nat → Nat) (f nx : Nat) (p : Nat → Nat) (A : Nat) (w : World) (wr : World) : Prop where
  now : SNow M b d ws f nx w wr
  lie : Lie A 0 39 p wr
  lo : w.heap.size ≤ A
  hi : A < wr.heap.size
theorem RdB.drew {M b d f nx A : Nat} {ws p : Nat → Nat} {w wr : World} (h : RdB M b d ws f nx p A w wr) : RdB M b d ws f nx p A w wr.drew :=
  ⟨h.now.trans (h.now.1.alike ⟨rfl, rfl, rfl⟩), h.lie, h.lo, h.hi⟩
theorem Lie.at {A k : Nat} {p : Nat → Nat} {w : World} (h : Lie A 0 k p w) (i : Nat) (hi : i < k) : w.cell? ⟨A, i, none⟩ = some (.int .u32 ((p i : Nat) : Int)) := by
  have := h i hi; rwa [Nat.zero_add] at this
set_option maxRecDepth 100000 in
set_option maxHeartbeats 1000000 in
theorem rread_core (M b d f nx o : Nat) (ws : Nat → Nat) (x : Int) (X : Hid ((o : Int) = x)) (ho : (o : Int) ≤ 1) (g : Bool) (G : Hid (gok ws (39 * o) = g)) (W' : Nat → Nat) (F' : Nat) (p : Nat → Nat) (HW : Hid (gtK ws (39 * o) 39 = W')) (HF : Hid (gtKF ws (39 * o) f 39 = F')) (HP : Hid (gtV ws (39 * o) = p)) (hf : (f : Int) < 4611686018427387000) (w : World) (hS : Hid (SAt M b d ws f nx w)) :
    Calls Tryd.prog 35 #[.pointer (some ⟨M, 0, none⟩), .int .i64 x] w fun e w' => RdTold M b d W' F' nx p g w e w' := by
  obtain ⟨i0, hi, hz0, hz1, hz2⟩ := info_parts info23
  have hM : Hid (M < w.heap.size ∧ b < w.heap.size ∧ d < w.heap.size) := ⟨hS.out.hM, hS.out.hb, hS.out.hd⟩
  have S0 : Hid (SNow M b d (gtK ws (39 * o) 0) (gtKF ws (39 * o) f 0) nx w w) := SNow.refl hS.out
  obtain rfl := X.out
  go_enter Tryd.func35, Tryd.ntmps35
  go_wp2_with fail
  go_loopw [8, 7, 6] (fun t t7 v wr => ∃ (k : Nat) (bd : Bool), (k : Int) ≤ 39 ∧ t = .int .i64 k ∧ t7 = .bool (!bd) ∧ Hid (gtBad ws (39 * o) k = bd) ∧ Hid (wr.ownsRow w.heap.size 26 1 v k (wn p k)) ∧ Hid (SNow M b d (gtK ws (39 * o) k) (gtKF ws (39 * o) f k) nx w wr)) (fun t _ _ _ => 39 - (intOf t).toNat)
  case atStart => exact ⟨0, false, by decide, rfl, rfl, rfl, World.ownsRow_nil _ _ _ _, S0⟩
  case round =>
    obtain ⟨k, bd, hk, rfl, rfl, HB, HO, HA⟩ := hrel
    rename_i wr
    clear S0
    by_cases hlt : (k : Int) < 39
    · have hr := HA.out.1.mem.hr
      have HI : Hid (39 * (o : Int) + k = ((39 * o + k : Nat) : Int)) := by unfold Hid; omega
      have R := hideP HA.out.1.mem.row
      have W1 : IntKind.i64.wrap (39 * (o : Int)) = 39 * (o : Int) := by rw [IntKind.wrap_i64]; omega
      have W2 : IntKind.i64.wrap (39 * (o : Int) + k) = 39 * (o : Int) + k := by rw [IntKind.wrap_i64]; omega
      obtain ⟨x, HX⟩ : ∃ x : Nat, Hid (gtV ws (39 * o) k = x) := ⟨_, rfl⟩
      obtain ⟨s, HS⟩ : ∃ s : Nat, Hid (Num.mendS (ws (39 * o + k)) = s) := ⟨_, rfl⟩
      have PX : Hid (((pkV 79 (gtK ws (39 * o) k) (39 * (o : Int) + k) : Nat) : Int) = (x : Int)) := by unfold Hid; rw [HI.out, gtK_V _ _ _ (by omega), HX.out]
      have PS : Hid (((pkS 79 (gtK ws (39 * o) k) (39 * (o : Int) + k) : Nat) : Int) = (s : Int)) := by unfold Hid; rw [HI.out, gtK_S _ _ _ (by omega), HS.out]
      have hfk : ((gtKF ws (39 * o) f k : Nat) : Int) ≤ 4611686018427387903 := by have := gtKF_le ws (39 * o) f k; omega
      obtain ⟨nb, NB⟩ : ∃ nb : Bool, Hid (((s : Int) == 2) = nb) := ⟨_, rfl⟩
      have nb' := NB.out
      have HB' : Hid (gtBad ws (39 * o) (k + 1) = (bd || nb)) := by
        unfold Hid
        show (gtBad ws (39 * o) k || Num.mendS (ws (39 * o + k)) == 2) = _
        rw [HB.out, HS.out, ← NB.out, nat2]
      have HX' : Hid (p k = x) := by unfold Hid; rw [← HP.out]; exact HX.out
      have C3 : Hid (k + 1 ≤ maxLen) := by unfold Hid maxLen; omega
      have C4 : Hid ((k + 1) * 4 ≤ 140737488355328) := by unfold Hid; omega
      cases bd
      all_goals
        go_wp2_with fail
        refine (refget_as b d 79 _ _ _ (x : Int) (s : Int) PX PS (by decide) hfk _ R).mono ?_; rintro e w2 ⟨rfl, hN⟩
        have A2 : Hid (SNow M b d (gtK ws (39 * o) (k + 1)) (gtKF ws (39 * o) f (k + 1)) nx wr w2) := by
          have := HA.out.1.now hN
          rw [HI.out] at this
          exact this
        have A3 := hideP (HA.out.trans A2.out)
        have O2 := hideP (owns_tub HO.out A2.out.2 hM.out.1 hM.out.2.1 hM.out.2.2)
        have Z2 : Hid (w.heap.size ≤ w2.heap.size) := A3.out.2.size
        clear hN
        go_wp2_with (first
          | (at_builtin; refine wpList_append_own _ rfl _ _ 66 rfl w.heap.size 26 i0 (.int .u32 0) 1 4 Tryd.underlying66 hi hz0 hz1 hz2 rfl (by decide) _ k (wn p k) rfl (by exact O2.out.alloc _) ⟨w2.heap.size, 0, none⟩ 1 1 [.int .u32 (x : Int)] rfl rfl (by exact news_one _ _) (one_one _ _) C3.out C4.out (by have := Z2.out; simp; omega) ?_))
        intro v3 w3 hown hgrow _
        have O3 : Hid (w3.ownsRow w.heap.size 26 1 v3 (k + 1) (wn p (k + 1))) := by
          unfold Hid
          rw [← wn_snoc p k x HX'.out]
          exact hown
        have F3 : Hid (FrB w.heap.size w2 w3) := ((FrB.alloc w2 _).mono Z2.out).trans (FrB.grown hgrow (by have := Z2.out; simp; omega) (fun k hk => (O2.out.lt k hk).1))
        have A4 : Hid (SNow M b d (gtK ws (39 * o) (k + 1)) (gtKF ws (39 * o) f (k + 1)) nx w w3) := ⟨A3.out.1.frb F3.out hM.out.1 hM.out.2.1 hM.out.2.2, A3.out.2.trans (Tub.of_frb F3.out _ _ _)⟩
        clear hown hgrow
        go_wp2_with fail
        refine ⟨⟨k + 1, _, by omega, by rw [Int.natCast_add]; rfl, ?_, HB', O3, A4⟩, by simp [intOf]; omega⟩
        first
          | (simp; done)
          | simp only [Bool.false_or, bne, nb']
    · have e : k = 39 := by omega
      subst e
      obtain ⟨A, c, rfl, hA1, hA2⟩ := owned_slice HO.out (by decide)
      have RB : Hid (RdB M b d W' F' nx p A w wr) := ⟨by rw [← HW.out, ← HF.out]; exact HA.out, lie_owned HO.out, hA1, hA2⟩
      obtain ⟨a, HA38⟩ : ∃ a : Nat, Hid (p 38 = a) := ⟨_, rfl⟩
      obtain ⟨z, HZ37⟩ : ∃ z : Nat, Hid (p 37 = z) := ⟨_, rfl⟩
      obtain ⟨m, HM⟩ : ∃ m : Int, Hid (((mk z : Nat) : Int) = m) := ⟨_, rfl⟩
      have HZ : Hid (z < 4294967296) := by unfold Hid; rw [← HZ37.out, ← HP.out]; exact gtV_lt _ _ _
      clear hA1 hA2
      cases bd
      · have E : ((a : Int) == m) = g := by
          rw [← G.out]
          unfold gok
          rw [HB.out, Bool.not_false, Bool.true_and, HP.out, HA38.out, HZ37.out, ← HM.out]
          by_cases e : a = mk z
          · rw [e]; simp
          · rw [beq_eq_false_iff_ne.2 e, beq_eq_false_iff_ne]; omega
        clear HA HB HW HF HP HO G hlt hk
        go_wp2_with fail
        refine wp_region_noPanic ?_
        refine wp_region_held_drew (S := fun w' => RdB M b d W' F' nx p A w w') (by kernel_rfl) ?_ (fun hHeld => ?_)
        · exact RB.out.drew
        refine wpAnyH_take (i := 0) (oi := { dst := some 36, op := Op.move (Operand.tmp 6), type := 66, pos := "ref.go:158", after := #[], guard := none }) (v := ?_) rfl (by kernel_rfl) (by kernel_rfl) (by kernel_rfl) (fun _ _ _ h => h) (Or.inl ⟨by rfl, ?_⟩) hHeld ?_
        rotate_left
        · intro w hSw
          go_simp
          try with_reducible rfl
        try simp only [Act.put, List.setIfInBounds_toArray, List.set_cons_zero, List.set_cons_succ]
        refine wpAnyH_take (i := 1) (oi := { dst := some 37, op := Op.move (Operand.tmp 7), type := 4, pos := "ref.go:158", after := #[], guard := none }) (v := ?_) rfl (by kernel_rfl) (by kernel_rfl) (by kernel_rfl) (fun _ _ _ h => h) (Or.inl ⟨by rfl, ?_⟩) hHeld ?_
        rotate_left
        · intro w hSw
          go_simp
          try with_reducible rfl
        try simp only [Act.put, List.setIfInBounds_toArray, List.set_cons_zero, List.set_cons_succ]
        refine wpAnyH_take (i := 2) (oi := { dst := some 38, op := Op.move (Operand.tmp 37), type := 4, pos := "ref.go:158", after := #[{ on := 1, ground := Ground.data }], guard := none }) (v := ?_) rfl (by kernel_rfl) (by kernel_rfl) (by kernel_rfl) (fun _ _ _ h => h) (Or.inl ⟨by rfl, ?_⟩) hHeld ?_
        rotate_left
        · intro w hSw
          go_simp
          try with_reducible rfl
        try simp only [Act.put, List.setIfInBounds_toArray, List.set_cons_zero, List.set_cons_succ]
        refine wpAnyH_take (i := 3) (oi := { dst := some 39, op := Op.move (Operand.tmp 6), type := 66, pos := "ref.go:158", after := #[{ on := 2, ground := Ground.guard }, { on := 12, ground := Ground.gcOnly Departure.lateStores }], guard := some (2, true) }) (v := ?_) rfl (by kernel_rfl) (by kernel_rfl) (by kernel_rfl) (fun _ _ _ h => h) (Or.inl ⟨by rfl, ?_⟩) hHeld ?_
        rotate_left
        · intro w hSw
          go_simp
          try with_reducible rfl
        try simp only [Act.put, List.setIfInBounds_toArray, List.set_cons_zero, List.set_cons_succ]
        refine wpAnyH_take (i := 4) (oi := { dst := some 40, op := Op.indexAddr 66 (Operand.tmp 39) (Operand.const (Value.int IntKind.i64 38)), type := 0, pos := "ref.go:158", after := #[{ on := 3, ground := Ground.data }, { on := 2, ground := Ground.guard }, { on := 12, ground := Ground.gcOnly Departure.lateStores }], guard := some (2, true) }) (v := ?_) rfl (by kernel_rfl) (by kernel_rfl) (by kernel_rfl) (fun _ _ _ h => h) (Or.inl ⟨by rfl, ?_⟩) hHeld ?_
        rotate_left
        · intro w hSw
          go_simp
          try with_reducible rfl
        try simp only [Act.put, List.setIfInBounds_toArray, List.set_cons_zero, List.set_cons_succ]
        refine wpAnyH_take (i := 5) (oi := { dst := some 41, op := Op.load 26 (Operand.tmp 40), type := 26, pos := "ref.go:158", after := #[{ on := 4, ground := Ground.data }, { on := 2, ground := Ground.guard }, { on := 12, ground := Ground.gcOnly Departure.lateStores }], guard := some (2, true) }) (v := ?_) rfl (by kernel_rfl) (by kernel_rfl) (by kernel_rfl) (fun _ _ _ h => h) (Or.inl ⟨by rfl, ?_⟩) hHeld ?_
        rotate_left
        · intro w hSw
          have c := hSw.lie.at 38 (by decide)
          rw [HA38.out] at c
          go_simp
          try with_reducible rfl
        try simp only [Act.put, List.setIfInBounds_toArray, List.set_cons_zero, List.set_cons_succ]
        refine wpAnyH_take (i := 6) (oi := { dst := some 42, op := Op.move (Operand.tmp 6), type := 66, pos := "ref.go:158", after := #[{ on := 2, ground := Ground.guard }], guard := some (2, true) }) (v := ?_) rfl (by kernel_rfl) (by kernel_rfl) (by kernel_rfl) (fun _ _ _ h => h) (Or.inl ⟨by rfl, ?_⟩) hHeld ?_
        rotate_left
        · intro w hSw
          go_simp
          try with_reducible rfl
        try simp only [Act.put, List.setIfInBounds_toArray, List.set_cons_zero, List.set_cons_succ]
        refine wpAnyH_take (i := 7) (oi := { dst := some 43, op := Op.indexAddr 66 (Operand.tmp 42) (Operand.const (Value.int IntKind.i64 37)), type := 0, pos := "ref.go:158", after := #[{ on := 6, ground := Ground.data }, { on := 2, ground := Ground.guard }], guard := some (2, true) }) (v := ?_) rfl (by kernel_rfl) (by kernel_rfl) (by kernel_rfl) (fun _ _ _ h => h) (Or.inl ⟨by rfl, ?_⟩) hHeld ?_
        rotate_left
        · intro w hSw
          go_simp
          try with_reducible rfl
        try simp only [Act.put, List.setIfInBounds_toArray, List.set_cons_zero, List.set_cons_succ]
        refine wpAnyH_take (i := 8) (oi := { dst := some 44, op := Op.load 26 (Operand.tmp 43), type := 26, pos := "ref.go:158", after := #[{ on := 7, ground := Ground.data }, { on := 2, ground := Ground.guard }], guard := some (2, true) }) (v := ?_) rfl (by kernel_rfl) (by kernel_rfl) (by kernel_rfl) (fun _ _ _ h => h) (Or.inl ⟨by rfl, ?_⟩) hHeld ?_
        rotate_left
        · intro w hSw
          have c := hSw.lie.at 37 (by decide)
          rw [HZ37.out] at c
          go_simp
          try with_reducible rfl
        try simp only [Act.put, List.setIfInBounds_toArray, List.set_cons_zero, List.set_cons_succ]
        refine wpAnyH_ready (rs := [9]) (by kernel_rfl) (by simp) ?_
        refine AllReadyH.cons (o := { dst := some 45, op := Op.call { callee := Callee.value (Operand.func 42), args := #[Operand.tmp 44], argTypes := #[26] }, type := 26, pos := "ref.go:158", after := #[{ on := 8, ground := Ground.data }, { on := 2, ground := Ground.chain }, { on := 2, ground := Ground.guard }], guard := some (2, true) }) rfl (fun K hK => ?_) AllReadyH.nil
        go_simp
        refine (rmark_as z _ HM HZ _).mono ?_; rintro e w' ⟨rfl, rfl⟩
        go_wp2_with fail
        refine hK.out _ _ ?_ (fun hHeld => ?_)
        · exact hHeld
        clear hK K
        try simp only [Act.put, List.setIfInBounds_toArray, List.set_cons_zero, List.set_cons_succ]
        refine wpAnyH_take (i := 10) (oi := { dst := some 46, op := Op.binOp BinOp.eql 26 (Operand.tmp 41) (Operand.tmp 45) 26, type := 4, pos := "ref.go:158", after := #[{ on := 5, ground := Ground.data }, { on := 9, ground := Ground.data }, { on := 2, ground := Ground.guard }, { on := 12, ground := Ground.gcOnly Departure.lateStores }], guard := some (2, true) }) (v := ?_) rfl (by kernel_rfl) (by kernel_rfl) (by kernel_rfl) (fun _ _ _ h => h) (Or.inl ⟨by rfl, ?_⟩) hHeld ?_
        rotate_left
        · intro w hSw
          go_simp
          try with_reducible rfl
        try simp only [Act.put, List.setIfInBounds_toArray, List.set_cons_zero, List.set_cons_succ]
        refine wpAnyH_take (i := 11) (oi := { dst := some 47, op := Op.pick (Operand.tmp 38) (Operand.tmp 46) (Operand.const (Value.bool false)), type := 4, pos := "ref.go:158", after := #[{ on := 2, ground := Ground.data }, { on := 10, ground := Ground.data }, { on := 12, ground := Ground.gcOnly Departure.lateStores }], guard := none }) (v := ?_) rfl (by kernel_rfl) (by kernel_rfl) (by kernel_rfl) (fun _ _ _ h => h) (Or.inl ⟨by rfl, ?_⟩) hHeld ?_
        rotate_left
        · intro w hSw
          go_simp
          try with_reducible rfl
        try simp only [Act.put, List.setIfInBounds_toArray, List.set_cons_zero, List.set_cons_succ]
        refine wpAnyH_take (i := 12) (oi := { dst := some 4, op := Op.assign (Operand.tmp 36), type := 66, pos := "ref.go:158", after := #[{ on := 0, ground := Ground.data }, { on := 9, ground := Ground.chain }, { on := 0, ground := Ground.phase }, { on := 1, ground := Ground.textOnly Departure.lateStores }, { on := 2, ground := Ground.textOnly Departure.lateStores }, { on := 3, ground := Ground.textOnly Departure.lateStores }, { on := 4, ground := Ground.textOnly Departure.lateStores }, { on := 5, ground := Ground.textOnly Departure.lateStores }, { on := 6, ground := Ground.textOnly Departure.lateStores }, { on := 7, ground := Ground.textOnly Departure.lateStores }, { on := 8, ground := Ground.textOnly Departure.lateStores }, { on := 9, ground := Ground.textOnly Departure.lateStoresUnsure }, { on := 10, ground := Ground.textOnly Departure.lateStores }, { on := 11, ground := Ground.textOnly Departure.lateStores }], guard := none }) (v := ?_) rfl (by kernel_rfl) (by kernel_rfl) (by kernel_rfl) (fun _ _ _ h => h) (Or.inl ⟨by rfl, ?_⟩) hHeld ?_
        rotate_left
        · intro w hSw
          go_simp
          try with_reducible rfl
        try simp only [Act.put, List.setIfInBounds_toArray, List.set_cons_zero, List.set_cons_succ]
        refine wpAnyH_take (i := 13) (oi := { dst := some 5, op := Op.assign (Operand.tmp 47), type := 4, pos := "ref.go:158", after := #[{ on := 11, ground := Ground.data }, { on := 12, ground := Ground.chain }, { on := 0, ground := Ground.phase }, { on := 1, ground := Ground.phase }, { on := 2, ground := Ground.phase }, { on := 3, ground := Ground.phase }, { on := 4, ground := Ground.phase }, { on := 5, ground := Ground.phase }, { on := 6, ground := Ground.phase }, { on := 7, ground := Ground.phase }, { on := 8, ground := Ground.phase }, { on := 9, ground := Ground.phase }, { on := 10, ground := Ground.phase }, { on := 11, ground := Ground.phase }, { on := 12, ground := Ground.phase }], guard := none }) (v := ?_) rfl (by kernel_rfl) (by kernel_rfl) (by kernel_rfl) (fun _ _ _ h => h) (Or.inl ⟨by rfl, ?_⟩) hHeld ?_
        rotate_left
        · intro w hSw
          go_simp
          try with_reducible rfl
        try simp only [Act.put, List.setIfInBounds_toArray, List.set_cons_zero, List.set_cons_succ]
        refine wpAnyH_done (by kernel_rfl) ?_ _
        refine NoPanic.normal ?_
        have RN := hHeld
        go_wp2_with fail
        refine bodyPost_ret (v := .tuple #[.slice (some ⟨A, 0, none⟩) 39 c, .bool g]) (by simp [results, Tryd.results35, asAddr]) rfl ?_
        exact ⟨⟨A, c, rfl, RN.lie, RN.lo, RN.hi⟩, RN.now⟩
      · have E : g = false := by
          rw [← G.out]
          unfold gok
          rw [HB.out]
          rfl
        subst E
        clear HA HB HW HF HP HO G hlt hk
        go_wp2_with fail
        refine wp_region_noPanic ?_
        refine wp_region_held_drew (S := fun w' => RdB M b d W' F' nx p A w w') (by kernel_rfl) ?_ (fun hHeld => ?_)
        · exact RB.out.drew
        refine wpAnyH_take (i := 0) (oi := { dst := some 36, op := Op.move (Operand.tmp 6), type := 66, pos := "ref.go:158", after := #[], guard := none }) (v := ?_) rfl (by kernel_rfl) (by kernel_rfl) (by kernel_rfl) (fun _ _ _ h => h) (Or.inl ⟨by rfl, ?_⟩) hHeld ?_
        rotate_left
        · intro w hSw
          go_simp
          try with_reducible rfl
        try simp only [Act.put, List.setIfInBounds_toArray, List.set_cons_zero, List.set_cons_succ]
        refine wpAnyH_take (i := 1) (oi := { dst := some 37, op := Op.move (Operand.tmp 7), type := 4, pos := "ref.go:158", after := #[], guard := none }) (v := ?_) rfl (by kernel_rfl) (by kernel_rfl) (by kernel_rfl) (fun _ _ _ h => h) (Or.inl ⟨by rfl, ?_⟩) hHeld ?_
        rotate_left
        · intro w hSw
          go_simp
          try with_reducible rfl
        try simp only [Act.put, List.setIfInBounds_toArray, List.set_cons_zero, List.set_cons_succ]
        refine wpAnyH_take (i := 2) (oi := { dst := some 38, op := Op.move (Operand.tmp 37), type := 4, pos := "ref.go:158", after := #[{ on := 1, ground := Ground.data }], guard := none }) (v := ?_) rfl (by kernel_rfl) (by kernel_rfl) (by kernel_rfl) (fun _ _ _ h => h) (Or.inl ⟨by rfl, ?_⟩) hHeld ?_
        rotate_left
        · intro w hSw
          go_simp
          try with_reducible rfl
        try simp only [Act.put, List.setIfInBounds_toArray, List.set_cons_zero, List.set_cons_succ]
        refine wpAnyH_take (i := 3) (oi := { dst := some 39, op := Op.move (Operand.tmp 6), type := 66, pos := "ref.go:158", after := #[{ on := 2, ground := Ground.guard }, { on := 12, ground := Ground.gcOnly Departure.lateStores }], guard := some (2, true) }) (v := undef) rfl (by kernel_rfl) (by kernel_rfl) (by kernel_rfl) (fun _ _ _ h => h) (Or.inr ⟨by rfl, rfl⟩) hHeld ?_
        try simp only [Act.put, List.setIfInBounds_toArray, List.set_cons_zero, List.set_cons_succ]
        refine wpAnyH_take (i := 4) (oi := { dst := some 40, op := Op.indexAddr 66 (Operand.tmp 39) (Operand.const (Value.int IntKind.i64 38)), type := 0, pos := "ref.go:158", after := #[{ on := 3, ground := Ground.data }, { on := 2, ground := Ground.guard }, { on := 12, ground := Ground.gcOnly Departure.lateStores }], guard := some (2, true) }) (v := undef) rfl (by kernel_rfl) (by kernel_rfl) (by kernel_rfl) (fun _ _ _ h => h) (Or.inr ⟨by rfl, rfl⟩) hHeld ?_
        try simp only [Act.put, List.setIfInBounds_toArray, List.set_cons_zero, List.set_cons_succ]
        refine wpAnyH_take (i := 5) (oi := { dst := some 41, op := Op.load 26 (Operand.tmp 40), type := 26, pos := "ref.go:158", after := #[{ on := 4, ground := Ground.data }, { on := 2, ground := Ground.guard }, { on := 12, ground := Ground.gcOnly Departure.lateStores }], guard := some (2, true) }) (v := undef) rfl (by kernel_rfl) (by kernel_rfl) (by kernel_rfl) (fun _ _ _ h => h) (Or.inr ⟨by rfl, rfl⟩) hHeld ?_
        try simp only [Act.put, List.setIfInBounds_toArray, List.set_cons_zero, List.set_cons_succ]
        refine wpAnyH_take (i := 6) (oi := { dst := some 42, op := Op.move (Operand.tmp 6), type := 66, pos := "ref.go:158", after := #[{ on := 2, ground := Ground.guard }], guard := some (2, true) }) (v := undef) rfl (by kernel_rfl) (by kernel_rfl) (by kernel_rfl) (fun _ _ _ h => h) (Or.inr ⟨by rfl, rfl⟩) hHeld ?_
        try simp only [Act.put, List.setIfInBounds_toArray, List.set_cons_zero, List.set_cons_succ]
        refine wpAnyH_take (i := 7) (oi := { dst := some 43, op := Op.indexAddr 66 (Operand.tmp 42) (Operand.const (Value.int IntKind.i64 37)), type := 0, pos := "ref.go:158", after := #[{ on := 6, ground := Ground.data }, { on := 2, ground := Ground.guard }], guard := some (2, true) }) (v := undef) rfl (by kernel_rfl) (by kernel_rfl) (by kernel_rfl) (fun _ _ _ h => h) (Or.inr ⟨by rfl, rfl⟩) hHeld ?_
        try simp only [Act.put, List.setIfInBounds_toArray, List.set_cons_zero, List.set_cons_succ]
        refine wpAnyH_take (i := 8) (oi := { dst := some 44, op := Op.load 26 (Operand.tmp 43), type := 26, pos := "ref.go:158", after := #[{ on := 7, ground := Ground.data }, { on := 2, ground := Ground.guard }], guard := some (2, true) }) (v := undef) rfl (by kernel_rfl) (by kernel_rfl) (by kernel_rfl) (fun _ _ _ h => h) (Or.inr ⟨by rfl, rfl⟩) hHeld ?_
        try simp only [Act.put, List.setIfInBounds_toArray, List.set_cons_zero, List.set_cons_succ]
        refine wpAnyH_ready (rs := [9]) (by kernel_rfl) (by simp) ?_
        refine AllReadyH.cons (o := { dst := some 45, op := Op.call { callee := Callee.value (Operand.func 42), args := #[Operand.tmp 44], argTypes := #[26] }, type := 26, pos := "ref.go:158", after := #[{ on := 8, ground := Ground.data }, { on := 2, ground := Ground.chain }, { on := 2, ground := Ground.guard }], guard := some (2, true) }) rfl (fun K hK => ?_) AllReadyH.nil
        refine if_no (by rfl) ?_
        refine hK.out _ _ hHeld (fun hHeld => ?_)
        clear hK K
        try simp only [Act.put, List.setIfInBounds_toArray, List.set_cons_zero, List.set_cons_succ]
        refine wpAnyH_take (i := 10) (oi := { dst := some 46, op := Op.binOp BinOp.eql 26 (Operand.tmp 41) (Operand.tmp 45) 26, type := 4, pos := "ref.go:158", after := #[{ on := 5, ground := Ground.data }, { on := 9, ground := Ground.data }, { on := 2, ground := Ground.guard }, { on := 12, ground := Ground.gcOnly Departure.lateStores }], guard := some (2, true) }) (v := undef) rfl (by kernel_rfl) (by kernel_rfl) (by kernel_rfl) (fun _ _ _ h => h) (Or.inr ⟨by rfl, rfl⟩) hHeld ?_
        try simp only [Act.put, List.setIfInBounds_toArray, List.set_cons_zero, List.set_cons_succ]
        refine wpAnyH_take (i := 11) (oi := { dst := some 47, op := Op.pick (Operand.tmp 38) (Operand.tmp 46) (Operand.const (Value.bool false)), type := 4, pos := "ref.go:158", after := #[{ on := 2, ground := Ground.data }, { on := 10, ground := Ground.data }, { on := 12, ground := Ground.gcOnly Departure.lateStores }], guard := none }) (v := ?_) rfl (by kernel_rfl) (by kernel_rfl) (by kernel_rfl) (fun _ _ _ h => h) (Or.inl ⟨by rfl, ?_⟩) hHeld ?_
        rotate_left
        · intro w hSw
          go_simp
          try with_reducible rfl
        try simp only [Act.put, List.setIfInBounds_toArray, List.set_cons_zero, List.set_cons_succ]
        refine wpAnyH_take (i := 12) (oi := { dst := some 4, op := Op.assign (Operand.tmp 36), type := 66, pos := "ref.go:158", after := #[{ on := 0, ground := Ground.data }, { on := 9, ground := Ground.chain }, { on := 0, ground := Ground.phase }, { on := 1, ground := Ground.textOnly Departure.lateStores }, { on := 2, ground := Ground.textOnly Departure.lateStores }, { on := 3, ground := Ground.textOnly Departure.lateStores }, { on := 4, ground := Ground.textOnly Departure.lateStores }, { on := 5, ground := Ground.textOnly Departure.lateStores }, { on := 6, ground := Ground.textOnly Departure.lateStores }, { on := 7, ground := Ground.textOnly Departure.lateStores }, { on := 8, ground := Ground.textOnly Departure.lateStores }, { on := 9, ground := Ground.textOnly Departure.lateStoresUnsure }, { on := 10, ground := Ground.textOnly Departure.lateStores }, { on := 11, ground := Ground.textOnly Departure.lateStores }], guard := none }) (v := ?_) rfl (by kernel_rfl) (by kernel_rfl) (by kernel_rfl) (fun _ _ _ h => h) (Or.inl ⟨by rfl, ?_⟩) hHeld ?_
        rotate_left
        · intro w hSw
          go_simp
          try with_reducible rfl
        try simp only [Act.put, List.setIfInBounds_toArray, List.set_cons_zero, List.set_cons_succ]
        refine wpAnyH_take (i := 13) (oi := { dst := some 5, op := Op.assign (Operand.tmp 47), type := 4, pos := "ref.go:158", after := #[{ on := 11, ground := Ground.data }, { on := 12, ground := Ground.chain }, { on := 0, ground := Ground.phase }, { on := 1, ground := Ground.phase }, { on := 2, ground := Ground.phase }, { on := 3, ground := Ground.phase }, { on := 4, ground := Ground.phase }, { on := 5, ground := Ground.phase }, { on := 6, ground := Ground.phase }, { on := 7, ground := Ground.phase }, { on := 8, ground := Ground.phase }, { on := 9, ground := Ground.phase }, { on := 10, ground := Ground.phase }, { on := 11, ground := Ground.phase }, { on := 12, ground := Ground.phase }], guard := none }) (v := ?_) rfl (by kernel_rfl) (by kernel_rfl) (by kernel_rfl) (fun _ _ _ h => h) (Or.inl ⟨by rfl, ?_⟩) hHeld ?_
        rotate_left
        · intro w hSw
          go_simp
          try with_reducible rfl
        try simp only [Act.put, List.setIfInBounds_toArray, List.set_cons_zero, List.set_cons_succ]
        refine wpAnyH_done (by kernel_rfl) ?_ _
        refine NoPanic.normal ?_
        have RN := hHeld
        go_wp2_with fail
        refine bodyPost_ret (v := .tuple #[.slice (some ⟨A, 0, none⟩) 39 c, .bool false]) (by simp [results, Tryd.results35, asAddr]) rfl ?_
        exact ⟨⟨A, c, rfl, RN.lie, RN.lo, RN.hi⟩, RN.now⟩
end Go.Proofs.YtfhijdnbhbonpaaDoor.Walks
