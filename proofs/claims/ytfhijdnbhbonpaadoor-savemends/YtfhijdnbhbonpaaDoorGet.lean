/- Contract of get: a copy's words, and can it be read. -/
import Derived.Test.YtfhijdnbhbonpaaDoorSNew
import Derived.Deep.RegionHeld3
namespace Go.Proofs.YtfhijdnbhbonpaaDoor.Walks
open Go.ChangeShapes Go.WideShapes Go.ChangeAt Go.RowKit
set_option linter.unusedVariables false
theorem nat2 (s : Nat) : (s == 2) = ((s : Int) == 2) := by
  by_cases e : s = 2
  · subst e; rfl
  · rw [beq_eq_false_iff_ne.2 e, eq_comm, beq_eq_false_iff_ne]; omega
/-- what has been got so far -/
def pk (ws : Nat → Nat) (q k i : Nat) : Nat := if i < k then gtV ws q i else 0
theorem pk_zero (ws : Nat → Nat) (q i : Nat) : w0 i = pk ws q 0 i := by unfold pk w0; rw [if_neg (by omega)]
theorem pk_next (ws : Nat → Nat) (q k x : Nat) (hx : gtV ws q k = x) (i : Nat) : upd (pk ws q k) k x i = pk ws q (k + 1) i := by
  by_cases e : i = k
  · subst e; rw [upd_at, ← hx]; unfold pk; rw [if_pos (by omega)]
  · rw [upd_off _ _ _ _ e]; unfold pk
    by_cases h : i < k
    · rw [if_pos h, if_pos (by omega)]
    · rw [if_neg h, if_neg (by omega)]
theorem pk_all (ws : Nat → Nat) (q i : Nat) (h : i < 39) : pk ws q 39 i = gtV ws q i := by unfold pk; rw [if_pos h]
/-- while get goes on: the result's box, its own copy, the store -/
structure GtAt (w : World) (M b d : Nat) (ws : Nat → Nat) (f nx q k : Nat) (wr : World) : Prop where
  now : SNow M b d (gtK ws q k) (gtKF ws q f k) nx w wr
  a0 : ArrAt w.heap.size 39 w0 wr
  a1 : ArrAt (w.heap.size + 1) 39 (pk ws q k) wr
  sz : w.heap.size + 2 ≤ wr.heap.size
theorem GtAt.start {M b d f nx q : Nat} {ws : Nat → Nat} {w : World} (h : SAt M b d ws f nx w) : GtAt w M b d ws f nx q 0 ((w.alloc (.cells z39 54)).alloc (.cells z39 54)) := by
  have s : (w.alloc (.cells z39 54)).heap.size = w.heap.size + 1 := by simp
  have a := ArrAt.zero39 (w.alloc (.cells z39 54)) 54
  rw [s] at a
  have n1 := h.alloc (.cells z39 54)
  exact ⟨n1.trans (n1.1.alloc _), (ArrAt.zero39 w 54).frb (FrB.alloc _ _) (by omega), a.congr (fun i _ => pk_zero ws q i), by simp⟩
theorem GtAt.step {w wr w' : World} {M b d f nx q k : Nat} {ws : Nat → Nat} (h : GtAt w M b d ws f nx q k wr) (hS : SAt M b d ws f nx w) (n : SNow M b d (gtK ws q (k + 1)) (gtKF ws q f (k + 1)) nx wr w') (hk : k < 39) (x : Nat) (hx : gtV ws q k = x) :
    GtAt w M b d ws f nx q (k + 1) (w'.setCell ⟨w.heap.size + 1, k, none⟩ (.int .u32 (x : Int))) := by
  have hM := hS.hM
  have hb := hS.hb
  have hd := hS.hd
  have sz := h.sz
  have t := TouA.set (w.heap.size + 1) k w' (.int .u32 (x : Int))
  have b0 := h.a0.tub n.2 (by omega) (by omega) (by omega) (by omega)
  have b1 := h.a1.tub n.2 (by omega) (by omega) (by omega) (by omega)
  have m := h.now.trans n
  refine ⟨⟨m.1.arr t (by omega) (by omega) (by omega) (by omega), ?_⟩, b0.of_block (t.block _ (by omega)), (b1.put k x hk).congr (fun i _ => pk_next ws q k x hx i), ?_⟩
  · exact m.2.trans (Tub.of_frb (FrB.toua t (by omega)) _ _ _)
  · have := n.2.size
    rw [t.size]; omega
theorem if_no {c : Bool} {p q : Prop} (h : c = false) (hq : q) : (if c = true then p else q) := by
  rw [h]; simpa using hq
/-- a whole array of n words is stored: as one step of a region that draws -/
theorem step_arrG (T : TypeId) (n : Nat) (hT : (Tryd.prog.info? T).map (·.size) = some n) {ops : Array Oper} {o : Oper} {a : Act} {W : World} {K : Act → World → Prop} {Q : Exit → Act → World → Prop} {E : Prop} (A : Nat) (zs : Nat → Nat) (H : ArrAt A n zs W) (hgd : o.guard = none) (x y : Operand) (ho : o.op = .store T x y) (f : Nat → Nat) (Y : Array Value) (hY : Y = (wn f n).toArray)
    (hx : a.eval x = .pointer (some ⟨A, 0, none⟩)) (hy : a.eval y = .agg Y) (h : ∀ W', Hid (ArrAt A n f W') → Hid (TouA A W W') → K (a.put o.dst undef) W') :
    if Region.wanted o (yielded ops a.tmps) = true then Oper.wp Tryd.prog o a W K Q else E := by
  have hw : Region.wanted o (yielded ops a.tmps) = true := by simp [Region.wanted, hgd]
  rw [if_pos hw]
  subst hY
  refine wp_store_mid T x y ho A 0 _ hx hy (by rw [wn_size]; exact H.there) (by rw [wn_size]; exact hT) (all_oneCell_toArray (wn_one f n)) ?_
  exact h _ (H.stored f) (TouA.sets A _ 0 W)
/-- behind the loop: the copy p, the result's box -/
structure GtB (w : World) (M b d : Nat) (ws : Nat → Nat) (f nx : Nat) (p : Nat → Nat) (wr : World) : Prop where
  now : SNow M b d ws f nx w wr
  a0 : ∃ zs, ArrAt w.heap.size 39 zs wr
  a1 : ArrAt (w.heap.size + 1) 39 p wr
theorem GtB.put {w wr w' : World} {M b d f nx : Nat} {ws p q : Nat → Nat} (h : GtB w M b d ws f nx p wr) (hM : w.heap.size ≠ M) (hb : w.heap.size ≠ b) (hd : w.heap.size ≠ d) (h0 : 0 < w.heap.size) (a : ArrAt w.heap.size 39 q w') (t : TouA w.heap.size wr w') : GtB w M b d ws f nx p w' :=
  ⟨⟨h.now.1.arr t hM hb hd h0, h.now.2.trans (Tub.of_frb (FrB.toua t (Nat.le_refl _)) _ _ _)⟩, ⟨_, a⟩, h.a1.of_block (t.block _ (by omega))⟩
theorem GtAt.drew {w wr : World} {M b d f nx q : Nat} {ws p : Nat → Nat} {W' : Nat → Nat} {F' : Nat} (h : GtAt w M b d ws f nx q 39 wr) (hW : gtK ws q 39 = W') (hF : gtKF ws q f 39 = F') (hp : pk ws q 39 = p) : GtB w M b d W' F' nx p wr.drew := by
  subst hW hF hp
  have a : wr.drew.Alike wr := ⟨rfl, rfl, rfl⟩
  exact ⟨h.now.trans (h.now.1.alike a), ⟨_, h.a0.alike a⟩, h.a1.alike a⟩
set_option maxRecDepth 100000 in
set_option maxHeartbeats 1000000 in
theorem get_core (M b d f nx o : Nat) (ws : Nat → Nat) (x : Int) (X : Hid ((o : Int) = x)) (ho : (o : Int) ≤ 1) (g : Bool) (G : Hid (gok ws (39 * o) = g)) (W' : Nat → Nat) (F' : Nat) (Ls : List Value) (HW : Hid (gtK ws (39 * o) 39 = W')) (HF : Hid (gtKF ws (39 * o) f 39 = F')) (HLs : Hid (wn (gtV ws (39 * o)) 39 = Ls)) (hf : (f : Int) < 4611686018427387000) (w : World) (hS : Hid (SAt M b d ws f nx w)) :
    Calls Tryd.prog 28 #[.pointer (some ⟨M, 0, none⟩), .int .i64 x] w fun e w' => e = .returned (.tuple #[.agg Ls.toArray, .bool g]) ∧ SNow M b d W' F' nx w w' := by
  have S2 := hideP (GtAt.start (q := 39 * o) hS.out)
  obtain rfl := X.out
  go_enter Tryd.func28, Tryd.ntmps28
  go_wp2_with fail
  generalize ((w.alloc (.cells z39 54)).alloc (.cells z39 54)) = w2 at *
  go_loopw [11, 7] (fun t t7 wr => ∃ (k : Nat) (bd : Bool), (k : Int) ≤ 39 ∧ t = .int .i64 k ∧ t7 = .bool bd ∧ Hid (gtBad ws (39 * o) k = bd) ∧ Hid (GtAt w M b d ws f nx (39 * o) k wr)) (fun t _ _ => 39 - (intOf t).toNat)
  case atStart => exact ⟨0, false, by decide, rfl, rfl, rfl, S2⟩
  case round =>
    obtain ⟨k, bd, hk, rfl, rfl, HB, HA⟩ := hrel
    rename_i wr
    clear S2
    by_cases hlt : (k : Int) < 39
    · have hr := HA.out.now.1.mem.hr
      have HI : Hid ((o : Int) * 39 + k = ((39 * o + k : Nat) : Int)) := by unfold Hid; omega
      have L := hideP HA.out.now.1.laid
      have R := hideP HA.out.now.1.mem.row
      obtain ⟨x, HX⟩ : ∃ x : Nat, Hid (gtV ws (39 * o) k = x) := ⟨_, rfl⟩
      obtain ⟨s, HS⟩ : ∃ s : Nat, Hid (Num.mendS (ws (39 * o + k)) = s) := ⟨_, rfl⟩
      have PX : Hid (((pkV 79 (gtK ws (39 * o) k) ((o : Int) * 39 + k) : Nat) : Int) = (x : Int)) := by unfold Hid; rw [HI.out, gtK_V _ _ _ (by omega), HX.out]
      have PS : Hid (((pkS 79 (gtK ws (39 * o) k) ((o : Int) * 39 + k) : Nat) : Int) = (s : Int)) := by unfold Hid; rw [HI.out, gtK_S _ _ _ (by omega), HS.out]
      have hfk : ((gtKF ws (39 * o) f k : Nat) : Int) < 4611686018427387904 := by have := gtKF_le ws (39 * o) f k; omega
      obtain ⟨nb, NB⟩ : ∃ nb : Bool, Hid (((s : Int) == 2) = nb) := ⟨_, rfl⟩
      have nb' := NB.out
      have HB' : Hid (gtBad ws (39 * o) (k + 1) = (bd || nb)) := by
        unfold Hid
        show (gtBad ws (39 * o) k || Num.mendS (ws (39 * o + k)) == 2) = _
        rw [HB.out, HS.out, ← NB.out, nat2]
      cases bd
      all_goals
        go_wp2_with fail
        refine (get_as b d 79 _ _ _ (x : Int) (s : Int) PX PS (by decide) hfk _ L R).mono ?_; rintro e w2 ⟨rfl, hN⟩
        have A2 : Hid (SNow M b d (gtK ws (39 * o) (k + 1)) (gtKF ws (39 * o) f (k + 1)) nx wr w2) := by
          have := HA.out.now.1.now hN
          rw [HI.out] at this
          exact this
        have A3 := hideP (HA.out.step hS.out A2.out (by omega) x HX.out)
        have hc := hideP ((HA.out.a1.tub A2.out.2 (by have := HA.out.sz; omega) (by have := hS.out.hM; omega) (by have := hS.out.hb; omega) (by have := hS.out.hd; omega)))
        have hck := hc.out.hw k (by omega)
        have zck := hc.out.zw k (by omega)
        clear hN
        go_wp2_with fail
        exact ⟨⟨k + 1, _, by omega, by rw [Int.natCast_add]; rfl, rfl, HB', A3⟩, by simp [intOf]; omega⟩
    · have e : k = 39 := by omega
      subst e
      obtain ⟨p, HP⟩ : ∃ p, Hid (pk ws (39 * o) 39 = p) := ⟨_, rfl⟩
      obtain ⟨a, HA38⟩ : ∃ a : Nat, Hid (p 38 = a) := ⟨_, rfl⟩
      obtain ⟨z, HZ37⟩ : ∃ z : Nat, Hid (p 37 = z) := ⟨_, rfl⟩
      obtain ⟨m, HM⟩ : ∃ m : Int, Hid (((mk z : Nat) : Int) = m) := ⟨_, rfl⟩
      have HZ : Hid (z < 4294967296) := by unfold Hid; rw [← HZ37.out, ← HP.out, pk_all _ _ _ (by decide)]; exact gtV_lt _ _ _
      have HR : Hid (wn p 39 = Ls) := by
        unfold Hid
        rw [← HP.out, ← HLs.out]
        exact wn_congr _ _ _ fun i hi => pk_all _ _ _ hi
      have SB := hideP (HA.out.drew HW.out HF.out HP.out)
      cases bd
      · have E : ((a : Int) == m) = g := by
          rw [← G.out]
          unfold gok
          rw [HB.out, Bool.not_false, Bool.true_and, ← pk_all ws (39 * o) 38 (by decide), ← pk_all ws (39 * o) 37 (by decide), HP.out, HA38.out, HZ37.out, ← HM.out]
          by_cases e : a = mk z
          · rw [e]; simp
          · rw [beq_eq_false_iff_ne.2 e, beq_eq_false_iff_ne]; omega
        clear HA HB HW HF HLs HP G hlt hk
        go_wp2_with fail
        refine wp_region_noPanic ?_
        refine wp_region_held_drew (S := fun w' => GtB w M b d W' F' nx p w') (by kernel_rfl) ?_ (fun hHeld => ?_)
        · exact SB.out
        refine wpAnyH_take (i := 0) (oi := { dst := some 35, op := Op.load 54 (Operand.tmp 6), type := 54, pos := "save.go:113", after := #[], guard := none }) (v := _) rfl (by kernel_rfl) (by kernel_rfl) (by kernel_rfl) (fun _ _ _ h => h) (yieldsIf_load_mid (by rfl) 54 _ rfl (w.heap.size + 1) 0 rfl (wn p 39) _ (fun w hSw => hSw.a1.range) Tryd.underlying54 rfl (by rw [wn_len]; exact size54)) hHeld ?_
        try simp only [Act.put, List.setIfInBounds_toArray, List.set_cons_zero, List.set_cons_succ]
        refine wpAnyH_take (i := 1) (oi := { dst := some 36, op := Op.move (Operand.tmp 7), type := 4, pos := "save.go:113", after := #[], guard := none }) (v := ?_) rfl (by kernel_rfl) (by kernel_rfl) (by kernel_rfl) (fun _ _ _ h => h) (Or.inl ⟨by rfl, ?_⟩) hHeld ?_
        rotate_left
        · intro w hSw
          go_simp
          try with_reducible rfl
        try simp only [Act.put, List.setIfInBounds_toArray, List.set_cons_zero, List.set_cons_succ]
        refine wpAnyH_take (i := 2) (oi := { dst := some 37, op := Op.unOp UnOp.not 4 (Operand.tmp 36), type := 4, pos := "save.go:113", after := #[{ on := 1, ground := Ground.data }], guard := none }) (v := ?_) rfl (by kernel_rfl) (by kernel_rfl) (by kernel_rfl) (fun _ _ _ h => h) (Or.inl ⟨by rfl, ?_⟩) hHeld ?_
        rotate_left
        · intro w hSw
          go_simp
          try with_reducible rfl
        try simp only [Act.put, List.setIfInBounds_toArray, List.set_cons_zero, List.set_cons_succ]
        refine wpAnyH_take (i := 3) (oi := { dst := some 38, op := Op.move (Operand.tmp 37), type := 4, pos := "save.go:113", after := #[{ on := 2, ground := Ground.data }], guard := none }) (v := ?_) rfl (by kernel_rfl) (by kernel_rfl) (by kernel_rfl) (fun _ _ _ h => h) (Or.inl ⟨by rfl, ?_⟩) hHeld ?_
        rotate_left
        · intro w hSw
          go_simp
          try with_reducible rfl
        try simp only [Act.put, List.setIfInBounds_toArray, List.set_cons_zero, List.set_cons_succ]
        refine wpAnyH_take (i := 4) (oi := { dst := some 39, op := Op.indexAddr 54 (Operand.tmp 6) (Operand.const (Value.int IntKind.i64 38)), type := 0, pos := "save.go:113", after := #[{ on := 3, ground := Ground.guard }, { on := 11, ground := Ground.gcOnly Departure.lateStores }], guard := some (3, true) }) (v := ?_) rfl (by kernel_rfl) (by kernel_rfl) (by kernel_rfl) (fun _ _ _ h => h) (Or.inl ⟨by rfl, ?_⟩) hHeld ?_
        rotate_left
        · intro w hSw
          go_simp
          try with_reducible rfl
        try simp only [Act.put, List.setIfInBounds_toArray, List.set_cons_zero, List.set_cons_succ]
        refine wpAnyH_take (i := 5) (oi := { dst := some 40, op := Op.load 26 (Operand.tmp 39), type := 26, pos := "save.go:113", after := #[{ on := 4, ground := Ground.data }, { on := 3, ground := Ground.guard }, { on := 11, ground := Ground.gcOnly Departure.lateStores }], guard := some (3, true) }) (v := ?_) rfl (by kernel_rfl) (by kernel_rfl) (by kernel_rfl) (fun _ _ _ h => h) (Or.inl ⟨by rfl, ?_⟩) hHeld ?_
        rotate_left
        · intro w hSw
          have c := hSw.a1.hw 38 (by decide)
          rw [HA38.out] at c
          go_simp
          try with_reducible rfl
        try simp only [Act.put, List.setIfInBounds_toArray, List.set_cons_zero, List.set_cons_succ]
        refine wpAnyH_take (i := 6) (oi := { dst := some 41, op := Op.indexAddr 54 (Operand.tmp 6) (Operand.const (Value.int IntKind.i64 37)), type := 0, pos := "save.go:113", after := #[{ on := 3, ground := Ground.guard }], guard := some (3, true) }) (v := ?_) rfl (by kernel_rfl) (by kernel_rfl) (by kernel_rfl) (fun _ _ _ h => h) (Or.inl ⟨by rfl, ?_⟩) hHeld ?_
        rotate_left
        · intro w hSw
          go_simp
          try with_reducible rfl
        try simp only [Act.put, List.setIfInBounds_toArray, List.set_cons_zero, List.set_cons_succ]
        refine wpAnyH_take (i := 7) (oi := { dst := some 42, op := Op.load 26 (Operand.tmp 41), type := 26, pos := "save.go:113", after := #[{ on := 6, ground := Ground.data }, { on := 3, ground := Ground.guard }], guard := some (3, true) }) (v := ?_) rfl (by kernel_rfl) (by kernel_rfl) (by kernel_rfl) (fun _ _ _ h => h) (Or.inl ⟨by rfl, ?_⟩) hHeld ?_
        rotate_left
        · intro w hSw
          have c := hSw.a1.hw 37 (by decide)
          rw [HZ37.out] at c
          go_simp
          try with_reducible rfl
        try simp only [Act.put, List.setIfInBounds_toArray, List.set_cons_zero, List.set_cons_succ]
        refine wpAnyH_ready (rs := [8]) (by kernel_rfl) (by simp) ?_
        refine AllReadyH.cons (o := { dst := some 43, op := Op.call { callee := Callee.value (Operand.func 39), args := #[Operand.tmp 42], argTypes := #[26] }, type := 26, pos := "save.go:113", after := #[{ on := 7, ground := Ground.data }, { on := 3, ground := Ground.chain }, { on := 3, ground := Ground.guard }], guard := some (3, true) }) rfl (fun K hK => ?_) AllReadyH.nil
        go_simp
        refine (mark_as z _ HM HZ _).mono ?_; rintro e w' ⟨rfl, rfl⟩
        go_wp2_with fail
        refine hK.out _ _ ?_ (fun hHeld => ?_)
        · exact hHeld
        clear hK K
        try simp only [Act.put, List.setIfInBounds_toArray, List.set_cons_zero, List.set_cons_succ]
        refine wpAnyH_take (i := 9) (oi := { dst := some 44, op := Op.binOp BinOp.eql 26 (Operand.tmp 40) (Operand.tmp 43) 26, type := 4, pos := "save.go:113", after := #[{ on := 5, ground := Ground.data }, { on := 8, ground := Ground.data }, { on := 3, ground := Ground.guard }, { on := 11, ground := Ground.gcOnly Departure.lateStores }], guard := some (3, true) }) (v := ?_) rfl (by kernel_rfl) (by kernel_rfl) (by kernel_rfl) (fun _ _ _ h => h) (Or.inl ⟨by rfl, ?_⟩) hHeld ?_
        rotate_left
        · intro w hSw
          go_simp
          try with_reducible rfl
        try simp only [Act.put, List.setIfInBounds_toArray, List.set_cons_zero, List.set_cons_succ]
        refine wpAnyH_take (i := 10) (oi := { dst := some 45, op := Op.pick (Operand.tmp 38) (Operand.tmp 44) (Operand.const (Value.bool false)), type := 4, pos := "save.go:113", after := #[{ on := 3, ground := Ground.data }, { on := 9, ground := Ground.data }, { on := 11, ground := Ground.gcOnly Departure.lateStores }], guard := none }) (v := ?_) rfl (by kernel_rfl) (by kernel_rfl) (by kernel_rfl) (fun _ _ _ h => h) (Or.inl ⟨by rfl, ?_⟩) hHeld ?_
        rotate_left
        · intro w hSw
          go_simp
          try with_reducible rfl
        try simp only [Act.put, List.setIfInBounds_toArray, List.set_cons_zero, List.set_cons_succ]
        refine wpAnyH_ready (rs := [11]) (by kernel_rfl) (by simp) ?_
        refine AllReadyH.cons (o := { dst := none, op := Op.store 54 (Operand.tmp 4) (Operand.tmp 35), type := 0, pos := "save.go:113", after := #[{ on := 0, ground := Ground.data }, { on := 8, ground := Ground.chain }, { on := 0, ground := Ground.phase }, { on := 1, ground := Ground.textOnly Departure.lateStores }, { on := 2, ground := Ground.textOnly Departure.lateStores }, { on := 3, ground := Ground.textOnly Departure.lateStores }, { on := 4, ground := Ground.textOnly Departure.lateStores }, { on := 5, ground := Ground.textOnly Departure.lateStores }, { on := 6, ground := Ground.textOnly Departure.lateStores }, { on := 7, ground := Ground.textOnly Departure.lateStores }, { on := 8, ground := Ground.textOnly Departure.lateStoresUnsure }, { on := 9, ground := Ground.textOnly Departure.lateStores }, { on := 10, ground := Ground.textOnly Departure.lateStores }], guard := none }) rfl (fun K hK => ?_) AllReadyH.nil
        obtain ⟨zs, hzs⟩ := hHeld.a0
        refine step_arrG 54 39 size54 w.heap.size zs hzs (by rfl) _ _ rfl p _ rfl rfl rfl ?_
        intro W' hA hT
        have HL := hA.out.told 54 _ Tryd.underlying54 rfl size54
        refine hK.out _ _ ?_ (fun hHeld => ?_)
        · exact hHeld.put (Nat.ne_of_gt hS.out.hM) (Nat.ne_of_gt hS.out.hb) (Nat.ne_of_gt hS.out.hd) (Nat.lt_of_le_of_lt (Nat.zero_le _) hS.out.hM) hA.out hT.out
        clear hK K
        try simp only [Act.put]
        refine wpAnyH_take (i := 12) (oi := { dst := some 5, op := Op.assign (Operand.tmp 45), type := 4, pos := "save.go:113", after := #[{ on := 10, ground := Ground.data }, { on := 11, ground := Ground.chain }, { on := 0, ground := Ground.phase }, { on := 1, ground := Ground.phase }, { on := 2, ground := Ground.phase }, { on := 3, ground := Ground.phase }, { on := 4, ground := Ground.phase }, { on := 5, ground := Ground.phase }, { on := 6, ground := Ground.phase }, { on := 7, ground := Ground.phase }, { on := 8, ground := Ground.phase }, { on := 9, ground := Ground.phase }, { on := 10, ground := Ground.phase }, { on := 11, ground := Ground.phase }], guard := none }) (v := ?_) rfl (by kernel_rfl) (by kernel_rfl) (by kernel_rfl) (fun _ _ _ h => h) (Or.inl ⟨by rfl, ?_⟩) hHeld ?_
        rotate_left
        · intro w hSw
          go_simp
          try with_reducible rfl
        try simp only [Act.put, List.setIfInBounds_toArray, List.set_cons_zero, List.set_cons_succ]
        refine wpAnyH_done (by kernel_rfl) ?_ _
        refine NoPanic.normal ?_
        have SN := hHeld.now
        go_wp2_with fail
        refine bodyPost_ret (v := .tuple #[.agg (wn p 39).toArray, .bool g]) (by simp [results, Tryd.results28, asAddr, HL]) rfl ⟨?_, SN⟩
        rw [HR.out]
      · have E : g = false := by
          rw [← G.out]
          unfold gok
          rw [HB.out]
          rfl
        subst E
        clear HA HB HW HF HLs HP G hlt hk
        go_wp2_with fail
        refine wp_region_noPanic ?_
        refine wp_region_held_drew (S := fun w' => GtB w M b d W' F' nx p w') (by kernel_rfl) ?_ (fun hHeld => ?_)
        · exact SB.out
        refine wpAnyH_take (i := 0) (oi := { dst := some 35, op := Op.load 54 (Operand.tmp 6), type := 54, pos := "save.go:113", after := #[], guard := none }) (v := _) rfl (by kernel_rfl) (by kernel_rfl) (by kernel_rfl) (fun _ _ _ h => h) (yieldsIf_load_mid (by rfl) 54 _ rfl (w.heap.size + 1) 0 rfl (wn p 39) _ (fun w hSw => hSw.a1.range) Tryd.underlying54 rfl (by rw [wn_len]; exact size54)) hHeld ?_
        try simp only [Act.put, List.setIfInBounds_toArray, List.set_cons_zero, List.set_cons_succ]
        refine wpAnyH_take (i := 1) (oi := { dst := some 36, op := Op.move (Operand.tmp 7), type := 4, pos := "save.go:113", after := #[], guard := none }) (v := ?_) rfl (by kernel_rfl) (by kernel_rfl) (by kernel_rfl) (fun _ _ _ h => h) (Or.inl ⟨by rfl, ?_⟩) hHeld ?_
        rotate_left
        · intro w hSw
          go_simp
          try with_reducible rfl
        try simp only [Act.put, List.setIfInBounds_toArray, List.set_cons_zero, List.set_cons_succ]
        refine wpAnyH_take (i := 2) (oi := { dst := some 37, op := Op.unOp UnOp.not 4 (Operand.tmp 36), type := 4, pos := "save.go:113", after := #[{ on := 1, ground := Ground.data }], guard := none }) (v := ?_) rfl (by kernel_rfl) (by kernel_rfl) (by kernel_rfl) (fun _ _ _ h => h) (Or.inl ⟨by rfl, ?_⟩) hHeld ?_
        rotate_left
        · intro w hSw
          go_simp
          try with_reducible rfl
        try simp only [Act.put, List.setIfInBounds_toArray, List.set_cons_zero, List.set_cons_succ]
        refine wpAnyH_take (i := 3) (oi := { dst := some 38, op := Op.move (Operand.tmp 37), type := 4, pos := "save.go:113", after := #[{ on := 2, ground := Ground.data }], guard := none }) (v := ?_) rfl (by kernel_rfl) (by kernel_rfl) (by kernel_rfl) (fun _ _ _ h => h) (Or.inl ⟨by rfl, ?_⟩) hHeld ?_
        rotate_left
        · intro w hSw
          go_simp
          try with_reducible rfl
        try simp only [Act.put, List.setIfInBounds_toArray, List.set_cons_zero, List.set_cons_succ]
        refine wpAnyH_take (i := 4) (oi := { dst := some 39, op := Op.indexAddr 54 (Operand.tmp 6) (Operand.const (Value.int IntKind.i64 38)), type := 0, pos := "save.go:113", after := #[{ on := 3, ground := Ground.guard }, { on := 11, ground := Ground.gcOnly Departure.lateStores }], guard := some (3, true) }) (v := undef) rfl (by kernel_rfl) (by kernel_rfl) (by kernel_rfl) (fun _ _ _ h => h) (Or.inr ⟨by rfl, rfl⟩) hHeld ?_
        try simp only [Act.put, List.setIfInBounds_toArray, List.set_cons_zero, List.set_cons_succ]
        refine wpAnyH_take (i := 5) (oi := { dst := some 40, op := Op.load 26 (Operand.tmp 39), type := 26, pos := "save.go:113", after := #[{ on := 4, ground := Ground.data }, { on := 3, ground := Ground.guard }, { on := 11, ground := Ground.gcOnly Departure.lateStores }], guard := some (3, true) }) (v := undef) rfl (by kernel_rfl) (by kernel_rfl) (by kernel_rfl) (fun _ _ _ h => h) (Or.inr ⟨by rfl, rfl⟩) hHeld ?_
        try simp only [Act.put, List.setIfInBounds_toArray, List.set_cons_zero, List.set_cons_succ]
        refine wpAnyH_take (i := 6) (oi := { dst := some 41, op := Op.indexAddr 54 (Operand.tmp 6) (Operand.const (Value.int IntKind.i64 37)), type := 0, pos := "save.go:113", after := #[{ on := 3, ground := Ground.guard }], guard := some (3, true) }) (v := undef) rfl (by kernel_rfl) (by kernel_rfl) (by kernel_rfl) (fun _ _ _ h => h) (Or.inr ⟨by rfl, rfl⟩) hHeld ?_
        try simp only [Act.put, List.setIfInBounds_toArray, List.set_cons_zero, List.set_cons_succ]
        refine wpAnyH_take (i := 7) (oi := { dst := some 42, op := Op.load 26 (Operand.tmp 41), type := 26, pos := "save.go:113", after := #[{ on := 6, ground := Ground.data }, { on := 3, ground := Ground.guard }], guard := some (3, true) }) (v := undef) rfl (by kernel_rfl) (by kernel_rfl) (by kernel_rfl) (fun _ _ _ h => h) (Or.inr ⟨by rfl, rfl⟩) hHeld ?_
        try simp only [Act.put, List.setIfInBounds_toArray, List.set_cons_zero, List.set_cons_succ]
        refine wpAnyH_ready (rs := [8]) (by kernel_rfl) (by simp) ?_
        refine AllReadyH.cons (o := { dst := some 43, op := Op.call { callee := Callee.value (Operand.func 39), args := #[Operand.tmp 42], argTypes := #[26] }, type := 26, pos := "save.go:113", after := #[{ on := 7, ground := Ground.data }, { on := 3, ground := Ground.chain }, { on := 3, ground := Ground.guard }], guard := some (3, true) }) rfl (fun K hK => ?_) AllReadyH.nil
        refine if_no (by rfl) ?_
        refine hK.out _ _ hHeld (fun hHeld => ?_)
        clear hK K
        try simp only [Act.put, List.setIfInBounds_toArray, List.set_cons_zero, List.set_cons_succ]
        refine wpAnyH_take (i := 9) (oi := { dst := some 44, op := Op.binOp BinOp.eql 26 (Operand.tmp 40) (Operand.tmp 43) 26, type := 4, pos := "save.go:113", after := #[{ on := 5, ground := Ground.data }, { on := 8, ground := Ground.data }, { on := 3, ground := Ground.guard }, { on := 11, ground := Ground.gcOnly Departure.lateStores }], guard := some (3, true) }) (v := undef) rfl (by kernel_rfl) (by kernel_rfl) (by kernel_rfl) (fun _ _ _ h => h) (Or.inr ⟨by rfl, rfl⟩) hHeld ?_
        try simp only [Act.put, List.setIfInBounds_toArray, List.set_cons_zero, List.set_cons_succ]
        refine wpAnyH_take (i := 10) (oi := { dst := some 45, op := Op.pick (Operand.tmp 38) (Operand.tmp 44) (Operand.const (Value.bool false)), type := 4, pos := "save.go:113", after := #[{ on := 3, ground := Ground.data }, { on := 9, ground := Ground.data }, { on := 11, ground := Ground.gcOnly Departure.lateStores }], guard := none }) (v := ?_) rfl (by kernel_rfl) (by kernel_rfl) (by kernel_rfl) (fun _ _ _ h => h) (Or.inl ⟨by rfl, ?_⟩) hHeld ?_
        rotate_left
        · intro w hSw
          go_simp
          try with_reducible rfl
        try simp only [Act.put, List.setIfInBounds_toArray, List.set_cons_zero, List.set_cons_succ]
        refine wpAnyH_ready (rs := [11]) (by kernel_rfl) (by simp) ?_
        refine AllReadyH.cons (o := { dst := none, op := Op.store 54 (Operand.tmp 4) (Operand.tmp 35), type := 0, pos := "save.go:113", after := #[{ on := 0, ground := Ground.data }, { on := 8, ground := Ground.chain }, { on := 0, ground := Ground.phase }, { on := 1, ground := Ground.textOnly Departure.lateStores }, { on := 2, ground := Ground.textOnly Departure.lateStores }, { on := 3, ground := Ground.textOnly Departure.lateStores }, { on := 4, ground := Ground.textOnly Departure.lateStores }, { on := 5, ground := Ground.textOnly Departure.lateStores }, { on := 6, ground := Ground.textOnly Departure.lateStores }, { on := 7, ground := Ground.textOnly Departure.lateStores }, { on := 8, ground := Ground.textOnly Departure.lateStoresUnsure }, { on := 9, ground := Ground.textOnly Departure.lateStores }, { on := 10, ground := Ground.textOnly Departure.lateStores }], guard := none }) rfl (fun K hK => ?_) AllReadyH.nil
        obtain ⟨zs, hzs⟩ := hHeld.a0
        refine step_arrG 54 39 size54 w.heap.size zs hzs (by rfl) _ _ rfl p _ rfl rfl rfl ?_
        intro W' hA hT
        have HL := hA.out.told 54 _ Tryd.underlying54 rfl size54
        refine hK.out _ _ ?_ (fun hHeld => ?_)
        · exact hHeld.put (Nat.ne_of_gt hS.out.hM) (Nat.ne_of_gt hS.out.hb) (Nat.ne_of_gt hS.out.hd) (Nat.lt_of_le_of_lt (Nat.zero_le _) hS.out.hM) hA.out hT.out
        clear hK K
        try simp only [Act.put]
        refine wpAnyH_take (i := 12) (oi := { dst := some 5, op := Op.assign (Operand.tmp 45), type := 4, pos := "save.go:113", after := #[{ on := 10, ground := Ground.data }, { on := 11, ground := Ground.chain }, { on := 0, ground := Ground.phase }, { on := 1, ground := Ground.phase }, { on := 2, ground := Ground.phase }, { on := 3, ground := Ground.phase }, { on := 4, ground := Ground.phase }, { on := 5, ground := Ground.phase }, { on := 6, ground := Ground.phase }, { on := 7, ground := Ground.phase }, { on := 8, ground := Ground.phase }, { on := 9, ground := Ground.phase }, { on := 10, ground := Ground.phase }, { on := 11, ground := Ground.phase }], guard := none }) (v := ?_) rfl (by kernel_rfl) (by kernel_rfl) (by kernel_rfl) (fun _ _ _ h => h) (Or.inl ⟨by rfl, ?_⟩) hHeld ?_
        rotate_left
        · intro w hSw
          go_simp
          try with_reducible rfl
        try simp only [Act.put, List.setIfInBounds_toArray, List.set_cons_zero, List.set_cons_succ]
        refine wpAnyH_done (by kernel_rfl) ?_ _
        refine NoPanic.normal ?_
        have SN := hHeld.now
        go_wp2_with fail
        refine bodyPost_ret (v := .tuple #[.agg (wn p 39).toArray, .bool false]) (by simp [results, Tryd.results28, asAddr, HL]) rfl ⟨?_, SN⟩
        rw [HR.out]
theorem get_as' (M b d f nx o : Nat) (ws : Nat → Nat) (x : Int) (X : Hid ((o : Int) = x)) (ho : (o : Int) ≤ 1) (hf : (f : Int) < 4611686018427387000) (w : World) (hS : Hid (SAt M b d ws f nx w)) :
    Calls Tryd.prog 28 #[.pointer (some ⟨M, 0, none⟩), .int .i64 x] w fun e w' => e = .returned (.tuple #[.agg (wn (gtV ws (39 * o)) 39).toArray, .bool (gok ws (39 * o))]) ∧ SNow M b d (gtK ws (39 * o) 39) (gtKF ws (39 * o) f 39) nx w w' :=
  get_core M b d f nx o ws x X ho _ (hideP rfl) _ _ _ (hideP rfl) (hideP rfl) (hideP rfl) hf w hS
end Go.Proofs.YtfhijdnbhbonpaaDoor.Walks
