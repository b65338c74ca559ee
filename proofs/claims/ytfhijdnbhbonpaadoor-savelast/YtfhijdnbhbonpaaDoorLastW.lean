/- The walk of SaveLast. -/
import Derived.Test.YtfhijdnbhbonpaaDoorAks
import Derived.Test.YtfhijdnbhbonpaaDoorKnow
namespace Go.Proofs.YtfhijdnbhbonpaaDoor.Walks
open Go.ChangeShapes Go.WideShapes Go.ChangeAt Go.RowKit
set_option linter.unusedVariables false
/-- the store holds the ask as its latest, all words are code words -/
def LastOk (a : Ak) (ws : Nat → Nat) : Prop := ∃ l q, l ≤ 1 ∧ Fine False allOk (hv l (pnt a.pc a.rs a.cs (num a.n)) q) ws
theorem num0 : num 0 = 0 := by unfold num; omega
theorem last_new : ∀ ws, Fine False allOk (hv 0 pz pz) ws → LastOk zAk ws := fun ws h => ⟨0, pz, by decide, by
  show Fine False allOk (hv 0 (pnt 0 w0 w0 (num 0)) pz) ws
  rw [num0]; exact h⟩
theorem last_save (a c : Ak) (hc : c.In) : ∀ ws, LastOk a ws → LastOk c (svW ws (pnt c.pc c.rs c.cs (num c.n))) := fun ws ⟨l, q, hl, h⟩ =>
  ⟨1 - l, _, by omega, Fine.save h hl fun i _ => pnt_lt2 hc.pc hc.rs hc.cs (Nat.lt_trans (num_lt _) (by decide)) i⟩
theorem last_load (a : Ak) (z : Nat) (hz : num a.n = z) : ∀ ws, LastOk a ws → TellL ws a.pc (upd a.rs 0 0) a.cs z true ∧ True := fun ws ⟨l, q, hl, h⟩ => ⟨by rw [← hz]; exact Fine.told_pnt h hl, trivial⟩
theorem last_scrub (a : Ak) (x : Nat) (hx : x < 79) : ∀ ws, LastOk a ws → ((pkS 79 ws (x : Int) : Nat) : Int) = 0 ∧ LastOk a (gtW 79 ws (x : Int)) := fun ws ⟨l, q, hl, h⟩ => by
  obtain ⟨e1, e2⟩ := h.gets x hx trivial
  rw [e1, e2]
  exact ⟨rfl, l, q, hl, h⟩
theorem SV.laid {Φ : (Nat → Nat) → Prop} {M b d F nx : Nat} {w : World} (h : SV Φ M b d F nx w) : Laid w := by
  obtain ⟨ws, f, _, _, s⟩ := h
  exact s.laid
theorem nxS_lt' (n : Nat) : nxS n < 79 := by unfold nxS; omega
theorem Two.low {C X A : Nat} {rr cc : Nat → Nat} {w w' : World} (h : Two C X rr cc w) (t : TouA A w w') (hA : A < X) : Two C X rr cc w' := ⟨h.a.toua t (by omega), h.c.toua t (by omega), h.lo, by rw [t.size]; exact h.hi⟩
set_option maxRecDepth 100000 in
set_option maxHeartbeats 2000000 in
theorem lasts (A : Option Addr) (len cap : Nat) (qs : Nat → Ak) (n : Int) (w : World) (hL : Hid (Laid w)) (hA : Hid (AksIn w A len qs)) :
    Calls Tryd.prog 6 #[.slice A len cap, .int .i64 n] w fun e w' => e = .returned (.bool true) ∧ FrB w.heap.size w w' := by
  go_enter Tryd.func6, Tryd.ntmps6
  go_wp2_with fail
  refine (snew_as _ hL).mono ?_; rintro e w1 ⟨M, b, d, rfl, hF⟩
  have F1 := hideP (SOne.lay hF hF.2.1.size)
  have Z0 := hideP (BxAt.zero40 w1 30)
  have F2 := hideP (F1.out.alloc (.cells z40 30))
  have X2 : Hid (w1.heap.size < (w1.alloc (.cells z40 30)).heap.size) := by unfold Hid; simp
  clear hF
  go_wp2_with (first
    | (refine wpList_box _ w1.heap.size zAk zAk Z0.out (by rfl) _ _ rfl _ z40_eq rfl rfl ?_; intro W1 hB hT; have F3 := hideP ((F2.out.arr hT.out (Nat.le_refl _)).weak last_new); have B3 := hideP hB.out; have X3 : Hid (w1.heap.size < W1.heap.size) := (by unfold Hid; rw [hT.out.size]; exact X2.out); clear hB hT))
  generalize w1.heap.size = C at *
  go_loopw [7] (fun t wr => ∃ (k : Nat) (c : Ak), (k : Int) ≤ len ∧ (k : Int) ≤ 20 ∧ t = .int .i64 k ∧ Hid (BxAt C c.l wr) ∧ Hid (C < wr.heap.size) ∧ Hid (SOne w.heap.size C M b d (LastOk c) k 0 w wr)) (fun t _ => 20 - (intOf t).toNat)
  case atStart => exact ⟨0, zAk, by omega, by decide, rfl, B3, X3, F3⟩
  case round =>
    obtain ⟨k, c, hk, hk2, rfl, HB, HW, HS⟩ := hrel
    rename_i wr
    clear B3 X3 F3 F2 F1 Z0 X2
    have HFK : Hid (k ≤ 20) := by unfold Hid; omega
    by_cases hlt : (k : Int) < len
    · by_cases hlt2 : (k : Int) < 20
      · obtain ⟨b0, o0, rfl, cb, c0, IN⟩ := hA.out k (by omega)
        have RA : Hid (wr.rangeAt b0 (o0 + k * 40) (qs k).l) := fun j u hu => by rw [HS.out.fr.cell _ _ cb]; exact c0 j u hu
        have NI := hideP IN
        clear cb c0 IN
        generalize qs k = q at *
        obtain ⟨kk, nn, pc, rs, cs⟩ := q
        go_wp2_with (first
          | (refine load_want (by rfl) 30 _ rfl b0 (o0 + k * 40) rfl (Ak.l ⟨kk, nn, pc, rs, cs⟩) _ RA.out Tryd.underlying30 rfl (by rw [Ak.len]; exact size30) ?_)
          | (refine wpList_box _ C c ⟨kk, nn, pc, rs, cs⟩ HB.out (by rfl) _ _ rfl _ rfl rfl rfl ?_; intro W1 hB hT; have P1 := hideP (HS.out.arr hT.out (Nat.le_refl _)); have BX := hideP hB.out; have XW : Hid (C < W1.heap.size) := (by unfold Hid; rw [hT.out.size]; exact HW.out); have y1 : W1.cell? ⟨C, 1, none⟩ = some (.int .i64 nn) := hB.out.cell rfl; have y2 : W1.cell? ⟨C, 2, none⟩ = some (.int .u32 (pc : Int)) := hB.out.cell rfl; have y3 : Hid (W1.rangeAt C 3 (wn rs 32)) := hB.out.words 3 32 rs (Ak.atR _); have y4 : Hid (W1.rangeAt C 35 (wn cs 5)) := hB.out.words 35 5 cs (Ak.atC _); clear hB hT)
          | (refine load_want (by rfl) 27 _ rfl C 3 rfl (wn rs 32) _ y3.out Tryd.underlying27 rfl (by rw [wn_len]; exact size27) ?_)
          | (refine load_want (by rfl) 28 _ rfl C 35 rfl (wn cs 5) _ y4.out Tryd.underlying28 rfl (by rw [wn_len]; exact size28) ?_))
        refine (v_save M b d k 0 pc (LastOk c) (LastOk ⟨kk, nn, pc, rs, cs⟩) rs cs nn _ _ rfl rfl _ rfl NI.out.pc NI.out.rs NI.out.cs (hideP (last_save c ⟨kk, nn, pc, rs, cs⟩ NI.out)) (by omega) _ (hideP P1.out.v)).mono ?_; rintro e w3 ⟨rfl, hN⟩
        have P3 := hideP (P1.out.now hN)
        have B3 := hideP (BX.out.of_block (P1.out.blk hN.2 (Nat.le_refl _) XW.out))
        have X3 := hideP (Nat.lt_of_lt_of_le XW.out hN.2.size)
        clear hN y1 y2
        go_wp2_with fail
        exact ⟨⟨k + 1, _, by omega, by omega, by rw [Int.natCast_add]; rfl, B3, X3, P3⟩, by simp [intOf]; omega⟩
      · go_wp2_with fail
        go_loopw [8] (fun t wr => ∃ (j F x : Nat), (j : Int) ≤ 170 ∧ t = .int .i64 j ∧ Hid (F ≤ 20 + j) ∧ Hid (x < 79) ∧ Hid (BxAt C c.l wr) ∧ Hid (C < wr.heap.size) ∧ Hid (SOne w.heap.size C M b d (LastOk c) F x w wr)) (fun t _ => 170 - (intOf t).toNat)
        case atStart => exact ⟨0, k, 0, by decide, rfl, HFK, (by unfold Hid; decide), HB, HW, HS⟩
        case round =>
          obtain ⟨j, F, x, hj, rfl, HF, HX, HB2, HW2, HS2⟩ := hrel
          rename_i wr2
          clear HB HW HS
          go_wp2_with fail
          refine (within_170 _ _).mono ?_; rintro e w' ⟨⟨r, rfl, r0, r1⟩, rfl⟩
          by_cases hjr : (j : Int) < r
          · go_wp2_with fail
            refine (v_scrub M b d F x (LastOk c) (LastOk c) 0 (by have := HX.out; omega) (hideP (last_scrub c x HX.out)) (by have := HF.out; omega) _ (hideP HS2.out.v)).mono ?_; rintro e w3 ⟨rfl, hN⟩
            have P3 := hideP (HS2.out.now hN)
            have B3 := hideP (HB2.out.of_block (HS2.out.blk hN.2 (Nat.le_refl _) HW2.out))
            have X3 := hideP (Nat.lt_of_lt_of_le HW2.out hN.2.size)
            clear hN
            go_wp2_with fail
            exact ⟨⟨j + 1, _, _, by omega, by rw [Int.natCast_add]; rfl, (by have := HF.out; unfold Hid; omega), nxS_lt' x, B3, X3, P3⟩, by simp [intOf]; omega⟩
          · obtain ⟨kk, nn, pc, rs, cs⟩ := c
            by_cases n0 : nn < 0
            · have hz : Hid (num nn = 0) := by unfold Hid num; omega
              have E3 : ∀ W, (binOp .eql 27 (.agg (wn (upd rs 0 0) 32).toArray) (.agg (wn (upd rs 0 0) 32).toArray)).run Tryd.prog W = .ok (.bool true) W := eql33 (upd rs 0 0)
              have E5 : ∀ W, (binOp .eql 28 (.agg (wn cs 5).toArray) (.agg (wn cs 5).toArray)).run Tryd.prog W = .ok (.bool true) W := eql5 cs
              go_wp2_with fail
              refine (v_load M b d F x (LastOk ⟨kk, nn, pc, rs, cs⟩) (fun _ => True) pc (upd rs 0 0) cs 0 true (hideP (last_load ⟨kk, nn, pc, rs, cs⟩ 0 hz.out)) (by have := HF.out; omega) _ (hideP HS2.out.v)).mono ?_; rintro e w3 ⟨rfl, hN⟩
              have P3 := hideP (HS2.out.now hN)
              have B3 := hideP (HB2.out.of_block (HS2.out.blk hN.2 (Nat.le_refl _) HW2.out))
              have X3 := hideP (Nat.lt_of_lt_of_le HW2.out hN.2.size)
              have T3 := hideP (Two.new w3 P3.out.cs)
              have P4 := hideP ((P3.out.alloc (.cells z32 27)).alloc (.cells z5 28))
              have B4 := hideP ((B3.out.of_block ((FrB.alloc w3 (.cells z32 27)).block _ X3.out)).of_block ((FrB.alloc (w3.alloc (.cells z32 27)) (.cells z5 28)).block _ (by have := X3.out; simp; omega)))
              clear hN
              go_wp2_with (first
                | (refine wpList_arrG 27 32 size27 _ w3.heap.size w0 T3.out.a (by rfl) _ _ rfl (upd rs 0 0) _ rfl rfl rfl ?_; intro W3 hA hT; have T4 := hideP (T3.out.put3 hA.out hT.out); have P5 := hideP (P4.out.arr hT.out T3.out.lo); have B5 := hideP (B4.out.of_block (hT.out.block _ (Nat.ne_of_lt X3.out))); clear hA hT)
                | (refine wpList_arrG 28 5 size28 _ (w3.heap.size + 1) w0 T4.out.c (by rfl) _ _ rfl cs _ rfl rfl rfl ?_; intro W4 hA hT; have T5 := hideP (T4.out.put5 hA.out hT.out); have P6 := hideP (P5.out.arr hT.out (Nat.le_succ_of_le T3.out.lo)); have B6 := hideP (B5.out.of_block (hT.out.block _ (Nat.ne_of_lt (Nat.lt_succ_of_lt X3.out)))); clear hA hT)
                | (refine wpList_cell26 _ C 3 ⟨kk, nn, pc, rs, cs⟩ ⟨kk, nn, pc, upd rs 0 0, cs⟩ B6.out (by decide) 0 (Ak.setR _ 0 0 (by decide)) (by rfl) _ _ rfl rfl _ rfl rfl ?_; intro W5 hB hT; have P7 := hideP (P6.out.arr hT.out (Nat.le_refl _)); have T6 := hideP (T5.out.low hT.out X3.out); have y1 : W5.cell? ⟨C, 1, none⟩ = some (.int .i64 nn) := hB.out.cell rfl; have y2 : W5.cell? ⟨C, 2, none⟩ = some (.int .u32 (pc : Int)) := hB.out.cell rfl; have y3 : Hid (W5.rangeAt C 3 (wn (upd rs 0 0) 32)) := hB.out.words 3 32 _ (Ak.atR _); have y4 : Hid (W5.rangeAt C 35 (wn cs 5)) := hB.out.words 35 5 cs (Ak.atC _); have R1 := hideP T6.out.rA; have R2 := hideP T6.out.rC; clear hB hT)
                | (refine load_want (by rfl) 27 _ rfl w3.heap.size 0 rfl (wn (upd rs 0 0) 32) _ R1.out Tryd.underlying27 rfl (by rw [wn_len]; exact size27) ?_)
                | (refine load_want (by rfl) 27 _ rfl C 3 rfl (wn (upd rs 0 0) 32) _ y3.out Tryd.underlying27 rfl (by rw [wn_len]; exact size27) ?_)
                | (refine load_want (by rfl) 28 _ rfl (w3.heap.size + 1) 0 rfl (wn cs 5) _ R2.out Tryd.underlying28 rfl (by rw [wn_len]; exact size28) ?_)
                | (refine load_want (by rfl) 28 _ rfl C 35 rfl (wn cs 5) _ y4.out Tryd.underlying28 rfl (by rw [wn_len]; exact size28) ?_))
              refine (known _ (hideP P7.out.v.laid)).mono ?_; rintro e w9 ⟨rfl, hF⟩
              have F9 := hideP (P7.out.fr.trans (hF.mono P7.out.fr.size))
              clear hF
              go_wp2_with fail
              go_ret
              exact ⟨rfl, F9.out⟩
            · by_cases n1 : nn ≤ 2147483647
              · obtain ⟨z, rfl⟩ : ∃ z : Nat, nn = (z : Int) := ⟨nn.toNat, by omega⟩
                have hz : Hid (num (z : Int) = z) := by unfold Hid num; omega
                have E3 : ∀ W, (binOp .eql 27 (.agg (wn (upd rs 0 0) 32).toArray) (.agg (wn (upd rs 0 0) 32).toArray)).run Tryd.prog W = .ok (.bool true) W := eql33 (upd rs 0 0)
                have E5 : ∀ W, (binOp .eql 28 (.agg (wn cs 5).toArray) (.agg (wn cs 5).toArray)).run Tryd.prog W = .ok (.bool true) W := eql5 cs
                go_wp2_with fail
                refine (v_load M b d F x (LastOk ⟨kk, (z : Int), pc, rs, cs⟩) (fun _ => True) pc (upd rs 0 0) cs z true (hideP (last_load ⟨kk, (z : Int), pc, rs, cs⟩ z hz.out)) (by have := HF.out; omega) _ (hideP HS2.out.v)).mono ?_; rintro e w3 ⟨rfl, hN⟩
                have P3 := hideP (HS2.out.now hN)
                have B3 := hideP (HB2.out.of_block (HS2.out.blk hN.2 (Nat.le_refl _) HW2.out))
                have X3 := hideP (Nat.lt_of_lt_of_le HW2.out hN.2.size)
                have T3 := hideP (Two.new w3 P3.out.cs)
                have P4 := hideP ((P3.out.alloc (.cells z32 27)).alloc (.cells z5 28))
                have B4 := hideP ((B3.out.of_block ((FrB.alloc w3 (.cells z32 27)).block _ X3.out)).of_block ((FrB.alloc (w3.alloc (.cells z32 27)) (.cells z5 28)).block _ (by have := X3.out; simp; omega)))
                clear hN
                go_wp2_with (first
                  | (refine wpList_arrG 27 32 size27 _ w3.heap.size w0 T3.out.a (by rfl) _ _ rfl (upd rs 0 0) _ rfl rfl rfl ?_; intro W3 hA hT; have T4 := hideP (T3.out.put3 hA.out hT.out); have P5 := hideP (P4.out.arr hT.out T3.out.lo); have B5 := hideP (B4.out.of_block (hT.out.block _ (Nat.ne_of_lt X3.out))); clear hA hT)
                  | (refine wpList_arrG 28 5 size28 _ (w3.heap.size + 1) w0 T4.out.c (by rfl) _ _ rfl cs _ rfl rfl rfl ?_; intro W4 hA hT; have T5 := hideP (T4.out.put5 hA.out hT.out); have P6 := hideP (P5.out.arr hT.out (Nat.le_succ_of_le T3.out.lo)); have B6 := hideP (B5.out.of_block (hT.out.block _ (Nat.ne_of_lt (Nat.lt_succ_of_lt X3.out)))); clear hA hT)
                  | (refine wpList_cell26 _ C 3 ⟨kk, (z : Int), pc, rs, cs⟩ ⟨kk, (z : Int), pc, upd rs 0 0, cs⟩ B6.out (by decide) 0 (Ak.setR _ 0 0 (by decide)) (by rfl) _ _ rfl rfl _ rfl rfl ?_; intro W5 hB hT; have P7 := hideP (P6.out.arr hT.out (Nat.le_refl _)); have T6 := hideP (T5.out.low hT.out X3.out); have y1 : W5.cell? ⟨C, 1, none⟩ = some (.int .i64 (z : Int)) := hB.out.cell rfl; have y2 : W5.cell? ⟨C, 2, none⟩ = some (.int .u32 (pc : Int)) := hB.out.cell rfl; have y3 : Hid (W5.rangeAt C 3 (wn (upd rs 0 0) 32)) := hB.out.words 3 32 _ (Ak.atR _); have y4 : Hid (W5.rangeAt C 35 (wn cs 5)) := hB.out.words 35 5 cs (Ak.atC _); have R1 := hideP T6.out.rA; have R2 := hideP T6.out.rC; clear hB hT)
                  | (refine load_want (by rfl) 27 _ rfl w3.heap.size 0 rfl (wn (upd rs 0 0) 32) _ R1.out Tryd.underlying27 rfl (by rw [wn_len]; exact size27) ?_)
                  | (refine load_want (by rfl) 27 _ rfl C 3 rfl (wn (upd rs 0 0) 32) _ y3.out Tryd.underlying27 rfl (by rw [wn_len]; exact size27) ?_)
                  | (refine load_want (by rfl) 28 _ rfl (w3.heap.size + 1) 0 rfl (wn cs 5) _ R2.out Tryd.underlying28 rfl (by rw [wn_len]; exact size28) ?_)
                  | (refine load_want (by rfl) 28 _ rfl C 35 rfl (wn cs 5) _ y4.out Tryd.underlying28 rfl (by rw [wn_len]; exact size28) ?_))
                refine (known _ (hideP P7.out.v.laid)).mono ?_; rintro e w9 ⟨rfl, hF⟩
                have F9 := hideP (P7.out.fr.trans (hF.mono P7.out.fr.size))
                clear hF
                go_wp2_with fail
                go_ret
                exact ⟨rfl, F9.out⟩
              · have hz : Hid (num nn = 2147483647) := by unfold Hid num; omega
                have E3 : ∀ W, (binOp .eql 27 (.agg (wn (upd rs 0 0) 32).toArray) (.agg (wn (upd rs 0 0) 32).toArray)).run Tryd.prog W = .ok (.bool true) W := eql33 (upd rs 0 0)
                have E5 : ∀ W, (binOp .eql 28 (.agg (wn cs 5).toArray) (.agg (wn cs 5).toArray)).run Tryd.prog W = .ok (.bool true) W := eql5 cs
                go_wp2_with fail
                refine (v_load M b d F x (LastOk ⟨kk, nn, pc, rs, cs⟩) (fun _ => True) pc (upd rs 0 0) cs 2147483647 true (hideP (last_load ⟨kk, nn, pc, rs, cs⟩ 2147483647 hz.out)) (by have := HF.out; omega) _ (hideP HS2.out.v)).mono ?_; rintro e w3 ⟨rfl, hN⟩
                have P3 := hideP (HS2.out.now hN)
                have B3 := hideP (HB2.out.of_block (HS2.out.blk hN.2 (Nat.le_refl _) HW2.out))
                have X3 := hideP (Nat.lt_of_lt_of_le HW2.out hN.2.size)
                have T3 := hideP (Two.new w3 P3.out.cs)
                have P4 := hideP ((P3.out.alloc (.cells z32 27)).alloc (.cells z5 28))
                have B4 := hideP ((B3.out.of_block ((FrB.alloc w3 (.cells z32 27)).block _ X3.out)).of_block ((FrB.alloc (w3.alloc (.cells z32 27)) (.cells z5 28)).block _ (by have := X3.out; simp; omega)))
                clear hN
                go_wp2_with (first
                  | (refine wpList_arrG 27 32 size27 _ w3.heap.size w0 T3.out.a (by rfl) _ _ rfl (upd rs 0 0) _ rfl rfl rfl ?_; intro W3 hA hT; have T4 := hideP (T3.out.put3 hA.out hT.out); have P5 := hideP (P4.out.arr hT.out T3.out.lo); have B5 := hideP (B4.out.of_block (hT.out.block _ (Nat.ne_of_lt X3.out))); clear hA hT)
                  | (refine wpList_arrG 28 5 size28 _ (w3.heap.size + 1) w0 T4.out.c (by rfl) _ _ rfl cs _ rfl rfl rfl ?_; intro W4 hA hT; have T5 := hideP (T4.out.put5 hA.out hT.out); have P6 := hideP (P5.out.arr hT.out (Nat.le_succ_of_le T3.out.lo)); have B6 := hideP (B5.out.of_block (hT.out.block _ (Nat.ne_of_lt (Nat.lt_succ_of_lt X3.out)))); clear hA hT)
                  | (refine wpList_cell26 _ C 3 ⟨kk, nn, pc, rs, cs⟩ ⟨kk, nn, pc, upd rs 0 0, cs⟩ B6.out (by decide) 0 (Ak.setR _ 0 0 (by decide)) (by rfl) _ _ rfl rfl _ rfl rfl ?_; intro W5 hB hT; have P7 := hideP (P6.out.arr hT.out (Nat.le_refl _)); have T6 := hideP (T5.out.low hT.out X3.out); have y1 : W5.cell? ⟨C, 1, none⟩ = some (.int .i64 nn) := hB.out.cell rfl; have y2 : W5.cell? ⟨C, 2, none⟩ = some (.int .u32 (pc : Int)) := hB.out.cell rfl; have y3 : Hid (W5.rangeAt C 3 (wn (upd rs 0 0) 32)) := hB.out.words 3 32 _ (Ak.atR _); have y4 : Hid (W5.rangeAt C 35 (wn cs 5)) := hB.out.words 35 5 cs (Ak.atC _); have R1 := hideP T6.out.rA; have R2 := hideP T6.out.rC; clear hB hT)
                  | (refine load_want (by rfl) 27 _ rfl w3.heap.size 0 rfl (wn (upd rs 0 0) 32) _ R1.out Tryd.underlying27 rfl (by rw [wn_len]; exact size27) ?_)
                  | (refine load_want (by rfl) 27 _ rfl C 3 rfl (wn (upd rs 0 0) 32) _ y3.out Tryd.underlying27 rfl (by rw [wn_len]; exact size27) ?_)
                  | (refine load_want (by rfl) 28 _ rfl (w3.heap.size + 1) 0 rfl (wn cs 5) _ R2.out Tryd.underlying28 rfl (by rw [wn_len]; exact size28) ?_)
                  | (refine load_want (by rfl) 28 _ rfl C 35 rfl (wn cs 5) _ y4.out Tryd.underlying28 rfl (by rw [wn_len]; exact size28) ?_))
                refine (known _ (hideP P7.out.v.laid)).mono ?_; rintro e w9 ⟨rfl, hF⟩
                have F9 := hideP (P7.out.fr.trans (hF.mono P7.out.fr.size))
                clear hF
                go_wp2_with fail
                go_ret
                exact ⟨rfl, F9.out⟩
    · go_wp2_with fail
      go_loopw [8] (fun t wr => ∃ (j F x : Nat), (j : Int) ≤ 170 ∧ t = .int .i64 j ∧ Hid (F ≤ 20 + j) ∧ Hid (x < 79) ∧ Hid (BxAt C c.l wr) ∧ Hid (C < wr.heap.size) ∧ Hid (SOne w.heap.size C M b d (LastOk c) F x w wr)) (fun t _ => 170 - (intOf t).toNat)
      case atStart => exact ⟨0, k, 0, by decide, rfl, HFK, (by unfold Hid; decide), HB, HW, HS⟩
      case round =>
        obtain ⟨j, F, x, hj, rfl, HF, HX, HB2, HW2, HS2⟩ := hrel
        rename_i wr2
        clear HB HW HS
        go_wp2_with fail
        refine (within_170 _ _).mono ?_; rintro e w' ⟨⟨r, rfl, r0, r1⟩, rfl⟩
        by_cases hjr : (j : Int) < r
        · go_wp2_with fail
          refine (v_scrub M b d F x (LastOk c) (LastOk c) 0 (by have := HX.out; omega) (hideP (last_scrub c x HX.out)) (by have := HF.out; omega) _ (hideP HS2.out.v)).mono ?_; rintro e w3 ⟨rfl, hN⟩
          have P3 := hideP (HS2.out.now hN)
          have B3 := hideP (HB2.out.of_block (HS2.out.blk hN.2 (Nat.le_refl _) HW2.out))
          have X3 := hideP (Nat.lt_of_lt_of_le HW2.out hN.2.size)
          clear hN
          go_wp2_with fail
          exact ⟨⟨j + 1, _, _, by omega, by rw [Int.natCast_add]; rfl, (by have := HF.out; unfold Hid; omega), nxS_lt' x, B3, X3, P3⟩, by simp [intOf]; omega⟩
        · obtain ⟨kk, nn, pc, rs, cs⟩ := c
          by_cases n0 : nn < 0
          · have hz : Hid (num nn = 0) := by unfold Hid num; omega
            have E3 : ∀ W, (binOp .eql 27 (.agg (wn (upd rs 0 0) 32).toArray) (.agg (wn (upd rs 0 0) 32).toArray)).run Tryd.prog W = .ok (.bool true) W := eql33 (upd rs 0 0)
            have E5 : ∀ W, (binOp .eql 28 (.agg (wn cs 5).toArray) (.agg (wn cs 5).toArray)).run Tryd.prog W = .ok (.bool true) W := eql5 cs
            go_wp2_with fail
            refine (v_load M b d F x (LastOk ⟨kk, nn, pc, rs, cs⟩) (fun _ => True) pc (upd rs 0 0) cs 0 true (hideP (last_load ⟨kk, nn, pc, rs, cs⟩ 0 hz.out)) (by have := HF.out; omega) _ (hideP HS2.out.v)).mono ?_; rintro e w3 ⟨rfl, hN⟩
            have P3 := hideP (HS2.out.now hN)
            have B3 := hideP (HB2.out.of_block (HS2.out.blk hN.2 (Nat.le_refl _) HW2.out))
            have X3 := hideP (Nat.lt_of_lt_of_le HW2.out hN.2.size)
            have T3 := hideP (Two.new w3 P3.out.cs)
            have P4 := hideP ((P3.out.alloc (.cells z32 27)).alloc (.cells z5 28))
            have B4 := hideP ((B3.out.of_block ((FrB.alloc w3 (.cells z32 27)).block _ X3.out)).of_block ((FrB.alloc (w3.alloc (.cells z32 27)) (.cells z5 28)).block _ (by have := X3.out; simp; omega)))
            clear hN
            go_wp2_with (first
              | (refine wpList_arrG 27 32 size27 _ w3.heap.size w0 T3.out.a (by rfl) _ _ rfl (upd rs 0 0) _ rfl rfl rfl ?_; intro W3 hA hT; have T4 := hideP (T3.out.put3 hA.out hT.out); have P5 := hideP (P4.out.arr hT.out T3.out.lo); have B5 := hideP (B4.out.of_block (hT.out.block _ (Nat.ne_of_lt X3.out))); clear hA hT)
              | (refine wpList_arrG 28 5 size28 _ (w3.heap.size + 1) w0 T4.out.c (by rfl) _ _ rfl cs _ rfl rfl rfl ?_; intro W4 hA hT; have T5 := hideP (T4.out.put5 hA.out hT.out); have P6 := hideP (P5.out.arr hT.out (Nat.le_succ_of_le T3.out.lo)); have B6 := hideP (B5.out.of_block (hT.out.block _ (Nat.ne_of_lt (Nat.lt_succ_of_lt X3.out)))); clear hA hT)
              | (refine wpList_cell26 _ C 3 ⟨kk, nn, pc, rs, cs⟩ ⟨kk, nn, pc, upd rs 0 0, cs⟩ B6.out (by decide) 0 (Ak.setR _ 0 0 (by decide)) (by rfl) _ _ rfl rfl _ rfl rfl ?_; intro W5 hB hT; have P7 := hideP (P6.out.arr hT.out (Nat.le_refl _)); have T6 := hideP (T5.out.low hT.out X3.out); have y1 : W5.cell? ⟨C, 1, none⟩ = some (.int .i64 nn) := hB.out.cell rfl; have y2 : W5.cell? ⟨C, 2, none⟩ = some (.int .u32 (pc : Int)) := hB.out.cell rfl; have y3 : Hid (W5.rangeAt C 3 (wn (upd rs 0 0) 32)) := hB.out.words 3 32 _ (Ak.atR _); have y4 : Hid (W5.rangeAt C 35 (wn cs 5)) := hB.out.words 35 5 cs (Ak.atC _); have R1 := hideP T6.out.rA; have R2 := hideP T6.out.rC; clear hB hT)
              | (refine load_want (by rfl) 27 _ rfl w3.heap.size 0 rfl (wn (upd rs 0 0) 32) _ R1.out Tryd.underlying27 rfl (by rw [wn_len]; exact size27) ?_)
              | (refine load_want (by rfl) 27 _ rfl C 3 rfl (wn (upd rs 0 0) 32) _ y3.out Tryd.underlying27 rfl (by rw [wn_len]; exact size27) ?_)
              | (refine load_want (by rfl) 28 _ rfl (w3.heap.size + 1) 0 rfl (wn cs 5) _ R2.out Tryd.underlying28 rfl (by rw [wn_len]; exact size28) ?_)
              | (refine load_want (by rfl) 28 _ rfl C 35 rfl (wn cs 5) _ y4.out Tryd.underlying28 rfl (by rw [wn_len]; exact size28) ?_))
            refine (known _ (hideP P7.out.v.laid)).mono ?_; rintro e w9 ⟨rfl, hF⟩
            have F9 := hideP (P7.out.fr.trans (hF.mono P7.out.fr.size))
            clear hF
            go_wp2_with fail
            go_ret
            exact ⟨rfl, F9.out⟩
          · by_cases n1 : nn ≤ 2147483647
            · obtain ⟨z, rfl⟩ : ∃ z : Nat, nn = (z : Int) := ⟨nn.toNat, by omega⟩
              have hz : Hid (num (z : Int) = z) := by unfold Hid num; omega
              have E3 : ∀ W, (binOp .eql 27 (.agg (wn (upd rs 0 0) 32).toArray) (.agg (wn (upd rs 0 0) 32).toArray)).run Tryd.prog W = .ok (.bool true) W := eql33 (upd rs 0 0)
              have E5 : ∀ W, (binOp .eql 28 (.agg (wn cs 5).toArray) (.agg (wn cs 5).toArray)).run Tryd.prog W = .ok (.bool true) W := eql5 cs
              go_wp2_with fail
              refine (v_load M b d F x (LastOk ⟨kk, (z : Int), pc, rs, cs⟩) (fun _ => True) pc (upd rs 0 0) cs z true (hideP (last_load ⟨kk, (z : Int), pc, rs, cs⟩ z hz.out)) (by have := HF.out; omega) _ (hideP HS2.out.v)).mono ?_; rintro e w3 ⟨rfl, hN⟩
              have P3 := hideP (HS2.out.now hN)
              have B3 := hideP (HB2.out.of_block (HS2.out.blk hN.2 (Nat.le_refl _) HW2.out))
              have X3 := hideP (Nat.lt_of_lt_of_le HW2.out hN.2.size)
              have T3 := hideP (Two.new w3 P3.out.cs)
              have P4 := hideP ((P3.out.alloc (.cells z32 27)).alloc (.cells z5 28))
              have B4 := hideP ((B3.out.of_block ((FrB.alloc w3 (.cells z32 27)).block _ X3.out)).of_block ((FrB.alloc (w3.alloc (.cells z32 27)) (.cells z5 28)).block _ (by have := X3.out; simp; omega)))
              clear hN
              go_wp2_with (first
                | (refine wpList_arrG 27 32 size27 _ w3.heap.size w0 T3.out.a (by rfl) _ _ rfl (upd rs 0 0) _ rfl rfl rfl ?_; intro W3 hA hT; have T4 := hideP (T3.out.put3 hA.out hT.out); have P5 := hideP (P4.out.arr hT.out T3.out.lo); have B5 := hideP (B4.out.of_block (hT.out.block _ (Nat.ne_of_lt X3.out))); clear hA hT)
                | (refine wpList_arrG 28 5 size28 _ (w3.heap.size + 1) w0 T4.out.c (by rfl) _ _ rfl cs _ rfl rfl rfl ?_; intro W4 hA hT; have T5 := hideP (T4.out.put5 hA.out hT.out); have P6 := hideP (P5.out.arr hT.out (Nat.le_succ_of_le T3.out.lo)); have B6 := hideP (B5.out.of_block (hT.out.block _ (Nat.ne_of_lt (Nat.lt_succ_of_lt X3.out)))); clear hA hT)
                | (refine wpList_cell26 _ C 3 ⟨kk, (z : Int), pc, rs, cs⟩ ⟨kk, (z : Int), pc, upd rs 0 0, cs⟩ B6.out (by decide) 0 (Ak.setR _ 0 0 (by decide)) (by rfl) _ _ rfl rfl _ rfl rfl ?_; intro W5 hB hT; have P7 := hideP (P6.out.arr hT.out (Nat.le_refl _)); have T6 := hideP (T5.out.low hT.out X3.out); have y1 : W5.cell? ⟨C, 1, none⟩ = some (.int .i64 (z : Int)) := hB.out.cell rfl; have y2 : W5.cell? ⟨C, 2, none⟩ = some (.int .u32 (pc : Int)) := hB.out.cell rfl; have y3 : Hid (W5.rangeAt C 3 (wn (upd rs 0 0) 32)) := hB.out.words 3 32 _ (Ak.atR _); have y4 : Hid (W5.rangeAt C 35 (wn cs 5)) := hB.out.words 35 5 cs (Ak.atC _); have R1 := hideP T6.out.rA; have R2 := hideP T6.out.rC; clear hB hT)
                | (refine load_want (by rfl) 27 _ rfl w3.heap.size 0 rfl (wn (upd rs 0 0) 32) _ R1.out Tryd.underlying27 rfl (by rw [wn_len]; exact size27) ?_)
                | (refine load_want (by rfl) 27 _ rfl C 3 rfl (wn (upd rs 0 0) 32) _ y3.out Tryd.underlying27 rfl (by rw [wn_len]; exact size27) ?_)
                | (refine load_want (by rfl) 28 _ rfl (w3.heap.size + 1) 0 rfl (wn cs 5) _ R2.out Tryd.underlying28 rfl (by rw [wn_len]; exact size28) ?_)
                | (refine load_want (by rfl) 28 _ rfl C 35 rfl (wn cs 5) _ y4.out Tryd.underlying28 rfl (by rw [wn_len]; exact size28) ?_))
              refine (known _ (hideP P7.out.v.laid)).mono ?_; rintro e w9 ⟨rfl, hF⟩
              have F9 := hideP (P7.out.fr.trans (hF.mono P7.out.fr.size))
              clear hF
              go_wp2_with fail
              go_ret
              exact ⟨rfl, F9.out⟩
            · have hz : Hid (num nn = 2147483647) := by unfold Hid num; omega
              have E3 : ∀ W, (binOp .eql 27 (.agg (wn (upd rs 0 0) 32).toArray) (.agg (wn (upd rs 0 0) 32).toArray)).run Tryd.prog W = .ok (.bool true) W := eql33 (upd rs 0 0)
              have E5 : ∀ W, (binOp .eql 28 (.agg (wn cs 5).toArray) (.agg (wn cs 5).toArray)).run Tryd.prog W = .ok (.bool true) W := eql5 cs
              go_wp2_with fail
              refine (v_load M b d F x (LastOk ⟨kk, nn, pc, rs, cs⟩) (fun _ => True) pc (upd rs 0 0) cs 2147483647 true (hideP (last_load ⟨kk, nn, pc, rs, cs⟩ 2147483647 hz.out)) (by have := HF.out; omega) _ (hideP HS2.out.v)).mono ?_; rintro e w3 ⟨rfl, hN⟩
              have P3 := hideP (HS2.out.now hN)
              have B3 := hideP (HB2.out.of_block (HS2.out.blk hN.2 (Nat.le_refl _) HW2.out))
              have X3 := hideP (Nat.lt_of_lt_of_le HW2.out hN.2.size)
              have T3 := hideP (Two.new w3 P3.out.cs)
              have P4 := hideP ((P3.out.alloc (.cells z32 27)).alloc (.cells z5 28))
              have B4 := hideP ((B3.out.of_block ((FrB.alloc w3 (.cells z32 27)).block _ X3.out)).of_block ((FrB.alloc (w3.alloc (.cells z32 27)) (.cells z5 28)).block _ (by have := X3.out; simp; omega)))
              clear hN
              go_wp2_with (first
                | (refine wpList_arrG 27 32 size27 _ w3.heap.size w0 T3.out.a (by rfl) _ _ rfl (upd rs 0 0) _ rfl rfl rfl ?_; intro W3 hA hT; have T4 := hideP (T3.out.put3 hA.out hT.out); have P5 := hideP (P4.out.arr hT.out T3.out.lo); have B5 := hideP (B4.out.of_block (hT.out.block _ (Nat.ne_of_lt X3.out))); clear hA hT)
                | (refine wpList_arrG 28 5 size28 _ (w3.heap.size + 1) w0 T4.out.c (by rfl) _ _ rfl cs _ rfl rfl rfl ?_; intro W4 hA hT; have T5 := hideP (T4.out.put5 hA.out hT.out); have P6 := hideP (P5.out.arr hT.out (Nat.le_succ_of_le T3.out.lo)); have B6 := hideP (B5.out.of_block (hT.out.block _ (Nat.ne_of_lt (Nat.lt_succ_of_lt X3.out)))); clear hA hT)
                | (refine wpList_cell26 _ C 3 ⟨kk, nn, pc, rs, cs⟩ ⟨kk, nn, pc, upd rs 0 0, cs⟩ B6.out (by decide) 0 (Ak.setR _ 0 0 (by decide)) (by rfl) _ _ rfl rfl _ rfl rfl ?_; intro W5 hB hT; have P7 := hideP (P6.out.arr hT.out (Nat.le_refl _)); have T6 := hideP (T5.out.low hT.out X3.out); have y1 : W5.cell? ⟨C, 1, none⟩ = some (.int .i64 nn) := hB.out.cell rfl; have y2 : W5.cell? ⟨C, 2, none⟩ = some (.int .u32 (pc : Int)) := hB.out.cell rfl; have y3 : Hid (W5.rangeAt C 3 (wn (upd rs 0 0) 32)) := hB.out.words 3 32 _ (Ak.atR _); have y4 : Hid (W5.rangeAt C 35 (wn cs 5)) := hB.out.words 35 5 cs (Ak.atC _); have R1 := hideP T6.out.rA; have R2 := hideP T6.out.rC; clear hB hT)
                | (refine load_want (by rfl) 27 _ rfl w3.heap.size 0 rfl (wn (upd rs 0 0) 32) _ R1.out Tryd.underlying27 rfl (by rw [wn_len]; exact size27) ?_)
                | (refine load_want (by rfl) 27 _ rfl C 3 rfl (wn (upd rs 0 0) 32) _ y3.out Tryd.underlying27 rfl (by rw [wn_len]; exact size27) ?_)
                | (refine load_want (by rfl) 28 _ rfl (w3.heap.size + 1) 0 rfl (wn cs 5) _ R2.out Tryd.underlying28 rfl (by rw [wn_len]; exact size28) ?_)
                | (refine load_want (by rfl) 28 _ rfl C 35 rfl (wn cs 5) _ y4.out Tryd.underlying28 rfl (by rw [wn_len]; exact size28) ?_))
              refine (known _ (hideP P7.out.v.laid)).mono ?_; rintro e w9 ⟨rfl, hF⟩
              have F9 := hideP (P7.out.fr.trans (hF.mono P7.out.fr.size))
              clear hF
              go_wp2_with fail
              go_ret
              exact ⟨rfl, F9.out⟩
end Go.Proofs.YtfhijdnbhbonpaaDoor.Walks
