/- The walk of SaveMends, by what is told at its end. -/
import Derived.Test.YtfhijdnbhbonpaaDoorMendU
namespace Go.Proofs.YtfhijdnbhbonpaaDoor.Walks
open Go.ChangeShapes Go.WideShapes Go.ChangeAt Go.RowKit
set_option linter.unusedVariables false
set_option maxRecDepth 100000 in
set_option maxHeartbeats 8000000 in
theorem ma3 (kda na : Int) (pca : Nat) (rsa csa : Nat → Nat) (kdb nb : Int) (pcb : Nat) (rsb csb : Nat → Nat) (IA : Hid (Ak.In ⟨kda, na, pca, rsa, csa⟩)) (IB : Hid (Ak.In ⟨kdb, nb, pcb, rsb, csb⟩)) (x y : Int) (n0 m0 : Nat) (hn0 : bits .and .i64 na 65535 = (n0 : Int)) (hn1 : (n0 : Int) ≤ 65535) (hm0 : bits .and .i64 nb 65535 = (m0 : Int)) (hm1 : (m0 : Int) ≤ 65535) (i k : Int) (HI : Hid (wv x = i)) (HK : Hid (wv y = k)) (i0 : 0 ≤ i) (i1 : i ≤ 3080) (k0 : 0 ≤ k) (k1 : k ≤ 3080)
    (O : Hid (∀ ws, Tn2 (pnt pca (upd rsa 0 0) csa n0) (pnt pcb (upd rsb 0 0) csb m0) i k ws → TellL ws pca (upd rsa 0 0) csa n0 true)) (G1 : (((pca : Nat) : Int) == ((pcb : Nat) : Int)) = true) (G3 : (∀ W, (binOp .eql 27 (.agg (wn (upd rsa 0 0) 32).toArray) (.agg (wn (upd rsb 0 0) 32).toArray)).run Tryd.prog W = .ok (.bool true) W)) (G5 : (∀ W, (binOp .eql 28 (.agg (wn csa 5).toArray) (.agg (wn csb 5).toArray)).run Tryd.prog W = .ok (.bool false) W)) (w : World) (hL : Hid (Laid w)) :
    Calls Tryd.prog 5 #[.agg (Ak.l ⟨kda, na, pca, rsa, csa⟩).toArray, .agg (Ak.l ⟨kdb, nb, pcb, rsb, csb⟩).toArray, .int .i64 x, .int .i64 y] w fun e w' => e = .returned (.bool true) ∧ FrB w.heap.size w w' := by
  have PX := hideP hL.out.pos
  have BX0 := hideP (Bxs.new w ⟨kda, na, pca, rsa, csa⟩ ⟨kdb, nb, pcb, rsb, csb⟩)
  have F0 : Hid (FrB w.heap.size w ((w.alloc (.cells (Ak.l ⟨kda, na, pca, rsa, csa⟩).toArray 30)).alloc (.cells (Ak.l ⟨kdb, nb, pcb, rsb, csb⟩).toArray 30))) := (FrB.alloc w _).trans ((FrB.alloc _ _).mono (by simp))
  have S0 : Hid (w.heap.size + 1 < ((w.alloc (.cells (Ak.l ⟨kda, na, pca, rsa, csa⟩).toArray 30)).alloc (.cells (Ak.l ⟨kdb, nb, pcb, rsb, csb⟩).toArray 30)).heap.size) := by unfold Hid; simp
  have L0 := hideP (F0.out.laid hL.out PX.out)
  go_enter Tryd.func5, Tryd.ntmps5
  go_wp2_with fail
  generalize ((w.alloc (.cells (Ak.l ⟨kda, na, pca, rsa, csa⟩).toArray 30)).alloc (.cells (Ak.l ⟨kdb, nb, pcb, rsb, csb⟩).toArray 30)) = W0 at *
  refine (snew_as _ L0).mono ?_; rintro e w1 ⟨M, b, d, rfl, hF⟩
  have F1 := hideP hF
  have L1 := hideP hF.1.laid
  clear hF
  go_wp2_with fail
  refine (snew_as _ L1).mono ?_; rintro e w2 ⟨M', b', d', rfl, hF⟩
  have P2 := hideP (STwo.of (SPair.lay F1.out hF F1.out.2.1.size))
  have F2 := hideP (F0.out.trans (P2.out.fr.mono F0.out.size))
  have BX2 := hideP (BX0.out.frb P2.out.fr S0.out)
  clear hF F1 L1 BX0 F0
  generalize w2.heap.size = C at *
  generalize W0.heap.size = B at *
  have hX0 : Hid (0 < w.heap.size ∧ w.heap.size < B ∧ 0 < w.heap.size + 1) := by have := PX.out; have := S0.out; unfold Hid; omega
  go_wp2_with (first
    | (refine wpList_cell26 _ w.heap.size 3 ⟨kda, na, pca, rsa, csa⟩ ⟨kda, na, pca, upd rsa 0 0, csa⟩ BX2.out.a (by decide) 0 (Ak.setR _ 0 0 (by decide)) (by rfl) _ _ rfl rfl _ rfl rfl ?_; intro W3 hB hT; have P3 := hideP (P2.out.low hT.out hX0.out.2.1 hX0.out.1); have F3 := hideP (F2.out.trans (FrB.toua hT.out (Nat.le_refl _))); have BX3 : Hid (Bxs w.heap.size ⟨kda, na, pca, upd rsa 0 0, csa⟩ ⟨kdb, nb, pcb, rsb, csb⟩ W3) := ⟨hB.out, BX2.out.b.of_block (hT.out.block _ (by omega))⟩; clear hB hT)
    | (refine wpList_cell26 _ (w.heap.size + 1) 3 ⟨kdb, nb, pcb, rsb, csb⟩ ⟨kdb, nb, pcb, upd rsb 0 0, csb⟩ BX3.out.b (by decide) 0 (Ak.setR _ 0 0 (by decide)) (by rfl) _ _ rfl rfl _ rfl rfl ?_; intro W4 hB hT; have P4 := hideP (P3.out.low hT.out S0.out hX0.out.2.2); have F4 := hideP (F3.out.trans (FrB.toua hT.out (Nat.le_succ _))); have BX4 : Hid (Bxs w.heap.size ⟨kda, na, pca, upd rsa 0 0, csa⟩ ⟨kdb, nb, pcb, upd rsb 0 0, csb⟩ W4) := ⟨BX3.out.a.of_block (hT.out.block _ (by omega)), hB.out⟩; have y1 : W4.cell? ⟨w.heap.size, 1, none⟩ = some (.int .i64 na) := BX4.out.a.cell rfl; have y2 : W4.cell? ⟨w.heap.size + 1, 1, none⟩ = some (.int .i64 nb) := BX4.out.b.cell rfl; clear hB hT))
  have RA : Hid (Wd 32 (upd rsa 0 0)) := wd_upd0 IA.out.rs
  have RB : Hid (Wd 32 (upd rsb 0 0)) := wd_upd0 IB.out.rs
  have UA := hideP (upd_twice rsa)
  have UB := hideP (upd_twice rsb)
  generalize upd rsa 0 0 = ra at *
  generalize upd rsb 0 0 = rb at *
  clear P2 P3 F2 F3 BX2 BX3
  go_region_held3 (fun w' => w'.cell? ⟨w.heap.size, 1, none⟩ = some (.int .i64 na) ∧ w'.cell? ⟨w.heap.size + 1, 1, none⟩ = some (.int .i64 nb)) (first | go_keep | (go_split_ands; refine ⟨?_, ?_⟩ <;> assumption)) (fail)
  all_goals
    have P5 : Hid (STwo B C M b d M' b' d' _ 0 0 _ 0 0 W4 W4.drew) := P4.out.alike ⟨rfl, rfl, rfl⟩
    clear y1 y2
    go_wp2_with fail
    refine (within_wv _ _).mono ?_; rintro e w' ⟨⟨i', rfl, hi'⟩, rfl⟩
    obtain rfl : i = i' := (hi'.trans HI.out).symm
    clear hi'
    go_wp2_with fail
    refine (within_wv _ _).mono ?_; rintro e w' ⟨⟨k', rfl, hk'⟩, rfl⟩
    obtain rfl : k = k' := (hk'.trans HK.out).symm
    clear hk'
    generalize W4.drew = W5 at *
    obtain ⟨pa, HPA⟩ : ∃ pa, Hid (pnt pca ra csa n0 = pa) := ⟨_, rfl⟩
    obtain ⟨pb, HPB⟩ : ∃ pb, Hid (pnt pcb rb csb m0 = pb) := ⟨_, rfl⟩
    have LA : Hid (∀ j, j < 39 → pa j < 4294967296) := fun j _ => by rw [← HPA.out]; exact pnt_lt2 IA.out.pc RA.out IA.out.cs (by omega) j
    have LB : Hid (∀ j, j < 39 → pb j < 4294967296) := fun j _ => by rw [← HPB.out]; exact pnt_lt2 IB.out.pc RB.out IB.out.cs (by omega) j
    have TA1 : Hid (∀ ws, Fine False allOk (hv 0 pz pz) ws → Fine False allOk (hv 1 pa pz) (svW ws (pnt pca ra csa (num (n0 : Int))))) := fun ws h => by rw [num_small n0 hn1, HPA.out]; exact sv2_saves LA.out h
    have TB1 : Hid (∀ ws, Fine False allOk (hv 1 pa pz) ws → Sv2 pa pb (svW ws (pnt pcb rb csb (num (m0 : Int))))) := fun ws h => by rw [num_small m0 hm1, HPB.out]; exact sv2_again LB.out h
    have MA : Hid (pa 38 = mk (pa 37)) := by unfold Hid; rw [← HPA.out]; rfl
    have MB : Hid (pb 38 = mk (pb 37)) := by unfold Hid; rw [← HPB.out]; rfl
    have TO : Hid (∀ ws, Tn1 pa pb i ws → TellL ws pcb rb csb m0 true ∧ True) := fun ws h => ⟨by have := mends_one pa pb MB.out i i0 i1 ws h; rw [← HPB.out] at this; have := told_is this; rwa [UB.out] at this, trivial⟩
    have GI := hideP (in_bit i i0 i1)
    have GK := hideP (in_bit k k0 k1)
    have TT : Hid (∀ ws, Tn2 pa pb i k ws → TellL ws pca ra csa n0 true ∧ True) := fun ws g => ⟨by have := O.out ws (by rw [HPA.out, HPB.out]; exact g); exact this, trivial⟩
    have YB := hideP (BxAt.new W5 [.pointer (some ⟨M, 0, none⟩), .pointer (some ⟨M', 0, none⟩)] 33)
    have P7 := hideP (P5.out.alloc (.cells [Value.pointer (some ⟨M, 0, none⟩), .pointer (some ⟨M', 0, none⟩)].toArray 33))
    have YC := hideP P5.out.cs
    have YW : Hid (W5.heap.size < (W5.alloc (.cells [Value.pointer (some ⟨M, 0, none⟩), .pointer (some ⟨M', 0, none⟩)].toArray 33)).heap.size) := by unfold Hid; simp
    go_wp2_with fail
    generalize (W5.alloc (.cells [Value.pointer (some ⟨M, 0, none⟩), .pointer (some ⟨M', 0, none⟩)].toArray 33)) = W7 at *
    generalize W5.heap.size = Y at *
    go_loopw [56] (fun t wr => ∃ k2 : Nat, (k2 : Int) ≤ 2 ∧ t = .int .i64 k2 ∧ Hid (BxAt Y [.pointer (some ⟨M, 0, none⟩), .pointer (some ⟨M', 0, none⟩)] wr) ∧ Hid (Y < wr.heap.size) ∧ Hid ((k2 = 0 ∧ STwo B C M b d M' b' d' (Fine False allOk (hv 0 pz pz)) 0 0 (Fine False allOk (hv 0 pz pz)) 0 0 W4 wr) ∨ (k2 = 1 ∧ STwo B C M b d M' b' d' (Sv2 pa pb) 2 0 (Fine False allOk (hv 0 pz pz)) 0 0 W4 wr) ∨ (k2 = 2 ∧ STwo B C M b d M' b' d' (Sv2 pa pb) 2 0 (Sv2 pa pb) 2 0 W4 wr))) (fun t _ => 2 - (intOf t).toNat)
    case atStart => exact ⟨0, by decide, rfl, YB, YW, .inl ⟨rfl, P7.out⟩⟩
    case round =>
      obtain ⟨k2, hk2, rfl, HY, HW, HD⟩ := hrel
      rename_i wr
      clear P5 P7 YB YW P4
      rcases HD.out with ⟨rfl, h⟩ | ⟨rfl, h⟩ | ⟨rfl, h⟩
      · have H := hideP h
        clear HD h
        have BXr := hideP (BX4.out.frb H.out.fr S0.out)
        have yp : wr.cell? ⟨Y, 0, none⟩ = some (.pointer (some ⟨M, 0, none⟩)) := HY.out.cell rfl
        have y2 : wr.cell? ⟨w.heap.size, 2, none⟩ = some (.int .u32 (pca : Int)) := BXr.out.a.cell rfl
        have y3 : Hid (wr.rangeAt w.heap.size 3 (wn ra 32)) := BXr.out.a.words 3 32 ra (Ak.atR _)
        have y4 : Hid (wr.rangeAt w.heap.size 35 (wn csa 5)) := BXr.out.a.words 35 5 csa (Ak.atC _)
        go_wp2_with (first
          | (refine load_want (by rfl) 27 _ rfl w.heap.size 3 rfl (wn ra 32) _ y3.out Tryd.underlying27 rfl (by rw [wn_len]; exact size27) ?_)
          | (refine load_want (by rfl) 28 _ rfl w.heap.size 35 rfl (wn csa 5) _ y4.out Tryd.underlying28 rfl (by rw [wn_len]; exact size28) ?_))
        refine (v_save M b d 0 0 pca _ _ ra csa (n0 : Int) _ _ rfl rfl _ rfl IA.out.pc RA.out IA.out.cs TA1 (by decide) _ (hideP H.out.v1)).mono ?_; rintro e w3 ⟨rfl, hN⟩
        have H2 := hideP (H.out.now1 hN)
        have HY2 := hideP (HY.out.of_block (H.out.blk1 hN.2 YC.out HW.out))
        have HW2 := hideP (Nat.lt_of_lt_of_le HW.out hN.2.size)
        have BX5 := hideP (BX4.out.frb H2.out.fr S0.out)
        have z2 : w3.cell? ⟨w.heap.size + 1, 2, none⟩ = some (.int .u32 (pcb : Int)) := BX5.out.b.cell rfl
        have z3 : Hid (w3.rangeAt (w.heap.size + 1) 3 (wn rb 32)) := BX5.out.b.words 3 32 rb (Ak.atR _)
        have z4 : Hid (w3.rangeAt (w.heap.size + 1) 35 (wn csb 5)) := BX5.out.b.words 35 5 csb (Ak.atC _)
        clear hN yp y2
        go_wp2_with (first
          | (refine load_want (by rfl) 27 _ rfl (w.heap.size + 1) 3 rfl (wn rb 32) _ z3.out Tryd.underlying27 rfl (by rw [wn_len]; exact size27) ?_)
          | (refine load_want (by rfl) 28 _ rfl (w.heap.size + 1) 35 rfl (wn csb 5) _ z4.out Tryd.underlying28 rfl (by rw [wn_len]; exact size28) ?_))
        refine (v_save M b d 1 0 pcb _ _ rb csb (m0 : Int) _ _ rfl rfl _ rfl IB.out.pc RB.out IB.out.cs TB1 (by decide) _ (hideP H2.out.v1)).mono ?_; rintro e w5 ⟨rfl, hN⟩
        have H3 := hideP (H2.out.now1 hN)
        have HY3 := hideP (HY2.out.of_block (H2.out.blk1 hN.2 YC.out HW2.out))
        have HW3 := hideP (Nat.lt_of_lt_of_le HW2.out hN.2.size)
        clear hN z2
        go_wp2_with fail
        exact ⟨⟨1, by decide, rfl, HY3, HW3, .inr (.inl ⟨rfl, H3.out⟩)⟩, by simp [intOf]⟩
      · have H := hideP h
        clear HD h
        have BXr := hideP (BX4.out.frb H.out.fr S0.out)
        have yp : wr.cell? ⟨Y, 1, none⟩ = some (.pointer (some ⟨M', 0, none⟩)) := HY.out.cell rfl
        have y2 : wr.cell? ⟨w.heap.size, 2, none⟩ = some (.int .u32 (pca : Int)) := BXr.out.a.cell rfl
        have y3 : Hid (wr.rangeAt w.heap.size 3 (wn ra 32)) := BXr.out.a.words 3 32 ra (Ak.atR _)
        have y4 : Hid (wr.rangeAt w.heap.size 35 (wn csa 5)) := BXr.out.a.words 35 5 csa (Ak.atC _)
        go_wp2_with (first
          | (refine load_want (by rfl) 27 _ rfl w.heap.size 3 rfl (wn ra 32) _ y3.out Tryd.underlying27 rfl (by rw [wn_len]; exact size27) ?_)
          | (refine load_want (by rfl) 28 _ rfl w.heap.size 35 rfl (wn csa 5) _ y4.out Tryd.underlying28 rfl (by rw [wn_len]; exact size28) ?_))
        refine (v_save M' b' d' 0 0 pca _ _ ra csa (n0 : Int) _ _ rfl rfl _ rfl IA.out.pc RA.out IA.out.cs TA1 (by decide) _ (hideP H.out.v2)).mono ?_; rintro e w3 ⟨rfl, hN⟩
        have H2 := hideP (H.out.now2 hN)
        have HY2 := hideP (HY.out.of_block (H.out.blk2 hN.2 YC.out HW.out))
        have HW2 := hideP (Nat.lt_of_lt_of_le HW.out hN.2.size)
        have BX5 := hideP (BX4.out.frb H2.out.fr S0.out)
        have z2 : w3.cell? ⟨w.heap.size + 1, 2, none⟩ = some (.int .u32 (pcb : Int)) := BX5.out.b.cell rfl
        have z3 : Hid (w3.rangeAt (w.heap.size + 1) 3 (wn rb 32)) := BX5.out.b.words 3 32 rb (Ak.atR _)
        have z4 : Hid (w3.rangeAt (w.heap.size + 1) 35 (wn csb 5)) := BX5.out.b.words 35 5 csb (Ak.atC _)
        clear hN yp y2
        go_wp2_with (first
          | (refine load_want (by rfl) 27 _ rfl (w.heap.size + 1) 3 rfl (wn rb 32) _ z3.out Tryd.underlying27 rfl (by rw [wn_len]; exact size27) ?_)
          | (refine load_want (by rfl) 28 _ rfl (w.heap.size + 1) 35 rfl (wn csb 5) _ z4.out Tryd.underlying28 rfl (by rw [wn_len]; exact size28) ?_))
        refine (v_save M' b' d' 1 0 pcb _ _ rb csb (m0 : Int) _ _ rfl rfl _ rfl IB.out.pc RB.out IB.out.cs TB1 (by decide) _ (hideP H2.out.v2)).mono ?_; rintro e w5 ⟨rfl, hN⟩
        have H3 := hideP (H2.out.now2 hN)
        have HY3 := hideP (HY2.out.of_block (H2.out.blk2 hN.2 YC.out HW2.out))
        have HW3 := hideP (Nat.lt_of_lt_of_le HW2.out hN.2.size)
        clear hN z2
        go_wp2_with fail
        exact ⟨⟨2, by decide, rfl, HY3, HW3, .inr (.inr ⟨rfl, H3.out⟩)⟩, by simp [intOf]⟩
      · have H := hideP h
        clear HD h
        go_wp2_with fail
        refine (v_flip M b d 2 0 _ (Tn1 pa pb i) i true GI (hideP fun ws g => ⟨ws, g, rfl⟩) _ (hideP H.out.v1)).mono ?_; rintro e w3 ⟨rfl, hN⟩
        have H2 := hideP (H.out.now1 hN)
        clear hN
        go_wp2_with fail
        refine (v_flip M' b' d' 2 0 _ (Tn1 pa pb i) i true GI (hideP fun ws g => ⟨ws, g, rfl⟩) _ (hideP H2.out.v2)).mono ?_; rintro e w4 ⟨rfl, hN⟩
        have H3 := hideP (H2.out.now2 hN)
        clear hN
        go_wp2_with fail
        refine (v_flip M' b' d' 2 0 _ (Tn2 pa pb i k) k true GK (hideP fun ws g => by obtain ⟨us, g1, g2⟩ := g; exact ⟨us, g1, by rw [g2]⟩) _ (hideP H3.out.v2)).mono ?_; rintro e w5 ⟨rfl, hN⟩
        have H4 := hideP (H3.out.now2 hN)
        clear hN
        go_wp2_with fail
        refine (v_load M b d 2 0 _ (fun _ => True) pcb rb csb m0 true TO (by decide) _ (hideP H4.out.v1)).mono ?_; rintro e w6 ⟨rfl, hN⟩
        have H5 := hideP (H4.out.now1 hN)
        have Q0 := hideP (Two.new w6 H5.out.cs)
        have H6 := hideP ((H5.out.alloc (.cells z32 27)).alloc (.cells z5 28))
        clear hN
        go_wp2_with (first
          | (refine wpList_arrG 27 32 size27 _ w6.heap.size w0 Q0.out.a (by rfl) _ _ rfl rb _ rfl rfl rfl ?_; intro V1 hA hT; have Q1 := hideP (Q0.out.put3 hA.out hT.out); have H7 := hideP (H6.out.arr hT.out Q0.out.lo); clear hA hT)
          | (refine wpList_arrG 28 5 size28 _ (w6.heap.size + 1) w0 Q1.out.c (by rfl) _ _ rfl csb _ rfl rfl rfl ?_; intro V2 hA hT; have Q2 := hideP (Q1.out.put5 hA.out hT.out); have H8 := hideP (H7.out.arr hT.out (Nat.le_succ_of_le Q0.out.lo)); clear hA hT))
        generalize w6.heap.size = X1 at *
        have E3 : ∀ W, (binOp .eql 27 (.agg (wn rb 32).toArray) (.agg (wn rb 32).toArray)).run Tryd.prog W = .ok (.bool true) W := eql33 rb
        have E5 : ∀ W, (binOp .eql 28 (.agg (wn csb 5).toArray) (.agg (wn csb 5).toArray)).run Tryd.prog W = .ok (.bool true) W := eql5 csb
        refine (v_load M' b' d' 2 0 _ (fun _ => True) pca ra csa n0 true TT (by decide) _ (hideP H8.out.v2)).mono ?_; rintro e w7 ⟨rfl, hN⟩
        have H9 := hideP (H8.out.now2 hN)
        have Q3 := hideP (Q2.out.blk (fun A h1 h2 => H8.out.blk2 hN.2 h1 h2) hN.2.size)
        have Q4 := hideP ((Q3.out.past (FrB.alloc w7 (.cells z32 27))).past (FrB.alloc _ (.cells z5 28)))
        have X12 := hideP Q3.out.hi
        have R0 := hideP (Two.new w7 H9.out.cs)
        have H10 := hideP ((H9.out.alloc (.cells z32 27)).alloc (.cells z5 28))
        clear hN
        have E3a : ∀ W, (binOp .eql 27 (.agg (wn ra 32).toArray) (.agg (wn ra 32).toArray)).run Tryd.prog W = .ok (.bool true) W := eql33 ra
        have E5a : ∀ W, (binOp .eql 28 (.agg (wn csa 5).toArray) (.agg (wn csa 5).toArray)).run Tryd.prog W = .ok (.bool true) W := eql5 csa
        go_wp2_with (first
          | (refine wpList_arrG 27 32 size27 _ w7.heap.size w0 R0.out.a (by rfl) _ _ rfl ra _ rfl rfl rfl ?_; intro V3 hA hT; have R1 := hideP (R0.out.put3 hA.out hT.out); have Q5 := hideP (Q4.out.toua hT.out X12.out); have H11 := hideP (H10.out.arr hT.out R0.out.lo); clear hA hT)
          | (refine wpList_arrG 28 5 size28 _ (w7.heap.size + 1) w0 R1.out.c (by rfl) _ _ rfl csa _ rfl rfl rfl ?_; intro V4 hA hT; have R2 := hideP (R1.out.put5 hA.out hT.out); have Q6 := hideP (Q5.out.toua hT.out (Nat.lt_succ_of_lt X12.out)); have H12 := hideP (H11.out.arr hT.out (Nat.le_succ_of_le R0.out.lo)); have BX9 := hideP (BX4.out.frb H12.out.fr S0.out); have y2 : V4.cell? ⟨w.heap.size, 2, none⟩ = some (.int .u32 (pca : Int)) := BX9.out.a.cell rfl; have z2 : V4.cell? ⟨w.heap.size + 1, 2, none⟩ = some (.int .u32 (pcb : Int)) := BX9.out.b.cell rfl; have y3 : Hid (V4.rangeAt w.heap.size 3 (wn ra 32)) := BX9.out.a.words 3 32 ra (Ak.atR _); have y4 : Hid (V4.rangeAt w.heap.size 35 (wn csa 5)) := BX9.out.a.words 35 5 csa (Ak.atC _); have z3 : Hid (V4.rangeAt (w.heap.size + 1) 3 (wn rb 32)) := BX9.out.b.words 3 32 rb (Ak.atR _); have z4 : Hid (V4.rangeAt (w.heap.size + 1) 35 (wn csb 5)) := BX9.out.b.words 35 5 csb (Ak.atC _); have L1 := hideP Q6.out.rA; have L2 := hideP Q6.out.rC; have L3 := hideP R2.out.rA; have L4 := hideP R2.out.rC; clear hA hT)
          | (refine load_want (by rfl) 27 _ rfl X1 0 rfl (wn rb 32) _ L1.out Tryd.underlying27 rfl (by rw [wn_len]; exact size27) ?_)
          | (refine load_want (by rfl) 27 _ rfl w7.heap.size 0 rfl (wn ra 32) _ L3.out Tryd.underlying27 rfl (by rw [wn_len]; exact size27) ?_)
          | (refine load_want (by rfl) 27 _ rfl (w.heap.size + 1) 3 rfl (wn rb 32) _ z3.out Tryd.underlying27 rfl (by rw [wn_len]; exact size27) ?_)
          | (refine load_want (by rfl) 27 _ rfl w.heap.size 3 rfl (wn ra 32) _ y3.out Tryd.underlying27 rfl (by rw [wn_len]; exact size27) ?_)
          | (refine load_want (by rfl) 28 _ rfl (X1 + 1) 0 rfl (wn csb 5) _ L2.out Tryd.underlying28 rfl (by rw [wn_len]; exact size28) ?_)
          | (refine load_want (by rfl) 28 _ rfl (w7.heap.size + 1) 0 rfl (wn csa 5) _ L4.out Tryd.underlying28 rfl (by rw [wn_len]; exact size28) ?_)
          | (refine load_want (by rfl) 28 _ rfl (w.heap.size + 1) 35 rfl (wn csb 5) _ z4.out Tryd.underlying28 rfl (by rw [wn_len]; exact size28) ?_)
          | (refine load_want (by rfl) 28 _ rfl w.heap.size 35 rfl (wn csa 5) _ y4.out Tryd.underlying28 rfl (by rw [wn_len]; exact size28) ?_))
        refine (known _ (hideP H12.out.v1.laidM)).mono ?_; rintro e w9 ⟨rfl, hF⟩
        have F9 := hideP ((F4.out.trans (H12.out.fr.mono (Nat.le_of_lt hX0.out.2.1))).trans (hF.mono (Nat.le_trans F4.out.size H12.out.fr.size)))
        clear hF
        go_wp2_with fail
        go_ret
        exact ⟨rfl, F9.out⟩
set_option maxRecDepth 100000 in
set_option maxHeartbeats 8000000 in
theorem ma4 (kda na : Int) (pca : Nat) (rsa csa : Nat → Nat) (kdb nb : Int) (pcb : Nat) (rsb csb : Nat → Nat) (IA : Hid (Ak.In ⟨kda, na, pca, rsa, csa⟩)) (IB : Hid (Ak.In ⟨kdb, nb, pcb, rsb, csb⟩)) (x y : Int) (n0 m0 : Nat) (hn0 : bits .and .i64 na 65535 = (n0 : Int)) (hn1 : (n0 : Int) ≤ 65535) (hm0 : bits .and .i64 nb 65535 = (m0 : Int)) (hm1 : (m0 : Int) ≤ 65535) (i k : Int) (HI : Hid (wv x = i)) (HK : Hid (wv y = k)) (i0 : 0 ≤ i) (i1 : i ≤ 3080) (k0 : 0 ≤ k) (k1 : k ≤ 3080)
    (O : Hid (∀ ws, Tn2 (pnt pca (upd rsa 0 0) csa n0) (pnt pcb (upd rsb 0 0) csb m0) i k ws → TellL ws pca (upd rsa 0 0) csa n0 true)) (G1 : (((pca : Nat) : Int) == ((pcb : Nat) : Int)) = true) (G3 : (∀ W, (binOp .eql 27 (.agg (wn (upd rsa 0 0) 32).toArray) (.agg (wn (upd rsb 0 0) 32).toArray)).run Tryd.prog W = .ok (.bool true) W)) (G5 : (∀ W, (binOp .eql 28 (.agg (wn csa 5).toArray) (.agg (wn csb 5).toArray)).run Tryd.prog W = .ok (.bool true) W)) (G4 : (((n0 : Nat) : Int) == ((m0 : Nat) : Int)) = false) (w : World) (hL : Hid (Laid w)) :
    Calls Tryd.prog 5 #[.agg (Ak.l ⟨kda, na, pca, rsa, csa⟩).toArray, .agg (Ak.l ⟨kdb, nb, pcb, rsb, csb⟩).toArray, .int .i64 x, .int .i64 y] w fun e w' => e = .returned (.bool true) ∧ FrB w.heap.size w w' := by
  have PX := hideP hL.out.pos
  have BX0 := hideP (Bxs.new w ⟨kda, na, pca, rsa, csa⟩ ⟨kdb, nb, pcb, rsb, csb⟩)
  have F0 : Hid (FrB w.heap.size w ((w.alloc (.cells (Ak.l ⟨kda, na, pca, rsa, csa⟩).toArray 30)).alloc (.cells (Ak.l ⟨kdb, nb, pcb, rsb, csb⟩).toArray 30))) := (FrB.alloc w _).trans ((FrB.alloc _ _).mono (by simp))
  have S0 : Hid (w.heap.size + 1 < ((w.alloc (.cells (Ak.l ⟨kda, na, pca, rsa, csa⟩).toArray 30)).alloc (.cells (Ak.l ⟨kdb, nb, pcb, rsb, csb⟩).toArray 30)).heap.size) := by unfold Hid; simp
  have L0 := hideP (F0.out.laid hL.out PX.out)
  go_enter Tryd.func5, Tryd.ntmps5
  go_wp2_with fail
  generalize ((w.alloc (.cells (Ak.l ⟨kda, na, pca, rsa, csa⟩).toArray 30)).alloc (.cells (Ak.l ⟨kdb, nb, pcb, rsb, csb⟩).toArray 30)) = W0 at *
  refine (snew_as _ L0).mono ?_; rintro e w1 ⟨M, b, d, rfl, hF⟩
  have F1 := hideP hF
  have L1 := hideP hF.1.laid
  clear hF
  go_wp2_with fail
  refine (snew_as _ L1).mono ?_; rintro e w2 ⟨M', b', d', rfl, hF⟩
  have P2 := hideP (STwo.of (SPair.lay F1.out hF F1.out.2.1.size))
  have F2 := hideP (F0.out.trans (P2.out.fr.mono F0.out.size))
  have BX2 := hideP (BX0.out.frb P2.out.fr S0.out)
  clear hF F1 L1 BX0 F0
  generalize w2.heap.size = C at *
  generalize W0.heap.size = B at *
  have hX0 : Hid (0 < w.heap.size ∧ w.heap.size < B ∧ 0 < w.heap.size + 1) := by have := PX.out; have := S0.out; unfold Hid; omega
  go_wp2_with (first
    | (refine wpList_cell26 _ w.heap.size 3 ⟨kda, na, pca, rsa, csa⟩ ⟨kda, na, pca, upd rsa 0 0, csa⟩ BX2.out.a (by decide) 0 (Ak.setR _ 0 0 (by decide)) (by rfl) _ _ rfl rfl _ rfl rfl ?_; intro W3 hB hT; have P3 := hideP (P2.out.low hT.out hX0.out.2.1 hX0.out.1); have F3 := hideP (F2.out.trans (FrB.toua hT.out (Nat.le_refl _))); have BX3 : Hid (Bxs w.heap.size ⟨kda, na, pca, upd rsa 0 0, csa⟩ ⟨kdb, nb, pcb, rsb, csb⟩ W3) := ⟨hB.out, BX2.out.b.of_block (hT.out.block _ (by omega))⟩; clear hB hT)
    | (refine wpList_cell26 _ (w.heap.size + 1) 3 ⟨kdb, nb, pcb, rsb, csb⟩ ⟨kdb, nb, pcb, upd rsb 0 0, csb⟩ BX3.out.b (by decide) 0 (Ak.setR _ 0 0 (by decide)) (by rfl) _ _ rfl rfl _ rfl rfl ?_; intro W4 hB hT; have P4 := hideP (P3.out.low hT.out S0.out hX0.out.2.2); have F4 := hideP (F3.out.trans (FrB.toua hT.out (Nat.le_succ _))); have BX4 : Hid (Bxs w.heap.size ⟨kda, na, pca, upd rsa 0 0, csa⟩ ⟨kdb, nb, pcb, upd rsb 0 0, csb⟩ W4) := ⟨BX3.out.a.of_block (hT.out.block _ (by omega)), hB.out⟩; have y1 : W4.cell? ⟨w.heap.size, 1, none⟩ = some (.int .i64 na) := BX4.out.a.cell rfl; have y2 : W4.cell? ⟨w.heap.size + 1, 1, none⟩ = some (.int .i64 nb) := BX4.out.b.cell rfl; clear hB hT))
  have RA : Hid (Wd 32 (upd rsa 0 0)) := wd_upd0 IA.out.rs
  have RB : Hid (Wd 32 (upd rsb 0 0)) := wd_upd0 IB.out.rs
  have UA := hideP (upd_twice rsa)
  have UB := hideP (upd_twice rsb)
  generalize upd rsa 0 0 = ra at *
  generalize upd rsb 0 0 = rb at *
  clear P2 P3 F2 F3 BX2 BX3
  go_region_held3 (fun w' => w'.cell? ⟨w.heap.size, 1, none⟩ = some (.int .i64 na) ∧ w'.cell? ⟨w.heap.size + 1, 1, none⟩ = some (.int .i64 nb)) (first | go_keep | (go_split_ands; refine ⟨?_, ?_⟩ <;> assumption)) (fail)
  all_goals
    have P5 : Hid (STwo B C M b d M' b' d' _ 0 0 _ 0 0 W4 W4.drew) := P4.out.alike ⟨rfl, rfl, rfl⟩
    clear y1 y2
    go_wp2_with fail
    refine (within_wv _ _).mono ?_; rintro e w' ⟨⟨i', rfl, hi'⟩, rfl⟩
    obtain rfl : i = i' := (hi'.trans HI.out).symm
    clear hi'
    go_wp2_with fail
    refine (within_wv _ _).mono ?_; rintro e w' ⟨⟨k', rfl, hk'⟩, rfl⟩
    obtain rfl : k = k' := (hk'.trans HK.out).symm
    clear hk'
    generalize W4.drew = W5 at *
    obtain ⟨pa, HPA⟩ : ∃ pa, Hid (pnt pca ra csa n0 = pa) := ⟨_, rfl⟩
    obtain ⟨pb, HPB⟩ : ∃ pb, Hid (pnt pcb rb csb m0 = pb) := ⟨_, rfl⟩
    have LA : Hid (∀ j, j < 39 → pa j < 4294967296) := fun j _ => by rw [← HPA.out]; exact pnt_lt2 IA.out.pc RA.out IA.out.cs (by omega) j
    have LB : Hid (∀ j, j < 39 → pb j < 4294967296) := fun j _ => by rw [← HPB.out]; exact pnt_lt2 IB.out.pc RB.out IB.out.cs (by omega) j
    have TA1 : Hid (∀ ws, Fine False allOk (hv 0 pz pz) ws → Fine False allOk (hv 1 pa pz) (svW ws (pnt pca ra csa (num (n0 : Int))))) := fun ws h => by rw [num_small n0 hn1, HPA.out]; exact sv2_saves LA.out h
    have TB1 : Hid (∀ ws, Fine False allOk (hv 1 pa pz) ws → Sv2 pa pb (svW ws (pnt pcb rb csb (num (m0 : Int))))) := fun ws h => by rw [num_small m0 hm1, HPB.out]; exact sv2_again LB.out h
    have MA : Hid (pa 38 = mk (pa 37)) := by unfold Hid; rw [← HPA.out]; rfl
    have MB : Hid (pb 38 = mk (pb 37)) := by unfold Hid; rw [← HPB.out]; rfl
    have TO : Hid (∀ ws, Tn1 pa pb i ws → TellL ws pcb rb csb m0 true ∧ True) := fun ws h => ⟨by have := mends_one pa pb MB.out i i0 i1 ws h; rw [← HPB.out] at this; have := told_is this; rwa [UB.out] at this, trivial⟩
    have GI := hideP (in_bit i i0 i1)
    have GK := hideP (in_bit k k0 k1)
    have TT : Hid (∀ ws, Tn2 pa pb i k ws → TellL ws pca ra csa n0 true ∧ True) := fun ws g => ⟨by have := O.out ws (by rw [HPA.out, HPB.out]; exact g); exact this, trivial⟩
    have YB := hideP (BxAt.new W5 [.pointer (some ⟨M, 0, none⟩), .pointer (some ⟨M', 0, none⟩)] 33)
    have P7 := hideP (P5.out.alloc (.cells [Value.pointer (some ⟨M, 0, none⟩), .pointer (some ⟨M', 0, none⟩)].toArray 33))
    have YC := hideP P5.out.cs
    have YW : Hid (W5.heap.size < (W5.alloc (.cells [Value.pointer (some ⟨M, 0, none⟩), .pointer (some ⟨M', 0, none⟩)].toArray 33)).heap.size) := by unfold Hid; simp
    go_wp2_with fail
    generalize (W5.alloc (.cells [Value.pointer (some ⟨M, 0, none⟩), .pointer (some ⟨M', 0, none⟩)].toArray 33)) = W7 at *
    generalize W5.heap.size = Y at *
    go_loopw [56] (fun t wr => ∃ k2 : Nat, (k2 : Int) ≤ 2 ∧ t = .int .i64 k2 ∧ Hid (BxAt Y [.pointer (some ⟨M, 0, none⟩), .pointer (some ⟨M', 0, none⟩)] wr) ∧ Hid (Y < wr.heap.size) ∧ Hid ((k2 = 0 ∧ STwo B C M b d M' b' d' (Fine False allOk (hv 0 pz pz)) 0 0 (Fine False allOk (hv 0 pz pz)) 0 0 W4 wr) ∨ (k2 = 1 ∧ STwo B C M b d M' b' d' (Sv2 pa pb) 2 0 (Fine False allOk (hv 0 pz pz)) 0 0 W4 wr) ∨ (k2 = 2 ∧ STwo B C M b d M' b' d' (Sv2 pa pb) 2 0 (Sv2 pa pb) 2 0 W4 wr))) (fun t _ => 2 - (intOf t).toNat)
    case atStart => exact ⟨0, by decide, rfl, YB, YW, .inl ⟨rfl, P7.out⟩⟩
    case round =>
      obtain ⟨k2, hk2, rfl, HY, HW, HD⟩ := hrel
      rename_i wr
      clear P5 P7 YB YW P4
      rcases HD.out with ⟨rfl, h⟩ | ⟨rfl, h⟩ | ⟨rfl, h⟩
      · have H := hideP h
        clear HD h
        have BXr := hideP (BX4.out.frb H.out.fr S0.out)
        have yp : wr.cell? ⟨Y, 0, none⟩ = some (.pointer (some ⟨M, 0, none⟩)) := HY.out.cell rfl
        have y2 : wr.cell? ⟨w.heap.size, 2, none⟩ = some (.int .u32 (pca : Int)) := BXr.out.a.cell rfl
        have y3 : Hid (wr.rangeAt w.heap.size 3 (wn ra 32)) := BXr.out.a.words 3 32 ra (Ak.atR _)
        have y4 : Hid (wr.rangeAt w.heap.size 35 (wn csa 5)) := BXr.out.a.words 35 5 csa (Ak.atC _)
        go_wp2_with (first
          | (refine load_want (by rfl) 27 _ rfl w.heap.size 3 rfl (wn ra 32) _ y3.out Tryd.underlying27 rfl (by rw [wn_len]; exact size27) ?_)
          | (refine load_want (by rfl) 28 _ rfl w.heap.size 35 rfl (wn csa 5) _ y4.out Tryd.underlying28 rfl (by rw [wn_len]; exact size28) ?_))
        refine (v_save M b d 0 0 pca _ _ ra csa (n0 : Int) _ _ rfl rfl _ rfl IA.out.pc RA.out IA.out.cs TA1 (by decide) _ (hideP H.out.v1)).mono ?_; rintro e w3 ⟨rfl, hN⟩
        have H2 := hideP (H.out.now1 hN)
        have HY2 := hideP (HY.out.of_block (H.out.blk1 hN.2 YC.out HW.out))
        have HW2 := hideP (Nat.lt_of_lt_of_le HW.out hN.2.size)
        have BX5 := hideP (BX4.out.frb H2.out.fr S0.out)
        have z2 : w3.cell? ⟨w.heap.size + 1, 2, none⟩ = some (.int .u32 (pcb : Int)) := BX5.out.b.cell rfl
        have z3 : Hid (w3.rangeAt (w.heap.size + 1) 3 (wn rb 32)) := BX5.out.b.words 3 32 rb (Ak.atR _)
        have z4 : Hid (w3.rangeAt (w.heap.size + 1) 35 (wn csb 5)) := BX5.out.b.words 35 5 csb (Ak.atC _)
        clear hN yp y2
        go_wp2_with (first
          | (refine load_want (by rfl) 27 _ rfl (w.heap.size + 1) 3 rfl (wn rb 32) _ z3.out Tryd.underlying27 rfl (by rw [wn_len]; exact size27) ?_)
          | (refine load_want (by rfl) 28 _ rfl (w.heap.size + 1) 35 rfl (wn csb 5) _ z4.out Tryd.underlying28 rfl (by rw [wn_len]; exact size28) ?_))
        refine (v_save M b d 1 0 pcb _ _ rb csb (m0 : Int) _ _ rfl rfl _ rfl IB.out.pc RB.out IB.out.cs TB1 (by decide) _ (hideP H2.out.v1)).mono ?_; rintro e w5 ⟨rfl, hN⟩
        have H3 := hideP (H2.out.now1 hN)
        have HY3 := hideP (HY2.out.of_block (H2.out.blk1 hN.2 YC.out HW2.out))
        have HW3 := hideP (Nat.lt_of_lt_of_le HW2.out hN.2.size)
        clear hN z2
        go_wp2_with fail
        exact ⟨⟨1, by decide, rfl, HY3, HW3, .inr (.inl ⟨rfl, H3.out⟩)⟩, by simp [intOf]⟩
      · have H := hideP h
        clear HD h
        have BXr := hideP (BX4.out.frb H.out.fr S0.out)
        have yp : wr.cell? ⟨Y, 1, none⟩ = some (.pointer (some ⟨M', 0, none⟩)) := HY.out.cell rfl
        have y2 : wr.cell? ⟨w.heap.size, 2, none⟩ = some (.int .u32 (pca : Int)) := BXr.out.a.cell rfl
        have y3 : Hid (wr.rangeAt w.heap.size 3 (wn ra 32)) := BXr.out.a.words 3 32 ra (Ak.atR _)
        have y4 : Hid (wr.rangeAt w.heap.size 35 (wn csa 5)) := BXr.out.a.words 35 5 csa (Ak.atC _)
        go_wp2_with (first
          | (refine load_want (by rfl) 27 _ rfl w.heap.size 3 rfl (wn ra 32) _ y3.out Tryd.underlying27 rfl (by rw [wn_len]; exact size27) ?_)
          | (refine load_want (by rfl) 28 _ rfl w.heap.size 35 rfl (wn csa 5) _ y4.out Tryd.underlying28 rfl (by rw [wn_len]; exact size28) ?_))
        refine (v_save M' b' d' 0 0 pca _ _ ra csa (n0 : Int) _ _ rfl rfl _ rfl IA.out.pc RA.out IA.out.cs TA1 (by decide) _ (hideP H.out.v2)).mono ?_; rintro e w3 ⟨rfl, hN⟩
        have H2 := hideP (H.out.now2 hN)
        have HY2 := hideP (HY.out.of_block (H.out.blk2 hN.2 YC.out HW.out))
        have HW2 := hideP (Nat.lt_of_lt_of_le HW.out hN.2.size)
        have BX5 := hideP (BX4.out.frb H2.out.fr S0.out)
        have z2 : w3.cell? ⟨w.heap.size + 1, 2, none⟩ = some (.int .u32 (pcb : Int)) := BX5.out.b.cell rfl
        have z3 : Hid (w3.rangeAt (w.heap.size + 1) 3 (wn rb 32)) := BX5.out.b.words 3 32 rb (Ak.atR _)
        have z4 : Hid (w3.rangeAt (w.heap.size + 1) 35 (wn csb 5)) := BX5.out.b.words 35 5 csb (Ak.atC _)
        clear hN yp y2
        go_wp2_with (first
          | (refine load_want (by rfl) 27 _ rfl (w.heap.size + 1) 3 rfl (wn rb 32) _ z3.out Tryd.underlying27 rfl (by rw [wn_len]; exact size27) ?_)
          | (refine load_want (by rfl) 28 _ rfl (w.heap.size + 1) 35 rfl (wn csb 5) _ z4.out Tryd.underlying28 rfl (by rw [wn_len]; exact size28) ?_))
        refine (v_save M' b' d' 1 0 pcb _ _ rb csb (m0 : Int) _ _ rfl rfl _ rfl IB.out.pc RB.out IB.out.cs TB1 (by decide) _ (hideP H2.out.v2)).mono ?_; rintro e w5 ⟨rfl, hN⟩
        have H3 := hideP (H2.out.now2 hN)
        have HY3 := hideP (HY2.out.of_block (H2.out.blk2 hN.2 YC.out HW2.out))
        have HW3 := hideP (Nat.lt_of_lt_of_le HW2.out hN.2.size)
        clear hN z2
        go_wp2_with fail
        exact ⟨⟨2, by decide, rfl, HY3, HW3, .inr (.inr ⟨rfl, H3.out⟩)⟩, by simp [intOf]⟩
      · have H := hideP h
        clear HD h
        go_wp2_with fail
        refine (v_flip M b d 2 0 _ (Tn1 pa pb i) i true GI (hideP fun ws g => ⟨ws, g, rfl⟩) _ (hideP H.out.v1)).mono ?_; rintro e w3 ⟨rfl, hN⟩
        have H2 := hideP (H.out.now1 hN)
        clear hN
        go_wp2_with fail
        refine (v_flip M' b' d' 2 0 _ (Tn1 pa pb i) i true GI (hideP fun ws g => ⟨ws, g, rfl⟩) _ (hideP H2.out.v2)).mono ?_; rintro e w4 ⟨rfl, hN⟩
        have H3 := hideP (H2.out.now2 hN)
        clear hN
        go_wp2_with fail
        refine (v_flip M' b' d' 2 0 _ (Tn2 pa pb i k) k true GK (hideP fun ws g => by obtain ⟨us, g1, g2⟩ := g; exact ⟨us, g1, by rw [g2]⟩) _ (hideP H3.out.v2)).mono ?_; rintro e w5 ⟨rfl, hN⟩
        have H4 := hideP (H3.out.now2 hN)
        clear hN
        go_wp2_with fail
        refine (v_load M b d 2 0 _ (fun _ => True) pcb rb csb m0 true TO (by decide) _ (hideP H4.out.v1)).mono ?_; rintro e w6 ⟨rfl, hN⟩
        have H5 := hideP (H4.out.now1 hN)
        have Q0 := hideP (Two.new w6 H5.out.cs)
        have H6 := hideP ((H5.out.alloc (.cells z32 27)).alloc (.cells z5 28))
        clear hN
        go_wp2_with (first
          | (refine wpList_arrG 27 32 size27 _ w6.heap.size w0 Q0.out.a (by rfl) _ _ rfl rb _ rfl rfl rfl ?_; intro V1 hA hT; have Q1 := hideP (Q0.out.put3 hA.out hT.out); have H7 := hideP (H6.out.arr hT.out Q0.out.lo); clear hA hT)
          | (refine wpList_arrG 28 5 size28 _ (w6.heap.size + 1) w0 Q1.out.c (by rfl) _ _ rfl csb _ rfl rfl rfl ?_; intro V2 hA hT; have Q2 := hideP (Q1.out.put5 hA.out hT.out); have H8 := hideP (H7.out.arr hT.out (Nat.le_succ_of_le Q0.out.lo)); clear hA hT))
        generalize w6.heap.size = X1 at *
        have E3 : ∀ W, (binOp .eql 27 (.agg (wn rb 32).toArray) (.agg (wn rb 32).toArray)).run Tryd.prog W = .ok (.bool true) W := eql33 rb
        have E5 : ∀ W, (binOp .eql 28 (.agg (wn csb 5).toArray) (.agg (wn csb 5).toArray)).run Tryd.prog W = .ok (.bool true) W := eql5 csb
        refine (v_load M' b' d' 2 0 _ (fun _ => True) pca ra csa n0 true TT (by decide) _ (hideP H8.out.v2)).mono ?_; rintro e w7 ⟨rfl, hN⟩
        have H9 := hideP (H8.out.now2 hN)
        have Q3 := hideP (Q2.out.blk (fun A h1 h2 => H8.out.blk2 hN.2 h1 h2) hN.2.size)
        have Q4 := hideP ((Q3.out.past (FrB.alloc w7 (.cells z32 27))).past (FrB.alloc _ (.cells z5 28)))
        have X12 := hideP Q3.out.hi
        have R0 := hideP (Two.new w7 H9.out.cs)
        have H10 := hideP ((H9.out.alloc (.cells z32 27)).alloc (.cells z5 28))
        clear hN
        have E3a : ∀ W, (binOp .eql 27 (.agg (wn ra 32).toArray) (.agg (wn ra 32).toArray)).run Tryd.prog W = .ok (.bool true) W := eql33 ra
        have E5a : ∀ W, (binOp .eql 28 (.agg (wn csa 5).toArray) (.agg (wn csa 5).toArray)).run Tryd.prog W = .ok (.bool true) W := eql5 csa
        go_wp2_with (first
          | (refine wpList_arrG 27 32 size27 _ w7.heap.size w0 R0.out.a (by rfl) _ _ rfl ra _ rfl rfl rfl ?_; intro V3 hA hT; have R1 := hideP (R0.out.put3 hA.out hT.out); have Q5 := hideP (Q4.out.toua hT.out X12.out); have H11 := hideP (H10.out.arr hT.out R0.out.lo); clear hA hT)
          | (refine wpList_arrG 28 5 size28 _ (w7.heap.size + 1) w0 R1.out.c (by rfl) _ _ rfl csa _ rfl rfl rfl ?_; intro V4 hA hT; have R2 := hideP (R1.out.put5 hA.out hT.out); have Q6 := hideP (Q5.out.toua hT.out (Nat.lt_succ_of_lt X12.out)); have H12 := hideP (H11.out.arr hT.out (Nat.le_succ_of_le R0.out.lo)); have BX9 := hideP (BX4.out.frb H12.out.fr S0.out); have y2 : V4.cell? ⟨w.heap.size, 2, none⟩ = some (.int .u32 (pca : Int)) := BX9.out.a.cell rfl; have z2 : V4.cell? ⟨w.heap.size + 1, 2, none⟩ = some (.int .u32 (pcb : Int)) := BX9.out.b.cell rfl; have y3 : Hid (V4.rangeAt w.heap.size 3 (wn ra 32)) := BX9.out.a.words 3 32 ra (Ak.atR _); have y4 : Hid (V4.rangeAt w.heap.size 35 (wn csa 5)) := BX9.out.a.words 35 5 csa (Ak.atC _); have z3 : Hid (V4.rangeAt (w.heap.size + 1) 3 (wn rb 32)) := BX9.out.b.words 3 32 rb (Ak.atR _); have z4 : Hid (V4.rangeAt (w.heap.size + 1) 35 (wn csb 5)) := BX9.out.b.words 35 5 csb (Ak.atC _); have L1 := hideP Q6.out.rA; have L2 := hideP Q6.out.rC; have L3 := hideP R2.out.rA; have L4 := hideP R2.out.rC; clear hA hT)
          | (refine load_want (by rfl) 27 _ rfl X1 0 rfl (wn rb 32) _ L1.out Tryd.underlying27 rfl (by rw [wn_len]; exact size27) ?_)
          | (refine load_want (by rfl) 27 _ rfl w7.heap.size 0 rfl (wn ra 32) _ L3.out Tryd.underlying27 rfl (by rw [wn_len]; exact size27) ?_)
          | (refine load_want (by rfl) 27 _ rfl (w.heap.size + 1) 3 rfl (wn rb 32) _ z3.out Tryd.underlying27 rfl (by rw [wn_len]; exact size27) ?_)
          | (refine load_want (by rfl) 27 _ rfl w.heap.size 3 rfl (wn ra 32) _ y3.out Tryd.underlying27 rfl (by rw [wn_len]; exact size27) ?_)
          | (refine load_want (by rfl) 28 _ rfl (X1 + 1) 0 rfl (wn csb 5) _ L2.out Tryd.underlying28 rfl (by rw [wn_len]; exact size28) ?_)
          | (refine load_want (by rfl) 28 _ rfl (w7.heap.size + 1) 0 rfl (wn csa 5) _ L4.out Tryd.underlying28 rfl (by rw [wn_len]; exact size28) ?_)
          | (refine load_want (by rfl) 28 _ rfl (w.heap.size + 1) 35 rfl (wn csb 5) _ z4.out Tryd.underlying28 rfl (by rw [wn_len]; exact size28) ?_)
          | (refine load_want (by rfl) 28 _ rfl w.heap.size 35 rfl (wn csa 5) _ y4.out Tryd.underlying28 rfl (by rw [wn_len]; exact size28) ?_))
        refine (known _ (hideP H12.out.v1.laidM)).mono ?_; rintro e w9 ⟨rfl, hF⟩
        have F9 := hideP ((F4.out.trans (H12.out.fr.mono (Nat.le_of_lt hX0.out.2.1))).trans (hF.mono (Nat.le_trans F4.out.size H12.out.fr.size)))
        clear hF
        go_wp2_with fail
        go_ret
        exact ⟨rfl, F9.out⟩
end Go.Proofs.YtfhijdnbhbonpaaDoor.Walks
