/- The walk of FileMends. -/
import Derived.Test.YtgcpjlnncedcfaaDoorMendsN
import Derived.Test.YtgcpjlnncedcfaaDoorKnow
namespace Go.Proofs.YtgcpjlnncedcfaaDoor.Walks
open Go.ChangeShapes Go.WideShapes Go.ChangeAt Go.RowKit
set_option linter.unusedVariables false
/-- the law's array v at A beside its file -/
structure MdAt (A B M b d : Nat) (v ws : Nat → Nat) (f nx : Nat) (w wr : World) : Prop where
  a : ArrAt A 32 v wr
  p : MFresh B M b d ws f nx w wr
  far : B ≤ A ∧ A ≠ M ∧ A ≠ b ∧ A ≠ d
  lt : A < wr.heap.size
section
variable {A B M b d f nx g gx : Nat} {v v' ws ws' : Nat → Nat} {w wr w2 : World}
theorem MdAt.now (h : MdAt A B M b d v ws f nx w wr) (k : MNow M b d ws' g gx wr w2) : MdAt A B M b d v ws' g gx w w2 :=
  ⟨h.a.of_block (k.2.block A h.far.2.1 h.far.2.2.1 h.far.2.2.2), h.p.now k, h.far, by rw [k.2.size]; exact h.lt⟩
theorem MdAt.put (h : MdAt A B M b d v ws f nx w wr) (i x : Nat) (hi : i < 32) : MdAt A B M b d (upd v i x) ws f nx w (wr.setCell ⟨A, i, none⟩ (.int .u32 (x : Int))) := by
  have t := TouA.set A i wr (.int .u32 (x : Int))
  exact ⟨h.a.put i x hi, h.p.arr t h.far, h.far, by rw [t.size]; exact h.lt⟩
theorem MdAt.congr (h : MdAt A B M b d v ws f nx w wr) (e : ∀ i, v i = v' i) (e' : ∀ i, i < 31 → ws i = ws' i) : MdAt A B M b d v' ws' f nx w wr :=
  ⟨h.a.congr (fun i _ => e i), h.p.congr e' rfl rfl, h.far, h.lt⟩
theorem MdAt.laid (h : MdAt A B M b d v ws f nx w wr) (hL : Laid w) (hB : 0 < B) : Laid wr := h.p.laid hL hB
end
/-- words lie there, and are below 2^32 -/
def NatsIn (w : World) (A : Option Addr) (len : Nat) (zl : Nat → Nat) : Prop := ∀ j, j < len → ∃ b0 o0, A = some ⟨b0, o0, none⟩ ∧ b0 < w.heap.size ∧ w.cell? ⟨b0, o0 + j, none⟩ = some (.int .u32 (zl j : Nat)) ∧ zl j < 4294967296
def WordsIn (w : World) (A : Option Addr) (len : Nat) (bl : Nat → Int) : Prop := ∀ j, j < len → ∃ b0 o0, A = some ⟨b0, o0, none⟩ ∧ b0 < w.heap.size ∧ w.cell? ⟨b0, o0 + j, none⟩ = some (.int .i64 (bl j))
set_option maxRecDepth 100000 in
set_option maxHeartbeats 2000000 in
theorem mends (LA : Option Addr) (n capA : Nat) (LB : Option Addr) (m capB : Nat) (zl : Nat → Nat) (bl : Nat → Int) (hnl : (n : Int) ≤ 9223372036854775807) (hml : (m : Int) ≤ 9223372036854775807) (w : World) (hL : Hid (Laid w))
    (hA : Hid (NatsIn w LA n zl)) (hB : Hid (WordsIn w LB m bl)) :
    Calls Tryd.prog 5 #[.slice LA n capA, .slice LB m capB] w fun e w' => e = .returned (.bool true) ∧ FrB w.heap.size w w' := by
  have B0 := hideP hL.out.pos
  have HZ : Hid (∀ j, j < n → zl j < 4294967296) := fun j hj => (hA.out j hj).choose_spec.choose_spec.2.2.2
  go_enter Tryd.func5, Tryd.ntmps5
  go_wp2_with fail
  refine (fnew_as _ hL).mono ?_; rintro e w1 ⟨M, b, d, rfl, hF⟩
  have F1 : Hid (MdAt w1.heap.size w.heap.size M b d (arG (vl zl n) 0) (wsM zl bl n m 0) 0 1 w (w1.alloc (.cells z32 33))) :=
    ⟨(ArrAt.zero w1 33).congr (fun i _ => arG_0 _ i), (hF.alloc _ hF.2.1.size).congr (fun i _ => wsM_0 zl bl n m i) rfl rfl, (by have := hF.2.2; have := hF.2.1.size; omega), by simp⟩
  clear hF
  go_wp2_with fail
  generalize w1.alloc (.cells z32 33) = v1 at *
  generalize w1.heap.size = A at *
  go_loopw [7] (fun t wr => ∃ k : Nat, (k : Int) ≤ 31 ∧ t = .int .i64 k ∧ Hid (MdAt A w.heap.size M b d (arG (vl zl n) k) (wsM zl bl n m k) 0 1 w wr)) (fun t _ => 31 - (intOf t).toNat)
  case atStart => exact ⟨0, by decide, rfl, F1⟩
  case round =>
    obtain ⟨k, hk, rfl, HF⟩ := hrel
    rename_i wr
    clear F1
    by_cases hlt : (k : Int) < 31
    · have KL : Hid (k < 31) := by unfold Hid; omega
      have GI : Hid (inB 31 (k : Int) = true) := inB_yes (by omega) (by omega)
      have JW : Hid (wrap64 ((k : Int) + 1 - 1) = (k : Int)) := by unfold Hid wrap64; omega
      have I0 : Hid ((((k : Int) + 1) == 0) = false) := by unfold Hid; rw [beq_eq_false_iff_ne]; omega
      by_cases hn : (k : Int) < n
      · have NN : Hid (k < n) := by unfold Hid; omega
        obtain ⟨b0, o0, rfl, c0, hl0, hz⟩ := hA.out k NN.out
        have hlk : wr.cell? ⟨b0, o0 + k, none⟩ = some (.int .u32 (zl k)) := by rw [HF.out.p.2.1.cell _ _ c0]; exact hl0
        have Z1 : Hid (((zl k : Nat) : Int) < 4294967296) := by unfold Hid; omega
        have CB := hideP c0
        have HL0 := hideP hl0
        have ca := HF.out.a.hw (k + 1) (by have := KL.out; omega)
        have za := HF.out.a.zw (k + 1) (by have := KL.out; omega)
        have H2 : Hid (MdAt A w.heap.size M b d (arG (vl zl n) (k + 1)) (wsM zl bl n m k) 0 1 w (wr.setCell ⟨A, k + 1, none⟩ (.int .u32 (zl k : Nat)))) :=
          (HF.out.put (k + 1) (zl k) (by have := KL.out; omega)).congr (fun i => by rw [← vl_in zl n k NN.out]; exact arG_next (vl zl n) k i) (fun i _ => rfl)
        have hl2 : (wr.setCell ⟨A, k + 1, none⟩ (.int .u32 (zl k : Nat))).cell? ⟨b0, o0 + k, none⟩ = some (.int .u32 (zl k)) := by
          rw [H2.out.p.2.1.cell _ _ CB.out]; exact HL0.out
        have L2 := hideP (H2.out.laid hL.out B0.out)
        clear hl0 c0 hz
        by_cases hm : (k : Int) < m
        · have MM : Hid (k < m) := by unfold Hid; omega
          obtain ⟨q0, hq0, hq1⟩ := and63 (bl k)
          have hq2 : (q0 : Int) < 64 := by omega
          have HQ : Hid (qb bl k = q0 % 39) := by unfold Hid qb; rw [hq0, Int.toNat_natCast]
          have EI : Hid (39 * (k : Int) + (q0 : Int) % 39 = ((39 * k + qb bl k : Nat) : Int)) := by unfold Hid; rw [HQ.out]; omega
          clear hq1
          go_wp2_with fail
          refine (fwrite_as M b d 0 1 (wsM zl bl n m k) _ _ _ I0.out JW.out _ GI (by omega) Z1.out _ L2 (hideP H2.out.p.1)).mono ?_; rintro e w3 ⟨rfl, hF⟩
          have F3 := hideP (H2.out.now hF)
          clear hF
          obtain ⟨b1, o1, rfl, c1, hb0⟩ := hB.out k MM.out
          have hbk : w3.cell? ⟨b1, o1 + k, none⟩ = some (.int .i64 (bl k)) := by rw [F3.out.p.2.1.cell _ _ c1]; exact hb0
          clear hb0 c1
          go_wp2_with fail
          refine (fflip_as M b d 0 1 _ _ _ (inF_in (n := 31) EI.out KL.out (qb_lt bl k)) _ (hideP F3.out.p.1)).mono ?_; rintro e w4 ⟨rfl, hF⟩
          have F4 := hideP (F3.out.now hF)
          clear hF
          go_wp2_with fail
          exact ⟨⟨k + 1, by omega, by rw [Int.natCast_add]; rfl, F4.out.congr (fun _ => rfl) (fun i _ => by rw [Int.toNat_natCast]; exact wsM_both zl bl n m k KL.out NN.out MM.out _ EI.out i)⟩, by simp [intOf]; omega⟩
        · have MM : Hid (¬ k < m) := by unfold Hid; omega
          go_wp2_with fail
          refine (fwrite_as M b d 0 1 (wsM zl bl n m k) _ _ _ I0.out JW.out _ GI (by omega) Z1.out _ L2 (hideP H2.out.p.1)).mono ?_; rintro e w3 ⟨rfl, hF⟩
          have F3 := hideP (H2.out.now hF)
          clear hF
          clear Z1 I0 JW GI L2 ca za hlk hl2
          go_wp2_with fail
          exact ⟨⟨k + 1, by omega, by rw [Int.natCast_add]; rfl, F3.out.congr (fun _ => rfl) (fun i _ => by rw [Int.toNat_natCast]; exact wsM_put zl bl n m k KL.out NN.out MM.out i)⟩, by simp [intOf]; omega⟩
      · have NN : Hid (¬ k < n) := by unfold Hid; omega
        have VZ := hideP (vl_out zl n k NN.out)
        by_cases hm : (k : Int) < m
        · have MM : Hid (k < m) := by unfold Hid; omega
          obtain ⟨q0, hq0, hq1⟩ := and63 (bl k)
          have hq2 : (q0 : Int) < 64 := by omega
          have HQ : Hid (qb bl k = q0 % 39) := by unfold Hid qb; rw [hq0, Int.toNat_natCast]
          have EI : Hid (39 * (k : Int) + (q0 : Int) % 39 = ((39 * k + qb bl k : Nat) : Int)) := by unfold Hid; rw [HQ.out]; omega
          clear hq1
          obtain ⟨b1, o1, rfl, c1, hb0⟩ := hB.out k MM.out
          have hbk : wr.cell? ⟨b1, o1 + k, none⟩ = some (.int .i64 (bl k)) := by rw [HF.out.p.2.1.cell _ _ c1]; exact hb0
          clear hb0 c1
          go_wp2_with fail
          refine (fflip_as M b d 0 1 _ _ _ (inF_in (n := 31) EI.out KL.out (qb_lt bl k)) _ (hideP HF.out.p.1)).mono ?_; rintro e w4 ⟨rfl, hF⟩
          have F4 := hideP (HF.out.now hF)
          clear hF
          go_wp2_with fail
          exact ⟨⟨k + 1, by omega, by rw [Int.natCast_add]; rfl, F4.out.congr (fun i => arG_same (vl zl n) k VZ.out i) (fun i _ => wsM_flip zl bl n m k KL.out NN.out MM.out _ EI.out i)⟩, by simp [intOf]; omega⟩
        · have MM : Hid (¬ k < m) := by unfold Hid; omega
          go_wp2_with fail
          exact ⟨⟨k + 1, by omega, by rw [Int.natCast_add]; rfl, HF.out.congr (fun i => arG_same (vl zl n) k VZ.out i) (fun i _ => wsM_none zl bl n m k NN.out MM.out i)⟩, by simp [intOf]; omega⟩
    · have hk1 : k = 31 := by omega
      subst hk1
      have BD : Hid (bdW (wsM zl bl n m 31) 31 = !true) := wsM_bd zl bl n m HZ.out
      have AR := hideP (wsM_arF zl bl n m HZ.out)
      have LV := hideP (HF.out.laid hL.out B0.out)
      have E : ∀ W, (binOp .neq 33 (.agg (wn (arG (vl zl n) 31) 32).toArray) (.agg (wn (arG (vl zl n) 31) 32).toArray)).run Tryd.prog W = .ok (.bool false) W := neq33 _
      go_wp2_with fail
      have FA := fall_as M b d 0 1 (wsM zl bl n m 31) true BD wr LV (hideP HF.out.p.1) (hideP ⟨LV.out.pos, HF.out.p.2.2.2⟩)
      rw [AR.out] at FA
      refine FA.mono ?_; rintro e V2 ⟨rfl, hF⟩
      clear FA
      have F2 : Hid (MFresh w.heap.size M b d (wsM zl bl n m 31) 0 1 w V2) := HF.out.p.past hF HF.out.p.2.1.size
      have A2 : Hid (ArrAt A 32 (arG (vl zl n) 31) V2 ∧ A < V2.heap.size) := ⟨HF.out.a.frb hF HF.out.lt, Nat.lt_of_lt_of_le HF.out.lt hF.size⟩
      have Z2 := hideP (ArrAt.zero V2 33)
      have OF : Hid (w.heap.size ≤ V2.heap.size ∧ V2.heap.size ≠ M ∧ V2.heap.size ≠ b ∧ V2.heap.size ≠ d) := by have := F2.out.2.2; have := F2.out.2.1.size; unfold Hid; omega
      clear hF
      go_wp2_with (first
        | (refine wpList_arr _ V2.heap.size w0 Z2.out (by rfl) _ _ rfl (arG (vl zl n) 31) _ rfl rfl rfl ?_; intro V3 hA hT; have R1 := hideP hA.out.range; have R2 : Hid (V3.rangeAt A 0 (wn (arG (vl zl n) 31) 32)) := ((A2.out.1.frb (FrB.alloc V2 _) A2.out.2).of_block (hT.out.block A (by have := A2.out.2; omega))).range; have F3 : Hid (MFresh w.heap.size M b d (wsS zl bl n m 0) 0 1 w V3) := ((F2.out.alloc _ F2.out.2.1.size).arr hT.out OF.out).congr (fun i hi => wsS_0 zl bl n m i hi) rfl rfl; clear hA hT)
        | (refine load_want (by rfl) 33 _ rfl V2.heap.size 0 rfl (wn (arG (vl zl n) 31) 32) _ R1.out Tryd.underlying33 rfl (by rw [wn_len]; exact size33) ?_)
        | (refine load_want (by rfl) 33 _ rfl A 0 rfl (wn (arG (vl zl n) 31) 32) _ R2.out Tryd.underlying33 rfl (by rw [wn_len]; exact size33) ?_))
      clear R1 R2 A2 Z2 OF F2 HF LV AR BD E
      go_loopw [10] (fun t wr => ∃ t' f p : Nat, (t' : Int) ≤ 62 ∧ (f : Int) ≤ t' ∧ t = .int .i64 t' ∧ Hid (p < 31 ∧ (t' = p ∨ t' = p + 31 ∨ (t' = 62 ∧ p = 0))) ∧ Hid (MFresh w.heap.size M b d (wsS zl bl n m t') f (p + 1) w wr)) (fun t _ => 62 - (intOf t).toNat)
      case atStart => exact ⟨0, 0, 0, by decide, by decide, rfl, ⟨by decide, Or.inl rfl⟩, F3⟩
      case round =>
        obtain ⟨t, f, p, ht, hf, rfl, HP, HF⟩ := hrel
        clear F3
        by_cases htl : (t : Int) < 62
        · have HP2 : Hid (p < 31 ∧ (t = p ∨ t = p + 31)) := by have := HP.out; unfold Hid; omega
          have ST := hideP (wsS_told zl bl n m HZ.out t p HP2.out.1 HP2.out.2)
          have NX := hideP (wsS_next zl bl n m HZ.out t p HP2.out.1 HP2.out.2)
          have L1 := hideP (HF.out.laid hL.out B0.out)
          have PN : Hid (((p + 1 : Nat) : Int) - 1 = (p : Int)) := by unfold Hid; omega
          have FL := hideP (gtF_le 31 (wsS zl bl n m t) f (p : Int))
          have NP : Hid (∃ p', nxF (p + 1) = p' + 1 ∧ p' < 31 ∧ (t + 1 = p' ∨ t + 1 = p' + 31 ∨ (t + 1 = 62 ∧ p' = 0))) := by
            have := HP2.out
            unfold Hid nxF
            by_cases e : p + 1 = 31
            · exact ⟨0, by rw [if_pos e], by decide, by omega⟩
            · exact ⟨p + 1, by rw [if_neg e], by omega, by omega⟩
          by_cases h31 : (t : Int) < 31
          · by_cases hm : (t : Int) < m
            · have S : Hid (((pkS 31 (wsS zl bl n m t) (((p + 1 : Nat) : Int) - 1) : Nat) : Int) = 1) := by unfold Hid; rw [PN.out, ST.out, if_pos (by omega)]; rfl
              go_wp2_with fail
              refine (fscrub_as M b d f (p + 1) _ _ (by unfold Hid; omega) (by have := HP2.out; omega) (by omega) S _ L1 (hideP HF.out.1)).mono ?_; rintro e w2 ⟨rfl, hF⟩
              rw [PN.out] at hF
              have F2 := hideP (HF.out.now hF)
              clear hF S ST
              go_wp2_with fail
              obtain ⟨p', hp1, hp2, hp3⟩ := NP.out
              refine ⟨⟨t + 1, _, p', by omega, ?_, by rw [Int.natCast_add]; rfl, ⟨hp2, hp3⟩, F2.out.congr (fun i hi => NX.out i hi) rfl hp1⟩, by simp [intOf]; omega⟩
              have := FL.out
              omega
            · have S : Hid (((pkS 31 (wsS zl bl n m t) (((p + 1 : Nat) : Int) - 1) : Nat) : Int) = 0) := by unfold Hid; rw [PN.out, ST.out, if_neg (by omega)]; rfl
              go_wp2_with fail
              refine (fscrub_as M b d f (p + 1) _ _ (by unfold Hid; omega) (by have := HP2.out; omega) (by omega) S _ L1 (hideP HF.out.1)).mono ?_; rintro e w2 ⟨rfl, hF⟩
              rw [PN.out] at hF
              have F2 := hideP (HF.out.now hF)
              clear hF S ST
              go_wp2_with fail
              obtain ⟨p', hp1, hp2, hp3⟩ := NP.out
              refine ⟨⟨t + 1, _, p', by omega, ?_, by rw [Int.natCast_add]; rfl, ⟨hp2, hp3⟩, F2.out.congr (fun i hi => NX.out i hi) rfl hp1⟩, by simp [intOf]; omega⟩
              have := FL.out
              omega
          · have S : Hid (((pkS 31 (wsS zl bl n m t) (((p + 1 : Nat) : Int) - 1) : Nat) : Int) = 0) := by unfold Hid; rw [PN.out, ST.out, if_neg (by omega)]; rfl
            go_wp2_with fail
            refine (fscrub_as M b d f (p + 1) _ _ (by unfold Hid; omega) (by have := HP2.out; omega) (by omega) S _ L1 (hideP HF.out.1)).mono ?_; rintro e w2 ⟨rfl, hF⟩
            rw [PN.out] at hF
            have F2 := hideP (HF.out.now hF)
            clear hF S ST
            go_wp2_with fail
            obtain ⟨p', hp1, hp2, hp3⟩ := NP.out
            refine ⟨⟨t + 1, _, p', by omega, ?_, by rw [Int.natCast_add]; rfl, ⟨hp2, hp3⟩, F2.out.congr (fun i hi => NX.out i hi) rfl hp1⟩, by simp [intOf]; omega⟩
            have := FL.out
            omega
        · have L1 := hideP (HF.out.laid hL.out B0.out)
          go_wp2_with fail
          refine (known _ L1).mono ?_; rintro e w6 ⟨rfl, hF⟩
          have F6 := hideP (HF.out.2.1.trans (hF.mono HF.out.2.1.size))
          clear hF
          go_wp2_with fail
          go_ret
          exact ⟨rfl, F6.out⟩
end Go.Proofs.YtgcpjlnncedcfaaDoor.Walks
