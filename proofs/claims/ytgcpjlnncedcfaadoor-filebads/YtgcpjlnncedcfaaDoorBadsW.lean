/- The walk of FileBads. -/
import Derived.Test.YtgcpjlnncedcfaaDoorBadsN
import Derived.Test.YtgcpjlnncedcfaaDoorKnow
namespace Go.Proofs.YtgcpjlnncedcfaaDoor.Walks
open Go.ChangeShapes Go.WideShapes Go.ChangeAt Go.RowKit
set_option linter.unusedVariables false
theorem MFresh.beside {B M b d f nx : Nat} {ws : Nat → Nat} {w v w' : World} {o : Obj} (h : MFresh B M b d ws f nx w v) (t : TouA v.heap.size (v.alloc o) w') (s : B ≤ v.heap.size) : MFresh B M b d ws f nx w w' := by
  have l := h.2.2
  exact (h.alloc o s).arr t (by omega)
set_option maxRecDepth 100000 in
set_option maxHeartbeats 2000000 in
theorem bads_same (i n m a b : Int) (n0 : 0 ≤ n) (n1 : n < 4294967296) (m0 : 0 ≤ m) (m1 : m < 4294967296) (c k p r x nn mm E : Nat) (hc : Hid (c < 31)) (hp : Hid (p < 31 ∧ p ≠ c)) (hx : Hid (x < 39)) (hck : Hid (k = c + 1))
    (hkb : (k : Int) ≤ 31) (hpb : (p : Int) ≤ 30) (hxb : (x : Int) ≤ 38) (hcb : (c : Int) ≤ 30)
    (hnn : Hid (((nn : Nat) : Int) = n ∧ nn < 4294967296 ∧ n.toNat = nn)) (hmm : Hid (((mm : Nat) : Int) = m ∧ mm < 4294967296 ∧ m.toNat = mm)) (hE : Hid (Num.enc nn ^^^ 2 ^ x ^^^ 2 ^ x = E)) 
    (q0 q1 q2 : Nat) (a0 : bits .and .i64 i 63 = (q0 : Int)) (a1 : bits .and .i64 a 63 = (q1 : Int)) (a2 : bits .and .i64 b 63 = (q2 : Int)) (b0 : (q0 : Int) ≤ 63) (b1 : (q1 : Int) ≤ 63) (b2 : (q2 : Int) ≤ 63)
    (d0 : (q0 : Int) % 31 = c) (d1 : (q1 : Int) % 39 = x) (d2 : (q2 : Int) % 39 = x) (d3 : 1 + (c : Int) = k) (d4 : (k : Int) - 1 = c) (d5 : (k : Int) % 31 = p) (d6 : 1 + (p : Int) = r) (w : World) (hL : Hid (Laid w)) :
    Calls Tryd.prog 6 #[.int .i64 i, .int .u32 n, .int .u32 m, .int .i64 a, .int .i64 b] w fun e w' => e = .returned (.bool true) ∧ FrB w.heap.size w w' := by
  have B0 := hideP hL.out.pos
  have N0 := hideP n0
  have N1 := hideP n1
  have M0 := hideP m0
  have M1 := hideP m1
  clear n0 n1 m0 m1
  have KI : Hid (((k : Int) == 0) = false) := by unfold Hid; rw [beq_eq_false_iff_ne]; omega
  have KJ : Hid (wrap64 ((k : Int) - 1) = (c : Int)) := by unfold Hid wrap64; omega
  have RI : Hid (((r : Int) == 0) = false) := by unfold Hid; rw [beq_eq_false_iff_ne]; omega
  have RJ : Hid (wrap64 ((r : Int) - 1) = (p : Int)) := by unfold Hid wrap64; omega
  have GI : Hid (inB 31 (c : Int) = true) := inB_yes (by omega) (by omega)
  have W1 : Hid (ptW 31 w0 (c : Int) n.toNat = u1 c (Num.enc nn)) := by unfold Hid; rw [hnn.out.2.2]; exact u1_put0 hc.out nn
  have I1 : Hid (39 * (c : Int) + (x : Int) = ((39 * c + x : Nat) : Int)) := by unfold Hid; omega
  have I2 : Hid (39 * (c : Int) + (x : Int) = ((39 * c + x : Nat) : Int)) := by unfold Hid; omega
  have W2 := hideP (u1_flip (Num.enc nn) hc.out hx.out _ I1.out)
  have W3 := hideP (u1_flip (Num.enc nn ^^^ 2 ^ x) hc.out hx.out _ I2.out)
  have GE := hideP (mend_enc nn hnn.out.2.1)
  have EN : Hid (E = Num.enc nn) := by unfold Hid; rw [← hE.out]; exact two_same nn x
  have T4 := hideP (u1_told E hc.out (by rw [EN.out, GE.out.2]; decide) 0)
  have X4 : Hid (((pkV 31 (u1 c E) (c : Int) : Nat) : Int) = n) := by unfold Hid; rw [T4.out.1, EN.out, GE.out.1]; exact hnn.out.1
  have S4 : Hid (((pkS 31 (u1 c E) (c : Int) : Nat) : Int) = 0) := by unfold Hid; rw [T4.out.2.1, EN.out, GE.out.2]; rfl
  have BE : Hid (bdW (u1 c E) 31 = !true) := by unfold Hid; rw [EN.out]; exact u1_good _ GE.out.2
  have q1' : ((x : Int) != x) = false := by simp
  have q2' : ((x : Int) == x) = true := by simp
  have X5 : Hid (((pkV 31 (u1 c E) (p : Int) : Nat) : Int) = 0) := by unfold Hid; rw [(u1_far E hp.out.1 hp.out.2 0).1]; rfl
  have S5 : Hid (((pkS 31 (u1 c E) (p : Int) : Nat) : Int) = 0) := by unfold Hid; rw [(u1_far E hp.out.1 hp.out.2 0).2.1]; rfl
  have W5 := hideP (u1_far E hp.out.1 hp.out.2 0).2.2.1
  have F5 := hideP (u1_far E hp.out.1 hp.out.2 0).2.2.2
  have W6 : Hid (ptW 31 (u1 c E) (c : Int) m.toNat = u1 c (Num.enc mm)) := by unfold Hid; rw [hmm.out.2.2]; exact u1_put E hc.out mm
  have GM := hideP (mend_enc mm hmm.out.2.1)
  have T7 := hideP (u1_told (Num.enc mm) hc.out (by rw [GM.out.2]; decide) 0)
  have X7 : Hid (((pkV 31 (u1 c (Num.enc mm)) (c : Int) : Nat) : Int) = m) := by unfold Hid; rw [T7.out.1, GM.out.1]; exact hmm.out.1
  have S7 : Hid (((pkS 31 (u1 c (Num.enc mm)) (c : Int) : Nat) : Int) = 0) := by unfold Hid; rw [T7.out.2.1, GM.out.2]; rfl
  have BM : Hid (bdW (u1 c (Num.enc mm)) 31 = !true) := u1_good _ GM.out.2
  have AM : Hid (((arF (u1 c (Num.enc mm)) k : Nat) : Int) = m) := by unfold Hid; rw [hck.out, u1_all hc.out hmm.out.2.1]; exact hmm.out.1
  have KL : Hid (k < 32) := by unfold Hid; omega
  go_enter Tryd.func6, Tryd.ntmps6
  go_wp2_with fail
  refine (fnew_as _ hL).mono ?_; rintro e w1 ⟨M, B, D, rfl, hF⟩
  have F1 : Hid (MFresh w.heap.size M B D w0 0 1 w w1) := hF
  have L1 := hideP (F1.out.laid hL.out B0.out)
  clear hF
  go_wp2_with fail
  refine (fwrite_as M B D 0 1 w0 _ _ _ KI.out KJ.out _ GI N0.out N1.out _ L1 (hideP F1.out.1)).mono ?_; rintro e w2 ⟨rfl, hF⟩
  have F2 : Hid (MFresh w.heap.size M B D (u1 c (Num.enc nn)) 0 1 w w2) := F1.out.nowc hF _ _ _ W1.out rfl rfl
  clear hF
  go_wp2_with fail
  refine (fflip_as M B D 0 1 _ _ _ (inF_in (n := 31) I1.out hc.out hx.out) _ (hideP F2.out.1)).mono ?_; rintro e w3 ⟨rfl, hF⟩
  have F3 : Hid (MFresh w.heap.size M B D (u1 c (Num.enc nn ^^^ 2 ^ x)) 0 1 w w3) := F2.out.nowc hF _ _ _ W2.out rfl rfl
  clear hF
  go_wp2_with fail
  refine (fflip_as M B D 0 1 _ _ _ (inF_in (n := 31) I2.out hc.out hx.out) _ (hideP F3.out.1)).mono ?_; rintro e w4 ⟨rfl, hF⟩
  have F4 : Hid (MFresh w.heap.size M B D (u1 c E) 0 1 w w4) := F3.out.nowc hF _ _ _ (by rw [W3.out, hE.out]) rfl rfl
  have L4 := hideP (F4.out.laid hL.out B0.out)
  clear hF
  go_wp2_with fail
  refine (fread_as M B D 0 1 _ _ _ _ _ KI.out KJ.out (by decide) X4 S4 _ L4 (hideP F4.out.1)).mono ?_; rintro e w5 ⟨rfl, hF⟩
  have G5 : Hid (MFresh w.heap.size M B D (u1 c E) 0 1 w w5) := F4.out.nowc hF _ _ _ T4.out.2.2.1 T4.out.2.2.2 rfl
  have L5 := hideP (G5.out.laid hL.out B0.out)
  clear hF
  go_wp2_with fail
  refine (fall_as M B D 0 1 _ _ BE _ L5 (hideP G5.out.1) (hideP ⟨L5.out.pos, G5.out.2.2.2⟩)).mono ?_; rintro e w6 ⟨rfl, hF⟩
  have G6 : Hid (MFresh w.heap.size M B D (u1 c E) 0 1 w w6) := G5.out.past hF G5.out.2.1.size
  have Z6 := hideP (ArrAt.zero w6 33)
  clear hF
  go_wp2_with (first
    | (refine wpList_arr _ w6.heap.size w0 Z6.out (by rfl) _ _ rfl (arF (u1 c E)) _ rfl rfl rfl ?_; intro w7 hA hT; have G7 : Hid (MFresh w.heap.size M B D (u1 c E) 0 1 w w7) := G6.out.beside hT.out G6.out.2.1.size; clear hA hT))
  have L7 := hideP (G7.out.laid hL.out B0.out)
  refine (fread_as M B D 0 1 _ _ _ _ _ RI.out RJ.out (by decide) X5 S5 _ L7 (hideP G7.out.1)).mono ?_; rintro e w8 ⟨rfl, hF⟩
  have G8 : Hid (MFresh w.heap.size M B D (u1 c E) 0 1 w w8) := G7.out.nowc hF _ _ _ W5.out F5.out rfl
  have L8 := hideP (G8.out.laid hL.out B0.out)
  clear hF
  go_wp2_with fail
  refine (fwrite_as M B D 0 1 _ _ _ _ KI.out KJ.out _ GI M0.out M1.out _ L8 (hideP G8.out.1)).mono ?_; rintro e w9 ⟨rfl, hF⟩
  have G9 : Hid (MFresh w.heap.size M B D (u1 c (Num.enc mm)) 0 1 w w9) := G8.out.nowc hF _ _ _ W6.out rfl rfl
  have L9 := hideP (G9.out.laid hL.out B0.out)
  clear hF
  go_wp2_with fail
  refine (fread_as M B D 0 1 _ _ _ _ _ KI.out KJ.out (by decide) X7 S7 _ L9 (hideP G9.out.1)).mono ?_; rintro e w10 ⟨rfl, hF⟩
  have G10 : Hid (MFresh w.heap.size M B D (u1 c (Num.enc mm)) 0 1 w w10) := G9.out.nowc hF _ _ _ T7.out.2.2.1 T7.out.2.2.2 rfl
  have L10 := hideP (G10.out.laid hL.out B0.out)
  clear hF
  go_wp2_with fail
  refine (fall_as M B D 0 1 _ _ BM _ L10 (hideP G10.out.1) (hideP ⟨L10.out.pos, G10.out.2.2.2⟩)).mono ?_; rintro e w11 ⟨rfl, hF⟩
  have G11 : Hid (MFresh w.heap.size M B D (u1 c (Num.enc mm)) 0 1 w w11) := G10.out.past hF G10.out.2.1.size
  have Z11 := hideP (ArrAt.zero w11 33)
  clear hF
  go_wp2_with (first
    | (refine wpList_arr _ w11.heap.size w0 Z11.out (by rfl) _ _ rfl (arF (u1 c (Num.enc mm))) _ rfl rfl rfl ?_; intro w12 hA hT; have G12 : Hid (MFresh w.heap.size M B D (u1 c (Num.enc mm)) 0 1 w w12) := G11.out.beside hT.out G11.out.2.1.size; have c12 : w12.cell? ⟨w11.heap.size, k, none⟩ = some (.int .u32 m) := (by rw [← AM.out]; exact hA.out.hw k KL.out); clear hA hT))
  have L12 := hideP (G12.out.laid hL.out B0.out)
  refine (known _ L12).mono ?_; rintro e w13 ⟨rfl, hF⟩
  have F13 := hideP (G12.out.2.1.trans (hF.mono G12.out.2.1.size))
  clear hF
  go_wp2_with fail
  go_ret
  exact ⟨rfl, F13.out⟩
set_option maxRecDepth 100000 in
set_option maxHeartbeats 2000000 in
theorem bads_two (i n m a b : Int) (n0 : 0 ≤ n) (n1 : n < 4294967296) (m0 : 0 ≤ m) (m1 : m < 4294967296) (c k p r x y nn mm E : Nat) (hc : Hid (c < 31)) (hp : Hid (p < 31 ∧ p ≠ c)) (hx : Hid (x < 39)) (hy : Hid (y < 39)) (hck : Hid (k = c + 1))
    (hkb : (k : Int) ≤ 31) (hpb : (p : Int) ≤ 30) (hxb : (x : Int) ≤ 38) (hyb : (y : Int) ≤ 38) (hcb : (c : Int) ≤ 30)
    (hnn : Hid (((nn : Nat) : Int) = n ∧ nn < 4294967296 ∧ n.toNat = nn)) (hmm : Hid (((mm : Nat) : Int) = m ∧ mm < 4294967296 ∧ m.toNat = mm)) (hE : Hid (Num.enc nn ^^^ 2 ^ x ^^^ 2 ^ y = E)) (hxy : Hid (x ≠ y))
    (q0 q1 q2 : Nat) (a0 : bits .and .i64 i 63 = (q0 : Int)) (a1 : bits .and .i64 a 63 = (q1 : Int)) (a2 : bits .and .i64 b 63 = (q2 : Int)) (b0 : (q0 : Int) ≤ 63) (b1 : (q1 : Int) ≤ 63) (b2 : (q2 : Int) ≤ 63)
    (d0 : (q0 : Int) % 31 = c) (d1 : (q1 : Int) % 39 = x) (d2 : (q2 : Int) % 39 = y) (d3 : 1 + (c : Int) = k) (d4 : (k : Int) - 1 = c) (d5 : (k : Int) % 31 = p) (d6 : 1 + (p : Int) = r) (w : World) (hL : Hid (Laid w)) :
    Calls Tryd.prog 6 #[.int .i64 i, .int .u32 n, .int .u32 m, .int .i64 a, .int .i64 b] w fun e w' => e = .returned (.bool true) ∧ FrB w.heap.size w w' := by
  have B0 := hideP hL.out.pos
  have N0 := hideP n0
  have N1 := hideP n1
  have M0 := hideP m0
  have M1 := hideP m1
  clear n0 n1 m0 m1
  have KI : Hid (((k : Int) == 0) = false) := by unfold Hid; rw [beq_eq_false_iff_ne]; omega
  have KJ : Hid (wrap64 ((k : Int) - 1) = (c : Int)) := by unfold Hid wrap64; omega
  have RI : Hid (((r : Int) == 0) = false) := by unfold Hid; rw [beq_eq_false_iff_ne]; omega
  have RJ : Hid (wrap64 ((r : Int) - 1) = (p : Int)) := by unfold Hid wrap64; omega
  have GI : Hid (inB 31 (c : Int) = true) := inB_yes (by omega) (by omega)
  have W1 : Hid (ptW 31 w0 (c : Int) n.toNat = u1 c (Num.enc nn)) := by unfold Hid; rw [hnn.out.2.2]; exact u1_put0 hc.out nn
  have I1 : Hid (39 * (c : Int) + (x : Int) = ((39 * c + x : Nat) : Int)) := by unfold Hid; omega
  have I2 : Hid (39 * (c : Int) + (y : Int) = ((39 * c + y : Nat) : Int)) := by unfold Hid; omega
  have W2 := hideP (u1_flip (Num.enc nn) hc.out hx.out _ I1.out)
  have W3 := hideP (u1_flip (Num.enc nn ^^^ 2 ^ x) hc.out hy.out _ I2.out)
  have E2 : Hid (Num.mendS E = 2) := by unfold Hid; rw [← hE.out]; exact Num.mend_two nn x y hnn.out.2.1 hx.out hy.out hxy.out
  have T4 := hideP (u1_told E hc.out (by rw [E2.out]; decide) 0)
  obtain ⟨x4, X4⟩ : ∃ x4 : Int, Hid (((pkV 31 (u1 c E) (c : Int) : Nat) : Int) = x4) := ⟨_, rfl⟩
  have S4 : Hid (((pkS 31 (u1 c E) (c : Int) : Nat) : Int) = 2) := by unfold Hid; rw [T4.out.2.1, E2.out]; rfl
  have BE : Hid (bdW (u1 c E) 31 = !false) := u1_bad E hc.out E2.out
  have q1' : ((x : Int) != y) = true := by rw [bne_iff_ne]; have := hxy.out; omega
  have q2' : ((x : Int) == y) = false := by rw [beq_eq_false_iff_ne]; have := hxy.out; omega
  have X5 : Hid (((pkV 31 (u1 c E) (p : Int) : Nat) : Int) = 0) := by unfold Hid; rw [(u1_far E hp.out.1 hp.out.2 0).1]; rfl
  have S5 : Hid (((pkS 31 (u1 c E) (p : Int) : Nat) : Int) = 0) := by unfold Hid; rw [(u1_far E hp.out.1 hp.out.2 0).2.1]; rfl
  have W5 := hideP (u1_far E hp.out.1 hp.out.2 0).2.2.1
  have F5 := hideP (u1_far E hp.out.1 hp.out.2 0).2.2.2
  have W6 : Hid (ptW 31 (u1 c E) (c : Int) m.toNat = u1 c (Num.enc mm)) := by unfold Hid; rw [hmm.out.2.2]; exact u1_put E hc.out mm
  have GM := hideP (mend_enc mm hmm.out.2.1)
  have T7 := hideP (u1_told (Num.enc mm) hc.out (by rw [GM.out.2]; decide) 0)
  have X7 : Hid (((pkV 31 (u1 c (Num.enc mm)) (c : Int) : Nat) : Int) = m) := by unfold Hid; rw [T7.out.1, GM.out.1]; exact hmm.out.1
  have S7 : Hid (((pkS 31 (u1 c (Num.enc mm)) (c : Int) : Nat) : Int) = 0) := by unfold Hid; rw [T7.out.2.1, GM.out.2]; rfl
  have BM : Hid (bdW (u1 c (Num.enc mm)) 31 = !true) := u1_good _ GM.out.2
  have AM : Hid (((arF (u1 c (Num.enc mm)) k : Nat) : Int) = m) := by unfold Hid; rw [hck.out, u1_all hc.out hmm.out.2.1]; exact hmm.out.1
  have KL : Hid (k < 32) := by unfold Hid; omega
  go_enter Tryd.func6, Tryd.ntmps6
  go_wp2_with fail
  refine (fnew_as _ hL).mono ?_; rintro e w1 ⟨M, B, D, rfl, hF⟩
  have F1 : Hid (MFresh w.heap.size M B D w0 0 1 w w1) := hF
  have L1 := hideP (F1.out.laid hL.out B0.out)
  clear hF
  go_wp2_with fail
  refine (fwrite_as M B D 0 1 w0 _ _ _ KI.out KJ.out _ GI N0.out N1.out _ L1 (hideP F1.out.1)).mono ?_; rintro e w2 ⟨rfl, hF⟩
  have F2 : Hid (MFresh w.heap.size M B D (u1 c (Num.enc nn)) 0 1 w w2) := F1.out.nowc hF _ _ _ W1.out rfl rfl
  clear hF
  go_wp2_with fail
  refine (fflip_as M B D 0 1 _ _ _ (inF_in (n := 31) I1.out hc.out hx.out) _ (hideP F2.out.1)).mono ?_; rintro e w3 ⟨rfl, hF⟩
  have F3 : Hid (MFresh w.heap.size M B D (u1 c (Num.enc nn ^^^ 2 ^ x)) 0 1 w w3) := F2.out.nowc hF _ _ _ W2.out rfl rfl
  clear hF
  go_wp2_with fail
  refine (fflip_as M B D 0 1 _ _ _ (inF_in (n := 31) I2.out hc.out hy.out) _ (hideP F3.out.1)).mono ?_; rintro e w4 ⟨rfl, hF⟩
  have F4 : Hid (MFresh w.heap.size M B D (u1 c E) 0 1 w w4) := F3.out.nowc hF _ _ _ (by rw [W3.out, hE.out]) rfl rfl
  have L4 := hideP (F4.out.laid hL.out B0.out)
  clear hF
  go_wp2_with fail
  refine (fread_as M B D 0 1 _ _ _ _ _ KI.out KJ.out (by decide) X4 S4 _ L4 (hideP F4.out.1)).mono ?_; rintro e w5 ⟨rfl, hF⟩
  have G5 : Hid (MFresh w.heap.size M B D (u1 c E) 0 1 w w5) := F4.out.nowc hF _ _ _ T4.out.2.2.1 T4.out.2.2.2 rfl
  have L5 := hideP (G5.out.laid hL.out B0.out)
  clear hF
  go_wp2_with fail
  refine (fall_as M B D 0 1 _ _ BE _ L5 (hideP G5.out.1) (hideP ⟨L5.out.pos, G5.out.2.2.2⟩)).mono ?_; rintro e w6 ⟨rfl, hF⟩
  have G6 : Hid (MFresh w.heap.size M B D (u1 c E) 0 1 w w6) := G5.out.past hF G5.out.2.1.size
  have Z6 := hideP (ArrAt.zero w6 33)
  clear hF
  go_wp2_with (first
    | (refine wpList_arr _ w6.heap.size w0 Z6.out (by rfl) _ _ rfl (arF (u1 c E)) _ rfl rfl rfl ?_; intro w7 hA hT; have G7 : Hid (MFresh w.heap.size M B D (u1 c E) 0 1 w w7) := G6.out.beside hT.out G6.out.2.1.size; clear hA hT))
  have L7 := hideP (G7.out.laid hL.out B0.out)
  refine (fread_as M B D 0 1 _ _ _ _ _ RI.out RJ.out (by decide) X5 S5 _ L7 (hideP G7.out.1)).mono ?_; rintro e w8 ⟨rfl, hF⟩
  have G8 : Hid (MFresh w.heap.size M B D (u1 c E) 0 1 w w8) := G7.out.nowc hF _ _ _ W5.out F5.out rfl
  have L8 := hideP (G8.out.laid hL.out B0.out)
  clear hF
  go_wp2_with fail
  refine (fwrite_as M B D 0 1 _ _ _ _ KI.out KJ.out _ GI M0.out M1.out _ L8 (hideP G8.out.1)).mono ?_; rintro e w9 ⟨rfl, hF⟩
  have G9 : Hid (MFresh w.heap.size M B D (u1 c (Num.enc mm)) 0 1 w w9) := G8.out.nowc hF _ _ _ W6.out rfl rfl
  have L9 := hideP (G9.out.laid hL.out B0.out)
  clear hF
  go_wp2_with fail
  refine (fread_as M B D 0 1 _ _ _ _ _ KI.out KJ.out (by decide) X7 S7 _ L9 (hideP G9.out.1)).mono ?_; rintro e w10 ⟨rfl, hF⟩
  have G10 : Hid (MFresh w.heap.size M B D (u1 c (Num.enc mm)) 0 1 w w10) := G9.out.nowc hF _ _ _ T7.out.2.2.1 T7.out.2.2.2 rfl
  have L10 := hideP (G10.out.laid hL.out B0.out)
  clear hF
  go_wp2_with fail
  refine (fall_as M B D 0 1 _ _ BM _ L10 (hideP G10.out.1) (hideP ⟨L10.out.pos, G10.out.2.2.2⟩)).mono ?_; rintro e w11 ⟨rfl, hF⟩
  have G11 : Hid (MFresh w.heap.size M B D (u1 c (Num.enc mm)) 0 1 w w11) := G10.out.past hF G10.out.2.1.size
  have Z11 := hideP (ArrAt.zero w11 33)
  clear hF
  go_wp2_with (first
    | (refine wpList_arr _ w11.heap.size w0 Z11.out (by rfl) _ _ rfl (arF (u1 c (Num.enc mm))) _ rfl rfl rfl ?_; intro w12 hA hT; have G12 : Hid (MFresh w.heap.size M B D (u1 c (Num.enc mm)) 0 1 w w12) := G11.out.beside hT.out G11.out.2.1.size; have c12 : w12.cell? ⟨w11.heap.size, k, none⟩ = some (.int .u32 m) := (by rw [← AM.out]; exact hA.out.hw k KL.out); clear hA hT))
  have L12 := hideP (G12.out.laid hL.out B0.out)
  refine (known _ L12).mono ?_; rintro e w13 ⟨rfl, hF⟩
  have F13 := hideP (G12.out.2.1.trans (hF.mono G12.out.2.1.size))
  clear hF
  go_wp2_with fail
  go_ret
  exact ⟨rfl, F13.out⟩
theorem bads (i n m a b : Int) (n0 : 0 ≤ n) (n1 : n < 4294967296) (m0 : 0 ≤ m) (m1 : m < 4294967296) (w : World) (hL : Hid (Laid w)) :
    Calls Tryd.prog 6 #[.int .i64 i, .int .u32 n, .int .u32 m, .int .i64 a, .int .i64 b] w fun e w' => e = .returned (.bool true) ∧ FrB w.heap.size w w' := by
  obtain ⟨q0, a0, b0⟩ := and63 i
  obtain ⟨q1, a1, b1⟩ := and63 a
  obtain ⟨q2, a2, b2⟩ := and63 b
  have h1 : Hid (q0 % 31 < 31) := by unfold Hid; omega
  have h2 : Hid ((q0 % 31 + 1) % 31 < 31 ∧ (q0 % 31 + 1) % 31 ≠ q0 % 31) := by unfold Hid; omega
  have h3 : Hid (q1 % 39 < 39) := by unfold Hid; omega
  have h4 : Hid (q2 % 39 < 39) := by unfold Hid; omega
  have h5 : Hid (((n.toNat : Nat) : Int) = n ∧ n.toNat < 4294967296 ∧ n.toNat = n.toNat) := by unfold Hid; omega
  have h6 : Hid (((m.toNat : Nat) : Int) = m ∧ m.toNat < 4294967296 ∧ m.toNat = m.toNat) := by unfold Hid; omega
  by_cases hxy : q1 % 39 = q2 % 39
  · exact bads_same i n m a b n0 n1 m0 m1 (q0 % 31) (q0 % 31 + 1) ((q0 % 31 + 1) % 31) ((q0 % 31 + 1) % 31 + 1) (q1 % 39) n.toNat m.toNat _ h1 h2 h3 rfl (by omega) (by omega) (by omega) (by omega) h5 h6 rfl q0 q1 q2 a0 a1 a2 (by omega) (by omega) (by omega) (by omega) (by omega) (by omega) (by omega) (by omega) (by omega) (by omega) w hL
  · exact bads_two i n m a b n0 n1 m0 m1 (q0 % 31) (q0 % 31 + 1) ((q0 % 31 + 1) % 31) ((q0 % 31 + 1) % 31 + 1) (q1 % 39) (q2 % 39) n.toNat m.toNat _ h1 h2 h3 h4 rfl (by omega) (by omega) (by omega) (by omega) (by omega) h5 h6 rfl hxy q0 q1 q2 a0 a1 a2 (by omega) (by omega) (by omega) (by omega) (by omega) (by omega) (by omega) (by omega) (by omega) (by omega) w hL
end Go.Proofs.YtgcpjlnncedcfaaDoor.Walks
