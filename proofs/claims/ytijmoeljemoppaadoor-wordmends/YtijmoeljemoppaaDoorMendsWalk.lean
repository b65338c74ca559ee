/- The walk of WordMends. -/
import Derived.Test.YtijmoeljemoppaaDoorMendsNum
namespace Go.Proofs.YtijmoeljemoppaaDoor.Walks
open Go.ChangeShapes Go.WideShapes Go.ChangeAt Go.RowKit
set_option linter.unusedVariables false
set_option maxHeartbeats 2000000 in
theorem mends_few (A : Option Addr) (len cap : Nat) (B : Option Addr) (lenB capB : Nat) (zl : Nat → Nat) (bl : Nat → Int) (hlen : (len : Int) ≤ 20) (w : World) (hL : Hid (Laid w))
    (hA : Hid (∀ j, j < len → ∃ b0 o0, A = some ⟨b0, o0, none⟩ ∧ b0 < w.heap.size ∧ w.cell? ⟨b0, o0 + j, none⟩ = some (.int .u32 (zl j)) ∧ zl j < 4294967296))
    (hB : Hid (∀ j, j < lenB → ∃ b0 o0, B = some ⟨b0, o0, none⟩ ∧ b0 < w.heap.size ∧ w.cell? ⟨b0, o0 + j, none⟩ = some (.int .i64 (bl j)))) :
    Calls Tryd.prog 5 #[.slice A len cap, .slice B lenB capB] w fun e w' => e = .returned (.bool true) ∧ FrB w.heap.size w w' := by
  have B0 := hideP hL.out.pos
  go_enter Tryd.func5, Tryd.ntmps5
  go_wp2_with fail
  refine (new_n _ len rfl (by omega) _ hL).mono ?_; rintro e w1 ⟨b, d, rfl, hF⟩
  have F1 := hideP hF
  clear hF
  go_wp2_with fail
  go_loopw [7, 8] (fun t i wr => ∃ k T : Nat, (k : Int) ≤ len ∧ (T : Int) ≤ 20 ∧ t = .int .i64 T ∧ i = .int .i64 k ∧ Hid (tn bl lenB k = T) ∧ Hid (Fresh w.heap.size b d len (wsK zl bl lenB k) 0 w wr)) (fun _ i _ => len - (intOf i).toNat)
  case atStart => exact ⟨0, 0, by omega, by decide, rfl, rfl, rfl, F1.out.congr (fun i hi => by simp [wsK, w0]) rfl⟩
  case round =>
    obtain ⟨k, T, hk, hT, rfl, rfl, HT, HF⟩ := hrel
    rename_i wr
    by_cases hlt : (k : Int) < len
    · obtain ⟨b0, o0, rfl, c0, hl0, hz⟩ := hA.out k (by omega)
      have hlk : wr.cell? ⟨b0, o0 + k, none⟩ = some (.int .u32 (zl k)) := by rw [HF.out.2.1.cell _ _ c0]; exact hl0
      have HZ := hideP hz
      clear hl0 c0 hz
      have L := hideP (HF.out.laid hL.out B0.out)
      have TT : Hid (tn bl lenB (k + 1) ≤ k + 1) := tn_le bl lenB (k + 1)
      by_cases hbt : (k : Int) < lenB
      · cases hfl : fl bl lenB k
        · have HFL := hideP hfl
          have hx : (bits .and .i64 (bl k) 1 == 1) = false := by
            unfold fl at hfl
            rw [decide_eq_true (by omega : k < lenB), Bool.true_and] at hfl
            exact hfl
          clear hfl
          go_wp2_with fail
          refine (put_as b d len 0 (wsK zl bl lenB k) _ _ _ (inB_yes (by omega) hlt) (by omega) (by have := HZ.out; omega) (by omega) _ L HF.out.1).mono ?_; rintro e w2 ⟨rfl, hF⟩
          have F2 := hideP (HF.out.now hF)
          clear hF
          obtain ⟨b1, o1, rfl, c1, hb0⟩ := hB.out k (by omega)
          have hbk : w2.cell? ⟨b1, o1 + k, none⟩ = some (.int .i64 (bl k)) := by rw [F2.out.2.1.cell _ _ c1]; exact hb0
          clear hb0 c1
          go_wp2_with fail
          refine ⟨⟨k + 1, T, by omega, hT, rfl, by rw [Int.natCast_add]; rfl, ?_, ?_⟩, by simp [intOf]; omega⟩
          · unfold Hid; simp only [tn]; rw [HFL.out, HT.out]; rfl
          · exact F2.out.congr (fun i hi => by rw [Int.toNat_natCast]; exact wsK_put zl bl lenB len k (by omega) HFL.out i) rfl
        · have HFL := hideP hfl
          have hx : bits .and .i64 (bl k) 1 = 1 := by
            unfold fl at hfl
            rw [decide_eq_true (by omega : k < lenB), Bool.true_and] at hfl
            simpa using hfl
          clear hfl
          obtain ⟨q0, hq0, hq1⟩ := and63 (bl k / 2)
          have hq2 : (q0 : Int) < 64 := by omega
          have HQ : Hid (qf bl k = q0 % 39) := by unfold Hid qf; rw [hq0, Int.toNat_natCast]
          clear hq1
          go_wp2_with fail
          refine (put_as b d len 0 (wsK zl bl lenB k) _ _ _ (inB_yes (by omega) hlt) (by omega) (by have := HZ.out; omega) (by omega) _ L HF.out.1).mono ?_; rintro e w2 ⟨rfl, hF⟩
          have F2 := hideP (HF.out.now hF)
          clear hF
          obtain ⟨b1, o1, rfl, c1, hb0⟩ := hB.out k (by omega)
          have hbk : w2.cell? ⟨b1, o1 + k, none⟩ = some (.int .i64 (bl k)) := by rw [F2.out.2.1.cell _ _ c1]; exact hb0
          clear hb0 c1
          go_wp2_with fail
          have EI : Hid (39 * (k : Int) + (q0 : Int) % 39 = ((39 * k + qf bl k : Nat) : Int)) := by unfold Hid; rw [HQ.out]; omega
          refine (flip_as b d len 0 _ _ _ (inF_in (n := len) EI.out (by omega) (qf_lt bl k)) (by omega) _ F2.out.1).mono ?_; rintro e w3 ⟨rfl, hF⟩
          have F3 := hideP (F2.out.now hF)
          clear hF
          go_wp2_with fail
          have TK := HT.out
          have TL := TT.out
          have hs : tn bl lenB (k + 1) = T + 1 := by simp only [tn]; rw [HFL.out, TK]; rfl
          refine ⟨⟨k + 1, T + 1, by omega, by omega, by rw [Int.natCast_add]; rfl, by rw [Int.natCast_add]; rfl, hs, ?_⟩, by simp [intOf]; omega⟩
          exact F3.out.congr (fun i hi => by rw [Int.toNat_natCast]; exact wsK_flip zl bl lenB len k (by omega) HFL.out _ EI.out i) rfl
      · have HFL : Hid (fl bl lenB k = false) := by unfold Hid fl; rw [decide_eq_false (by omega : ¬ k < lenB)]; rfl
        go_wp2_with fail
        refine (put_as b d len 0 (wsK zl bl lenB k) _ _ _ (inB_yes (by omega) hlt) (by omega) (by have := HZ.out; omega) (by omega) _ L HF.out.1).mono ?_; rintro e w2 ⟨rfl, hF⟩
        have F2 := hideP (HF.out.now hF)
        clear hF
        go_wp2_with fail
        refine ⟨⟨k + 1, T, by omega, hT, rfl, by rw [Int.natCast_add]; rfl, ?_, ?_⟩, by simp [intOf]; omega⟩
        · unfold Hid; simp only [tn]; rw [HFL.out, HT.out]; rfl
        · exact F2.out.congr (fun i hi => by rw [Int.toNat_natCast]; exact wsK_put zl bl lenB len k (by omega) HFL.out i) rfl
    · have HN : Hid (k = len) := by unfold Hid; omega
      have HS0 : Hid (Fresh w.heap.size b d len (gW zl bl lenB 0 0) (gF bl lenB len 0 0) w wr) := (by have := HF.out; rw [HN.out] at this; exact this.congr (fun i hi => gW_start zl bl lenB len i hi) rfl)
      have TN : Hid (tn bl lenB len = T) := by unfold Hid; rw [← HN.out]; exact HT.out
      clear HF HT
      go_wp2_with fail
      go_loopw [9] (fun t wr => ∃ k : Nat, (k : Int) ≤ 2 ∧ t = .int .i64 k ∧ Hid (Fresh w.heap.size b d len (gW zl bl lenB k 0) (gF bl lenB len k 0) w wr)) (fun t _ => 2 - (intOf t).toNat)
      case atStart => exact ⟨0, by decide, rfl, HS0⟩
      case round =>
        obtain ⟨p, hp, rfl, HF⟩ := hrel
        clear HS0
        by_cases hpl : (p : Int) < 2
        · go_wp2_with fail
          go_loopw [10] (fun t wr => ∃ j : Nat, (j : Int) ≤ len ∧ t = .int .i64 j ∧ Hid (Fresh w.heap.size b d len (gW zl bl lenB p j) (gF bl lenB len p j) w wr)) (fun t _ => len - (intOf t).toNat)
          case atStart => exact ⟨0, by omega, rfl, HF⟩
          case round =>
            obtain ⟨j, hj, rfl, HF3⟩ := hrel
            clear HF
            by_cases hjl : (j : Int) < len
            · obtain ⟨b0, o0, rfl, c0, hl0, hz⟩ := hA.out j (by omega)
              have L := hideP (HF3.out.laid hL.out B0.out)
              have GT := hideP (gW_told zl bl lenB len p j (by omega) hz)
              have GL := hideP (gF_le bl lenB len p j (by omega))
              have NW := hideP (gW_next zl bl lenB len p j (by omega) hz)
              have NF := hideP (gF_next zl bl lenB len p j (by omega) hz)
              obtain ⟨s, hs⟩ : ∃ s : Int, Hid (((gS bl lenB p j : Nat) : Int) = s) := ⟨_, rfl⟩
              have hs2 : (s == 2) = false := by rw [← hs.out, beq_eq_false_iff_ne]; have := gS_le bl lenB p j; omega
              have C0 := hideP c0
              have HL0 := hideP hl0
              clear hl0 c0 hz
              have PV : Hid (((pkV len (gW zl bl lenB p j) (j : Int) : Nat) : Int) = (zl j : Nat)) := by unfold Hid; rw [GT.out.1]
              have PS : Hid (((pkS len (gW zl bl lenB p j) (j : Int) : Nat) : Int) = s) := by unfold Hid; rw [GT.out.2]; exact hs.out
              by_cases hp1 : p = 1
              · obtain rfl : s = 0 := by rw [← hs.out, hp1]; rfl
                have hpb : ((p : Int) == 1) = true := by rw [beq_iff_eq]; omega
                clear hp1
                go_wp2_with fail
                refine (get_as b d len _ (gW zl bl lenB p j) _ _ _ PV PS (by omega) (by have := GL.out; omega) _ L HF3.out.1).mono ?_; rintro e w2 ⟨rfl, hF⟩
                have F2 := hideP (HF3.out.now hF)
                clear hF
                have hlk : w2.cell? ⟨b0, o0 + j, none⟩ = some (.int .u32 (zl j)) := by rw [F2.out.2.1.cell _ _ C0.out]; exact HL0.out
                go_wp2_with fail
                exact ⟨⟨j + 1, by omega, by rw [Int.natCast_add]; rfl, F2.out.congr (fun i _ => NW.out i) NF.out⟩, by simp [intOf]; omega⟩
              · have hpb : ((p : Int) == 1) = false := by rw [beq_eq_false_iff_ne]; omega
                clear hp1
                go_wp2_with fail
                refine (get_as b d len _ (gW zl bl lenB p j) _ _ _ PV PS (by omega) (by have := GL.out; omega) _ L HF3.out.1).mono ?_; rintro e w2 ⟨rfl, hF⟩
                have F2 := hideP (HF3.out.now hF)
                clear hF
                have hlk : w2.cell? ⟨b0, o0 + j, none⟩ = some (.int .u32 (zl j)) := by rw [F2.out.2.1.cell _ _ C0.out]; exact HL0.out
                go_wp2_with fail
                exact ⟨⟨j + 1, by omega, by rw [Int.natCast_add]; rfl, F2.out.congr (fun i _ => NW.out i) NF.out⟩, by simp [intOf]; omega⟩
            · have HJ : Hid (j = len) := by unfold Hid; omega
              go_wp2_with fail
              refine ⟨⟨p + 1, by omega, by rw [Int.natCast_add]; rfl, ?_⟩, by simp [intOf]; omega⟩
              have := HF3.out
              rw [HJ.out] at this
              exact this.congr (fun i hi => gW_turn zl bl lenB len p i hi) (gF_turn bl lenB len p)
        · have FE : gF bl lenB len p 0 = T := by unfold gF; rw [if_neg (by omega)]; exact TN.out
          have F2 := hideP (HF.out.congr (fun _ _ => rfl) FE)
          clear FE
          have L2 := hideP (F2.out.laid hL.out B0.out)
          clear HF
          go_wp2_with fail
          refine (fixes_as b T _ F2.out.1.hf).mono ?_; rintro e w' ⟨rfl, rfl⟩
          go_wp2_with fail
          refine (known _ L2).mono ?_; rintro e w8 ⟨rfl, hF⟩
          have F9 := hideP (F2.out.2.1.trans (hF.mono F2.out.2.1.size))
          clear hF
          go_wp2_with fail
          go_ret
          exact ⟨rfl, F9.out⟩
set_option maxHeartbeats 2000000 in
theorem mends_many (A : Option Addr) (len cap : Nat) (B : Option Addr) (lenB capB : Nat) (zl : Nat → Nat) (bl : Nat → Int) (hlen : 20 < (len : Int)) (w : World) (hL : Hid (Laid w))
    (hA : Hid (∀ j, j < len → ∃ b0 o0, A = some ⟨b0, o0, none⟩ ∧ b0 < w.heap.size ∧ w.cell? ⟨b0, o0 + j, none⟩ = some (.int .u32 (zl j)) ∧ zl j < 4294967296))
    (hB : Hid (∀ j, j < lenB → ∃ b0 o0, B = some ⟨b0, o0, none⟩ ∧ b0 < w.heap.size ∧ w.cell? ⟨b0, o0 + j, none⟩ = some (.int .i64 (bl j)))) :
    Calls Tryd.prog 5 #[.slice A len cap, .slice B lenB capB] w fun e w' => e = .returned (.bool true) ∧ FrB w.heap.size w w' := by
  have B0 := hideP hL.out.pos
  go_enter Tryd.func5, Tryd.ntmps5
  go_wp2_with fail
  refine (new_n _ 20 rfl (by omega) _ hL).mono ?_; rintro e w1 ⟨b, d, rfl, hF⟩
  have F1 := hideP hF
  clear hF
  go_wp2_with fail
  go_loopw [7, 8] (fun t i wr => ∃ k T : Nat, (k : Int) ≤ 20 ∧ (T : Int) ≤ 20 ∧ t = .int .i64 T ∧ i = .int .i64 k ∧ Hid (tn bl lenB k = T) ∧ Hid (Fresh w.heap.size b d 20 (wsK zl bl lenB k) 0 w wr)) (fun _ i _ => 20 - (intOf i).toNat)
  case atStart => exact ⟨0, 0, by omega, by decide, rfl, rfl, rfl, F1.out.congr (fun i hi => by simp [wsK, w0]) rfl⟩
  case round =>
    obtain ⟨k, T, hk, hT, rfl, rfl, HT, HF⟩ := hrel
    rename_i wr
    by_cases hlt : (k : Int) < 20
    · obtain ⟨b0, o0, rfl, c0, hl0, hz⟩ := hA.out k (by omega)
      have hlk : wr.cell? ⟨b0, o0 + k, none⟩ = some (.int .u32 (zl k)) := by rw [HF.out.2.1.cell _ _ c0]; exact hl0
      have HZ := hideP hz
      clear hl0 c0 hz
      have L := hideP (HF.out.laid hL.out B0.out)
      have TT : Hid (tn bl lenB (k + 1) ≤ k + 1) := tn_le bl lenB (k + 1)
      by_cases hbt : (k : Int) < lenB
      · cases hfl : fl bl lenB k
        · have HFL := hideP hfl
          have hx : (bits .and .i64 (bl k) 1 == 1) = false := by
            unfold fl at hfl
            rw [decide_eq_true (by omega : k < lenB), Bool.true_and] at hfl
            exact hfl
          clear hfl
          go_wp2_with fail
          refine (put_as b d 20 0 (wsK zl bl lenB k) _ _ _ (inB_yes (by omega) hlt) (by omega) (by have := HZ.out; omega) (by omega) _ L HF.out.1).mono ?_; rintro e w2 ⟨rfl, hF⟩
          have F2 := hideP (HF.out.now hF)
          clear hF
          obtain ⟨b1, o1, rfl, c1, hb0⟩ := hB.out k (by omega)
          have hbk : w2.cell? ⟨b1, o1 + k, none⟩ = some (.int .i64 (bl k)) := by rw [F2.out.2.1.cell _ _ c1]; exact hb0
          clear hb0 c1
          go_wp2_with fail
          refine ⟨⟨k + 1, T, by omega, hT, rfl, by rw [Int.natCast_add]; rfl, ?_, ?_⟩, by simp [intOf]; omega⟩
          · unfold Hid; simp only [tn]; rw [HFL.out, HT.out]; rfl
          · exact F2.out.congr (fun i hi => by rw [Int.toNat_natCast]; exact wsK_put zl bl lenB 20 k (by omega) HFL.out i) rfl
        · have HFL := hideP hfl
          have hx : bits .and .i64 (bl k) 1 = 1 := by
            unfold fl at hfl
            rw [decide_eq_true (by omega : k < lenB), Bool.true_and] at hfl
            simpa using hfl
          clear hfl
          obtain ⟨q0, hq0, hq1⟩ := and63 (bl k / 2)
          have hq2 : (q0 : Int) < 64 := by omega
          have HQ : Hid (qf bl k = q0 % 39) := by unfold Hid qf; rw [hq0, Int.toNat_natCast]
          clear hq1
          go_wp2_with fail
          refine (put_as b d 20 0 (wsK zl bl lenB k) _ _ _ (inB_yes (by omega) hlt) (by omega) (by have := HZ.out; omega) (by omega) _ L HF.out.1).mono ?_; rintro e w2 ⟨rfl, hF⟩
          have F2 := hideP (HF.out.now hF)
          clear hF
          obtain ⟨b1, o1, rfl, c1, hb0⟩ := hB.out k (by omega)
          have hbk : w2.cell? ⟨b1, o1 + k, none⟩ = some (.int .i64 (bl k)) := by rw [F2.out.2.1.cell _ _ c1]; exact hb0
          clear hb0 c1
          go_wp2_with fail
          have EI : Hid (39 * (k : Int) + (q0 : Int) % 39 = ((39 * k + qf bl k : Nat) : Int)) := by unfold Hid; rw [HQ.out]; omega
          refine (flip_as b d 20 0 _ _ _ (inF_in (n := 20) EI.out (by omega) (qf_lt bl k)) (by omega) _ F2.out.1).mono ?_; rintro e w3 ⟨rfl, hF⟩
          have F3 := hideP (F2.out.now hF)
          clear hF
          go_wp2_with fail
          have TK := HT.out
          have TL := TT.out
          have hs : tn bl lenB (k + 1) = T + 1 := by simp only [tn]; rw [HFL.out, TK]; rfl
          refine ⟨⟨k + 1, T + 1, by omega, by omega, by rw [Int.natCast_add]; rfl, by rw [Int.natCast_add]; rfl, hs, ?_⟩, by simp [intOf]; omega⟩
          exact F3.out.congr (fun i hi => by rw [Int.toNat_natCast]; exact wsK_flip zl bl lenB 20 k (by omega) HFL.out _ EI.out i) rfl
      · have HFL : Hid (fl bl lenB k = false) := by unfold Hid fl; rw [decide_eq_false (by omega : ¬ k < lenB)]; rfl
        go_wp2_with fail
        refine (put_as b d 20 0 (wsK zl bl lenB k) _ _ _ (inB_yes (by omega) hlt) (by omega) (by have := HZ.out; omega) (by omega) _ L HF.out.1).mono ?_; rintro e w2 ⟨rfl, hF⟩
        have F2 := hideP (HF.out.now hF)
        clear hF
        go_wp2_with fail
        refine ⟨⟨k + 1, T, by omega, hT, rfl, by rw [Int.natCast_add]; rfl, ?_, ?_⟩, by simp [intOf]; omega⟩
        · unfold Hid; simp only [tn]; rw [HFL.out, HT.out]; rfl
        · exact F2.out.congr (fun i hi => by rw [Int.toNat_natCast]; exact wsK_put zl bl lenB 20 k (by omega) HFL.out i) rfl
    · have HN : Hid (k = 20) := by unfold Hid; omega
      have HS0 : Hid (Fresh w.heap.size b d 20 (gW zl bl lenB 0 0) (gF bl lenB 20 0 0) w wr) := (by have := HF.out; rw [HN.out] at this; exact this.congr (fun i hi => gW_start zl bl lenB 20 i hi) rfl)
      have TN : Hid (tn bl lenB 20 = T) := by unfold Hid; rw [← HN.out]; exact HT.out
      clear HF HT
      go_wp2_with fail
      go_loopw [9] (fun t wr => ∃ k : Nat, (k : Int) ≤ 2 ∧ t = .int .i64 k ∧ Hid (Fresh w.heap.size b d 20 (gW zl bl lenB k 0) (gF bl lenB 20 k 0) w wr)) (fun t _ => 2 - (intOf t).toNat)
      case atStart => exact ⟨0, by decide, rfl, HS0⟩
      case round =>
        obtain ⟨p, hp, rfl, HF⟩ := hrel
        clear HS0
        by_cases hpl : (p : Int) < 2
        · go_wp2_with fail
          go_loopw [10] (fun t wr => ∃ j : Nat, (j : Int) ≤ 20 ∧ t = .int .i64 j ∧ Hid (Fresh w.heap.size b d 20 (gW zl bl lenB p j) (gF bl lenB 20 p j) w wr)) (fun t _ => 20 - (intOf t).toNat)
          case atStart => exact ⟨0, by omega, rfl, HF⟩
          case round =>
            obtain ⟨j, hj, rfl, HF3⟩ := hrel
            clear HF
            by_cases hjl : (j : Int) < 20
            · obtain ⟨b0, o0, rfl, c0, hl0, hz⟩ := hA.out j (by omega)
              have L := hideP (HF3.out.laid hL.out B0.out)
              have GT := hideP (gW_told zl bl lenB 20 p j (by omega) hz)
              have GL := hideP (gF_le bl lenB 20 p j (by omega))
              have NW := hideP (gW_next zl bl lenB 20 p j (by omega) hz)
              have NF := hideP (gF_next zl bl lenB 20 p j (by omega) hz)
              obtain ⟨s, hs⟩ : ∃ s : Int, Hid (((gS bl lenB p j : Nat) : Int) = s) := ⟨_, rfl⟩
              have hs2 : (s == 2) = false := by rw [← hs.out, beq_eq_false_iff_ne]; have := gS_le bl lenB p j; omega
              have C0 := hideP c0
              have HL0 := hideP hl0
              clear hl0 c0 hz
              have PV : Hid (((pkV 20 (gW zl bl lenB p j) (j : Int) : Nat) : Int) = (zl j : Nat)) := by unfold Hid; rw [GT.out.1]
              have PS : Hid (((pkS 20 (gW zl bl lenB p j) (j : Int) : Nat) : Int) = s) := by unfold Hid; rw [GT.out.2]; exact hs.out
              by_cases hp1 : p = 1
              · obtain rfl : s = 0 := by rw [← hs.out, hp1]; rfl
                have hpb : ((p : Int) == 1) = true := by rw [beq_iff_eq]; omega
                clear hp1
                go_wp2_with fail
                refine (get_as b d 20 _ (gW zl bl lenB p j) _ _ _ PV PS (by omega) (by have := GL.out; omega) _ L HF3.out.1).mono ?_; rintro e w2 ⟨rfl, hF⟩
                have F2 := hideP (HF3.out.now hF)
                clear hF
                have hlk : w2.cell? ⟨b0, o0 + j, none⟩ = some (.int .u32 (zl j)) := by rw [F2.out.2.1.cell _ _ C0.out]; exact HL0.out
                go_wp2_with fail
                exact ⟨⟨j + 1, by omega, by rw [Int.natCast_add]; rfl, F2.out.congr (fun i _ => NW.out i) NF.out⟩, by simp [intOf]; omega⟩
              · have hpb : ((p : Int) == 1) = false := by rw [beq_eq_false_iff_ne]; omega
                clear hp1
                go_wp2_with fail
                refine (get_as b d 20 _ (gW zl bl lenB p j) _ _ _ PV PS (by omega) (by have := GL.out; omega) _ L HF3.out.1).mono ?_; rintro e w2 ⟨rfl, hF⟩
                have F2 := hideP (HF3.out.now hF)
                clear hF
                have hlk : w2.cell? ⟨b0, o0 + j, none⟩ = some (.int .u32 (zl j)) := by rw [F2.out.2.1.cell _ _ C0.out]; exact HL0.out
                go_wp2_with fail
                exact ⟨⟨j + 1, by omega, by rw [Int.natCast_add]; rfl, F2.out.congr (fun i _ => NW.out i) NF.out⟩, by simp [intOf]; omega⟩
            · have HJ : Hid (j = 20) := by unfold Hid; omega
              go_wp2_with fail
              refine ⟨⟨p + 1, by omega, by rw [Int.natCast_add]; rfl, ?_⟩, by simp [intOf]; omega⟩
              have := HF3.out
              rw [HJ.out] at this
              exact this.congr (fun i hi => gW_turn zl bl lenB 20 p i hi) (gF_turn bl lenB 20 p)
        · have FE : gF bl lenB 20 p 0 = T := by unfold gF; rw [if_neg (by omega)]; exact TN.out
          have F2 := hideP (HF.out.congr (fun _ _ => rfl) FE)
          clear FE
          have L2 := hideP (F2.out.laid hL.out B0.out)
          clear HF
          go_wp2_with fail
          refine (fixes_as b T _ F2.out.1.hf).mono ?_; rintro e w' ⟨rfl, rfl⟩
          go_wp2_with fail
          refine (known _ L2).mono ?_; rintro e w8 ⟨rfl, hF⟩
          have F9 := hideP (F2.out.2.1.trans (hF.mono F2.out.2.1.size))
          clear hF
          go_wp2_with fail
          go_ret
          exact ⟨rfl, F9.out⟩
end Go.Proofs.YtijmoeljemoppaaDoor.Walks
