/- Contracts of put, latest, Flip, Bits. -/
import Derived.Test.YtfhijdnbhbonpaaDoorPointOf
namespace Go.Proofs.YtfhijdnbhbonpaaDoor.Walks
open Go.ChangeShapes Go.WideShapes Go.ChangeAt Go.RowKit
set_option linter.unusedVariables false
theorem run_idx54 (f : Nat → Nat) (k : Nat) (hk : (k : Int) < 39) (w : World) : (Instr.index 54 (.agg (wn f 39).toArray) (.int .i64 (k : Int))).run Tryd.prog w = .ok (.int .u32 ((f k : Nat) : Int)) w := by
  obtain ⟨i, hi, hz0, hz1, hz2⟩ := info_parts info23
  have e1 := run_part_plain w plain23 (xs := (wn f 39).toArray) (off := k) (v := .int .u32 ((f k : Nat) : Int)) (wn_arr f 39 k (by omega))
  unfold Instr.index
  simp [asIntOf, run_underlying Tryd.underlying54, sizeOf, typeInfo, hi, hz1, e1]
  intro h
  omega
/-- while put goes on: p's own box, the words so far -/
structure PutAt (w : World) (M b d : Nat) (ws : Nat → Nat) (f nx : Nat) (wr : World) : Prop where
  now : SNow M b d ws f nx w wr
  sz : w.heap.size + 1 ≤ wr.heap.size
theorem ptK_zero (ws : Nat → Nat) (b : Nat) (p : Nat → Nat) : ptK ws b p 0 = ws := rfl
theorem ptK_succ (ws : Nat → Nat) (b : Nat) (p : Nat → Nat) (k : Nat) : ptK ws b p (k + 1) = ptW 79 (ptK ws b p k) ((b + k : Nat) : Int) (p k) := rfl
set_option maxRecDepth 100000 in
set_option maxHeartbeats 1000000 in
theorem put_core (M b d f nx o : Nat) (ws p : Nat → Nat) (ho : (o : Int) ≤ 1) (hp : Hid (∀ i, i < 39 → p i < 4294967296)) (w : World) (hS : Hid (SAt M b d ws f nx w)) :
    Calls Tryd.prog 23 #[.pointer (some ⟨M, 0, none⟩), .int .i64 o, .agg (wn p 39).toArray] w fun e w' => e = .returned (.tuple #[]) ∧ SNow M b d (ptK ws (39 * o) p 39) f nx w w' := by
  have S1 := hideP (hS.out.alloc (.cells (wn p 39).toArray 54))
  have R1 := hideP (ArrAt.new w p 39 54).range
  go_enter Tryd.func23, Tryd.ntmps23
  go_wp2_with (first
    | (refine load_want (by rfl) 54 _ rfl w.heap.size 0 rfl (wn p 39) _ R1.out Tryd.underlying54 rfl (by rw [wn_len]; exact size54) ?_))
  generalize (w.alloc (.cells (wn p 39).toArray 54)) = w1 at *
  go_loopw [9] (fun t wr => ∃ k : Nat, (k : Int) ≤ 39 ∧ t = .int .i64 k ∧ Hid (SNow M b d (ptK ws (39 * o) p k) f nx w wr)) (fun t _ => 39 - (intOf t).toNat)
  case atStart => exact ⟨0, by decide, rfl, S1⟩
  case round =>
    obtain ⟨k, hk, rfl, HA⟩ := hrel
    rename_i wr
    clear S1
    by_cases hlt : (k : Int) < 39
    · have hr := HA.out.1.mem.hr
      have hix := run_idx54 p k hlt
      have HI : Hid ((o : Int) * 39 + k = ((39 * o + k : Nat) : Int)) := by unfold Hid; omega
      obtain ⟨g, G⟩ : ∃ g, Hid (inB 79 ((o : Int) * 39 + k) = g) := ⟨_, rfl⟩
      have p1 : ((p k : Nat) : Int) < 4294967296 := by have := hp.out k (by omega); omega
      have L := hideP HA.out.1.laid
      have R := hideP HA.out.1.mem.row
      go_wp2_with fail
      refine (put_as b d 79 f _ _ _ g G (by omega) p1 (by decide) _ L R).mono ?_; rintro e w2 ⟨rfl, hN⟩
      have A2 : Hid (SNow M b d (ptK ws (39 * o) p (k + 1)) f nx w w2) := by
        have := HA.out.trans (HA.out.1.now hN)
        rw [HI.out] at this
        exact this
      clear hN
      go_wp2_with fail
      exact ⟨⟨k + 1, by omega, by rw [Int.natCast_add]; rfl, A2⟩, by simp [intOf]; omega⟩
    · have e : k = 39 := by omega
      subst e
      go_wp2_with fail
      go_end0
      exact ⟨rfl, HA.out⟩
theorem low1 (x : Nat) (hx : x < 4294967296) : bits .and .u32 (x : Int) 1 = ((x % 2 : Nat) : Int) := by
  rw [show (1 : Int) = ((1 : Nat) : Int) from rfl, u32_and_nat _ _ hx (by decide), show (1 : Nat) = 2 ^ 1 - 1 from rfl, Nat.and_two_pow_sub_one_eq_mod]
set_option maxHeartbeats 600000 in
theorem latest_as (M b d f nx : Nat) (ws : Nat → Nat) (l : Nat) (g : Bool) (HL : Hid (lat ws = l)) (G : Hid (knw ws = g)) (hf : (f : Int) < 4611686018427387904) (w : World) (hS : Hid (SAt M b d ws f nx w)) :
    Calls Tryd.prog 25 #[.pointer (some ⟨M, 0, none⟩)] w fun e w' => e = .returned (.tuple #[.int .i64 l, .bool g]) ∧ SNow M b d (ws1 ws) (f1 ws f) nx w w' := by
  have hr := hS.out.mem.hr
  have X : Hid (((pkV 79 ws 78 : Nat) : Int) = (vw ws 78 : Nat)) := by unfold Hid; rw [show (78 : Int) = ((78 : Nat) : Int) from rfl, pkV_is ws (by decide)]
  have S : Hid (((pkS 79 ws 78 : Nat) : Int) = (Num.mendS (ws 78) : Nat)) := by unfold Hid; rw [show (78 : Int) = ((78 : Nat) : Int) from rfl, pkS_is ws (by decide)]
  have A := low1 _ (vw_lt ws 78)
  have l1 : (l : Int) ≤ 1 := by have := lat_le ws; rw [HL.out] at this; omega
  rw [show vw ws 78 % 2 = l from HL.out] at A
  have L := hideP hS.out.laid
  have R := hideP hS.out.mem.row
  have SG : Hid ((((Num.mendS (ws 78) : Nat) : Int) == 2) = !g) := by
    unfold Hid
    rw [← G.out]
    unfold knw
    rw [Bool.not_not]
    by_cases e : Num.mendS (ws 78) = 2
    · rw [e]; rfl
    · rw [beq_eq_false_iff_ne.2 e, beq_eq_false_iff_ne]; omega
  generalize ((vw ws 78 : Nat) : Int) = x at *
  generalize ((Num.mendS (ws 78) : Nat) : Int) = s at *
  have sg := SG.out
  cases g
  all_goals
    go_enter Tryd.func25, Tryd.ntmps25
    go_wp2_with fail
    refine (get_as b d 79 f ws 78 x s X S (by decide) hf _ L R).mono ?_; rintro e w2 ⟨rfl, hN⟩
    have A2 : Hid (SNow M b d (ws1 ws) (f1 ws f) nx w w2) := hS.out.now hN
    clear hN
    go_wp2_with fail
    refine bodyPost_ret (v := .tuple #[.int .i64 l, .bool (s != 2)]) (by simp [results, Tryd.results25]) rfl ⟨?_, A2.out⟩
    rw [show (s != 2) = !(s == 2) from rfl, sg]
    rfl
theorem sflip_as (M b d f nx : Nat) (ws : Nat → Nat) (i : Int) (g : Bool) (G : Hid (inF 79 i = g)) (w : World) (hS : Hid (SAt M b d ws f nx w)) :
    Calls Tryd.prog 13 #[.pointer (some ⟨M, 0, none⟩), .int .i64 i] w fun e w' => e = .returned (.bool g) ∧ SNow M b d (flW 79 ws i) f nx w w' := by
  have hr := hS.out.mem.hr
  have R := hideP hS.out.mem.row
  go_enter Tryd.func13, Tryd.ntmps13
  go_wp2_with fail
  refine (flip_as b d 79 f ws i g G (by decide) _ R).mono ?_; rintro e w2 ⟨rfl, hN⟩
  have A2 := hideP (hS.out.now hN)
  clear hN
  go_wp2_with fail
  go_ret
  exact ⟨rfl, A2.out⟩
theorem sbits_as (M b d f nx : Nat) (ws : Nat → Nat) (w : World) (hS : Hid (SAt M b d ws f nx w)) :
    Calls Tryd.prog 21 #[.pointer (some ⟨M, 0, none⟩)] w fun e w' => e = .returned (.int .i64 3081) ∧ w' = w := by
  have hr := hS.out.mem.hr
  have R := hideP hS.out.mem.row.hs
  go_enter Tryd.func21, Tryd.ntmps21
  go_wp2_with fail
  refine (bits_as b d 79 (by decide) _ R.out).mono ?_; rintro e w2 ⟨rfl, rfl⟩
  go_wp2_with fail
  go_ret
  exact ⟨rfl, rfl⟩
end Go.Proofs.YtfhijdnbhbonpaaDoor.Walks
