/- The walk of FileNumbers. -/
import Derived.Test.YtgcpjlnncedcfaaDoorPlaysW
namespace Go.Proofs.YtgcpjlnncedcfaaDoor.Walks
open Go.ChangeShapes Go.WideShapes Go.ChangeAt Go.RowKit
set_option linter.unusedVariables false
def three : Array Value := #[.int .i64 0, .int .i64 4611686018427387904, .int .u32 0, .int .i64 2, .int .i64 (-9223372036854775808), .int .u32 0, .int .i64 5, .int .i64 1209, .int .u32 0]
theorem three_asks (w : World) : ∃ kd ix nn, AsksIn (w.alloc (.cells three 25)) (some ⟨w.heap.size, 0, none⟩) 3 kd ix nn := by
  have own := World.ownsRow_lit (base := 0) (e := 25) (size := 3) w three 3 (Nat.zero_le _) (by decide) rfl
  have ok : Okay three.toList 3 := by
    intro j hj
    match j, hj with
    | 0, _ => exact ⟨0, 4611686018427387904, 0, rfl, rfl, rfl, by decide, by decide, by unfold In64; decide⟩
    | 1, _ => exact ⟨2, -9223372036854775808, 0, rfl, rfl, rfl, by decide, by decide, by unfold In64; decide⟩
    | 2, _ => exact ⟨5, 1209, 0, rfl, rfl, rfl, by decide, by decide, by unfold In64; decide⟩
  obtain ⟨A, cap, kd, ix, nn, e, h⟩ := own_asks own ok
  simp only [Value.slice.injEq] at e
  obtain ⟨rfl, _, _⟩ := e
  exact ⟨kd, ix, nn, h⟩
set_option maxRecDepth 100000 in
set_option maxHeartbeats 4000000 in
theorem numbers (w : World) (hL : Hid (Laid w)) :
    Calls Tryd.prog 3 #[] w fun e w' => e = .returned (.bool true) ∧ FrB w.heap.size w w' := by
  obtain ⟨i0, hi, hz0, hz1, hz2⟩ := info_parts info25
  have B0 := hideP hL.out.pos
  go_enter Tryd.func3, Tryd.ntmps3
  go_wp2_with fail
  go_loopw [1] (fun t wr => ∃ p : Nat, (p : Int) ≤ 30 ∧ t = .int .i64 p ∧ Hid (FrB w.heap.size w wr)) (fun t _ => 30 - (intOf t).toNat)
  case atStart => exact ⟨0, by decide, rfl, FrB.refl _ _⟩
  case round =>
    obtain ⟨p, hp, rfl, HP⟩ := hrel
    by_cases hpl : (p : Int) < 30
    · go_wp2_with fail
      go_loopw [2, 3] (fun v i wr => ∃ (k : Nat) (xs : List Value), (k : Int) ≤ 90 ∧ i = .int .i64 k ∧ Hid (wr.ownsRow w.heap.size 25 3 v k xs) ∧ Hid (Okay xs k) ∧ Hid (FrB w.heap.size w wr)) (fun _ i _ => 90 - (intOf i).toNat)
      case atStart => exact ⟨0, [], by decide, rfl, World.ownsRow_nil _ _ _ _, Okay.nil, HP⟩
      case round =>
        obtain ⟨k, xs, hk, rfl, HO, HK, HF⟩ := hrel
        by_cases hlt : (k : Int) < 90
        · obtain ⟨sq, hsq, s0, s1⟩ : ∃ sq : Int, (k : Int) * (k : Int) = sq ∧ 0 ≤ sq ∧ sq ≤ 8100 := by
            refine ⟨_, rfl, Int.mul_nonneg (by omega) (by omega), ?_⟩
            have : (k : Int) * (k : Int) ≤ 90 * 90 := Int.mul_le_mul (by omega) (by omega) (by omega) (by omega)
            omega
          rename_i wr
          by_cases h4 : 4 < (sq + (p : Int)) % 7
          · have I2 : Hid (In64 ((sq * 13 + (p : Int) * 7) % 1212 - 1)) := ⟨by omega, by omega⟩
            have C1 := hideP (news3p wr (.int .i64 ((sq + (p : Int)) % 7)) (.int .i64 ((sq * 13 + (p : Int) * 7) % 1212 - 1)) (.int .u32 ((k : Int) * 16843009)) (.cells #[.int .i64 ((sq + (p : Int)) % 7), .int .i64 ((sq * 13 + (p : Int) * 7) % 1212 - 1), .int .u32 ((k : Int) * 16843009)] 25))
            have C2 := hideP (one3 ((sq + (p : Int)) % 7) ((sq * 13 + (p : Int) * 7) % 1212 - 1) ((k : Int) * 16843009))
            have C3 : Hid (k + 1 ≤ maxLen) := by unfold Hid maxLen; omega
            have C4 : Hid ((k + 1) * 24 ≤ 140737488355328) := by unfold Hid; omega
            have C5 := hideP (size3p wr (.cells #[.int .i64 ((sq + (p : Int)) % 7), .int .i64 ((sq * 13 + (p : Int) * 7) % 1212 - 1), .int .u32 ((k : Int) * 16843009)] 25) (.cells #[.int .i64 ((sq + (p : Int)) % 7), .int .i64 ((sq * 13 + (p : Int) * 7) % 1212 - 1), .int .u32 ((k : Int) * 16843009)] 25) HF.out.size)
            go_wp2_with (first
              | (at_builtin; refine wpList_append_own _ rfl _ _ 22 rfl w.heap.size 25 i0 (.agg #[.int .i64 0, .int .i64 0, .int .u32 0]) 3 24 Tryd.underlying22 hi hz0 hz1 hz2 rfl (by decide) _ _ _ rfl (by exact (HO.out.alloc _).alloc _) ⟨wr.heap.size + 1, 0, none⟩ 1 1 [.int .i64 ((sq + (p : Int)) % 7), .int .i64 ((sq * 13 + (p : Int) * 7) % 1212 - 1), .int .u32 ((k : Int) * 16843009)] rfl rfl C1.out C2.out C3.out C4.out C5.out ?_))
            intro v' w1 hown' hgrow _
            have O1 := hideP hown'
            have K1 := hideP (HK.out.snoc (by have := HO.out.1; omega) ((sq + (p : Int)) % 7) ((sq * 13 + (p : Int) * 7) % 1212 - 1) ((k : Int) * 16843009) (by omega) (by omega) I2.out)
            have F1 := hideP (FrB.appp HF.out hgrow HF.out.size (fun k hk => (HO.out.lt k hk).1))
            clear hown' hgrow C1 C2 C3 C4 C5
            go_wp2_with fail
            exact ⟨⟨k + 1, _, by omega, by rw [Int.natCast_add]; rfl, O1, K1, F1⟩, by simp [intOf]; omega⟩
          · have I2 : Hid (In64 (((k : Int) * 7 + (p : Int)) % 35 - 1)) := ⟨by omega, by omega⟩
            have C1 := hideP (news3p wr (.int .i64 ((sq + (p : Int)) % 7)) (.int .i64 (((k : Int) * 7 + (p : Int)) % 35 - 1)) (.int .u32 ((k : Int) * 16843009)) (.cells #[.int .i64 ((sq + (p : Int)) % 7), .int .i64 (((k : Int) * 7 + (p : Int)) % 35 - 1), .int .u32 ((k : Int) * 16843009)] 25))
            have C2 := hideP (one3 ((sq + (p : Int)) % 7) (((k : Int) * 7 + (p : Int)) % 35 - 1) ((k : Int) * 16843009))
            have C3 : Hid (k + 1 ≤ maxLen) := by unfold Hid maxLen; omega
            have C4 : Hid ((k + 1) * 24 ≤ 140737488355328) := by unfold Hid; omega
            have C5 := hideP (size3p wr (.cells #[.int .i64 ((sq + (p : Int)) % 7), .int .i64 (((k : Int) * 7 + (p : Int)) % 35 - 1), .int .u32 ((k : Int) * 16843009)] 25) (.cells #[.int .i64 ((sq + (p : Int)) % 7), .int .i64 (((k : Int) * 7 + (p : Int)) % 35 - 1), .int .u32 ((k : Int) * 16843009)] 25) HF.out.size)
            go_wp2_with (first
              | (at_builtin; refine wpList_append_own _ rfl _ _ 22 rfl w.heap.size 25 i0 (.agg #[.int .i64 0, .int .i64 0, .int .u32 0]) 3 24 Tryd.underlying22 hi hz0 hz1 hz2 rfl (by decide) _ _ _ rfl (by exact (HO.out.alloc _).alloc _) ⟨wr.heap.size + 1, 0, none⟩ 1 1 [.int .i64 ((sq + (p : Int)) % 7), .int .i64 (((k : Int) * 7 + (p : Int)) % 35 - 1), .int .u32 ((k : Int) * 16843009)] rfl rfl C1.out C2.out C3.out C4.out C5.out ?_))
            intro v' w1 hown' hgrow _
            have O1 := hideP hown'
            have K1 := hideP (HK.out.snoc (by have := HO.out.1; omega) ((sq + (p : Int)) % 7) (((k : Int) * 7 + (p : Int)) % 35 - 1) ((k : Int) * 16843009) (by omega) (by omega) I2.out)
            have F1 := hideP (FrB.appp HF.out hgrow HF.out.size (fun k hk => (HO.out.lt k hk).1))
            clear hown' hgrow C1 C2 C3 C4 C5
            go_wp2_with fail
            exact ⟨⟨k + 1, _, by omega, by rw [Int.natCast_add]; rfl, O1, K1, F1⟩, by simp [intOf]; omega⟩
        · have hkl : k = 90 := by omega
          subst hkl
          obtain ⟨A', cap', kd', ix', nn', rfl, HA'⟩ := own_asks HO.out HK.out
          have HA1 := hideP HA'
          have L1 := hideP (HF.out.laid hL.out B0.out)
          clear HA' HO HK
          go_wp2_with fail
          refine (play A' _ cap' kd' ix' nn' _ L1 HA1).mono ?_; rintro e w3 ⟨rfl, hF⟩
          have F3 := hideP (HF.out.trans (hF.mono HF.out.size))
          clear hF
          go_wp2_with fail
          exact ⟨⟨p + 1, by omega, by rw [Int.natCast_add]; rfl, F3⟩, by simp [intOf]; omega⟩
    · rename_i w3
      obtain ⟨kd, ix, nn, HQ⟩ := three_asks wr
      have HA := hideP HQ
      have F3 := hideP (HP.out.trans ((FrB.alloc wr (.cells three 25)).mono HP.out.size))
      have L3 := hideP (F3.out.laid hL.out B0.out)
      clear HQ
      go_wp2_with fail
      refine (play _ _ _ kd ix nn _ L3 HA).mono ?_; rintro e w4 ⟨rfl, hF⟩
      have F4 := hideP (F3.out.trans (hF.mono F3.out.size))
      have L4 := hideP (F4.out.laid hL.out B0.out)
      clear hF
      go_wp2_with fail
      refine (known _ L4).mono ?_; rintro e w6 ⟨rfl, hF⟩
      have F6 := hideP (F4.out.trans (hF.mono F4.out.size))
      clear hF
      go_wp2_with fail
      go_ret
      exact ⟨rfl, F6.out⟩
end Go.Proofs.YtgcpjlnncedcfaaDoor.Walks
