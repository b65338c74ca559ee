/- The walk of WordNumbers. -/
import Derived.Test.YtijmoeljemoppaaDoorPlaysWalk
namespace Go.Proofs.YtijmoeljemoppaaDoor.Walks
open Go.ChangeShapes Go.WideShapes Go.ChangeAt Go.RowKit
set_option linter.unusedVariables false
theorem news3p (wr : World) (p q r : Value) (c : Obj) (j : Nat) (u : Value) (hj : [p, q, r][j]? = some u) : ((wr.alloc c).alloc (.cells #[p, q, r] 25)).cell? ((⟨wr.heap.size + 1, 0, none⟩ : Addr).add j) = some u := news3 wr p q r c j u hj
theorem size3p {B : Nat} (wr : World) (c c' : Obj) (hB : B ≤ wr.heap.size) : B ≤ ((wr.alloc c).alloc c').heap.size := size3 wr c c' hB
theorem FrB.appp {B : Nat} {w wr w1 : World} {c c' : Obj} {row : Option Nat} (h : FrB B w wr) (hg : ((wr.alloc c).alloc c').grownBy w1 row) (hB : B ≤ wr.heap.size) (hr : ∀ k, row = some k → B ≤ k) : FrB B w w1 := by
  have a : FrB B wr (wr.alloc c) := (FrB.alloc wr c).mono hB
  have b : FrB B (wr.alloc c) ((wr.alloc c).alloc c') := (FrB.alloc _ c').mono (by simp; omega)
  exact ((h.trans a).trans b).trans (FrB.grown hg (size3p wr c c' hB) hr)
theorem nil_asks (w : World) : AsksIn w none 0 (fun _ => 0) (fun _ => 0) (fun _ => 0) := fun j hj => absurd hj (Nat.not_lt_zero _)
def four : Array Value := #[.int .i64 0, .int .i64 2047, .int .u32 7, .int .i64 4, .int .i64 79871, .int .u32 0, .int .i64 4, .int .i64 79872, .int .u32 0, .int .i64 1, .int .i64 2047, .int .u32 0]
theorem four_asks (w : World) : ∃ kd ix nn, AsksIn (w.alloc (.cells four 25)) (some ⟨w.heap.size, 0, none⟩) 4 kd ix nn := by
  have own := World.ownsRow_lit (base := 0) (e := 25) (size := 3) w four 4 (Nat.zero_le _) (by decide) rfl
  have ok : Okay four.toList 4 := by
    intro j hj
    match j, hj with
    | 0, _ => exact ⟨0, 2047, 7, rfl, rfl, rfl, by decide, by decide⟩
    | 1, _ => exact ⟨4, 79871, 0, rfl, rfl, rfl, by decide, by decide⟩
    | 2, _ => exact ⟨4, 79872, 0, rfl, rfl, rfl, by decide, by decide⟩
    | 3, _ => exact ⟨1, 2047, 0, rfl, rfl, rfl, by decide, by decide⟩
  obtain ⟨A, cap, kd, ix, nn, e, h⟩ := own_asks own ok
  simp only [Value.slice.injEq] at e
  obtain ⟨rfl, _, _⟩ := e
  exact ⟨kd, ix, nn, h⟩
set_option maxRecDepth 100000 in
set_option maxHeartbeats 4000000 in
theorem numbers (w : World) (hL : Hid (Laid w)) :
    Calls Tryd.prog 3 #[] w fun e w' => e = .returned (.bool true) ∧ FrB w.heap.size w w' := by
  obtain ⟨i0, hi, hz0, hz1, hz2⟩ := info_parts info25
  have B0 := hideP hL.out.pos
  go_enter Tryd.func3, Tryd.ntmps3
  go_wp2_with fail
  go_loopw [1] (fun t wr => ∃ p : Nat, (p : Int) ≤ 30 ∧ t = .int .i64 p ∧ Hid (FrB w.heap.size w wr)) (fun t _ => 30 - (intOf t).toNat)
  case atStart => exact ⟨0, by decide, rfl, FrB.refl _ _⟩
  case round =>
    obtain ⟨p, hp, rfl, HP⟩ := hrel
    by_cases hpl : (p : Int) < 30
    · go_wp2_with fail
      go_loopw [2, 3] (fun v i wr => ∃ (k : Nat) (xs : List Value), (k : Int) ≤ 70 ∧ i = .int .i64 k ∧ Hid (wr.ownsRow w.heap.size 25 3 v k xs) ∧ Hid (Okay xs k) ∧ Hid (FrB w.heap.size w wr)) (fun _ i _ => 70 - (intOf i).toNat)
      case atStart => exact ⟨0, [], by decide, rfl, World.ownsRow_nil _ _ _ _, Okay.nil, HP⟩
      case round =>
        obtain ⟨k, xs, hk, rfl, HO, HK, HF⟩ := hrel
        by_cases hlt : (k : Int) < 70
        · obtain ⟨sq, hsq, s0, s1⟩ : ∃ sq : Int, (k : Int) * (k : Int) = sq ∧ 0 ≤ sq ∧ sq ≤ 4900 := by
            refine ⟨_, rfl, Int.mul_nonneg (by omega) (by omega), ?_⟩
            have : (k : Int) * (k : Int) ≤ 70 * 70 := Int.mul_le_mul (by omega) (by omega) (by omega) (by omega)
            omega
          rename_i wr
          by_cases h4 : 3 < (sq + (p : Int)) % 7
          · have C1 := hideP (news3p wr (.int .i64 ((sq + (p : Int)) % 7)) (.int .i64 ((sq * 31 + (p : Int) * 17) % 170)) (.int .u32 ((k : Int) * 19088743)) (.cells #[.int .i64 ((sq + (p : Int)) % 7), .int .i64 ((sq * 31 + (p : Int) * 17) % 170), .int .u32 ((k : Int) * 19088743)] 25))
            have C2 : Hid (∀ u ∈ [Value.int .i64 ((sq + (p : Int)) % 7), .int .i64 ((sq * 31 + (p : Int) * 17) % 170), .int .u32 ((k : Int) * 19088743)], u.oneCell' = true) := by
              intro u hu
              simp only [List.mem_cons, List.not_mem_nil, or_false] at hu
              rcases hu with rfl | rfl | rfl <;> rfl
            have C3 : Hid (k + 1 ≤ maxLen) := by unfold Hid maxLen; omega
            have C4 : Hid ((k + 1) * 24 ≤ 140737488355328) := by unfold Hid; omega
            have C5 := hideP (size3p wr (.cells #[.int .i64 ((sq + (p : Int)) % 7), .int .i64 ((sq * 31 + (p : Int) * 17) % 170), .int .u32 ((k : Int) * 19088743)] 25) (.cells #[.int .i64 ((sq + (p : Int)) % 7), .int .i64 ((sq * 31 + (p : Int) * 17) % 170), .int .u32 ((k : Int) * 19088743)] 25) HF.out.size)
            go_wp2_with (first
              | (at_builtin; refine wpList_append_own _ rfl _ _ 22 rfl w.heap.size 25 i0 (.agg #[.int .i64 0, .int .i64 0, .int .u32 0]) 3 24 Tryd.underlying22 hi hz0 hz1 hz2 rfl (by decide) _ _ _ rfl (by exact (HO.out.alloc _).alloc _) ⟨wr.heap.size + 1, 0, none⟩ 1 1 [.int .i64 ((sq + (p : Int)) % 7), .int .i64 ((sq * 31 + (p : Int) * 17) % 170), .int .u32 ((k : Int) * 19088743)] rfl rfl C1.out C2.out C3.out C4.out C5.out ?_))
            intro v' w1 hown' hgrow _
            have O1 := hideP hown'
            have K1 := hideP (HK.out.snoc (by have := HO.out.1; omega) ((sq + (p : Int)) % 7) ((sq * 31 + (p : Int) * 17) % 170) ((k : Int) * 19088743) (by omega) (by omega))
            have F1 := hideP (FrB.appp HF.out hgrow HF.out.size (fun k hk => (HO.out.lt k hk).1))
            clear hown' hgrow C1 C2 C3 C4 C5
            go_wp2_with fail
            exact ⟨⟨k + 1, _, by omega, by rw [Int.natCast_add]; rfl, O1, K1, F1⟩, by simp [intOf]; omega⟩
          · have C1 := hideP (news3p wr (.int .i64 ((sq + (p : Int)) % 7)) (.int .i64 (((k : Int) * 7 + (p : Int)) % 5 - 1)) (.int .u32 ((k : Int) * 19088743)) (.cells #[.int .i64 ((sq + (p : Int)) % 7), .int .i64 (((k : Int) * 7 + (p : Int)) % 5 - 1), .int .u32 ((k : Int) * 19088743)] 25))
            have C2 : Hid (∀ u ∈ [Value.int .i64 ((sq + (p : Int)) % 7), .int .i64 (((k : Int) * 7 + (p : Int)) % 5 - 1), .int .u32 ((k : Int) * 19088743)], u.oneCell' = true) := by
              intro u hu
              simp only [List.mem_cons, List.not_mem_nil, or_false] at hu
              rcases hu with rfl | rfl | rfl <;> rfl
            have C3 : Hid (k + 1 ≤ maxLen) := by unfold Hid maxLen; omega
            have C4 : Hid ((k + 1) * 24 ≤ 140737488355328) := by unfold Hid; omega
            have C5 := hideP (size3p wr (.cells #[.int .i64 ((sq + (p : Int)) % 7), .int .i64 (((k : Int) * 7 + (p : Int)) % 5 - 1), .int .u32 ((k : Int) * 19088743)] 25) (.cells #[.int .i64 ((sq + (p : Int)) % 7), .int .i64 (((k : Int) * 7 + (p : Int)) % 5 - 1), .int .u32 ((k : Int) * 19088743)] 25) HF.out.size)
            go_wp2_with (first
              | (at_builtin; refine wpList_append_own _ rfl _ _ 22 rfl w.heap.size 25 i0 (.agg #[.int .i64 0, .int .i64 0, .int .u32 0]) 3 24 Tryd.underlying22 hi hz0 hz1 hz2 rfl (by decide) _ _ _ rfl (by exact (HO.out.alloc _).alloc _) ⟨wr.heap.size + 1, 0, none⟩ 1 1 [.int .i64 ((sq + (p : Int)) % 7), .int .i64 (((k : Int) * 7 + (p : Int)) % 5 - 1), .int .u32 ((k : Int) * 19088743)] rfl rfl C1.out C2.out C3.out C4.out C5.out ?_))
            intro v' w1 hown' hgrow _
            have O1 := hideP hown'
            have K1 := hideP (HK.out.snoc (by have := HO.out.1; omega) ((sq + (p : Int)) % 7) (((k : Int) * 7 + (p : Int)) % 5 - 1) ((k : Int) * 19088743) (by omega) (by omega))
            have F1 := hideP (FrB.appp HF.out hgrow HF.out.size (fun k hk => (HO.out.lt k hk).1))
            clear hown' hgrow C1 C2 C3 C4 C5
            go_wp2_with fail
            exact ⟨⟨k + 1, _, by omega, by rw [Int.natCast_add]; rfl, O1, K1, F1⟩, by simp [intOf]; omega⟩
        · have hkl : k = 70 := by omega
          subst hkl
          obtain ⟨A', cap', kd', ix', nn', rfl, HA'⟩ := own_asks HO.out HK.out
          have HA1 := hideP HA'
          have L1 := hideP (HF.out.laid hL.out B0.out)
          clear HA' HO HK
          go_wp2_with fail
          refine (play _ A' _ cap' kd' ix' nn' _ L1 HA1).mono ?_; rintro e w3 ⟨rfl, hF⟩
          have F3 := hideP (HF.out.trans (hF.mono HF.out.size))
          clear hF
          go_wp2_with fail
          exact ⟨⟨p + 1, by omega, by rw [Int.natCast_add]; rfl, F3⟩, by simp [intOf]; omega⟩
    · have L1 := hideP (HP.out.laid hL.out B0.out)
      go_wp2_with fail
      refine (play _ none _ _ _ _ _ _ L1 (nil_asks _)).mono ?_; rintro e w3 ⟨rfl, hF⟩
      have F3 := hideP (HP.out.trans (hF.mono HP.out.size))
      clear hF
      obtain ⟨kd, ix, nn, HQ⟩ := four_asks w3
      have HA := hideP HQ
      have F3' := hideP (F3.out.trans ((FrB.alloc w3 (.cells four 25)).mono F3.out.size))
      have L3 := hideP (F3'.out.laid hL.out B0.out)
      clear HQ
      go_wp2_with fail
      refine (play _ _ _ _ kd ix nn _ L3 HA).mono ?_; rintro e w4 ⟨rfl, hF⟩
      have F4 := hideP (F3'.out.trans (hF.mono F3'.out.size))
      have L4 := hideP (F4.out.laid hL.out B0.out)
      clear hF
      go_wp2_with fail
      refine (play _ none _ _ _ _ _ _ L4 (nil_asks _)).mono ?_; rintro e w5 ⟨rfl, hF⟩
      have F5 := hideP (F4.out.trans (hF.mono F4.out.size))
      have L5 := hideP (F5.out.laid hL.out B0.out)
      clear hF
      go_wp2_with fail
      refine (known _ L5).mono ?_; rintro e w6 ⟨rfl, hF⟩
      have F6 := hideP (F5.out.trans (hF.mono F5.out.size))
      clear hF
      go_wp2_with fail
      go_ret
      exact ⟨rfl, F6.out⟩
end Go.Proofs.YtijmoeljemoppaaDoor.Walks
