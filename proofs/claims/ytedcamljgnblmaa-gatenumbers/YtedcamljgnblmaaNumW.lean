/- The walk of GateNumbers. -/
import Derived.Test.YtedcamljgnblmaaPlaysW
namespace Go.Proofs.Ytedcamljgnblmaa.M
open Go.ChangeShapes Go.WideShapes Go.ChangeAt Go.RowKit Go.Proofs.Ytedcamljgnblmaa.Walks
set_option linter.unusedVariables false
theorem own_next {w : World} {B k : Nat} {v : Value} {xs : List Value} {p : Int} {r : Rt} (h : w.ownsRow B 27 8 v (k + 1) (xs ++ ak p r)) (K : Okay xs k) (hl : xs.length = k * 8) (hr : r.In) : ∃ ys, w.ownsRow B 27 8 v (k + 1) ys ∧ Okay ys (k + 1) ∧ ys.length = (k + 1) * 8 :=
  ⟨_, h, K.snoc hl p r hr, h.1⟩
/-- the four asks at the end -/
def four : List Value := ak 2 zR ++ ak 0 zR ++ ak 0 zR ++ ak 3 ⟨99, 0, 0, false, 0, 0, 0⟩
theorem one_four : ∀ u ∈ four, u.oneCell' = true := by
  intro u hu
  rcases List.mem_append.1 hu with hu | hu
  · rcases List.mem_append.1 hu with hu | hu
    · rcases List.mem_append.1 hu with hu | hu
      · exact one_ak _ _ u hu
      · exact one_ak _ _ u hu
    · exact one_ak _ _ u hu
  · exact one_ak _ _ u hu
theorem okay_four {xs : List Value} {k : Nat} (h : Okay xs k) (hl : xs.length = k * 8) : Okay (xs ++ four) (k + 4) := by
  have z : zR.In := by unfold Rt.In zR; decide
  have k1 := h.snoc hl 2 zR z
  have k2 := k1.snoc (by rw [List.length_append, ak_len]; omega) 0 zR z
  have k3 := k2.snoc (by simp only [List.length_append, ak_len]; omega) 0 zR z
  have k4 := k3.snoc (by simp only [List.length_append, ak_len]; omega) 3 ⟨99, 0, 0, false, 0, 0, 0⟩ (by unfold Rt.In; decide)
  rw [List.append_assoc, List.append_assoc, List.append_assoc] at k4
  exact k4
set_option maxRecDepth 100000 in
set_option maxHeartbeats 4000000 in
theorem numbers (w : World) : Calls Try.prog 3 #[] w fun e w' => e = .returned (.bool true) ∧ Fr w w' := by
  obtain ⟨i0, hi, hz0, hz1, hz2⟩ := info_parts info27
  go_enter Try.func3, Try.ntmps3
  go_wp2_with fail
  go_loopw [1] (fun t wr => ∃ d : Nat, (d : Int) ≤ 30 ∧ t = .int .i64 d ∧ Hid (Fr w wr)) (fun t _ => 30 - (intOf t).toNat)
  case atStart => exact ⟨0, by decide, rfl, Fr.refl _⟩
  case round =>
    obtain ⟨d, hd, rfl, HD⟩ := hrel
    rename_i wq
    by_cases hlt : (d : Int) < 30
    · go_wp2_with fail
      go_loopw [2, 3] (fun v i wr => ∃ (k : Nat) (xs : List Value), (k : Int) ≤ 90 ∧ i = .int .i64 k ∧ Hid (wr.ownsRow w.heap.size 27 8 v k xs) ∧ Hid (Okay xs k) ∧ Hid (Fr w wr)) (fun _ i _ => 90 - (intOf i).toNat)
      case atStart => exact ⟨0, [], by decide, rfl, World.ownsRow_nil _ _ _ _, Okay.nil, HD⟩
      case round =>
        obtain ⟨k, xs, hk, rfl, HO, HK, HF⟩ := hrel
        rename_i wr
        by_cases hkt : (k : Int) < 90
        · obtain ⟨s1, S1⟩ : ∃ s, (k : Int) * (k : Int) = s := ⟨_, rfl⟩
          obtain ⟨s2, S2⟩ : ∃ s, (d : Int) * (k : Int) = s := ⟨_, rfl⟩
          have B1 : 0 ≤ s1 ∧ s1 ≤ 8100 := by
            rw [← S1]
            exact ⟨Int.mul_nonneg (by omega) (by omega), Int.le_trans (Int.mul_le_mul (by omega : (k : Int) ≤ 90) (by omega : (k : Int) ≤ 90) (by omega) (by decide)) (by decide)⟩
          have B2 : 0 ≤ s2 ∧ s2 ≤ 2700 := by
            rw [← S2]
            exact ⟨Int.mul_nonneg (by omega) (by omega), Int.le_trans (Int.mul_le_mul (by omega : (d : Int) ≤ 30) (by omega : (k : Int) ≤ 90) (by omega) (by decide)) (by decide)⟩
          obtain ⟨b1, b2⟩ := B1
          obtain ⟨b3, b4⟩ := B2
          have C1 : Hid (∀ j u, (ak ((s1 + s2) % 6) ⟨(k : Int), 0, 0, decide (0 < (k : Int) % 3), (k : Int) % 4 * 4, (k : Int) * 19088743, (k : Int) % 16⟩)[j]? = some u → (wr.alloc (.cells #[.int .i64 ((s1 + s2) % 6), .int .u32 (k : Int), .int .u32 0, .int .i64 0, .bool (decide (0 < (k : Int) % 3)), .int .u32 ((k : Int) % 4 * 4), .int .u32 ((k : Int) * 19088743), .int .i64 ((k : Int) % 16)] 27)).cell? ((⟨wr.heap.size, 0, none⟩ : Addr).add j) = some u) := newsN wr (ak ((s1 + s2) % 6) ⟨(k : Int), 0, 0, decide (0 < (k : Int) % 3), (k : Int) % 4 * 4, (k : Int) * 19088743, (k : Int) % 16⟩) 27 _ rfl wr.heap.size rfl
          have C2 := hid (one_ak ((s1 + s2) % 6) ⟨(k : Int), 0, 0, decide (0 < (k : Int) % 3), (k : Int) % 4 * 4, (k : Int) * 19088743, (k : Int) % 16⟩)
          have C3 : Hid (k + 1 ≤ maxLen) := by unfold Hid maxLen; omega
          have C4 : Hid ((k + 1) * 48 ≤ 140737488355328) := by unfold Hid; omega
          have FD : Hid (Fr w (wr.alloc (.cells #[.int .i64 ((s1 + s2) % 6), .int .u32 (k : Int), .int .u32 0, .int .i64 0, .bool (decide (0 < (k : Int) % 3)), .int .u32 ((k : Int) % 4 * 4), .int .u32 ((k : Int) * 19088743), .int .i64 ((k : Int) % 16)] 27))) := HF.out.alloc _
          have OD := hid (show (wr.alloc (.cells #[.int .i64 ((s1 + s2) % 6), .int .u32 (k : Int), .int .u32 0, .int .i64 0, .bool (decide (0 < (k : Int) % 3)), .int .u32 ((k : Int) % 4 * 4), .int .u32 ((k : Int) * 19088743), .int .i64 ((k : Int) % 16)] 27)).ownsRow w.heap.size 27 8 _ k xs from HO.out.alloc _)
          go_wp2_with (first
            | (at_builtin; refine wpList_append_own _ rfl _ _ 22 rfl w.heap.size 27 i0 _ 8 48 Try.underlying22 hi hz0 hz1 hz2 rfl (by decide) _ k xs rfl OD.out ⟨wr.heap.size, 0, none⟩ 1 1 (ak ((s1 + s2) % 6) ⟨(k : Int), 0, 0, decide (0 < (k : Int) % 3), (k : Int) % 4 * 4, (k : Int) * 19088743, (k : Int) % 16⟩) rfl rfl (by exact C1.out) C2.out C3.out C4.out FD.out.size ?_))
          intro v' w2 hown' hgrow _
          have O1 := hid hown'
          have KK := hid (HK.out.snoc (by have := HO.out.1; omega) ((s1 + s2) % 6) ⟨(k : Int), 0, 0, decide (0 < (k : Int) % 3), (k : Int) % 4 * 4, (k : Int) * 19088743, (k : Int) % 16⟩ (by unfold Rt.In; simp only; omega))
          have F1 := hid (FD.out.grow (fun b e => (OD.out.lt b e).1) hgrow)
          clear hown' hgrow C1 C2 C3 C4 FD OD
          go_wp2_with fail
          exact ⟨⟨k + 1, _, by omega, by rw [Int.natCast_add]; rfl, O1, KK, F1⟩, by simp [intOf]; omega⟩
        · obtain rfl : k = 90 := by omega
          obtain ⟨A', cap', kd', rs', rfl, HA'⟩ := own_asks HO.out HK.out
          have HA1 := hid HA'
          clear HA' HO
          go_wp2_with fail
          refine (play A' _ cap' kd' rs' _ HA1).mono ?_; rintro e w3 ⟨rfl, hF⟩
          have F3 := hid (HF.out.trans hF)
          clear hF
          go_wp2_with fail
          exact ⟨⟨d + 1, by omega, by rw [Int.natCast_add]; rfl, F3⟩, by simp [intOf]; omega⟩
    · obtain rfl : d = 30 := by omega
      go_wp2_with fail
      go_loopw [4, 5] (fun v i wr => ∃ (k : Nat) (xs : List Value), (k : Int) ≤ 18 ∧ i = .int .i64 k ∧ Hid (wr.ownsRow w.heap.size 27 8 v k xs) ∧ Hid (Okay xs k) ∧ Hid (Fr w wr)) (fun _ i _ => 18 - (intOf i).toNat)
      case atStart => exact ⟨0, [], by decide, rfl, World.ownsRow_nil _ _ _ _, Okay.nil, HD⟩
      case round =>
        obtain ⟨k, xs, hk, rfl, HO, HK, HF⟩ := hrel
        rename_i wr
        by_cases hkt : (k : Int) < 18
        · skip
          have C1 : Hid (∀ j u, (ak 0 ⟨(k : Int), 0, 0, false, 0, 0, 0⟩)[j]? = some u → (wr.alloc (.cells #[.int .i64 0, .int .u32 (k : Int), .int .u32 0, .int .i64 0, .bool false, .int .u32 0, .int .u32 0, .int .i64 0] 27)).cell? ((⟨wr.heap.size, 0, none⟩ : Addr).add j) = some u) := newsN wr (ak 0 ⟨(k : Int), 0, 0, false, 0, 0, 0⟩) 27 _ rfl wr.heap.size rfl
          have C2 := hid (one_ak 0 ⟨(k : Int), 0, 0, false, 0, 0, 0⟩)
          have C3 : Hid (k + 1 ≤ maxLen) := by unfold Hid maxLen; omega
          have C4 : Hid ((k + 1) * 48 ≤ 140737488355328) := by unfold Hid; omega
          have FD : Hid (Fr w (wr.alloc (.cells #[.int .i64 0, .int .u32 (k : Int), .int .u32 0, .int .i64 0, .bool false, .int .u32 0, .int .u32 0, .int .i64 0] 27))) := HF.out.alloc _
          have OD := hid (show (wr.alloc (.cells #[.int .i64 0, .int .u32 (k : Int), .int .u32 0, .int .i64 0, .bool false, .int .u32 0, .int .u32 0, .int .i64 0] 27)).ownsRow w.heap.size 27 8 _ k xs from HO.out.alloc _)
          go_wp2_with (first
            | (at_builtin; refine wpList_append_own _ rfl _ _ 22 rfl w.heap.size 27 i0 _ 8 48 Try.underlying22 hi hz0 hz1 hz2 rfl (by decide) _ k xs rfl OD.out ⟨wr.heap.size, 0, none⟩ 1 1 (ak 0 ⟨(k : Int), 0, 0, false, 0, 0, 0⟩) rfl rfl (by exact C1.out) C2.out C3.out C4.out FD.out.size ?_))
          intro v' w2 hown' hgrow _
          have O1 := hid hown'
          have KK := hid (HK.out.snoc (by have := HO.out.1; omega) 0 ⟨(k : Int), 0, 0, false, 0, 0, 0⟩ (by unfold Rt.In; simp only; omega))
          have F1 := hid (FD.out.grow (fun b e => (OD.out.lt b e).1) hgrow)
          clear hown' hgrow C1 C2 C3 C4 FD OD
          go_wp2_with fail
          exact ⟨⟨k + 1, _, by omega, by rw [Int.natCast_add]; rfl, O1, KK, F1⟩, by simp [intOf]; omega⟩
        · obtain rfl : k = 18 := by omega
          have C1 : Hid (∀ j u, four[j]? = some u → (wr.alloc (.cells four.toArray 27)).cell? ((⟨wr.heap.size, 0, none⟩ : Addr).add j) = some u) := newsN wr four 27 _ rfl wr.heap.size rfl
          have FD : Hid (Fr w (wr.alloc (.cells four.toArray 27))) := HF.out.alloc _
          have OD := hid (show (wr.alloc (.cells four.toArray 27)).ownsRow w.heap.size 27 8 _ 18 xs from HO.out.alloc _)
          go_wp2_with (first
            | (at_builtin; refine wpList_append_own _ rfl _ _ 22 rfl w.heap.size 27 i0 _ 8 48 Try.underlying22 hi hz0 hz1 hz2 rfl (by decide) _ 18 xs rfl OD.out ⟨wr.heap.size, 0, none⟩ 4 4 four rfl rfl (by exact C1.out) one_four (by unfold maxLen; decide) (by decide) FD.out.size ?_))
          intro v' w2 hown' hgrow _
          have O1 := hid hown'
          have KK := hid (okay_four HK.out HO.out.1)
          have F1 := hid (FD.out.grow (fun b e => (OD.out.lt b e).1) hgrow)
          clear hown' hgrow C1 FD OD
          obtain ⟨A', cap', kd', rs', rfl, HA'⟩ := own_asks O1.out KK.out
          have HA1 := hid HA'
          clear HA' O1
          go_wp2_with fail
          refine (play A' _ cap' kd' rs' _ HA1).mono ?_; rintro e w3 ⟨rfl, hF⟩
          have F3 := hid (F1.out.trans hF)
          clear hF
          go_wp2_with fail
          refine (known_as _).mono ?_; rintro e w6 ⟨rfl, hF⟩
          have F6 := hid (F3.out.trans hF)
          clear hF
          go_wp2_with fail
          go_ret
          exact ⟨rfl, F6.out⟩
end Go.Proofs.Ytedcamljgnblmaa.M
