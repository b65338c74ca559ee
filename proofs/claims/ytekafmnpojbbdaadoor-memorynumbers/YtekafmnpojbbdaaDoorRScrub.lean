/- Contract of the document's own Scrub. -/
import Derived.Test.YtekafmnpojbbdaaDoorMScrub
import Derived.Deep.RegionWith
import Derived.BigRegion
namespace Go.Proofs.YtekafmnpojbbdaaDoor.Walks
open Go.ChangeShapes Go.WideShapes Go.ChangeAt Go.RowKit
set_option linter.unusedVariables false
set_option maxRecDepth 100000 in
set_option maxHeartbeats 2000000 in
theorem rscrub_low (M b d f nx : Nat) (ws : Nat → Nat) (i : Int) (hi : i < 0) (hf : (f : Int) ≤ 3000000000000000000) (x c : Int) (X : Hid (((scV ws nx 0 : Nat) : Int) = x)) (C : Hid (scE ws nx 0 = c)) (w : World) (hM : Hid (MemAt M b d ws f nx w)) :
    Calls Tryd.prog 19 #[.pointer (some ⟨M, 0, none⟩), .int .i64 i] w fun e w' => e = .returned (.tuple #[.int .i64 x, .int .i64 c]) ∧ MNow M b d (scW ws nx 0) (scF ws f nx 0) ((nx + 0) % 1024) w w' := by
  have hnx : nx < 1024 := hM.out.lt
  have H0 : Hid (MNow M b d ws f nx w w) := MNow.refl hM.out
  go_enter Tryd.func19, Tryd.ntmps19
  go_wp2_with fail
  go_loopw [8, 6, 7] (fun t8 t6 t7 wr => ∃ (k j T q F : Nat) (bd : Bool) (cb : Int) (W : Nat → Nat), (k : Int) + j = 0 ∧ (T : Int) ≤ k ∧ (q : Int) < 1024 ∧ (F : Int) ≤ f + k ∧ t8 = .int .i64 j ∧ t6 = .int .i64 T ∧ t7 = .int .i64 cb ∧ Hid ((if bd = true then (25 : Int) else 0) = cb) ∧ Hid (scN ws nx k = T ∧ scB ws nx k = bd ∧ (nx + k) % 1024 = q ∧ scF ws f nx k = F ∧ scW ws nx k = W) ∧ Hid (MNow M b d W F q w wr)) (fun t8 _ _ _ => (intOf t8).toNat)
  case atStart => exact ⟨0, 0, 0, nx, f, false, 0, ws, by omega, by decide, by omega, by omega, rfl, rfl, rfl, rfl, ⟨rfl, rfl, by omega, rfl, rfl⟩, H0⟩
  case round =>
    obtain ⟨k, j, T, q, F, bd, cb, W, hk, hT, hq, hF, rfl, rfl, rfl, HCB, HS, HN⟩ := hrel
    rename_i wr
    by_cases hlt : (0 : Int) < j
    · exact absurd hlt (by omega)
    · have hkn : k = 0 := by omega
      obtain rfl : j = 0 := by omega
      have X := X.out
      have C := C.out
      have A := HS.out
      rw [hkn] at A
      unfold scV at X
      unfold scE at C
      rw [A.2.1, A.1] at X
      rw [A.2.1] at C
      have HE : Hid (MNow M b d (scW ws nx 0) (scF ws f nx 0) ((nx + 0) % 1024) w wr) := by
        unfold Hid
        rw [A.2.2.1, A.2.2.2.1, A.2.2.2.2]
        exact HN.out
      clear A hkn
      have CB := HCB.out
      cases bd
      · subst X C CB
        go_wp2_with fail
        go_ret2
        exact ⟨rfl, HE.out⟩
      · subst X C CB
        go_wp2_with fail
        go_ret2
        exact ⟨rfl, HE.out⟩
set_option maxRecDepth 100000 in
set_option maxHeartbeats 2000000 in
theorem rscrub_in (M b d f nx : Nat) (n : Nat) (ws : Nat → Nat) (i : Int) (i0 : 0 ≤ i) (hi : (n : Int) = i) (hn : (n : Int) ≤ 1024) (hf : (f : Int) ≤ 3000000000000000000) (x c : Int) (X : Hid (((scV ws nx n : Nat) : Int) = x)) (C : Hid (scE ws nx n = c)) (w : World) (hM : Hid (MemAt M b d ws f nx w)) :
    Calls Tryd.prog 19 #[.pointer (some ⟨M, 0, none⟩), .int .i64 i] w fun e w' => e = .returned (.tuple #[.int .i64 x, .int .i64 c]) ∧ MNow M b d (scW ws nx n) (scF ws f nx n) ((nx + n) % 1024) w w' := by
  have hnx : nx < 1024 := hM.out.lt
  have H0 : Hid (MNow M b d ws f nx w w) := MNow.refl hM.out
  subst hi
  go_enter Tryd.func19, Tryd.ntmps19
  go_wp2_with fail
  go_loopw [8, 6, 7] (fun t8 t6 t7 wr => ∃ (k j T q F : Nat) (bd : Bool) (cb : Int) (W : Nat → Nat), (k : Int) + j = n ∧ (T : Int) ≤ k ∧ (q : Int) < 1024 ∧ (F : Int) ≤ f + k ∧ t8 = .int .i64 j ∧ t6 = .int .i64 T ∧ t7 = .int .i64 cb ∧ Hid ((if bd = true then (25 : Int) else 0) = cb) ∧ Hid (scN ws nx k = T ∧ scB ws nx k = bd ∧ (nx + k) % 1024 = q ∧ scF ws f nx k = F ∧ scW ws nx k = W) ∧ Hid (MNow M b d W F q w wr)) (fun t8 _ _ _ => (intOf t8).toNat)
  case atStart => exact ⟨0, n, 0, nx, f, false, 0, ws, by omega, by decide, by omega, by omega, rfl, rfl, rfl, rfl, ⟨rfl, rfl, by omega, rfl, rfl⟩, H0⟩
  case round =>
    obtain ⟨k, j, T, q, F, bd, cb, W, hk, hT, hq, hF, rfl, rfl, rfl, HCB, HS, HN⟩ := hrel
    rename_i wr
    by_cases hlt : (0 : Int) < j
    · have hr := HN.out.1.hr
      have hx := HN.out.1.hx
      obtain ⟨j', HJ⟩ : ∃ j' : Nat, Hid (j = j' + 1) := ⟨j - 1, by unfold Hid; omega⟩
      obtain ⟨q', Q'⟩ : ∃ q' : Nat, (q + 1) % 1024 = q' := ⟨_, rfl⟩
      have ql : (q' : Int) ≤ 1023 := by omega
      have e1 : ((q : Int) + 1) % 1024 = q' := by omega
      have e2 : ((q : Int) + 1).tmod 1024 = q' := by rw [Int.tmod_eq_emod_of_nonneg (by omega)]; exact e1
      have HQ := hideP Q'
      clear Q'
      have HFL := hideP (gtF_le 1024 W F (q : Int))
      rcases (show pkS 1024 W (q : Int) = 0 ∨ pkS 1024 W (q : Int) = 1 ∨ pkS 1024 W (q : Int) = 2 by have := pkS_le 1024 W (q : Int); omega) with hs | hs | hs
      · have S : Hid (((pkS 1024 W (q : Int) : Nat) : Int) = 0) := by unfold Hid; rw [hs]; rfl
        have NX := hideP (sc_next (f := f) 0 q' HS.out hs HQ.out)
        clear hs
        obtain ⟨v, V⟩ : ∃ v : Int, Hid (((pkV 1024 W (q : Int) : Nat) : Int) = v) := ⟨_, rfl⟩
        go_wp2_with fail
        go_region_with (go_at_call 37; refine (refget_as b d 1024 F W _ _ _ V S (by decide) (by omega) _ (by exact HN.out.1.row.heap rfl)).mono ?_; rintro e w1 ⟨rfl, hw⟩)
        all_goals
          have H1 := hideP (HN.out.1.row_now hw.drew)
          clear hw
          have hr1 := H1.out.1.hr
          have hx1 := H1.out.1.hx
          have zx1 := H1.out.1.zx
          go_wp2_with fail
          refine ⟨⟨k + 1, j', T, q', _, bd, cb, _, by have := HJ.out; omega, by omega, by omega, ?_, ?_, rfl, rfl, HCB, ?_, (HN.out.trans H1.out).trans (H1.out.1.go q' (by omega))⟩, by have := HJ.out; simp [intOf]; omega⟩
          · have := HFL.out; omega
          · exact congrArg (Value.int .i64) (by have := HJ.out; omega)
          · unfold Hid; have := NX.out; simpa using this
      · have S : Hid (((pkS 1024 W (q : Int) : Nat) : Int) = 1) := by unfold Hid; rw [hs]; rfl
        have NX := hideP (sc_next (f := f) 1 q' HS.out hs HQ.out)
        clear hs
        obtain ⟨v, V⟩ : ∃ v : Int, Hid (((pkV 1024 W (q : Int) : Nat) : Int) = v) := ⟨_, rfl⟩
        go_wp2_with fail
        go_region_with (go_at_call 37; refine (refget_as b d 1024 F W _ _ _ V S (by decide) (by omega) _ (by exact HN.out.1.row.heap rfl)).mono ?_; rintro e w1 ⟨rfl, hw⟩)
        all_goals
          have H1 := hideP (HN.out.1.row_now hw.drew)
          clear hw
          have hr1 := H1.out.1.hr
          have hx1 := H1.out.1.hx
          have zx1 := H1.out.1.zx
          go_wp2_with fail
          refine ⟨⟨k + 1, j', T + 1, q', _, bd, cb, _, by have := HJ.out; omega, by omega, by omega, ?_, ?_, by rw [Int.natCast_add]; rfl, rfl, HCB, ?_, (HN.out.trans H1.out).trans (H1.out.1.go q' (by omega))⟩, by have := HJ.out; simp [intOf]; omega⟩
          · have := HFL.out; omega
          · exact congrArg (Value.int .i64) (by have := HJ.out; omega)
          · unfold Hid; have := NX.out; simpa using this
      · have S : Hid (((pkS 1024 W (q : Int) : Nat) : Int) = 2) := by unfold Hid; rw [hs]; rfl
        have NX := hideP (sc_next (f := f) 2 q' HS.out hs HQ.out)
        clear hs
        obtain ⟨v, V⟩ : ∃ v : Int, Hid (((pkV 1024 W (q : Int) : Nat) : Int) = v) := ⟨_, rfl⟩
        go_wp2_with fail
        go_region_with (go_at_call 37; refine (refget_as b d 1024 F W _ _ _ V S (by decide) (by omega) _ (by exact HN.out.1.row.heap rfl)).mono ?_; rintro e w1 ⟨rfl, hw⟩)
        all_goals
          have H1 := hideP (HN.out.1.row_now hw.drew)
          clear hw
          have hr1 := H1.out.1.hr
          have hx1 := H1.out.1.hx
          have zx1 := H1.out.1.zx
          go_wp2_with fail
          refine ⟨⟨k + 1, j', T, q', _, true, 25, _, by have := HJ.out; omega, by omega, by omega, ?_, ?_, rfl, rfl, rfl, ?_, (HN.out.trans H1.out).trans (H1.out.1.go q' (by omega))⟩, by have := HJ.out; simp [intOf]; omega⟩
          · have := HFL.out; omega
          · exact congrArg (Value.int .i64) (by have := HJ.out; omega)
          · unfold Hid; have := NX.out; simpa using this
    · have hkn : k = n := by omega
      obtain rfl : j = 0 := by omega
      have X := X.out
      have C := C.out
      have A := HS.out
      rw [hkn] at A
      unfold scV at X
      unfold scE at C
      rw [A.2.1, A.1] at X
      rw [A.2.1] at C
      have HE : Hid (MNow M b d (scW ws nx n) (scF ws f nx n) ((nx + n) % 1024) w wr) := by
        unfold Hid
        rw [A.2.2.1, A.2.2.2.1, A.2.2.2.2]
        exact HN.out
      clear A hkn
      have CB := HCB.out
      cases bd
      · subst X C CB
        go_wp2_with fail
        go_ret2
        exact ⟨rfl, HE.out⟩
      · subst X C CB
        go_wp2_with fail
        go_ret2
        exact ⟨rfl, HE.out⟩
set_option maxRecDepth 100000 in
set_option maxHeartbeats 2000000 in
theorem rscrub_high (M b d f nx : Nat) (ws : Nat → Nat) (i : Int) (hi : 1024 < i) (hf : (f : Int) ≤ 3000000000000000000) (x c : Int) (X : Hid (((scV ws nx 1024 : Nat) : Int) = x)) (C : Hid (scE ws nx 1024 = c)) (w : World) (hM : Hid (MemAt M b d ws f nx w)) :
    Calls Tryd.prog 19 #[.pointer (some ⟨M, 0, none⟩), .int .i64 i] w fun e w' => e = .returned (.tuple #[.int .i64 x, .int .i64 c]) ∧ MNow M b d (scW ws nx 1024) (scF ws f nx 1024) ((nx + 1024) % 1024) w w' := by
  have hnx : nx < 1024 := hM.out.lt
  have H0 : Hid (MNow M b d ws f nx w w) := MNow.refl hM.out
  go_enter Tryd.func19, Tryd.ntmps19
  go_wp2_with fail
  go_loopw [8, 6, 7] (fun t8 t6 t7 wr => ∃ (k j T q F : Nat) (bd : Bool) (cb : Int) (W : Nat → Nat), (k : Int) + j = 1024 ∧ (T : Int) ≤ k ∧ (q : Int) < 1024 ∧ (F : Int) ≤ f + k ∧ t8 = .int .i64 j ∧ t6 = .int .i64 T ∧ t7 = .int .i64 cb ∧ Hid ((if bd = true then (25 : Int) else 0) = cb) ∧ Hid (scN ws nx k = T ∧ scB ws nx k = bd ∧ (nx + k) % 1024 = q ∧ scF ws f nx k = F ∧ scW ws nx k = W) ∧ Hid (MNow M b d W F q w wr)) (fun t8 _ _ _ => (intOf t8).toNat)
  case atStart => exact ⟨0, 1024, 0, nx, f, false, 0, ws, by omega, by decide, by omega, by omega, rfl, rfl, rfl, rfl, ⟨rfl, rfl, by omega, rfl, rfl⟩, H0⟩
  case round =>
    obtain ⟨k, j, T, q, F, bd, cb, W, hk, hT, hq, hF, rfl, rfl, rfl, HCB, HS, HN⟩ := hrel
    rename_i wr
    by_cases hlt : (0 : Int) < j
    · have hr := HN.out.1.hr
      have hx := HN.out.1.hx
      obtain ⟨j', HJ⟩ : ∃ j' : Nat, Hid (j = j' + 1) := ⟨j - 1, by unfold Hid; omega⟩
      obtain ⟨q', Q'⟩ : ∃ q' : Nat, (q + 1) % 1024 = q' := ⟨_, rfl⟩
      have ql : (q' : Int) ≤ 1023 := by omega
      have e1 : ((q : Int) + 1) % 1024 = q' := by omega
      have e2 : ((q : Int) + 1).tmod 1024 = q' := by rw [Int.tmod_eq_emod_of_nonneg (by omega)]; exact e1
      have HQ := hideP Q'
      clear Q'
      have HFL := hideP (gtF_le 1024 W F (q : Int))
      rcases (show pkS 1024 W (q : Int) = 0 ∨ pkS 1024 W (q : Int) = 1 ∨ pkS 1024 W (q : Int) = 2 by have := pkS_le 1024 W (q : Int); omega) with hs | hs | hs
      · have S : Hid (((pkS 1024 W (q : Int) : Nat) : Int) = 0) := by unfold Hid; rw [hs]; rfl
        have NX := hideP (sc_next (f := f) 0 q' HS.out hs HQ.out)
        clear hs
        obtain ⟨v, V⟩ : ∃ v : Int, Hid (((pkV 1024 W (q : Int) : Nat) : Int) = v) := ⟨_, rfl⟩
        go_wp2_with fail
        go_region_with (go_at_call 37; refine (refget_as b d 1024 F W _ _ _ V S (by decide) (by omega) _ (by exact HN.out.1.row.heap rfl)).mono ?_; rintro e w1 ⟨rfl, hw⟩)
        all_goals
          have H1 := hideP (HN.out.1.row_now hw.drew)
          clear hw
          have hr1 := H1.out.1.hr
          have hx1 := H1.out.1.hx
          have zx1 := H1.out.1.zx
          go_wp2_with fail
          refine ⟨⟨k + 1, j', T, q', _, bd, cb, _, by have := HJ.out; omega, by omega, by omega, ?_, ?_, rfl, rfl, HCB, ?_, (HN.out.trans H1.out).trans (H1.out.1.go q' (by omega))⟩, by have := HJ.out; simp [intOf]; omega⟩
          · have := HFL.out; omega
          · exact congrArg (Value.int .i64) (by have := HJ.out; omega)
          · unfold Hid; have := NX.out; simpa using this
      · have S : Hid (((pkS 1024 W (q : Int) : Nat) : Int) = 1) := by unfold Hid; rw [hs]; rfl
        have NX := hideP (sc_next (f := f) 1 q' HS.out hs HQ.out)
        clear hs
        obtain ⟨v, V⟩ : ∃ v : Int, Hid (((pkV 1024 W (q : Int) : Nat) : Int) = v) := ⟨_, rfl⟩
        go_wp2_with fail
        go_region_with (go_at_call 37; refine (refget_as b d 1024 F W _ _ _ V S (by decide) (by omega) _ (by exact HN.out.1.row.heap rfl)).mono ?_; rintro e w1 ⟨rfl, hw⟩)
        all_goals
          have H1 := hideP (HN.out.1.row_now hw.drew)
          clear hw
          have hr1 := H1.out.1.hr
          have hx1 := H1.out.1.hx
          have zx1 := H1.out.1.zx
          go_wp2_with fail
          refine ⟨⟨k + 1, j', T + 1, q', _, bd, cb, _, by have := HJ.out; omega, by omega, by omega, ?_, ?_, by rw [Int.natCast_add]; rfl, rfl, HCB, ?_, (HN.out.trans H1.out).trans (H1.out.1.go q' (by omega))⟩, by have := HJ.out; simp [intOf]; omega⟩
          · have := HFL.out; omega
          · exact congrArg (Value.int .i64) (by have := HJ.out; omega)
          · unfold Hid; have := NX.out; simpa using this
      · have S : Hid (((pkS 1024 W (q : Int) : Nat) : Int) = 2) := by unfold Hid; rw [hs]; rfl
        have NX := hideP (sc_next (f := f) 2 q' HS.out hs HQ.out)
        clear hs
        obtain ⟨v, V⟩ : ∃ v : Int, Hid (((pkV 1024 W (q : Int) : Nat) : Int) = v) := ⟨_, rfl⟩
        go_wp2_with fail
        go_region_with (go_at_call 37; refine (refget_as b d 1024 F W _ _ _ V S (by decide) (by omega) _ (by exact HN.out.1.row.heap rfl)).mono ?_; rintro e w1 ⟨rfl, hw⟩)
        all_goals
          have H1 := hideP (HN.out.1.row_now hw.drew)
          clear hw
          have hr1 := H1.out.1.hr
          have hx1 := H1.out.1.hx
          have zx1 := H1.out.1.zx
          go_wp2_with fail
          refine ⟨⟨k + 1, j', T, q', _, true, 25, _, by have := HJ.out; omega, by omega, by omega, ?_, ?_, rfl, rfl, rfl, ?_, (HN.out.trans H1.out).trans (H1.out.1.go q' (by omega))⟩, by have := HJ.out; simp [intOf]; omega⟩
          · have := HFL.out; omega
          · exact congrArg (Value.int .i64) (by have := HJ.out; omega)
          · unfold Hid; have := NX.out; simpa using this
    · have hkn : k = 1024 := by omega
      obtain rfl : j = 0 := by omega
      have X := X.out
      have C := C.out
      have A := HS.out
      rw [hkn] at A
      unfold scV at X
      unfold scE at C
      rw [A.2.1, A.1] at X
      rw [A.2.1] at C
      have HE : Hid (MNow M b d (scW ws nx 1024) (scF ws f nx 1024) ((nx + 1024) % 1024) w wr) := by
        unfold Hid
        rw [A.2.2.1, A.2.2.2.1, A.2.2.2.2]
        exact HN.out
      clear A hkn
      have CB := HCB.out
      cases bd
      · subst X C CB
        go_wp2_with fail
        go_ret2
        exact ⟨rfl, by have h := HE.out; rwa [Nat.add_mod_right] at h⟩
      · subst X C CB
        go_wp2_with fail
        go_ret2
        exact ⟨rfl, by have h := HE.out; rwa [Nat.add_mod_right] at h⟩
theorem rscrub_as (M b d f nx : Nat) (ws : Nat → Nat) (i : Int) (hf : (f : Int) ≤ 3000000000000000000) (x c : Int) (X : Hid (((scV ws nx (scn i) : Nat) : Int) = x)) (C : Hid (scE ws nx (scn i) = c)) (w : World) (hM : Hid (MemAt M b d ws f nx w)) :
    Calls Tryd.prog 19 #[.pointer (some ⟨M, 0, none⟩), .int .i64 i] w fun e w' => e = .returned (.tuple #[.int .i64 x, .int .i64 c]) ∧ MNow M b d (scW ws nx (scn i)) (scF ws f nx (scn i)) ((nx + scn i) % 1024) w w' := by
  by_cases a : i < 0
  · have e : scn i = 0 := by unfold scn; omega
    rw [e] at X C ⊢
    exact rscrub_low M b d f nx ws i a hf x c X C w hM
  · by_cases a2 : 1024 < i
    · have e : scn i = 1024 := by unfold scn; omega
      rw [e] at X C ⊢
      exact rscrub_high M b d f nx ws i a2 hf x c X C w hM
    · exact rscrub_in M b d f nx (scn i) ws i (by omega) (by unfold scn; omega) (scn_le i) hf x c X C w hM
end Go.Proofs.YtekafmnpojbbdaaDoor.Walks
