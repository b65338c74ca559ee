/- Contract of the program's Scrub. -/
import Derived.Test.YtekafmnpojbbdaaDoorMLoad
import Derived.Deep.RegionWith
import Derived.BigRegion
namespace Go.Proofs.YtekafmnpojbbdaaDoor.Walks
open Go.ChangeShapes Go.WideShapes Go.ChangeAt Go.RowKit
set_option linter.unusedVariables false
theorem sc_next {ws W : Nat → Nat} {f nx k T q F : Nat} {bd : Bool} (s q' : Nat) (h : scN ws nx k = T ∧ scB ws nx k = bd ∧ (nx + k) % 1024 = q ∧ scF ws f nx k = F ∧ scW ws nx k = W) (hs : pkS 1024 W (q : Int) = s) (hq : (q + 1) % 1024 = q') :
    scN ws nx (k + 1) = (T + if s = 1 then 1 else 0) ∧ scB ws nx (k + 1) = (bd || s == 2) ∧ (nx + (k + 1)) % 1024 = q' ∧ scF ws f nx (k + 1) = gtF 1024 W F (q : Int) ∧ scW ws nx (k + 1) = gtW 1024 W (q : Int) := by
  obtain ⟨h1, h2, h3, h4, h5⟩ := h
  have e : scS ws nx k = s := by unfold scS; rw [h5, h3]; exact hs
  refine ⟨?_, ?_, by omega, ?_, ?_⟩
  · simp only [scN]; rw [h1, e]
  · simp only [scB]; rw [h2, e]
  · simp only [scF]; rw [h5, h4, h3]
  · simp only [scW]; rw [h5, h3]
set_option maxRecDepth 100000 in
set_option maxHeartbeats 2000000 in
theorem mscrub_low (M b d f nx : Nat) (ws : Nat → Nat) (i : Int) (hi : i < 0) (hf : (f : Int) ≤ 3000000000000000000) (x c : Int) (X : Hid (((scV ws nx 0 : Nat) : Int) = x)) (C : Hid (scE ws nx 0 = c)) (w : World) (hL : Hid (Laid w)) (h0 : Hid (0 ≠ M ∧ 0 ≠ b ∧ 0 ≠ d)) (hM : Hid (MemAt M b d ws f nx w)) :
    Calls Tryd.prog 13 #[.pointer (some ⟨M, 0, none⟩), .int .i64 i] w fun e w' => e = .returned (.tuple #[.int .i64 x, .int .i64 c]) ∧ MNow M b d (scW ws nx 0) (scF ws f nx 0) ((nx + 0) % 1024) w w' := by
  have hnx : nx < 1024 := hM.out.lt
  have H0 : Hid (MNow M b d ws f nx w w) := MNow.refl hM.out
  go_enter Tryd.func13, Tryd.ntmps13
  go_wp2_with fail
  go_loopw [11, 6, 7] (fun t11 t6 t7 wr => ∃ (k T q F : Nat) (bd : Bool) (W : Nat → Nat), (k : Int) ≤ 0 ∧ (T : Int) ≤ k ∧ (q : Int) < 1024 ∧ (F : Int) ≤ f + k ∧ t11 = .int .i64 k ∧ t6 = .int .i64 T ∧ t7 = .bool bd ∧ Hid (scN ws nx k = T ∧ scB ws nx k = bd ∧ (nx + k) % 1024 = q ∧ scF ws f nx k = F ∧ scW ws nx k = W) ∧ Hid (MNow M b d W F q w wr)) (fun t11 _ _ _ => 0 - (intOf t11).toNat)
  case atStart => exact ⟨0, 0, nx, f, false, ws, by omega, by decide, by omega, by omega, rfl, rfl, rfl, ⟨rfl, rfl, by omega, rfl, rfl⟩, H0⟩
  case round =>
    obtain ⟨k, T, q, F, bd, W, hk, hT, hq, hF, rfl, rfl, rfl, HS, HN⟩ := hrel
    rename_i wr
    by_cases hlt : (k : Int) < 0
    · exact absurd hlt (by omega)
    · have hkn : k = 0 := by omega
      have X := X.out
      have C := C.out
      have A := HS.out
      rw [hkn] at A
      unfold scV at X
      unfold scE at C
      rw [A.2.1, A.1] at X
      rw [A.2.1] at C
      have HE : Hid (MNow M b d (scW ws nx 0) (scF ws f nx 0) ((nx + 0) % 1024) w wr) := by
        unfold Hid
        rw [A.2.2.1, A.2.2.2.1, A.2.2.2.2]
        exact HN.out
      clear A hkn
      cases bd
      · subst X C
        go_wp2_with fail
        go_ret2
        exact ⟨rfl, HE.out⟩
      · subst X C
        go_wp2_with fail
        go_ret2
        exact ⟨rfl, HE.out⟩
set_option maxRecDepth 100000 in
set_option maxHeartbeats 2000000 in
theorem mscrub_in (M b d f nx : Nat) (n : Nat) (ws : Nat → Nat) (i : Int) (i0 : 0 ≤ i) (hi : (n : Int) = i) (hn : (n : Int) ≤ 1024) (hf : (f : Int) ≤ 3000000000000000000) (x c : Int) (X : Hid (((scV ws nx n : Nat) : Int) = x)) (C : Hid (scE ws nx n = c)) (w : World) (hL : Hid (Laid w)) (h0 : Hid (0 ≠ M ∧ 0 ≠ b ∧ 0 ≠ d)) (hM : Hid (MemAt M b d ws f nx w)) :
    Calls Tryd.prog 13 #[.pointer (some ⟨M, 0, none⟩), .int .i64 i] w fun e w' => e = .returned (.tuple #[.int .i64 x, .int .i64 c]) ∧ MNow M b d (scW ws nx n) (scF ws f nx n) ((nx + n) % 1024) w w' := by
  have hnx : nx < 1024 := hM.out.lt
  have H0 : Hid (MNow M b d ws f nx w w) := MNow.refl hM.out
  subst hi
  go_enter Tryd.func13, Tryd.ntmps13
  go_wp2_with fail
  go_loopw [11, 6, 7] (fun t11 t6 t7 wr => ∃ (k T q F : Nat) (bd : Bool) (W : Nat → Nat), (k : Int) ≤ n ∧ (T : Int) ≤ k ∧ (q : Int) < 1024 ∧ (F : Int) ≤ f + k ∧ t11 = .int .i64 k ∧ t6 = .int .i64 T ∧ t7 = .bool bd ∧ Hid (scN ws nx k = T ∧ scB ws nx k = bd ∧ (nx + k) % 1024 = q ∧ scF ws f nx k = F ∧ scW ws nx k = W) ∧ Hid (MNow M b d W F q w wr)) (fun t11 _ _ _ => n - (intOf t11).toNat)
  case atStart => exact ⟨0, 0, nx, f, false, ws, by omega, by decide, by omega, by omega, rfl, rfl, rfl, ⟨rfl, rfl, by omega, rfl, rfl⟩, H0⟩
  case round =>
    obtain ⟨k, T, q, F, bd, W, hk, hT, hq, hF, rfl, rfl, rfl, HS, HN⟩ := hrel
    rename_i wr
    by_cases hlt : (k : Int) < n
    · have hr := HN.out.1.hr
      have hx := HN.out.1.hx
      have L1 := hideP (HN.out.2.laid hL.out h0.out.1 h0.out.2.1 h0.out.2.2)
      obtain ⟨q', Q'⟩ : ∃ q' : Nat, (q + 1) % 1024 = q' := ⟨_, rfl⟩
      have ql : (q' : Int) ≤ 1023 := by omega
      have e1 : ((q : Int) + 1) % 1024 = q' := by omega
      have e2 : ((q : Int) + 1).tmod 1024 = q' := by rw [Int.tmod_eq_emod_of_nonneg (by omega)]; exact e1
      have HQ := hideP Q'
      clear Q'
      have HFL := hideP (gtF_le 1024 W F (q : Int))
      rcases (show pkS 1024 W (q : Int) = 0 ∨ pkS 1024 W (q : Int) = 1 ∨ pkS 1024 W (q : Int) = 2 by have := pkS_le 1024 W (q : Int); omega) with hs | hs | hs
      · have S : Hid (((pkS 1024 W (q : Int) : Nat) : Int) = 0) := by unfold Hid; rw [hs]; rfl
        have NX := hideP (sc_next (f := f) 0 q' HS.out hs HQ.out)
        clear hs
        go_wp2_with fail
        go_region_with (go_at_call 28; refine (scrub_as b d 1024 F W _ _ S (by decide) (by omega) _ (by exact Laid.alike L1.out ⟨rfl, rfl, rfl⟩) (by exact HN.out.1.row.heap rfl)).mono ?_; rintro e w1 ⟨rfl, hw⟩)
        all_goals
          have H1 := hideP (HN.out.1.row_now hw.drew)
          clear hw
          have hr1 := H1.out.1.hr
          have hx1 := H1.out.1.hx
          have zx1 := H1.out.1.zx
          go_wp2_with fail
          refine ⟨⟨k + 1, T, q', _, bd, _, by omega, by omega, by omega, ?_, by rw [Int.natCast_add]; rfl, rfl, rfl, ?_, (HN.out.trans H1.out).trans (H1.out.1.go q' (by omega))⟩, by simp [intOf]; omega⟩
          · have := HFL.out; omega
          · unfold Hid; have := NX.out; simpa using this
      · have S : Hid (((pkS 1024 W (q : Int) : Nat) : Int) = 1) := by unfold Hid; rw [hs]; rfl
        have NX := hideP (sc_next (f := f) 1 q' HS.out hs HQ.out)
        clear hs
        go_wp2_with fail
        go_region_with (go_at_call 28; refine (scrub_as b d 1024 F W _ _ S (by decide) (by omega) _ (by exact Laid.alike L1.out ⟨rfl, rfl, rfl⟩) (by exact HN.out.1.row.heap rfl)).mono ?_; rintro e w1 ⟨rfl, hw⟩)
        all_goals
          have H1 := hideP (HN.out.1.row_now hw.drew)
          clear hw
          have hr1 := H1.out.1.hr
          have hx1 := H1.out.1.hx
          have zx1 := H1.out.1.zx
          go_wp2_with fail
          refine ⟨⟨k + 1, T + 1, q', _, bd, _, by omega, by omega, by omega, ?_, by rw [Int.natCast_add]; rfl, by rw [Int.natCast_add]; rfl, rfl, ?_, (HN.out.trans H1.out).trans (H1.out.1.go q' (by omega))⟩, by simp [intOf]; omega⟩
          · have := HFL.out; omega
          · unfold Hid; have := NX.out; simpa using this
      · have S : Hid (((pkS 1024 W (q : Int) : Nat) : Int) = 2) := by unfold Hid; rw [hs]; rfl
        have NX := hideP (sc_next (f := f) 2 q' HS.out hs HQ.out)
        clear hs
        go_wp2_with fail
        go_region_with (go_at_call 28; refine (scrub_as b d 1024 F W _ _ S (by decide) (by omega) _ (by exact Laid.alike L1.out ⟨rfl, rfl, rfl⟩) (by exact HN.out.1.row.heap rfl)).mono ?_; rintro e w1 ⟨rfl, hw⟩)
        all_goals
          have H1 := hideP (HN.out.1.row_now hw.drew)
          clear hw
          have hr1 := H1.out.1.hr
          have hx1 := H1.out.1.hx
          have zx1 := H1.out.1.zx
          go_wp2_with fail
          refine ⟨⟨k + 1, T, q', _, true, _, by omega, by omega, by omega, ?_, by rw [Int.natCast_add]; rfl, rfl, rfl, ?_, (HN.out.trans H1.out).trans (H1.out.1.go q' (by omega))⟩, by simp [intOf]; omega⟩
          · have := HFL.out; omega
          · unfold Hid; have := NX.out; simpa using this
    · have hkn : k = n := by omega
      have X := X.out
      have C := C.out
      have A := HS.out
      rw [hkn] at A
      unfold scV at X
      unfold scE at C
      rw [A.2.1, A.1] at X
      rw [A.2.1] at C
      have HE : Hid (MNow M b d (scW ws nx n) (scF ws f nx n) ((nx + n) % 1024) w wr) := by
        unfold Hid
        rw [A.2.2.1, A.2.2.2.1, A.2.2.2.2]
        exact HN.out
      clear A hkn
      cases bd
      · subst X C
        go_wp2_with fail
        go_ret2
        exact ⟨rfl, HE.out⟩
      · subst X C
        go_wp2_with fail
        go_ret2
        exact ⟨rfl, HE.out⟩
set_option maxRecDepth 100000 in
set_option maxHeartbeats 2000000 in
theorem mscrub_high (M b d f nx : Nat) (ws : Nat → Nat) (i : Int) (hi : 1024 < i) (hf : (f : Int) ≤ 3000000000000000000) (x c : Int) (X : Hid (((scV ws nx 1024 : Nat) : Int) = x)) (C : Hid (scE ws nx 1024 = c)) (w : World) (hL : Hid (Laid w)) (h0 : Hid (0 ≠ M ∧ 0 ≠ b ∧ 0 ≠ d)) (hM : Hid (MemAt M b d ws f nx w)) :
    Calls Tryd.prog 13 #[.pointer (some ⟨M, 0, none⟩), .int .i64 i] w fun e w' => e = .returned (.tuple #[.int .i64 x, .int .i64 c]) ∧ MNow M b d (scW ws nx 1024) (scF ws f nx 1024) ((nx + 1024) % 1024) w w' := by
  have hnx : nx < 1024 := hM.out.lt
  have H0 : Hid (MNow M b d ws f nx w w) := MNow.refl hM.out
  go_enter Tryd.func13, Tryd.ntmps13
  go_wp2_with fail
  go_loopw [11, 6, 7] (fun t11 t6 t7 wr => ∃ (k T q F : Nat) (bd : Bool) (W : Nat → Nat), (k : Int) ≤ 1024 ∧ (T : Int) ≤ k ∧ (q : Int) < 1024 ∧ (F : Int) ≤ f + k ∧ t11 = .int .i64 k ∧ t6 = .int .i64 T ∧ t7 = .bool bd ∧ Hid (scN ws nx k = T ∧ scB ws nx k = bd ∧ (nx + k) % 1024 = q ∧ scF ws f nx k = F ∧ scW ws nx k = W) ∧ Hid (MNow M b d W F q w wr)) (fun t11 _ _ _ => 1024 - (intOf t11).toNat)
  case atStart => exact ⟨0, 0, nx, f, false, ws, by omega, by decide, by omega, by omega, rfl, rfl, rfl, ⟨rfl, rfl, by omega, rfl, rfl⟩, H0⟩
  case round =>
    obtain ⟨k, T, q, F, bd, W, hk, hT, hq, hF, rfl, rfl, rfl, HS, HN⟩ := hrel
    rename_i wr
    by_cases hlt : (k : Int) < 1024
    · have hr := HN.out.1.hr
      have hx := HN.out.1.hx
      have L1 := hideP (HN.out.2.laid hL.out h0.out.1 h0.out.2.1 h0.out.2.2)
      obtain ⟨q', Q'⟩ : ∃ q' : Nat, (q + 1) % 1024 = q' := ⟨_, rfl⟩
      have ql : (q' : Int) ≤ 1023 := by omega
      have e1 : ((q : Int) + 1) % 1024 = q' := by omega
      have e2 : ((q : Int) + 1).tmod 1024 = q' := by rw [Int.tmod_eq_emod_of_nonneg (by omega)]; exact e1
      have HQ := hideP Q'
      clear Q'
      have HFL := hideP (gtF_le 1024 W F (q : Int))
      rcases (show pkS 1024 W (q : Int) = 0 ∨ pkS 1024 W (q : Int) = 1 ∨ pkS 1024 W (q : Int) = 2 by have := pkS_le 1024 W (q : Int); omega) with hs | hs | hs
      · have S : Hid (((pkS 1024 W (q : Int) : Nat) : Int) = 0) := by unfold Hid; rw [hs]; rfl
        have NX := hideP (sc_next (f := f) 0 q' HS.out hs HQ.out)
        clear hs
        go_wp2_with fail
        go_region_with (go_at_call 28; refine (scrub_as b d 1024 F W _ _ S (by decide) (by omega) _ (by exact Laid.alike L1.out ⟨rfl, rfl, rfl⟩) (by exact HN.out.1.row.heap rfl)).mono ?_; rintro e w1 ⟨rfl, hw⟩)
        all_goals
          have H1 := hideP (HN.out.1.row_now hw.drew)
          clear hw
          have hr1 := H1.out.1.hr
          have hx1 := H1.out.1.hx
          have zx1 := H1.out.1.zx
          go_wp2_with fail
          refine ⟨⟨k + 1, T, q', _, bd, _, by omega, by omega, by omega, ?_, by rw [Int.natCast_add]; rfl, rfl, rfl, ?_, (HN.out.trans H1.out).trans (H1.out.1.go q' (by omega))⟩, by simp [intOf]; omega⟩
          · have := HFL.out; omega
          · unfold Hid; have := NX.out; simpa using this
      · have S : Hid (((pkS 1024 W (q : Int) : Nat) : Int) = 1) := by unfold Hid; rw [hs]; rfl
        have NX := hideP (sc_next (f := f) 1 q' HS.out hs HQ.out)
        clear hs
        go_wp2_with fail
        go_region_with (go_at_call 28; refine (scrub_as b d 1024 F W _ _ S (by decide) (by omega) _ (by exact Laid.alike L1.out ⟨rfl, rfl, rfl⟩) (by exact HN.out.1.row.heap rfl)).mono ?_; rintro e w1 ⟨rfl, hw⟩)
        all_goals
          have H1 := hideP (HN.out.1.row_now hw.drew)
          clear hw
          have hr1 := H1.out.1.hr
          have hx1 := H1.out.1.hx
          have zx1 := H1.out.1.zx
          go_wp2_with fail
          refine ⟨⟨k + 1, T + 1, q', _, bd, _, by omega, by omega, by omega, ?_, by rw [Int.natCast_add]; rfl, by rw [Int.natCast_add]; rfl, rfl, ?_, (HN.out.trans H1.out).trans (H1.out.1.go q' (by omega))⟩, by simp [intOf]; omega⟩
          · have := HFL.out; omega
          · unfold Hid; have := NX.out; simpa using this
      · have S : Hid (((pkS 1024 W (q : Int) : Nat) : Int) = 2) := by unfold Hid; rw [hs]; rfl
        have NX := hideP (sc_next (f := f) 2 q' HS.out hs HQ.out)
        clear hs
        go_wp2_with fail
        go_region_with (go_at_call 28; refine (scrub_as b d 1024 F W _ _ S (by decide) (by omega) _ (by exact Laid.alike L1.out ⟨rfl, rfl, rfl⟩) (by exact HN.out.1.row.heap rfl)).mono ?_; rintro e w1 ⟨rfl, hw⟩)
        all_goals
          have H1 := hideP (HN.out.1.row_now hw.drew)
          clear hw
          have hr1 := H1.out.1.hr
          have hx1 := H1.out.1.hx
          have zx1 := H1.out.1.zx
          go_wp2_with fail
          refine ⟨⟨k + 1, T, q', _, true, _, by omega, by omega, by omega, ?_, by rw [Int.natCast_add]; rfl, rfl, rfl, ?_, (HN.out.trans H1.out).trans (H1.out.1.go q' (by omega))⟩, by simp [intOf]; omega⟩
          · have := HFL.out; omega
          · unfold Hid; have := NX.out; simpa using this
    · have hkn : k = 1024 := by omega
      have X := X.out
      have C := C.out
      have A := HS.out
      rw [hkn] at A
      unfold scV at X
      unfold scE at C
      rw [A.2.1, A.1] at X
      rw [A.2.1] at C
      have HE : Hid (MNow M b d (scW ws nx 1024) (scF ws f nx 1024) ((nx + 1024) % 1024) w wr) := by
        unfold Hid
        rw [A.2.2.1, A.2.2.2.1, A.2.2.2.2]
        exact HN.out
      clear A hkn
      cases bd
      · subst X C
        go_wp2_with fail
        go_ret2
        exact ⟨rfl, by have h := HE.out; rwa [Nat.add_mod_right] at h⟩
      · subst X C
        go_wp2_with fail
        go_ret2
        exact ⟨rfl, by have h := HE.out; rwa [Nat.add_mod_right] at h⟩
theorem mscrub_as (M b d f nx : Nat) (ws : Nat → Nat) (i : Int) (hf : (f : Int) ≤ 3000000000000000000) (x c : Int) (X : Hid (((scV ws nx (scn i) : Nat) : Int) = x)) (C : Hid (scE ws nx (scn i) = c)) (w : World) (hL : Hid (Laid w)) (h0 : Hid (0 ≠ M ∧ 0 ≠ b ∧ 0 ≠ d)) (hM : Hid (MemAt M b d ws f nx w)) :
    Calls Tryd.prog 13 #[.pointer (some ⟨M, 0, none⟩), .int .i64 i] w fun e w' => e = .returned (.tuple #[.int .i64 x, .int .i64 c]) ∧ MNow M b d (scW ws nx (scn i)) (scF ws f nx (scn i)) ((nx + scn i) % 1024) w w' := by
  by_cases a : i < 0
  · have e : scn i = 0 := by unfold scn; omega
    rw [e] at X C ⊢
    exact mscrub_low M b d f nx ws i a hf x c X C w hL h0 hM
  · by_cases a2 : 1024 < i
    · have e : scn i = 1024 := by unfold scn; omega
      rw [e] at X C ⊢
      exact mscrub_high M b d f nx ws i a2 hf x c X C w hL h0 hM
    · exact mscrub_in M b d f nx (scn i) ws i (by omega) (by unfold scn; omega) (scn_le i) hf x c X C w hL h0 hM
end Go.Proofs.YtekafmnpojbbdaaDoor.Walks
