/- The walk of MemoryMends. -/
import Derived.Test.YtekafmnpojbbdaaDoorKnow
import Derived.Test.YtekafmnpojbbdaaDoorMPair
import Derived.Test.YtekafmnpojbbdaaDoorMendsN
import Derived.Test.YtekafmnpojbbdaaDoorMWords2
namespace Go.Proofs.YtekafmnpojbbdaaDoor.Walks
open Go.ChangeShapes Go.WideShapes Go.ChangeAt Go.RowKit
set_option linter.unusedVariables false
theorem IntsIn.nat {w : World} {A : Option Addr} {len : Nat} {zs : Nat → Int} (h : IntsIn .u32 w A len zs) (i : Nat) (hi : i < len) : (zs i).toNat < 4294967296 := by
  obtain ⟨b, o, h1, h2, h3, h4⟩ := h i hi
  obtain ⟨l, u⟩ := bounds_u32 h4
  omega
theorem IntsIn.less {k : IntKind} {w : World} {A : Option Addr} {len n : Nat} {zs : Nat → Int} (h : IntsIn k w A len zs) (hn : n ≤ len) : IntsIn k w A n zs := fun j hj => h j (by omega)
set_option maxRecDepth 100000 in
set_option maxHeartbeats 4000000 in
theorem mends_few (A : Option Addr) (len cap : Nat) (zs : Nat → Int) (hl : (len : Int) ≤ 40) (K : Option Addr) (lenK capK : Nat) (bl : Nat → Int) (w : World) (hL : Hid (Laid w)) (hA : Hid (IntsIn .u32 w A len zs)) (hK : Hid (IntsIn .i64 w K lenK bl)) :
    Calls Tryd.prog 5 #[.slice A len cap, .slice K lenK capK] w fun e w' => e = .returned (.bool true) ∧ FrB w.heap.size w w' := by
  have B0 := hideP hL.out.pos
  have HZ : Hid (∀ i, zo zs len i < 4294967296) := zo_lt zs len (fun i hi => hA.out.nat i hi)
  obtain ⟨Z, hZ⟩ : ∃ Z, zo zs len = Z := ⟨_, rfl⟩
  have HI : Hid (∀ i, imW zs len i = mkW Z bl 0 i) := fun i => by rw [mk_0, imW_zo, hZ]
  have HZ1 : Hid (∀ i, i < len → ((Z i : Nat) : Int) = zs i) := fun i hi => by
    rw [← hZ]; unfold zo; rw [if_pos hi]
    obtain ⟨b, o, h1, h2, h3, h4⟩ := hA.out i hi
    exact Int.toNat_of_nonneg (bounds_u32 h4).1
  have HZ2 : Hid (∀ i, ¬ i < len → Z i = 0) := fun i hi => by rw [← hZ]; unfold zo; rw [if_neg hi]
  rw [hZ] at HZ
  clear hZ
  go_enter Tryd.func5, Tryd.ntmps5
  go_wp2_with fail
  refine (mnew_ok _ len _ zs (by omega) _ hL hA).mono ?_; rintro e w1 ⟨M, b, d, rfl, hF⟩
  have F1 : Hid (MFresh w.heap.size M b d (mkW Z bl 0) 0 0 w w1) := hF.congr (fun i _ => HI.out i) rfl rfl
  have N0 : Hid (0 ≠ M ∧ 0 ≠ b ∧ 0 ≠ d) := ⟨by have := hF.2.2.1.1; have := B0.out; omega, by have := hF.2.2.1.2.1; have := B0.out; omega, by have := hF.2.2.1.2.2; have := B0.out; omega⟩
  clear hF
  go_wp2_with fail
  go_loopw [8, 7] (fun i t wr => ∃ k : Nat, (k : Int) ≤ lenK ∧ (k : Int) ≤ 30 ∧ i = .int .i64 k ∧ t = .int .i64 k ∧ Hid (MFresh w.heap.size M b d (mkW Z bl k) 0 0 w wr)) (fun i _ _ => 30 - (intOf i).toNat)
  case atStart => exact ⟨0, by omega, by decide, rfl, rfl, F1⟩
  case round =>
    obtain ⟨k, hk, hk2, rfl, rfl, HF⟩ := hrel
    rename_i wr
    clear F1
    by_cases hlt : (k : Int) < lenK
    · by_cases hlt2 : (k : Int) < 30
      · obtain ⟨b1, o1, rfl, c1, hb0, hbw⟩ := hK.out k (by omega)
        have hbk : wr.cell? ⟨b1, o1 + k, none⟩ = some (.int .i64 (bl k)) := by rw [HF.out.2.1.cell _ _ c1]; exact hb0
        obtain ⟨q0, hq0, hq1⟩ := and63 (bl k)
        have hq2 : (q0 : Int) < 64 := by omega
        have HQ : Hid (tq bl k = q0 % 39) := by unfold Hid tq; rw [hq0, Int.toNat_natCast]
        clear hb0 c1 hbw hq1
        have EI : Hid (39 * (k : Int) + (q0 : Int) % 39 = ((39 * k + tq bl k : Nat) : Int)) := by unfold Hid; rw [HQ.out]; omega
        have KL : Hid (k < 1024) := by unfold Hid; omega
        go_wp2_with fail
        refine (mflip_as M b d 0 0 _ _ _ (inF_in (n := 1024) EI.out KL.out (tq_lt bl k)) _ HF.out.1).mono ?_; rintro e w3 ⟨rfl, hF⟩
        have F3 := hideP (HF.out.now hF)
        clear hF
        go_wp2_with fail
        exact ⟨⟨k + 1, by omega, by omega, by rw [Int.natCast_add]; rfl, by rw [Int.natCast_add]; rfl, F3.out.congr (fun i _ => mk_flip Z bl k KL.out _ EI.out i) rfl rfl⟩, by simp [intOf]; omega⟩
      · have KL : Hid (k ≤ 1024) := by unfold Hid; omega
        have L0 := hideP (HF.out.laid hL.out B0.out)
        have PW : Hid (0 < wr.heap.size ∧ M < wr.heap.size ∧ b < wr.heap.size ∧ d < wr.heap.size) := ⟨L0.out.pos, HF.out.2.2.2⟩
        have OS : Hid (w.heap.size ≤ wr.heap.size) := HF.out.2.1.size
        have G : Hid (bdW (mkW Z bl k) 1024 = false) := mk_bd Z bl HZ.out k
        have s1 : Hid (((scV (mkW Z bl k) 0 (scn 1024) : Nat) : Int) = k) := by unfold Hid; show ((scV (mkW Z bl k) 0 1024 : Nat) : Int) = k; rw [mk_scV Z bl HZ.out k KL.out]
        have s2 : Hid (scE (mkW Z bl k) 0 (scn 1024) = 0) := mk_scE Z bl HZ.out k
        have s3 : Hid (((scV (mkW Z bl 0) 0 (scn 1024) : Nat) : Int) = 0) := by unfold Hid; show ((scV (mkW Z bl 0) 0 1024 : Nat) : Int) = 0; rw [mk_scV Z bl HZ.out 0 (by decide)]; rfl
        have s4 : Hid (scE (mkW Z bl 0) 0 (scn 1024) = 0) := mk_scE Z bl HZ.out 0
        go_wp2_with fail
        refine (mwords2_as M b d 0 0 (mkW Z bl k) false G _ L0 HF.out.1 PW).mono ?_; rintro e v1 ⟨hT, hF⟩
        have P1 := hideP (HF.out.past hF OS.out)
        have L1 := hideP (P1.out.laid hL.out B0.out)
        clear hF
        unfold Told2 at hT
        rw [if_neg (by decide)] at hT
        obtain ⟨A1, cap1, rfl, hs0, hs1, hc1⟩ := hT
        have CV1 : Hid (∀ i, i < 1024 → v1.cell? ⟨A1, i, none⟩ = some (.int .u32 (Z i : Nat))) := fun i hi => by rw [hc1 i hi, mk_vw Z bl HZ.out k i]
        have NE : Hid (A1 ≠ M ∧ A1 ≠ b ∧ A1 ≠ d) := ⟨by have := PW.out.2.1; omega, by have := PW.out.2.2.1; omega, by have := PW.out.2.2.2; omega⟩
        clear hs0 hs1 hc1
        go_wp2_with fail
        refine (mscrub_as M b d 0 0 _ _ (by decide) _ _ s1 s2 _ L1 N0 P1.out.1).mono ?_; rintro e v2 ⟨rfl, hF⟩
        have P2 : Hid (MFresh w.heap.size M b d (mkW Z bl 0) k 0 w v2) := (P1.out.now hF).congr (fun i hi => mk_sc Z bl HZ.out k i hi) ((mk_scF Z bl HZ.out k 0 KL.out).trans (Nat.zero_add k)) rfl
        have CV2 : Hid (∀ i, i < 1024 → v2.cell? ⟨A1, i, none⟩ = some (.int .u32 (Z i : Nat))) := fun i hi => by rw [hF.cell _ NE.out]; exact CV1.out i hi
        have L2 := hideP (P2.out.laid hL.out B0.out)
        clear hF
        go_wp2_with fail
        refine (mscrub_as M b d k 0 _ _ (by omega) _ _ s3 s4 _ L2 N0 P2.out.1).mono ?_; rintro e v3 ⟨rfl, hF⟩
        have P3 : Hid (MFresh w.heap.size M b d (mkW Z bl 0) k 0 w v3) := (P2.out.now hF).congr (fun i hi => mk_sc Z bl HZ.out 0 i hi) (mk_scF Z bl HZ.out 0 k (by decide)) rfl
        have CV3 : Hid (∀ i, i < 1024 → v3.cell? ⟨A1, i, none⟩ = some (.int .u32 (Z i : Nat))) := fun i hi => by rw [hF.cell _ NE.out]; exact CV2.out i hi
        have L3 := hideP (P3.out.laid hL.out B0.out)
        clear hF
        go_wp2_with (go_at_call 14; refine (mfixes_as M b k _ P3.out.1.hr P3.out.1.row.hf).mono ?_; rintro e w' ⟨rfl, rfl⟩)
        go_loopw [104] (fun t vr => ∃ j : Nat, (j : Int) ≤ 1024 ∧ t = .int .i64 j ∧ vr = w') (fun t _ => 1024 - (intOf t).toNat)
        case atStart => exact ⟨0, by decide, rfl, rfl⟩
        case round =>
          obtain ⟨j, hj, rfl, rfl⟩ := hrel
          by_cases hjl : (j : Int) < 1024
          · have y1 := CV3.out j (by omega)
            by_cases hjn : (j : Int) < len
            · obtain ⟨b0, o0, eA, c0, hl0, hz⟩ := hA.out j (by omega)
              cases eA
              have y2 := hl0
              rw [← P3.out.2.1.cell _ _ c0] at y2
              have ez := HZ1.out j (by omega)
              rw [ez] at y1
              clear hl0 hz c0 ez
              go_wp2_with fail
              exact ⟨⟨j + 1, by omega, by rw [Int.natCast_add]; rfl, by first | trivial | rfl⟩, by simp [intOf]; omega⟩
            · have ez := HZ2.out j (by omega)
              rw [ez] at y1
              clear ez
              go_wp2_with fail
              exact ⟨⟨j + 1, by omega, by rw [Int.natCast_add]; rfl, by first | trivial | rfl⟩, by simp [intOf]; omega⟩
          · go_wp2_with fail
            refine (known _ L3).mono ?_; rintro e v4 ⟨rfl, hF⟩
            have F9 := hideP (P3.out.2.1.trans (hF.mono P3.out.2.1.size))
            clear hF
            go_wp2_with fail
            go_ret
            exact ⟨rfl, F9.out⟩
    · have KL : Hid (k ≤ 1024) := by unfold Hid; omega
      have L0 := hideP (HF.out.laid hL.out B0.out)
      have PW : Hid (0 < wr.heap.size ∧ M < wr.heap.size ∧ b < wr.heap.size ∧ d < wr.heap.size) := ⟨L0.out.pos, HF.out.2.2.2⟩
      have OS : Hid (w.heap.size ≤ wr.heap.size) := HF.out.2.1.size
      have G : Hid (bdW (mkW Z bl k) 1024 = false) := mk_bd Z bl HZ.out k
      have s1 : Hid (((scV (mkW Z bl k) 0 (scn 1024) : Nat) : Int) = k) := by unfold Hid; show ((scV (mkW Z bl k) 0 1024 : Nat) : Int) = k; rw [mk_scV Z bl HZ.out k KL.out]
      have s2 : Hid (scE (mkW Z bl k) 0 (scn 1024) = 0) := mk_scE Z bl HZ.out k
      have s3 : Hid (((scV (mkW Z bl 0) 0 (scn 1024) : Nat) : Int) = 0) := by unfold Hid; show ((scV (mkW Z bl 0) 0 1024 : Nat) : Int) = 0; rw [mk_scV Z bl HZ.out 0 (by decide)]; rfl
      have s4 : Hid (scE (mkW Z bl 0) 0 (scn 1024) = 0) := mk_scE Z bl HZ.out 0
      go_wp2_with fail
      refine (mwords2_as M b d 0 0 (mkW Z bl k) false G _ L0 HF.out.1 PW).mono ?_; rintro e v1 ⟨hT, hF⟩
      have P1 := hideP (HF.out.past hF OS.out)
      have L1 := hideP (P1.out.laid hL.out B0.out)
      clear hF
      unfold Told2 at hT
      rw [if_neg (by decide)] at hT
      obtain ⟨A1, cap1, rfl, hs0, hs1, hc1⟩ := hT
      have CV1 : Hid (∀ i, i < 1024 → v1.cell? ⟨A1, i, none⟩ = some (.int .u32 (Z i : Nat))) := fun i hi => by rw [hc1 i hi, mk_vw Z bl HZ.out k i]
      have NE : Hid (A1 ≠ M ∧ A1 ≠ b ∧ A1 ≠ d) := ⟨by have := PW.out.2.1; omega, by have := PW.out.2.2.1; omega, by have := PW.out.2.2.2; omega⟩
      clear hs0 hs1 hc1
      go_wp2_with fail
      refine (mscrub_as M b d 0 0 _ _ (by decide) _ _ s1 s2 _ L1 N0 P1.out.1).mono ?_; rintro e v2 ⟨rfl, hF⟩
      have P2 : Hid (MFresh w.heap.size M b d (mkW Z bl 0) k 0 w v2) := (P1.out.now hF).congr (fun i hi => mk_sc Z bl HZ.out k i hi) ((mk_scF Z bl HZ.out k 0 KL.out).trans (Nat.zero_add k)) rfl
      have CV2 : Hid (∀ i, i < 1024 → v2.cell? ⟨A1, i, none⟩ = some (.int .u32 (Z i : Nat))) := fun i hi => by rw [hF.cell _ NE.out]; exact CV1.out i hi
      have L2 := hideP (P2.out.laid hL.out B0.out)
      clear hF
      go_wp2_with fail
      refine (mscrub_as M b d k 0 _ _ (by omega) _ _ s3 s4 _ L2 N0 P2.out.1).mono ?_; rintro e v3 ⟨rfl, hF⟩
      have P3 : Hid (MFresh w.heap.size M b d (mkW Z bl 0) k 0 w v3) := (P2.out.now hF).congr (fun i hi => mk_sc Z bl HZ.out 0 i hi) (mk_scF Z bl HZ.out 0 k (by decide)) rfl
      have CV3 : Hid (∀ i, i < 1024 → v3.cell? ⟨A1, i, none⟩ = some (.int .u32 (Z i : Nat))) := fun i hi => by rw [hF.cell _ NE.out]; exact CV2.out i hi
      have L3 := hideP (P3.out.laid hL.out B0.out)
      clear hF
      go_wp2_with (go_at_call 14; refine (mfixes_as M b k _ P3.out.1.hr P3.out.1.row.hf).mono ?_; rintro e w' ⟨rfl, rfl⟩)
      go_loopw [104] (fun t vr => ∃ j : Nat, (j : Int) ≤ 1024 ∧ t = .int .i64 j ∧ vr = w') (fun t _ => 1024 - (intOf t).toNat)
      case atStart => exact ⟨0, by decide, rfl, rfl⟩
      case round =>
        obtain ⟨j, hj, rfl, rfl⟩ := hrel
        by_cases hjl : (j : Int) < 1024
        · have y1 := CV3.out j (by omega)
          by_cases hjn : (j : Int) < len
          · obtain ⟨b0, o0, eA, c0, hl0, hz⟩ := hA.out j (by omega)
            cases eA
            have y2 := hl0
            rw [← P3.out.2.1.cell _ _ c0] at y2
            have ez := HZ1.out j (by omega)
            rw [ez] at y1
            clear hl0 hz c0 ez
            go_wp2_with fail
            exact ⟨⟨j + 1, by omega, by rw [Int.natCast_add]; rfl, by first | trivial | rfl⟩, by simp [intOf]; omega⟩
          · have ez := HZ2.out j (by omega)
            rw [ez] at y1
            clear ez
            go_wp2_with fail
            exact ⟨⟨j + 1, by omega, by rw [Int.natCast_add]; rfl, by first | trivial | rfl⟩, by simp [intOf]; omega⟩
        · go_wp2_with fail
          refine (known _ L3).mono ?_; rintro e v4 ⟨rfl, hF⟩
          have F9 := hideP (P3.out.2.1.trans (hF.mono P3.out.2.1.size))
          clear hF
          go_wp2_with fail
          go_ret
          exact ⟨rfl, F9.out⟩
set_option maxRecDepth 100000 in
set_option maxHeartbeats 4000000 in
theorem mends_many (A : Option Addr) (len cap : Nat) (zs : Nat → Int) (hl : (40 : Int) < len) (hcap : (len : Int) ≤ cap) (hx : (cap : Int) ≤ 9223372036854775807) (K : Option Addr) (lenK capK : Nat) (bl : Nat → Int) (w : World) (hL : Hid (Laid w)) (hA : Hid (IntsIn .u32 w A 40 zs)) (hK : Hid (IntsIn .i64 w K lenK bl)) :
    Calls Tryd.prog 5 #[.slice A len cap, .slice K lenK capK] w fun e w' => e = .returned (.bool true) ∧ FrB w.heap.size w w' := by
  have B0 := hideP hL.out.pos
  have HZ : Hid (∀ i, zo zs 40 i < 4294967296) := zo_lt zs 40 (fun i hi => hA.out.nat i hi)
  obtain ⟨Z, hZ⟩ : ∃ Z, zo zs 40 = Z := ⟨_, rfl⟩
  have HI : Hid (∀ i, imW zs 40 i = mkW Z bl 0 i) := fun i => by rw [mk_0, imW_zo, hZ]
  have HZ1 : Hid (∀ i, i < 40 → ((Z i : Nat) : Int) = zs i) := fun i hi => by
    rw [← hZ]; unfold zo; rw [if_pos hi]
    obtain ⟨b, o, h1, h2, h3, h4⟩ := hA.out i hi
    exact Int.toNat_of_nonneg (bounds_u32 h4).1
  have HZ2 : Hid (∀ i, ¬ i < 40 → Z i = 0) := fun i hi => by rw [← hZ]; unfold zo; rw [if_neg hi]
  rw [hZ] at HZ
  clear hZ
  obtain ⟨ba, oa, rfl, _⟩ := hA.out 0 (by decide)
  go_enter Tryd.func5, Tryd.ntmps5
  go_wp2_with fail
  refine (mnew_ok _ 40 _ zs (by omega) _ hL hA).mono ?_; rintro e w1 ⟨M, b, d, rfl, hF⟩
  have F1 : Hid (MFresh w.heap.size M b d (mkW Z bl 0) 0 0 w w1) := hF.congr (fun i _ => HI.out i) rfl rfl
  have N0 : Hid (0 ≠ M ∧ 0 ≠ b ∧ 0 ≠ d) := ⟨by have := hF.2.2.1.1; have := B0.out; omega, by have := hF.2.2.1.2.1; have := B0.out; omega, by have := hF.2.2.1.2.2; have := B0.out; omega⟩
  clear hF
  go_wp2_with fail
  go_loopw [8, 7] (fun i t wr => ∃ k : Nat, (k : Int) ≤ lenK ∧ (k : Int) ≤ 30 ∧ i = .int .i64 k ∧ t = .int .i64 k ∧ Hid (MFresh w.heap.size M b d (mkW Z bl k) 0 0 w wr)) (fun i _ _ => 30 - (intOf i).toNat)
  case atStart => exact ⟨0, by omega, by decide, rfl, rfl, F1⟩
  case round =>
    obtain ⟨k, hk, hk2, rfl, rfl, HF⟩ := hrel
    rename_i wr
    clear F1
    by_cases hlt : (k : Int) < lenK
    · by_cases hlt2 : (k : Int) < 30
      · obtain ⟨b1, o1, rfl, c1, hb0, hbw⟩ := hK.out k (by omega)
        have hbk : wr.cell? ⟨b1, o1 + k, none⟩ = some (.int .i64 (bl k)) := by rw [HF.out.2.1.cell _ _ c1]; exact hb0
        obtain ⟨q0, hq0, hq1⟩ := and63 (bl k)
        have hq2 : (q0 : Int) < 64 := by omega
        have HQ : Hid (tq bl k = q0 % 39) := by unfold Hid tq; rw [hq0, Int.toNat_natCast]
        clear hb0 c1 hbw hq1
        have EI : Hid (39 * (k : Int) + (q0 : Int) % 39 = ((39 * k + tq bl k : Nat) : Int)) := by unfold Hid; rw [HQ.out]; omega
        have KL : Hid (k < 1024) := by unfold Hid; omega
        go_wp2_with fail
        refine (mflip_as M b d 0 0 _ _ _ (inF_in (n := 1024) EI.out KL.out (tq_lt bl k)) _ HF.out.1).mono ?_; rintro e w3 ⟨rfl, hF⟩
        have F3 := hideP (HF.out.now hF)
        clear hF
        go_wp2_with fail
        exact ⟨⟨k + 1, by omega, by omega, by rw [Int.natCast_add]; rfl, by rw [Int.natCast_add]; rfl, F3.out.congr (fun i _ => mk_flip Z bl k KL.out _ EI.out i) rfl rfl⟩, by simp [intOf]; omega⟩
      · have KL : Hid (k ≤ 1024) := by unfold Hid; omega
        have L0 := hideP (HF.out.laid hL.out B0.out)
        have PW : Hid (0 < wr.heap.size ∧ M < wr.heap.size ∧ b < wr.heap.size ∧ d < wr.heap.size) := ⟨L0.out.pos, HF.out.2.2.2⟩
        have OS : Hid (w.heap.size ≤ wr.heap.size) := HF.out.2.1.size
        have G : Hid (bdW (mkW Z bl k) 1024 = false) := mk_bd Z bl HZ.out k
        have s1 : Hid (((scV (mkW Z bl k) 0 (scn 1024) : Nat) : Int) = k) := by unfold Hid; show ((scV (mkW Z bl k) 0 1024 : Nat) : Int) = k; rw [mk_scV Z bl HZ.out k KL.out]
        have s2 : Hid (scE (mkW Z bl k) 0 (scn 1024) = 0) := mk_scE Z bl HZ.out k
        have s3 : Hid (((scV (mkW Z bl 0) 0 (scn 1024) : Nat) : Int) = 0) := by unfold Hid; show ((scV (mkW Z bl 0) 0 1024 : Nat) : Int) = 0; rw [mk_scV Z bl HZ.out 0 (by decide)]; rfl
        have s4 : Hid (scE (mkW Z bl 0) 0 (scn 1024) = 0) := mk_scE Z bl HZ.out 0
        go_wp2_with fail
        refine (mwords2_as M b d 0 0 (mkW Z bl k) false G _ L0 HF.out.1 PW).mono ?_; rintro e v1 ⟨hT, hF⟩
        have P1 := hideP (HF.out.past hF OS.out)
        have L1 := hideP (P1.out.laid hL.out B0.out)
        clear hF
        unfold Told2 at hT
        rw [if_neg (by decide)] at hT
        obtain ⟨A1, cap1, rfl, hs0, hs1, hc1⟩ := hT
        have CV1 : Hid (∀ i, i < 1024 → v1.cell? ⟨A1, i, none⟩ = some (.int .u32 (Z i : Nat))) := fun i hi => by rw [hc1 i hi, mk_vw Z bl HZ.out k i]
        have NE : Hid (A1 ≠ M ∧ A1 ≠ b ∧ A1 ≠ d) := ⟨by have := PW.out.2.1; omega, by have := PW.out.2.2.1; omega, by have := PW.out.2.2.2; omega⟩
        clear hs0 hs1 hc1
        go_wp2_with fail
        refine (mscrub_as M b d 0 0 _ _ (by decide) _ _ s1 s2 _ L1 N0 P1.out.1).mono ?_; rintro e v2 ⟨rfl, hF⟩
        have P2 : Hid (MFresh w.heap.size M b d (mkW Z bl 0) k 0 w v2) := (P1.out.now hF).congr (fun i hi => mk_sc Z bl HZ.out k i hi) ((mk_scF Z bl HZ.out k 0 KL.out).trans (Nat.zero_add k)) rfl
        have CV2 : Hid (∀ i, i < 1024 → v2.cell? ⟨A1, i, none⟩ = some (.int .u32 (Z i : Nat))) := fun i hi => by rw [hF.cell _ NE.out]; exact CV1.out i hi
        have L2 := hideP (P2.out.laid hL.out B0.out)
        clear hF
        go_wp2_with fail
        refine (mscrub_as M b d k 0 _ _ (by omega) _ _ s3 s4 _ L2 N0 P2.out.1).mono ?_; rintro e v3 ⟨rfl, hF⟩
        have P3 : Hid (MFresh w.heap.size M b d (mkW Z bl 0) k 0 w v3) := (P2.out.now hF).congr (fun i hi => mk_sc Z bl HZ.out 0 i hi) (mk_scF Z bl HZ.out 0 k (by decide)) rfl
        have CV3 : Hid (∀ i, i < 1024 → v3.cell? ⟨A1, i, none⟩ = some (.int .u32 (Z i : Nat))) := fun i hi => by rw [hF.cell _ NE.out]; exact CV2.out i hi
        have L3 := hideP (P3.out.laid hL.out B0.out)
        clear hF
        go_wp2_with (go_at_call 14; refine (mfixes_as M b k _ P3.out.1.hr P3.out.1.row.hf).mono ?_; rintro e w' ⟨rfl, rfl⟩)
        go_loopw [104] (fun t vr => ∃ j : Nat, (j : Int) ≤ 1024 ∧ t = .int .i64 j ∧ vr = w') (fun t _ => 1024 - (intOf t).toNat)
        case atStart => exact ⟨0, by decide, rfl, rfl⟩
        case round =>
          obtain ⟨j, hj, rfl, rfl⟩ := hrel
          by_cases hjl : (j : Int) < 1024
          · have y1 := CV3.out j (by omega)
            by_cases hjn : (j : Int) < 40
            · obtain ⟨b0, o0, eA, c0, hl0, hz⟩ := hA.out j (by omega)
              cases eA
              have y2 := hl0
              rw [← P3.out.2.1.cell _ _ c0] at y2
              have ez := HZ1.out j (by omega)
              rw [ez] at y1
              clear hl0 hz c0 ez
              go_wp2_with fail
              exact ⟨⟨j + 1, by omega, by rw [Int.natCast_add]; rfl, by first | trivial | rfl⟩, by simp [intOf]; omega⟩
            · have ez := HZ2.out j (by omega)
              rw [ez] at y1
              clear ez
              go_wp2_with fail
              exact ⟨⟨j + 1, by omega, by rw [Int.natCast_add]; rfl, by first | trivial | rfl⟩, by simp [intOf]; omega⟩
          · go_wp2_with fail
            refine (known _ L3).mono ?_; rintro e v4 ⟨rfl, hF⟩
            have F9 := hideP (P3.out.2.1.trans (hF.mono P3.out.2.1.size))
            clear hF
            go_wp2_with fail
            go_ret
            exact ⟨rfl, F9.out⟩
    · have KL : Hid (k ≤ 1024) := by unfold Hid; omega
      have L0 := hideP (HF.out.laid hL.out B0.out)
      have PW : Hid (0 < wr.heap.size ∧ M < wr.heap.size ∧ b < wr.heap.size ∧ d < wr.heap.size) := ⟨L0.out.pos, HF.out.2.2.2⟩
      have OS : Hid (w.heap.size ≤ wr.heap.size) := HF.out.2.1.size
      have G : Hid (bdW (mkW Z bl k) 1024 = false) := mk_bd Z bl HZ.out k
      have s1 : Hid (((scV (mkW Z bl k) 0 (scn 1024) : Nat) : Int) = k) := by unfold Hid; show ((scV (mkW Z bl k) 0 1024 : Nat) : Int) = k; rw [mk_scV Z bl HZ.out k KL.out]
      have s2 : Hid (scE (mkW Z bl k) 0 (scn 1024) = 0) := mk_scE Z bl HZ.out k
      have s3 : Hid (((scV (mkW Z bl 0) 0 (scn 1024) : Nat) : Int) = 0) := by unfold Hid; show ((scV (mkW Z bl 0) 0 1024 : Nat) : Int) = 0; rw [mk_scV Z bl HZ.out 0 (by decide)]; rfl
      have s4 : Hid (scE (mkW Z bl 0) 0 (scn 1024) = 0) := mk_scE Z bl HZ.out 0
      go_wp2_with fail
      refine (mwords2_as M b d 0 0 (mkW Z bl k) false G _ L0 HF.out.1 PW).mono ?_; rintro e v1 ⟨hT, hF⟩
      have P1 := hideP (HF.out.past hF OS.out)
      have L1 := hideP (P1.out.laid hL.out B0.out)
      clear hF
      unfold Told2 at hT
      rw [if_neg (by decide)] at hT
      obtain ⟨A1, cap1, rfl, hs0, hs1, hc1⟩ := hT
      have CV1 : Hid (∀ i, i < 1024 → v1.cell? ⟨A1, i, none⟩ = some (.int .u32 (Z i : Nat))) := fun i hi => by rw [hc1 i hi, mk_vw Z bl HZ.out k i]
      have NE : Hid (A1 ≠ M ∧ A1 ≠ b ∧ A1 ≠ d) := ⟨by have := PW.out.2.1; omega, by have := PW.out.2.2.1; omega, by have := PW.out.2.2.2; omega⟩
      clear hs0 hs1 hc1
      go_wp2_with fail
      refine (mscrub_as M b d 0 0 _ _ (by decide) _ _ s1 s2 _ L1 N0 P1.out.1).mono ?_; rintro e v2 ⟨rfl, hF⟩
      have P2 : Hid (MFresh w.heap.size M b d (mkW Z bl 0) k 0 w v2) := (P1.out.now hF).congr (fun i hi => mk_sc Z bl HZ.out k i hi) ((mk_scF Z bl HZ.out k 0 KL.out).trans (Nat.zero_add k)) rfl
      have CV2 : Hid (∀ i, i < 1024 → v2.cell? ⟨A1, i, none⟩ = some (.int .u32 (Z i : Nat))) := fun i hi => by rw [hF.cell _ NE.out]; exact CV1.out i hi
      have L2 := hideP (P2.out.laid hL.out B0.out)
      clear hF
      go_wp2_with fail
      refine (mscrub_as M b d k 0 _ _ (by omega) _ _ s3 s4 _ L2 N0 P2.out.1).mono ?_; rintro e v3 ⟨rfl, hF⟩
      have P3 : Hid (MFresh w.heap.size M b d (mkW Z bl 0) k 0 w v3) := (P2.out.now hF).congr (fun i hi => mk_sc Z bl HZ.out 0 i hi) (mk_scF Z bl HZ.out 0 k (by decide)) rfl
      have CV3 : Hid (∀ i, i < 1024 → v3.cell? ⟨A1, i, none⟩ = some (.int .u32 (Z i : Nat))) := fun i hi => by rw [hF.cell _ NE.out]; exact CV2.out i hi
      have L3 := hideP (P3.out.laid hL.out B0.out)
      clear hF
      go_wp2_with (go_at_call 14; refine (mfixes_as M b k _ P3.out.1.hr P3.out.1.row.hf).mono ?_; rintro e w' ⟨rfl, rfl⟩)
      go_loopw [104] (fun t vr => ∃ j : Nat, (j : Int) ≤ 1024 ∧ t = .int .i64 j ∧ vr = w') (fun t _ => 1024 - (intOf t).toNat)
      case atStart => exact ⟨0, by decide, rfl, rfl⟩
      case round =>
        obtain ⟨j, hj, rfl, rfl⟩ := hrel
        by_cases hjl : (j : Int) < 1024
        · have y1 := CV3.out j (by omega)
          by_cases hjn : (j : Int) < 40
          · obtain ⟨b0, o0, eA, c0, hl0, hz⟩ := hA.out j (by omega)
            cases eA
            have y2 := hl0
            rw [← P3.out.2.1.cell _ _ c0] at y2
            have ez := HZ1.out j (by omega)
            rw [ez] at y1
            clear hl0 hz c0 ez
            go_wp2_with fail
            exact ⟨⟨j + 1, by omega, by rw [Int.natCast_add]; rfl, by first | trivial | rfl⟩, by simp [intOf]; omega⟩
          · have ez := HZ2.out j (by omega)
            rw [ez] at y1
            clear ez
            go_wp2_with fail
            exact ⟨⟨j + 1, by omega, by rw [Int.natCast_add]; rfl, by first | trivial | rfl⟩, by simp [intOf]; omega⟩
        · go_wp2_with fail
          refine (known _ L3).mono ?_; rintro e v4 ⟨rfl, hF⟩
          have F9 := hideP (P3.out.2.1.trans (hF.mono P3.out.2.1.size))
          clear hF
          go_wp2_with fail
          go_ret
          exact ⟨rfl, F9.out⟩
theorem mends (A : Option Addr) (len cap : Nat) (zs : Nat → Int) (hR : len ≤ cap ∧ cap ≤ maxLen) (K : Option Addr) (lenK capK : Nat) (bl : Nat → Int) (w : World) (hL : Hid (Laid w)) (hA : IntsIn .u32 w A len zs) (hK : IntsIn .i64 w K lenK bl) :
    Calls Tryd.prog 5 #[.slice A len cap, .slice K lenK capK] w fun e w' => e = .returned (.bool true) ∧ FrB w.heap.size w w' := by
  by_cases h : (len : Int) ≤ 40
  · exact mends_few A len cap zs h K lenK capK bl w hL hA hK
  · exact mends_many A len cap zs (by omega) (by omega) (by have := hR.2; unfold maxLen at this; omega) K lenK capK bl w hL (hA.less (by omega)) hK
end Go.Proofs.YtekafmnpojbbdaaDoor.Walks
