/- Contract of the law's own 'play': rows that are played side by side tell the same. -/
import Derived.Test.YtijmoeljemoppaaDoorPair
import Derived.Deep.RegionHeld3
import Derived.Deep.QuietTactic
import Derived.BigQuiet
namespace Go.Proofs.YtijmoeljemoppaaDoor.Walks
open Go.ChangeShapes Go.WideShapes Go.ChangeAt Go.RowKit
set_option linter.unusedVariables false
theorem gtF_le (n : Nat) (ws : Nat → Nat) (f : Nat) (i : Int) : gtF n ws f i ≤ f + 1 := by unfold gtF; split <;> omega
theorem bits_by (b d n : Nat) (hn : (n : Int) ≤ 2048) (w : World) (hs : w.cell? ⟨b, 0, none⟩ = some (.slice (some ⟨d, 0, none⟩) n n)) :
    Calls Tryd.prog 23 #[.pointer (some ⟨b, 0, none⟩)] w fun e w' => e = .returned (.int .i64 (39 * n)) ∧ w' = w := by
  have := bits_as b d n hn w hs
  rw [Int.mul_comm] at this
  exact this
set_option maxRecDepth 100000 in
set_option maxHeartbeats 4000000 in
theorem play (size : Int) (A : Option Addr) (len cap : Nat) (kd ix nn : Nat → Int) (w : World) (hL : Hid (Laid w)) (hA : Hid (AsksIn w A len kd ix nn)) :
    Calls Tryd.prog 7 #[.int .i64 size, .slice A len cap] w fun e w' => e = .returned (.bool true) ∧ FrB w.heap.size w w' := by
  have B0 := hideP hL.out.pos
  obtain ⟨n, N⟩ : ∃ n, Hid (newN size = n) := ⟨_, rfl⟩
  have hn : (n : Int) ≤ 2048 := by rw [← N.out]; exact newN_le size
  go_enter Tryd.func7, Tryd.ntmps7
  go_wp2_with fail
  refine (new_ex _ _ hL).mono ?_; rintro e w1 ⟨b, d, rfl, hF⟩
  have F1 : Hid (Fresh w.heap.size b d n w0 0 w w1) := by rw [N.out] at hF; exact hF
  clear hF
  go_wp2_with fail
  refine (refnew_ex _ _).mono ?_; rintro e w2 ⟨b', d', rfl, hF⟩
  have P2 : Hid (Pair w.heap.size b d b' d' n w0 0 w0 0 w w2) := Pair.mk2 F1.out (by rw [N.out] at hF; exact hF) F1.out.2.1.size
  clear hF F1
  go_wp2_with fail
  go_loopw [7] (fun i wr => ∃ (k f : Nat) (ws : Nat → Nat), (k : Int) ≤ len ∧ (k : Int) ≤ 80 ∧ Hid (f ≤ k) ∧ i = .int .i64 k ∧ Hid (Pair w.heap.size b d b' d' n ws f ws f w wr)) (fun i _ => 80 - (intOf i).toNat)
  case atStart => exact ⟨0, 0, w0, by omega, by decide, Nat.le_refl 0, rfl, P2⟩
  case round =>
    obtain ⟨k, f, ws, hk, hk2, HFK, rfl, HP⟩ := hrel
    rename_i wr
    by_cases hlt : (k : Int) < len
    · by_cases hlt2 : (k : Int) < 80
      · obtain ⟨b0, o0, rfl, cb, c0, c1, c2, nn0, nn1⟩ := hA.out k (by omega)
        have e0 : wr.cell? ⟨b0, o0 + k * 3, none⟩ = some (.int .i64 (kd k)) := by rw [HP.out.fr.cell _ _ cb]; exact c0
        have e1 : wr.cell? ⟨b0, o0 + k * 3 + 1, none⟩ = some (.int .i64 (ix k)) := by rw [HP.out.fr.cell _ _ cb]; exact c1
        have e2 : wr.cell? ⟨b0, o0 + k * 3 + 2, none⟩ = some (.int .u32 (nn k)) := by rw [HP.out.fr.cell _ _ cb]; exact c2
        have N0 := hideP nn0
        have N1 := hideP nn1
        clear c0 c1 c2 cb nn0 nn1
        have HPA := fun c => hideP (HP.out.alloc (.cells c 25) HP.out.fr.size)
        have HLA := fun c => hideP ((HPA c).out.laid hL.out B0.out)
        have xb : Hid (wr.heap.size ≠ b ∧ wr.heap.size ≠ d ∧ wr.heap.size ≠ b' ∧ wr.heap.size ≠ d') := ⟨by have := HP.out.u1; omega, by have := HP.out.u2; omega, by have := HP.out.u3; omega, by have := HP.out.u4; omega⟩
        have CA : Hid (∀ c : Array Value, ∀ o, (wr.alloc (.cells c 25)).cell? ⟨wr.heap.size, o, none⟩ = c[o]?) := fun c o => World.cell?_alloc_at _ _ _ _ rfl
        obtain ⟨x, X⟩ : ∃ x : Int, Hid (((pkV n ws (ix k) : Nat) : Int) = x) := ⟨_, rfl⟩
        obtain ⟨s, S⟩ : ∃ s : Int, Hid (((pkS n ws (ix k) : Nat) : Int) = s) := ⟨_, rfl⟩
        generalize kd k = kk at *
        generalize ix k = ii at *
        generalize nn k = vv at *
        have HPB := hideP HPA
        have HLB := hideP HLA
        clear HPA HLA
        by_cases h0 : kk = 0
        · subst h0
          obtain ⟨g, G⟩ : ∃ g, Hid (inB n ii = g) := ⟨_, rfl⟩
          go_wp2_with fail
          go_region_held3 (fun w' => w'.cell? ⟨wr.heap.size, 1, none⟩ = some (.int .i64 ii) ∧ w'.cell? ⟨wr.heap.size, 2, none⟩ = some (.int .u32 vv)) (first | go_keep | (go_split_ands; refine ⟨?_, ?_⟩ <;> assumption))
            (first
              | (go_at_call 11; refine (put_as b d n f ws _ _ _ G N0.out N1.out hn _ (by exact (HLB.out _).out.alike ⟨rfl, rfl, rfl⟩) (by exact (HPB.out _).out.r1.heap rfl)).mono ?_; rintro e w3 ⟨rfl, hF⟩; have P3 := hideP ((HPB.out #[.int .i64 0, .int .i64 ii, .int .u32 vv]).out.now1d hF); have y1 : w3.cell? ⟨wr.heap.size, 1, none⟩ = some (.int .i64 ii) := (hF.celld _ xb.out.1 xb.out.2.1).trans (CA.out #[.int .i64 0, .int .i64 ii, .int .u32 vv] 1); have y2 : w3.cell? ⟨wr.heap.size, 2, none⟩ = some (.int .u32 vv) := (hF.celld _ xb.out.1 xb.out.2.1).trans (CA.out #[.int .i64 0, .int .i64 ii, .int .u32 vv] 2); clear hF)
              | (go_at_call 17; refine (refput_as b' d' n f ws _ _ _ G N0.out N1.out hn _ (by exact P3.out.r2)).mono ?_; rintro e w4 ⟨rfl, hF⟩; have P4 := hideP (P3.out.now2 hF); have y3 : w4.cell? ⟨wr.heap.size, 1, none⟩ = some (.int .i64 ii) := (hF.cell _ xb.out.2.2.1 xb.out.2.2.2).trans y1; have y4 : w4.cell? ⟨wr.heap.size, 2, none⟩ = some (.int .u32 vv) := (hF.cell _ xb.out.2.2.1 xb.out.2.2.2).trans y2; clear hF))
          go_wp2_with fail
          have q1 : w4.cell? ⟨b, 1, none⟩ = some (.int .i64 (f : Nat)) := P4.out.r1.hf
          have q2 : w4.cell? ⟨b', 1, none⟩ = some (.int .i64 (f : Nat)) := P4.out.r2.hf
          go_region_with (go_at_call 14; refine (fixes_as b _ _ (by exact q1)).mono ?_; rintro e w' ⟨rfl, rfl⟩)
          all_goals
            go_wp2_with fail
            exact ⟨⟨k + 1, _, _, by omega, by omega, (by have := HFK.out; unfold Hid; omega), by rw [Int.natCast_add]; rfl, (P4.out.alike ⟨rfl, rfl, rfl⟩)⟩, by simp [intOf]; omega⟩
        by_cases h1 : kk = 1
        · subst h1
          go_wp2_with fail
          refine (peek_as b d n f ws _ _ _ X S hn _ (HLB.out _) (HPB.out _).out.r1).mono ?_; rintro e w3 ⟨rfl, hF⟩
          have P3 := hideP ((HPB.out _).out.alike hF)
          have y0 : w3.cell? ⟨wr.heap.size, 0, none⟩ = some (.int .i64 1) := by rw [cell_alike hF, CA.out]; rfl
          have y1 : w3.cell? ⟨wr.heap.size, 1, none⟩ = some (.int .i64 ii) := by rw [cell_alike hF, CA.out]; rfl
          clear hF
          go_wp2_with fail
          refine (refpeek_as b' d' n f ws _ _ _ X S hn _ P3.out.r2).mono ?_; rintro e w4 ⟨rfl, hF⟩
          have P4 := hideP (P3.out.alike hF)
          have L4 := hideP (P4.out.laid hL.out B0.out)
          have y2 : w4.cell? ⟨wr.heap.size, 0, none⟩ = some (.int .i64 1) := by rw [cell_alike hF]; exact y0
          have y3 : w4.cell? ⟨wr.heap.size, 1, none⟩ = some (.int .i64 ii) := by rw [cell_alike hF]; exact y1
          clear hF
          go_wp2_with fail
          refine (get_as b d n f ws _ _ _ X S hn (by have := HFK.out; omega) _ L4 P4.out.r1).mono ?_; rintro e w5 ⟨rfl, hF⟩
          have P5 := hideP (P4.out.now1 hF)
          have y4 : w5.cell? ⟨wr.heap.size, 1, none⟩ = some (.int .i64 ii) := by rw [hF.cell _ xb.out.1 xb.out.2.1]; exact y3
          clear hF
          go_wp2_with fail
          refine (refget_as b' d' n f ws _ _ _ X S hn (by have := HFK.out; omega) _ P5.out.r2).mono ?_; rintro e w6 ⟨rfl, hF⟩
          have P6 := hideP (P5.out.now2 hF)
          clear hF
          go_wp2_with fail
          have q1 : w6.cell? ⟨b, 1, none⟩ = some (.int .i64 (gtF n ws f ii : Nat)) := P6.out.r1.hf
          have q2 : w6.cell? ⟨b', 1, none⟩ = some (.int .i64 (gtF n ws f ii : Nat)) := P6.out.r2.hf
          go_region_with (go_at_call 14; refine (fixes_as b _ _ (by exact q1)).mono ?_; rintro e w' ⟨rfl, rfl⟩)
          all_goals
            go_wp2_with fail
            exact ⟨⟨k + 1, _, _, by omega, by omega, (by have := gtF_le n ws f ii; have := HFK.out; unfold Hid; omega), by rw [Int.natCast_add]; rfl, (P6.out.alike ⟨rfl, rfl, rfl⟩)⟩, by simp [intOf]; omega⟩
        by_cases h2 : kk = 2
        · subst h2
          go_wp2_with fail
          refine (peek_as b d n f ws _ _ _ X S hn _ (HLB.out _) (HPB.out _).out.r1).mono ?_; rintro e w3 ⟨rfl, hF⟩
          have P3 := hideP ((HPB.out _).out.alike hF)
          have y0 : w3.cell? ⟨wr.heap.size, 0, none⟩ = some (.int .i64 2) := by rw [cell_alike hF, CA.out]; rfl
          have y1 : w3.cell? ⟨wr.heap.size, 1, none⟩ = some (.int .i64 ii) := by rw [cell_alike hF, CA.out]; rfl
          clear hF
          go_wp2_with fail
          refine (refpeek_as b' d' n f ws _ _ _ X S hn _ P3.out.r2).mono ?_; rintro e w4 ⟨rfl, hF⟩
          have P4 := hideP (P3.out.alike hF)
          have y2 : w4.cell? ⟨wr.heap.size, 0, none⟩ = some (.int .i64 2) := by rw [cell_alike hF]; exact y0
          clear hF
          go_wp2_with fail
          have q1 : w4.cell? ⟨b, 1, none⟩ = some (.int .i64 (f : Nat)) := P4.out.r1.hf
          have q2 : w4.cell? ⟨b', 1, none⟩ = some (.int .i64 (f : Nat)) := P4.out.r2.hf
          go_region_with (go_at_call 14; refine (fixes_as b _ _ (by exact q1)).mono ?_; rintro e w' ⟨rfl, rfl⟩)
          all_goals
            go_wp2_with fail
            exact ⟨⟨k + 1, _, _, by omega, by omega, (by have := HFK.out; unfold Hid; omega), by rw [Int.natCast_add]; rfl, (P4.out.alike ⟨rfl, rfl, rfl⟩)⟩, by simp [intOf]; omega⟩
        by_cases h3 : kk = 3
        · subst h3
          go_wp2_with fail
          refine (refget_as b' d' n f ws _ _ _ X S hn (by have := HFK.out; omega) _ (HPB.out _).out.r2).mono ?_; rintro e w3 ⟨rfl, hF⟩
          have P3 := hideP ((HPB.out _).out.now2 hF)
          have L3 := hideP (P3.out.laid hL.out B0.out)
          have y1 : w3.cell? ⟨wr.heap.size, 1, none⟩ = some (.int .i64 ii) := by rw [hF.cell _ xb.out.2.2.1 xb.out.2.2.2, CA.out]; rfl
          clear hF
          go_wp2_with fail
          refine (scrub_as b d n f ws _ _ S hn (by have := HFK.out; omega) _ L3 P3.out.r1).mono ?_; rintro e w4 ⟨rfl, hF⟩
          have P4 := hideP (P3.out.now1 hF)
          clear hF
          go_wp2_with fail
          have q1 : w4.cell? ⟨b, 1, none⟩ = some (.int .i64 (gtF n ws f ii : Nat)) := P4.out.r1.hf
          have q2 : w4.cell? ⟨b', 1, none⟩ = some (.int .i64 (gtF n ws f ii : Nat)) := P4.out.r2.hf
          go_region_with (go_at_call 14; refine (fixes_as b _ _ (by exact q1)).mono ?_; rintro e w' ⟨rfl, rfl⟩)
          all_goals
            go_wp2_with fail
            exact ⟨⟨k + 1, _, _, by omega, by omega, (by have := gtF_le n ws f ii; have := HFK.out; unfold Hid; omega), by rw [Int.natCast_add]; rfl, (P4.out.alike ⟨rfl, rfl, rfl⟩)⟩, by simp [intOf]; omega⟩
        · have g0 : (kk == 0) = false := by rw [beq_eq_false_iff_ne]; exact h0
          have g1 : (kk == 1) = false := by rw [beq_eq_false_iff_ne]; exact h1
          have g2 : (kk == 2) = false := by rw [beq_eq_false_iff_ne]; exact h2
          have g3 : (kk == 3) = false := by rw [beq_eq_false_iff_ne]; exact h3
          clear h0 h1 h2 h3
          obtain ⟨g, G⟩ : ∃ g, Hid (inF n ii = g) := ⟨_, rfl⟩
          go_wp2_with fail
          go_region_held3 (fun w' => w'.cell? ⟨wr.heap.size, 1, none⟩ = some (.int .i64 ii)) (first | go_keep | assumption)
            (first
              | (go_at_call 12; refine (flip_as b d n f ws _ _ G hn _ (by exact (HPB.out _).out.r1.heap rfl)).mono ?_; rintro e w3 ⟨rfl, hF⟩; have P3 := hideP ((HPB.out #[.int .i64 kk, .int .i64 ii, .int .u32 vv]).out.now1d hF); have y1 : w3.cell? ⟨wr.heap.size, 1, none⟩ = some (.int .i64 ii) := (hF.celld _ xb.out.1 xb.out.2.1).trans (CA.out #[.int .i64 kk, .int .i64 ii, .int .u32 vv] 1); clear hF)
              | (go_at_call 21; refine (refflip_as b' d' n f ws _ _ G hn _ (by exact P3.out.r2)).mono ?_; rintro e w4 ⟨rfl, hF⟩; have P4 := hideP (P3.out.now2 hF); have y3 : w4.cell? ⟨wr.heap.size, 1, none⟩ = some (.int .i64 ii) := (hF.cell _ xb.out.2.2.1 xb.out.2.2.2).trans y1; clear hF))
          go_wp2_with fail
          have q1 : w4.cell? ⟨b, 1, none⟩ = some (.int .i64 (f : Nat)) := P4.out.r1.hf
          have q2 : w4.cell? ⟨b', 1, none⟩ = some (.int .i64 (f : Nat)) := P4.out.r2.hf
          go_region_with (go_at_call 14; refine (fixes_as b _ _ (by exact q1)).mono ?_; rintro e w' ⟨rfl, rfl⟩)
          all_goals
            go_wp2_with fail
            exact ⟨⟨k + 1, _, _, by omega, by omega, (by have := HFK.out; unfold Hid; omega), by rw [Int.natCast_add]; rfl, (P4.out.alike ⟨rfl, rfl, rfl⟩)⟩, by simp [intOf]; omega⟩
      · have s1 : wr.cell? ⟨b, 0, none⟩ = some (.slice (some ⟨d, 0, none⟩) n n) := HP.out.r1.hs
        have s2 : wr.cell? ⟨b', 0, none⟩ = some (.slice (some ⟨d', 0, none⟩) n n) := HP.out.r2.hs
        go_wp2_with fail
        go_quiet ((first | (go_at_call 22; exact Calls.quiet_of_same (len_as b d n hn _ (by exact s1))) | (go_at_call 23; exact Calls.quiet_of_same (bits_by b d n hn _ (by exact s1)))))
        go_wp2_with fail
        go_loopw [15] (fun t v => ∃ i : Int, -1 ≤ i ∧ i ≤ 90 ∧ t = .int .i64 i ∧ Hid (Pair w.heap.size b d b' d' n ws f ws f w v)) (fun t _ => (91 - intOf t).toNat)
        case atStart => exact ⟨-1, by decide, by decide, rfl, HP.out.alike ⟨rfl, rfl, rfl⟩⟩
        case round =>
          obtain ⟨i, i0, i1, rfl, HQ⟩ := hrel
          clear HP
          have t2 := HQ.out.r2.hs
          have LQ := hideP (HQ.out.laid hL.out B0.out)
          obtain ⟨x, X⟩ : ∃ x : Int, Hid (((pkV n ws i : Nat) : Int) = x) := ⟨_, rfl⟩
          obtain ⟨s, S⟩ : ∃ s : Int, Hid (((pkS n ws i : Nat) : Int) = s) := ⟨_, rfl⟩
          by_cases hi : i ≤ n
          · by_cases hj : i < 90
            · go_wp2_with fail
              refine (peek_as b d n f ws _ _ _ X S hn _ LQ HQ.out.r1).mono ?_; rintro e v3 ⟨rfl, hF⟩
              have P3 := hideP (HQ.out.alike hF)
              clear hF
              go_wp2_with fail
              refine (refpeek_as b' d' n f ws _ _ _ X S hn _ P3.out.r2).mono ?_; rintro e v4 ⟨rfl, hF⟩
              have P4 := hideP (P3.out.alike hF)
              clear hF
              go_wp2_with fail
              exact ⟨⟨i + 1, by omega, by omega, rfl, P4⟩, by simp [intOf]; omega⟩
            · go_wp2_with fail
              go_ret
              exact ⟨rfl, HQ.out.fr⟩
          · go_wp2_with fail
            go_ret
            exact ⟨rfl, HQ.out.fr⟩
    · have s1 : wr.cell? ⟨b, 0, none⟩ = some (.slice (some ⟨d, 0, none⟩) n n) := HP.out.r1.hs
      have s2 : wr.cell? ⟨b', 0, none⟩ = some (.slice (some ⟨d', 0, none⟩) n n) := HP.out.r2.hs
      go_wp2_with fail
      go_quiet ((first | (go_at_call 22; exact Calls.quiet_of_same (len_as b d n hn _ (by exact s1))) | (go_at_call 23; exact Calls.quiet_of_same (bits_by b d n hn _ (by exact s1)))))
      go_wp2_with fail
      go_loopw [15] (fun t v => ∃ i : Int, -1 ≤ i ∧ i ≤ 90 ∧ t = .int .i64 i ∧ Hid (Pair w.heap.size b d b' d' n ws f ws f w v)) (fun t _ => (91 - intOf t).toNat)
      case atStart => exact ⟨-1, by decide, by decide, rfl, HP.out.alike ⟨rfl, rfl, rfl⟩⟩
      case round =>
        obtain ⟨i, i0, i1, rfl, HQ⟩ := hrel
        clear HP
        have t2 := HQ.out.r2.hs
        have LQ := hideP (HQ.out.laid hL.out B0.out)
        obtain ⟨x, X⟩ : ∃ x : Int, Hid (((pkV n ws i : Nat) : Int) = x) := ⟨_, rfl⟩
        obtain ⟨s, S⟩ : ∃ s : Int, Hid (((pkS n ws i : Nat) : Int) = s) := ⟨_, rfl⟩
        by_cases hi : i ≤ n
        · by_cases hj : i < 90
          · go_wp2_with fail
            refine (peek_as b d n f ws _ _ _ X S hn _ LQ HQ.out.r1).mono ?_; rintro e v3 ⟨rfl, hF⟩
            have P3 := hideP (HQ.out.alike hF)
            clear hF
            go_wp2_with fail
            refine (refpeek_as b' d' n f ws _ _ _ X S hn _ P3.out.r2).mono ?_; rintro e v4 ⟨rfl, hF⟩
            have P4 := hideP (P3.out.alike hF)
            clear hF
            go_wp2_with fail
            exact ⟨⟨i + 1, by omega, by omega, rfl, P4⟩, by simp [intOf]; omega⟩
          · go_wp2_with fail
            go_ret
            exact ⟨rfl, HQ.out.fr⟩
        · go_wp2_with fail
          go_ret
          exact ⟨rfl, HQ.out.fr⟩
end Go.Proofs.YtijmoeljemoppaaDoor.Walks
