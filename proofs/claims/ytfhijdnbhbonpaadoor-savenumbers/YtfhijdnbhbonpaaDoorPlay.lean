/- Contract of the law's own 'play': both stores that are played side by side tell the same. -/
import Derived.Test.YtfhijdnbhbonpaaDoorBox
import Derived.Deep.RegionHeld3
import Derived.Deep.QuietTactic
import Derived.BigQuiet
namespace Go.Proofs.YtfhijdnbhbonpaaDoor.Walks
open Go.ChangeShapes Go.WideShapes Go.ChangeAt Go.RowKit
set_option linter.unusedVariables false
theorem SPair.s1d {B C M b d M' b' d' f nx g ny : Nat} {ws vs : Nat → Nat} {w wr : World} (h : SPair B C M b d M' b' d' ws f nx vs g ny w wr) : SAt M b d ws f nx wr.drew := (h.alike (w2 := wr.drew) ⟨rfl, rfl, rfl⟩).s1
theorem nxS_lt (n : Nat) : nxS n < 79 := by unfold nxS; omega
set_option maxRecDepth 100000 in
set_option maxHeartbeats 4000000 in
theorem play (K : Option Addr) (len cap : Nat) (qs : Nat → Ak) (w : World) (hL : Hid (Laid w)) (hK : Hid (AksIn w K len qs)) :
    Calls Tryd.prog 7 #[.slice K len cap] w fun e w' => e = .returned (.bool true) ∧ FrB w.heap.size w w' := by
  have B0 := hideP hL.out.pos
  go_enter Tryd.func7, Tryd.ntmps7
  go_wp2_with fail
  refine (snew_as _ hL).mono ?_; rintro e w1 ⟨M, b, d, rfl, hF⟩
  have F1 := hideP hF
  have L1 := hideP hF.1.laid
  clear hF
  go_wp2_with fail
  refine (rsnew_as _ L1).mono ?_; rintro e w2 ⟨M', b', d', rfl, hF⟩
  have P2 := hideP (SPair.lay F1.out hF F1.out.2.1.size)
  generalize w2.heap.size = C at *
  clear hF F1 L1
  generalize nwK 2 = vs0 at *
  go_wp2_with fail
  go_loopw [5] (fun t wr => ∃ (k f x : Nat) (ws : Nat → Nat), (k : Int) ≤ len ∧ (k : Int) ≤ 60 ∧ t = .int .i64 k ∧ Hid (f ≤ 79 * k) ∧ Hid (x < 79) ∧ Hid (SPair w.heap.size C M b d M' b' d' ws f x ws f x w wr)) (fun t _ => 60 - (intOf t).toNat)
  case atStart => exact ⟨0, 0, 0, vs0, by omega, by decide, rfl, Nat.le_refl 0, (by unfold Hid; decide), P2⟩
  case round =>
    obtain ⟨k, f, x, ws, hk, hk2, rfl, HFK, HX, HP⟩ := hrel
    rename_i wr
    clear P2
    by_cases hlt : (k : Int) < len
    · by_cases hlt2 : (k : Int) < 60
      · obtain ⟨b0, o0, rfl, cb, c0, IN⟩ := hK.out k (by omega)
        have RA : Hid (wr.rangeAt b0 (o0 + k * 40) (qs k).l) := fun j u hu => by rw [HP.out.fr.cell _ _ cb]; exact c0 j u hu
        have NI := hideP IN
        clear cb c0 IN
        have Z0 := hideP (BxAt.zero40 wr 30)
        have P0 := hideP (HP.out.alloc (.cells z40 30))
        have XC := hideP HP.out.cs
        have XZ : Hid (wr.heap.size < (wr.alloc (.cells z40 30)).heap.size) := by unfold Hid; simp
        have FB : Hid ((f : Int) < 4611686018427386000) := by have := HFK.out; unfold Hid; omega
        generalize qs k = q at *
        obtain ⟨kk, nn, pc, rs, cs⟩ := q
        by_cases h3 : kk = 3
        · subst h3
          go_wp2_with (first
            | (refine load_want (by rfl) 30 _ rfl b0 (o0 + k * 40) rfl (Ak.l ⟨3, nn, pc, rs, cs⟩) _ RA.out Tryd.underlying30 rfl (by rw [Ak.len]; exact size30) ?_)
            | (refine wpList_box _ wr.heap.size zAk ⟨3, nn, pc, rs, cs⟩ Z0.out (by rfl) _ _ rfl _ rfl rfl rfl ?_; intro W1 hB hT; have P1 := hideP (P0.out.arr hT.out XC.out); have BX := hideP hB.out; have XW : Hid (wr.heap.size < W1.heap.size) := (by unfold Hid; rw [hT.out.size]; exact XZ.out); have y0 : W1.cell? ⟨wr.heap.size, 0, none⟩ = some (.int .i64 3) := hB.out.cell rfl; have y1 : W1.cell? ⟨wr.heap.size, 1, none⟩ = some (.int .i64 nn) := hB.out.cell rfl; have y2 : W1.cell? ⟨wr.heap.size, 2, none⟩ = some (.int .u32 (pc : Int)) := hB.out.cell rfl; have y3 : Hid (W1.rangeAt wr.heap.size 3 (wn rs 32)) := hB.out.words 3 32 rs (Ak.atR _); have y4 : Hid (W1.rangeAt wr.heap.size 35 (wn cs 5)) := hB.out.words 35 5 cs (Ak.atC _); clear hB hT))
          obtain ⟨u, rr, cc, n, v, HT'⟩ := Tells.of ws
          have HT := hideP HT'
          clear HT'
          have E3 : ∀ W, (binOp .neq 27 (.agg (wn rr 32).toArray) (.agg (wn rr 32).toArray)).run Tryd.prog W = .ok (.bool false) W := neq33 rr
          have E5 : ∀ W, (binOp .neq 28 (.agg (wn cc 5).toArray) (.agg (wn cc 5).toArray)).run Tryd.prog W = .ok (.bool false) W := neq5 cc
          refine (load_is M b d f x ws u rr cc n v HT FB.out _ (hideP P1.out.s1)).mono ?_; rintro e w3 ⟨rfl, hN⟩
          have P3 := hideP (P1.out.now1 hN)
          have T3 := hideP (Two.new w3 P3.out.cs)
          have P4 := hideP ((P3.out.alloc (.cells z32 27)).alloc (.cells z5 28))
          clear hN
          go_wp2_with (first
            | (refine wpList_arrG 27 32 size27 _ w3.heap.size w0 T3.out.a (by rfl) _ _ rfl rr _ rfl rfl rfl ?_; intro W3 hA hT; have T4 := hideP (T3.out.put3 hA.out hT.out); have P5 := hideP (P4.out.arr hT.out T3.out.lo); clear hA hT)
            | (refine wpList_arrG 28 5 size28 _ (w3.heap.size + 1) w0 T4.out.c (by rfl) _ _ rfl cc _ rfl rfl rfl ?_; intro W4 hA hT; have T5 := hideP (T4.out.put5 hA.out hT.out); have P6 := hideP (P5.out.arr hT.out (Nat.le_succ_of_le T3.out.lo)); clear hA hT))
          generalize w3.heap.size = X1 at *
          refine (rload_is M' b' d' f x ws u rr cc n v HT FB.out _ (hideP P6.out.s2)).mono ?_; rintro e w5 ⟨rfl, hN⟩
          have P7 := hideP (P6.out.now2 hN)
          have T6 := hideP (T5.out.blk (fun A h1 h2 => P6.out.blk2 hN.2 h1 h2) hN.2.size)
          have T7 := hideP ((T6.out.past (FrB.alloc w5 (.cells z32 27))).past (FrB.alloc _ (.cells z5 28)))
          have X12 := hideP T6.out.hi
          have Q3 := hideP (Two.new w5 P7.out.cs)
          have P8 := hideP ((P7.out.alloc (.cells z32 27)).alloc (.cells z5 28))
          clear hN
          go_wp2_with (first
            | (refine wpList_arrG 27 32 size27 _ w5.heap.size w0 Q3.out.a (by rfl) _ _ rfl rr _ rfl rfl rfl ?_; intro W5 hA hT; have Q4 := hideP (Q3.out.put3 hA.out hT.out); have T8 := hideP (T7.out.toua hT.out X12.out); have P9 := hideP (P8.out.arr hT.out Q3.out.lo); clear hA hT)
            | (refine wpList_arrG 28 5 size28 _ (w5.heap.size + 1) w0 Q4.out.c (by rfl) _ _ rfl cc _ rfl rfl rfl ?_; intro W6 hA hT; have Q5 := hideP (Q4.out.put5 hA.out hT.out); have T9 := hideP (T8.out.toua hT.out (Nat.lt_succ_of_lt X12.out)); have PX := hideP (P9.out.arr hT.out (Nat.le_succ_of_le Q3.out.lo)); have R1 := hideP T9.out.rA; have R2 := hideP T9.out.rC; have R3 := hideP Q5.out.rA; have R4 := hideP Q5.out.rC; clear hA hT)
            | (refine load_want (by rfl) 27 _ rfl X1 0 rfl (wn rr 32) _ R1.out Tryd.underlying27 rfl (by rw [wn_len]; exact size27) ?_)
            | (refine load_want (by rfl) 27 _ rfl w5.heap.size 0 rfl (wn rr 32) _ R3.out Tryd.underlying27 rfl (by rw [wn_len]; exact size27) ?_)
            | (refine load_want (by rfl) 28 _ rfl (X1 + 1) 0 rfl (wn cc 5) _ R2.out Tryd.underlying28 rfl (by rw [wn_len]; exact size28) ?_)
            | (refine load_want (by rfl) 28 _ rfl (w5.heap.size + 1) 0 rfl (wn cc 5) _ R4.out Tryd.underlying28 rfl (by rw [wn_len]; exact size28) ?_))
          exact ⟨⟨k + 1, _, _, _, by omega, by omega, by rw [Int.natCast_add]; rfl, (by have := ldF_le ws f; have := HFK.out; unfold Hid; omega), HX, PX⟩, by simp [intOf]; omega⟩
        by_cases h4 : kk = 4
        · subst h4
          go_wp2_with (first
            | (refine load_want (by rfl) 30 _ rfl b0 (o0 + k * 40) rfl (Ak.l ⟨4, nn, pc, rs, cs⟩) _ RA.out Tryd.underlying30 rfl (by rw [Ak.len]; exact size30) ?_)
            | (refine wpList_box _ wr.heap.size zAk ⟨4, nn, pc, rs, cs⟩ Z0.out (by rfl) _ _ rfl _ rfl rfl rfl ?_; intro W1 hB hT; have P1 := hideP (P0.out.arr hT.out XC.out); have BX := hideP hB.out; have XW : Hid (wr.heap.size < W1.heap.size) := (by unfold Hid; rw [hT.out.size]; exact XZ.out); have y0 : W1.cell? ⟨wr.heap.size, 0, none⟩ = some (.int .i64 4) := hB.out.cell rfl; have y1 : W1.cell? ⟨wr.heap.size, 1, none⟩ = some (.int .i64 nn) := hB.out.cell rfl; have y2 : W1.cell? ⟨wr.heap.size, 2, none⟩ = some (.int .u32 (pc : Int)) := hB.out.cell rfl; have y3 : Hid (W1.rangeAt wr.heap.size 3 (wn rs 32)) := hB.out.words 3 32 rs (Ak.atR _); have y4 : Hid (W1.rangeAt wr.heap.size 35 (wn cs 5)) := hB.out.words 35 5 cs (Ak.atC _); clear hB hT))
          obtain ⟨s, S⟩ : ∃ s : Int, Hid (((pkS 79 ws (x : Int) : Nat) : Int) = s) := ⟨_, rfl⟩
          refine (sscrub_as M b d f x ws s (by have := HX.out; omega) S (by have := FB.out; omega) _ (hideP P1.out.s1)).mono ?_; rintro e w3 ⟨rfl, hN⟩
          have P3 := hideP (P1.out.now1 hN)
          clear hN y0 y1 y2
          go_wp2_with fail
          refine (rscrub_as M' b' d' f x ws s (by have := HX.out; omega) S (by have := FB.out; omega) _ (hideP P3.out.s2)).mono ?_; rintro e w4 ⟨rfl, hN⟩
          have P4 := hideP (P3.out.now2 hN)
          clear hN
          go_wp2_with fail
          exact ⟨⟨k + 1, _, _, _, by omega, by omega, by rw [Int.natCast_add]; rfl, (by have := gtF_le1 79 ws f (x : Int); have := HFK.out; unfold Hid; omega), (nxS_lt x), P4⟩, by simp [intOf]; omega⟩
        by_cases h5 : kk = 5
        · subst h5
          go_wp2_with (first
            | (refine load_want (by rfl) 30 _ rfl b0 (o0 + k * 40) rfl (Ak.l ⟨5, nn, pc, rs, cs⟩) _ RA.out Tryd.underlying30 rfl (by rw [Ak.len]; exact size30) ?_)
            | (refine wpList_box _ wr.heap.size zAk ⟨5, nn, pc, rs, cs⟩ Z0.out (by rfl) _ _ rfl _ rfl rfl rfl ?_; intro W1 hB hT; have P1 := hideP (P0.out.arr hT.out XC.out); have BX := hideP hB.out; have XW : Hid (wr.heap.size < W1.heap.size) := (by unfold Hid; rw [hT.out.size]; exact XZ.out); have y0 : W1.cell? ⟨wr.heap.size, 0, none⟩ = some (.int .i64 5) := hB.out.cell rfl; have y1 : W1.cell? ⟨wr.heap.size, 1, none⟩ = some (.int .i64 nn) := hB.out.cell rfl; have y2 : W1.cell? ⟨wr.heap.size, 2, none⟩ = some (.int .u32 (pc : Int)) := hB.out.cell rfl; have y3 : Hid (W1.rangeAt wr.heap.size 3 (wn rs 32)) := hB.out.words 3 32 rs (Ak.atR _); have y4 : Hid (W1.rangeAt wr.heap.size 35 (wn cs 5)) := hB.out.words 35 5 cs (Ak.atC _); clear hB hT))
          obtain ⟨g, G⟩ : ∃ g, Hid (inF 79 nn = g) := ⟨_, rfl⟩
          have r1 := P1.out.s2.mem.hr
          go_region_held3 (fun w' => w'.cell? ⟨wr.heap.size, 1, none⟩ = some (.int .i64 nn) ∧ w'.cell? ⟨M', 0, none⟩ = some (.pointer (some ⟨b', 0, none⟩))) (first | go_keep | (go_split_ands; refine ⟨?_, ?_⟩ <;> assumption))
            (first
              | (go_at_call 13; refine (sflip_as M b d f x ws nn g G _ (hideP P1.out.s1d)).mono ?_; rintro e w3 ⟨rfl, hN⟩; have P3 := hideP (P1.out.now1d hN); have B3 := hideP (BX.out.of_block (P1.out.blk1 hN.drew.2 XC.out XW.out)); have X3 := hideP (Nat.lt_of_lt_of_le XW.out hN.drew.2.size); have y5 : w3.cell? ⟨wr.heap.size, 1, none⟩ = some (.int .i64 nn) := B3.out.cell rfl; have r3 := P3.out.s2.mem.hr; clear hN)
              | (go_at_call 19; refine (refflip_as b' d' 79 f ws nn g G (by decide) _ (hideP P3.out.s2.mem.row)).mono ?_; rintro e w4 ⟨rfl, hN⟩; have P4 := hideP (P3.out.now2 (P3.out.s2.now hN)); have y6 : w4.cell? ⟨wr.heap.size, 1, none⟩ = some (.int .i64 nn) := (B3.out.of_block (P3.out.blk2 (P3.out.s2.now hN).2 XC.out X3.out)).cell rfl; have r4 := P4.out.s2.mem.hr; clear hN))
          all_goals
            go_wp2_with fail
            exact ⟨⟨k + 1, _, _, _, by omega, by omega, by rw [Int.natCast_add]; rfl, (by have := HFK.out; unfold Hid; omega), HX, P4⟩, by simp [intOf]; omega⟩
        by_cases h6 : kk = 6
        · subst h6
          go_wp2_with (first
            | (refine load_want (by rfl) 30 _ rfl b0 (o0 + k * 40) rfl (Ak.l ⟨6, nn, pc, rs, cs⟩) _ RA.out Tryd.underlying30 rfl (by rw [Ak.len]; exact size30) ?_)
            | (refine wpList_box _ wr.heap.size zAk ⟨6, nn, pc, rs, cs⟩ Z0.out (by rfl) _ _ rfl _ rfl rfl rfl ?_; intro W1 hB hT; have P1 := hideP (P0.out.arr hT.out XC.out); have BX := hideP hB.out; have XW : Hid (wr.heap.size < W1.heap.size) := (by unfold Hid; rw [hT.out.size]; exact XZ.out); have y0 : W1.cell? ⟨wr.heap.size, 0, none⟩ = some (.int .i64 6) := hB.out.cell rfl; have y1 : W1.cell? ⟨wr.heap.size, 1, none⟩ = some (.int .i64 nn) := hB.out.cell rfl; have y2 : W1.cell? ⟨wr.heap.size, 2, none⟩ = some (.int .u32 (pc : Int)) := hB.out.cell rfl; have y3 : Hid (W1.rangeAt wr.heap.size 3 (wn rs 32)) := hB.out.words 3 32 rs (Ak.atR _); have y4 : Hid (W1.rangeAt wr.heap.size 35 (wn cs 5)) := hB.out.words 35 5 cs (Ak.atC _); clear hB hT))
          obtain ⟨g, G⟩ : ∃ g, Hid (inF 79 nn = g) := ⟨_, rfl⟩
          have r1 := P1.out.s2.mem.hr
          go_region_held3 (fun w' => w'.cell? ⟨wr.heap.size, 1, none⟩ = some (.int .i64 nn) ∧ w'.cell? ⟨M', 0, none⟩ = some (.pointer (some ⟨b', 0, none⟩))) (first | go_keep | (go_split_ands; refine ⟨?_, ?_⟩ <;> assumption))
            (first
              | (go_at_call 13; refine (sflip_as M b d f x ws nn g G _ (hideP P1.out.s1d)).mono ?_; rintro e w3 ⟨rfl, hN⟩; have P3 := hideP (P1.out.now1d hN); have B3 := hideP (BX.out.of_block (P1.out.blk1 hN.drew.2 XC.out XW.out)); have X3 := hideP (Nat.lt_of_lt_of_le XW.out hN.drew.2.size); have y5 : w3.cell? ⟨wr.heap.size, 1, none⟩ = some (.int .i64 nn) := B3.out.cell rfl; have r3 := P3.out.s2.mem.hr; clear hN)
              | (go_at_call 19; refine (refflip_as b' d' 79 f ws nn g G (by decide) _ (hideP P3.out.s2.mem.row)).mono ?_; rintro e w4 ⟨rfl, hN⟩; have P4 := hideP (P3.out.now2 (P3.out.s2.now hN)); have y6 : w4.cell? ⟨wr.heap.size, 1, none⟩ = some (.int .i64 nn) := (B3.out.of_block (P3.out.blk2 (P3.out.s2.now hN).2 XC.out X3.out)).cell rfl; have r4 := P4.out.s2.mem.hr; clear hN))
          all_goals
            go_wp2_with fail
            exact ⟨⟨k + 1, _, _, _, by omega, by omega, by rw [Int.natCast_add]; rfl, (by have := HFK.out; unfold Hid; omega), HX, P4⟩, by simp [intOf]; omega⟩
        have g3 : (kk == 3) = false := by rw [beq_eq_false_iff_ne]; exact h3
        have g4 : (kk == 4) = false := by rw [beq_eq_false_iff_ne]; exact h4
        have g5 : (kk == 5) = false := by rw [beq_eq_false_iff_ne]; exact h5
        have g6 : (kk == 6) = false := by rw [beq_eq_false_iff_ne]; exact h6
        clear h3 h4 h5 h6
        go_wp2_with (first
          | (refine load_want (by rfl) 30 _ rfl b0 (o0 + k * 40) rfl (Ak.l ⟨kk, nn, pc, rs, cs⟩) _ RA.out Tryd.underlying30 rfl (by rw [Ak.len]; exact size30) ?_)
          | (refine wpList_box _ wr.heap.size zAk ⟨kk, nn, pc, rs, cs⟩ Z0.out (by rfl) _ _ rfl _ rfl rfl rfl ?_; intro W1 hB hT; have P1 := hideP (P0.out.arr hT.out XC.out); have BX := hideP hB.out; have XW : Hid (wr.heap.size < W1.heap.size) := (by unfold Hid; rw [hT.out.size]; exact XZ.out); have y0 : W1.cell? ⟨wr.heap.size, 0, none⟩ = some (.int .i64 kk) := hB.out.cell rfl; have y1 : W1.cell? ⟨wr.heap.size, 1, none⟩ = some (.int .i64 nn) := hB.out.cell rfl; have y2 : W1.cell? ⟨wr.heap.size, 2, none⟩ = some (.int .u32 (pc : Int)) := hB.out.cell rfl; have y3 : Hid (W1.rangeAt wr.heap.size 3 (wn rs 32)) := hB.out.words 3 32 rs (Ak.atR _); have y4 : Hid (W1.rangeAt wr.heap.size 35 (wn cs 5)) := hB.out.words 35 5 cs (Ak.atC _); clear hB hT)
          | (refine load_want (by rfl) 27 _ rfl wr.heap.size 3 rfl (wn rs 32) _ y3.out Tryd.underlying27 rfl (by rw [wn_len]; exact size27) ?_)
          | (refine load_want (by rfl) 28 _ rfl wr.heap.size 35 rfl (wn cs 5) _ y4.out Tryd.underlying28 rfl (by rw [wn_len]; exact size28) ?_))
        refine (save_as M b d f x pc ws rs cs nn (by exact NI.out.pc) (by exact NI.out.rs) (by exact NI.out.cs) (by have := FB.out; omega) _ (hideP P1.out.s1)).mono ?_; rintro e w3 ⟨rfl, hN⟩
        have P3 := hideP (P1.out.now1 hN)
        have BZ := hideP (BX.out.of_block (P1.out.blk1 hN.2 XC.out XW.out))
        have x1 : w3.cell? ⟨wr.heap.size, 1, none⟩ = some (.int .i64 nn) := BZ.out.cell rfl
        have x2 : w3.cell? ⟨wr.heap.size, 2, none⟩ = some (.int .u32 (pc : Int)) := BZ.out.cell rfl
        have x3 : Hid (w3.rangeAt wr.heap.size 3 (wn rs 32)) := BZ.out.words 3 32 rs (Ak.atR _)
        have x4 : Hid (w3.rangeAt wr.heap.size 35 (wn cs 5)) := BZ.out.words 35 5 cs (Ak.atC _)
        clear hN y0 y1 y2
        go_wp2_with (first
          | (refine load_want (by rfl) 27 _ rfl wr.heap.size 3 rfl (wn rs 32) _ x3.out Tryd.underlying27 rfl (by rw [wn_len]; exact size27) ?_)
          | (refine load_want (by rfl) 28 _ rfl wr.heap.size 35 rfl (wn cs 5) _ x4.out Tryd.underlying28 rfl (by rw [wn_len]; exact size28) ?_))
        refine (rsave_as M' b' d' f x pc ws rs cs nn (by exact NI.out.pc) (by exact NI.out.rs) (by exact NI.out.cs) (by have := FB.out; omega) _ (hideP P3.out.s2)).mono ?_; rintro e w4 ⟨rfl, hN⟩
        have P4 := hideP (P3.out.now2 hN)
        clear hN x1 x2
        go_wp2_with fail
        exact ⟨⟨k + 1, _, _, _, by omega, by omega, by rw [Int.natCast_add]; rfl, (by have := f1_le ws f; have := HFK.out; unfold Hid; omega), HX, P4⟩, by simp [intOf]; omega⟩
      · have FB : Hid ((f : Int) < 4611686018427386000) := by have := HFK.out; unfold Hid; omega
        go_wp2_with fail
        obtain ⟨u, rr, cc, n, v, HT'⟩ := Tells.of ws
        have HT := hideP HT'
        clear HT'
        have E3 : ∀ W, (binOp .eql 27 (.agg (wn rr 32).toArray) (.agg (wn rr 32).toArray)).run Tryd.prog W = .ok (.bool true) W := eql33 rr
        have E5 : ∀ W, (binOp .eql 28 (.agg (wn cc 5).toArray) (.agg (wn cc 5).toArray)).run Tryd.prog W = .ok (.bool true) W := eql5 cc
        refine (load_is M b d f x ws u rr cc n v HT FB.out _ (hideP HP.out.s1)).mono ?_; rintro e w3 ⟨rfl, hN⟩
        have P3 := hideP (HP.out.now1 hN)
        have T3 := hideP (Two.new w3 P3.out.cs)
        have P4 := hideP ((P3.out.alloc (.cells z32 27)).alloc (.cells z5 28))
        clear hN
        go_wp2_with (first
          | (refine wpList_arrG 27 32 size27 _ w3.heap.size w0 T3.out.a (by rfl) _ _ rfl rr _ rfl rfl rfl ?_; intro W3 hA hT; have T4 := hideP (T3.out.put3 hA.out hT.out); have P5 := hideP (P4.out.arr hT.out T3.out.lo); clear hA hT)
          | (refine wpList_arrG 28 5 size28 _ (w3.heap.size + 1) w0 T4.out.c (by rfl) _ _ rfl cc _ rfl rfl rfl ?_; intro W4 hA hT; have T5 := hideP (T4.out.put5 hA.out hT.out); have P6 := hideP (P5.out.arr hT.out (Nat.le_succ_of_le T3.out.lo)); clear hA hT))
        generalize w3.heap.size = X1 at *
        refine (rload_is M' b' d' f x ws u rr cc n v HT FB.out _ (hideP P6.out.s2)).mono ?_; rintro e w5 ⟨rfl, hN⟩
        have P7 := hideP (P6.out.now2 hN)
        have T6 := hideP (T5.out.blk (fun A h1 h2 => P6.out.blk2 hN.2 h1 h2) hN.2.size)
        have T7 := hideP ((T6.out.past (FrB.alloc w5 (.cells z32 27))).past (FrB.alloc _ (.cells z5 28)))
        have X12 := hideP T6.out.hi
        have Q3 := hideP (Two.new w5 P7.out.cs)
        have P8 := hideP ((P7.out.alloc (.cells z32 27)).alloc (.cells z5 28))
        clear hN
        go_wp2_with (first
          | (refine wpList_arrG 27 32 size27 _ w5.heap.size w0 Q3.out.a (by rfl) _ _ rfl rr _ rfl rfl rfl ?_; intro W5 hA hT; have Q4 := hideP (Q3.out.put3 hA.out hT.out); have T8 := hideP (T7.out.toua hT.out X12.out); have P9 := hideP (P8.out.arr hT.out Q3.out.lo); clear hA hT)
          | (refine wpList_arrG 28 5 size28 _ (w5.heap.size + 1) w0 Q4.out.c (by rfl) _ _ rfl cc _ rfl rfl rfl ?_; intro W6 hA hT; have Q5 := hideP (Q4.out.put5 hA.out hT.out); have T9 := hideP (T8.out.toua hT.out (Nat.lt_succ_of_lt X12.out)); have PX := hideP (P9.out.arr hT.out (Nat.le_succ_of_le Q3.out.lo)); have R1 := hideP T9.out.rA; have R2 := hideP T9.out.rC; have R3 := hideP Q5.out.rA; have R4 := hideP Q5.out.rC; clear hA hT)
          | (refine load_want (by rfl) 27 _ rfl X1 0 rfl (wn rr 32) _ R1.out Tryd.underlying27 rfl (by rw [wn_len]; exact size27) ?_)
          | (refine load_want (by rfl) 27 _ rfl w5.heap.size 0 rfl (wn rr 32) _ R3.out Tryd.underlying27 rfl (by rw [wn_len]; exact size27) ?_)
          | (refine load_want (by rfl) 28 _ rfl (X1 + 1) 0 rfl (wn cc 5) _ R2.out Tryd.underlying28 rfl (by rw [wn_len]; exact size28) ?_)
          | (refine load_want (by rfl) 28 _ rfl (w5.heap.size + 1) 0 rfl (wn cc 5) _ R4.out Tryd.underlying28 rfl (by rw [wn_len]; exact size28) ?_))
        go_ret
        exact ⟨rfl, PX.out.fr⟩
    · have FB : Hid ((f : Int) < 4611686018427386000) := by have := HFK.out; unfold Hid; omega
      go_wp2_with fail
      obtain ⟨u, rr, cc, n, v, HT'⟩ := Tells.of ws
      have HT := hideP HT'
      clear HT'
      have E3 : ∀ W, (binOp .eql 27 (.agg (wn rr 32).toArray) (.agg (wn rr 32).toArray)).run Tryd.prog W = .ok (.bool true) W := eql33 rr
      have E5 : ∀ W, (binOp .eql 28 (.agg (wn cc 5).toArray) (.agg (wn cc 5).toArray)).run Tryd.prog W = .ok (.bool true) W := eql5 cc
      refine (load_is M b d f x ws u rr cc n v HT FB.out _ (hideP HP.out.s1)).mono ?_; rintro e w3 ⟨rfl, hN⟩
      have P3 := hideP (HP.out.now1 hN)
      have T3 := hideP (Two.new w3 P3.out.cs)
      have P4 := hideP ((P3.out.alloc (.cells z32 27)).alloc (.cells z5 28))
      clear hN
      go_wp2_with (first
        | (refine wpList_arrG 27 32 size27 _ w3.heap.size w0 T3.out.a (by rfl) _ _ rfl rr _ rfl rfl rfl ?_; intro W3 hA hT; have T4 := hideP (T3.out.put3 hA.out hT.out); have P5 := hideP (P4.out.arr hT.out T3.out.lo); clear hA hT)
        | (refine wpList_arrG 28 5 size28 _ (w3.heap.size + 1) w0 T4.out.c (by rfl) _ _ rfl cc _ rfl rfl rfl ?_; intro W4 hA hT; have T5 := hideP (T4.out.put5 hA.out hT.out); have P6 := hideP (P5.out.arr hT.out (Nat.le_succ_of_le T3.out.lo)); clear hA hT))
      generalize w3.heap.size = X1 at *
      refine (rload_is M' b' d' f x ws u rr cc n v HT FB.out _ (hideP P6.out.s2)).mono ?_; rintro e w5 ⟨rfl, hN⟩
      have P7 := hideP (P6.out.now2 hN)
      have T6 := hideP (T5.out.blk (fun A h1 h2 => P6.out.blk2 hN.2 h1 h2) hN.2.size)
      have T7 := hideP ((T6.out.past (FrB.alloc w5 (.cells z32 27))).past (FrB.alloc _ (.cells z5 28)))
      have X12 := hideP T6.out.hi
      have Q3 := hideP (Two.new w5 P7.out.cs)
      have P8 := hideP ((P7.out.alloc (.cells z32 27)).alloc (.cells z5 28))
      clear hN
      go_wp2_with (first
        | (refine wpList_arrG 27 32 size27 _ w5.heap.size w0 Q3.out.a (by rfl) _ _ rfl rr _ rfl rfl rfl ?_; intro W5 hA hT; have Q4 := hideP (Q3.out.put3 hA.out hT.out); have T8 := hideP (T7.out.toua hT.out X12.out); have P9 := hideP (P8.out.arr hT.out Q3.out.lo); clear hA hT)
        | (refine wpList_arrG 28 5 size28 _ (w5.heap.size + 1) w0 Q4.out.c (by rfl) _ _ rfl cc _ rfl rfl rfl ?_; intro W6 hA hT; have Q5 := hideP (Q4.out.put5 hA.out hT.out); have T9 := hideP (T8.out.toua hT.out (Nat.lt_succ_of_lt X12.out)); have PX := hideP (P9.out.arr hT.out (Nat.le_succ_of_le Q3.out.lo)); have R1 := hideP T9.out.rA; have R2 := hideP T9.out.rC; have R3 := hideP Q5.out.rA; have R4 := hideP Q5.out.rC; clear hA hT)
        | (refine load_want (by rfl) 27 _ rfl X1 0 rfl (wn rr 32) _ R1.out Tryd.underlying27 rfl (by rw [wn_len]; exact size27) ?_)
        | (refine load_want (by rfl) 27 _ rfl w5.heap.size 0 rfl (wn rr 32) _ R3.out Tryd.underlying27 rfl (by rw [wn_len]; exact size27) ?_)
        | (refine load_want (by rfl) 28 _ rfl (X1 + 1) 0 rfl (wn cc 5) _ R2.out Tryd.underlying28 rfl (by rw [wn_len]; exact size28) ?_)
        | (refine load_want (by rfl) 28 _ rfl (w5.heap.size + 1) 0 rfl (wn cc 5) _ R4.out Tryd.underlying28 rfl (by rw [wn_len]; exact size28) ?_))
      go_ret
      exact ⟨rfl, PX.out.fr⟩
end Go.Proofs.YtfhijdnbhbonpaaDoor.Walks
