/- Contract of the law's own 'play': memories that are played side by side tell the same. -/
import Derived.Test.YtekafmnpojbbdaaDoorMPair
import Derived.Test.YtekafmnpojbbdaaDoorMNew
import Derived.Test.YtekafmnpojbbdaaDoorRStore
import Derived.Test.YtekafmnpojbbdaaDoorRScrub
import Derived.Test.YtekafmnpojbbdaaDoorRWords
import Derived.Deep.RegionHeld3
import Derived.Deep.QuietTactic
import Derived.BigQuiet
namespace Go.Proofs.YtekafmnpojbbdaaDoor.Walks
open Go.ChangeShapes Go.WideShapes Go.ChangeAt Go.RowKit
set_option linter.unusedVariables false
theorem play_far {B C M b d M' b' d' f nx f' nx' : Nat} {ws ws' : Nat → Nat} {w wr : World} (h : MPair B C M b d M' b' d' ws f nx ws' f' nx' w wr) : (wr.heap.size ≠ M ∧ wr.heap.size ≠ b ∧ wr.heap.size ≠ d) ∧ wr.heap.size ≠ M' ∧ wr.heap.size ≠ b' ∧ wr.heap.size ≠ d' := by
  have := h.old
  omega
theorem MemAt.heap {M b d f nx : Nat} {ws : Nat → Nat} {w w' : World} (h : MemAt M b d ws f nx w) (hh : w'.heap = w.heap) : MemAt M b d ws f nx w' := by
  have c : ∀ k o, w'.cell? ⟨k, o, none⟩ = w.cell? ⟨k, o, none⟩ := fun k o => World.cell?_of_block (w := w) (by rw [hh])
  have z : ∀ k o, w'.frozen? ⟨k, o, none⟩ = w.frozen? ⟨k, o, none⟩ := fun k o => World.frozen?_of_block (w := w) (by rw [hh])
  exact ⟨by rw [c]; exact h.hr, by rw [c]; exact h.hx, by rw [z]; exact h.zx, h.row.heap hh, h.nb, h.nd, h.lt⟩
theorem play_zero {B C M b d M' b' d' f nx f' nx' : Nat} {ws ws' : Nat → Nat} {w wr : World} (h : MPair B C M b d M' b' d' ws f nx ws' f' nx' w wr) (hB : 0 < B) : 0 ≠ M ∧ 0 ≠ b ∧ 0 ≠ d := by
  have := h.l1
  omega
set_option maxRecDepth 100000 in
set_option maxHeartbeats 4000000 in
theorem play_ok (A : Option Addr) (len cap : Nat) (zs : Nat → Int) (hl : (len : Int) ≤ 1024) (K : Option Addr) (lenK capK : Nat) (kd nn aa dd : Nat → Int) (w : World) (hL : Hid (Laid w)) (hA : Hid (IntsIn .u32 w A len zs)) (hK : Hid (AsksIn w K lenK kd nn aa dd)) :
    Calls Tryd.prog 7 #[.slice A len cap, .slice K lenK capK] w fun e w' => e = .returned (.bool true) ∧ FrB w.heap.size w w' := by
  have B0 := hideP hL.out.pos
  go_enter Tryd.func7, Tryd.ntmps7
  go_wp2_with fail
  refine (mnew_ok A len cap zs hl _ hL hA).mono ?_; rintro e w1 ⟨M, b, d, rfl, hF⟩
  have F1 : Hid (MFresh w.heap.size M b d (imW zs len) 0 0 w w1) := hF
  have A1 : Hid (IntsIn .u32 w1 A len zs) := hA.out.frb hF.2.1
  clear hF
  go_wp2_with fail
  refine (rnew_ok A len cap zs hl _ A1).mono ?_; rintro e w2 ⟨M', b', d', rfl, hF⟩
  have P2 : Hid (MPair w.heap.size w1.heap.size M b d M' b' d' (imW zs len) 0 0 (imW zs len) 0 0 w w2) := MPair.lay F1.out hF F1.out.2.1.size
  have N0 := hideP (play_zero P2.out B0.out)
  generalize w1.heap.size = C at *
  clear hF F1 A1
  go_wp2_with fail
  go_loopw [8] (fun i wr => ∃ (k f nx : Nat) (ws : Nat → Nat), (k : Int) ≤ lenK ∧ (k : Int) ≤ 100 ∧ Hid (f ≤ 2000 * k) ∧ i = .int .i64 k ∧ Hid (MPair w.heap.size C M b d M' b' d' ws f nx ws f nx w wr)) (fun i _ => 100 - (intOf i).toNat)
  case atStart => exact ⟨0, 0, 0, imW zs len, by omega, by decide, Nat.le_refl 0, rfl, P2⟩
  case round =>
    obtain ⟨k, f, nx, ws, hk, hk2, HFK, rfl, HP⟩ := hrel
    rename_i wr
    clear P2
    by_cases hlt : (k : Int) < lenK
    · by_cases hlt2 : (k : Int) < 100
      · obtain ⟨b0, o0, rfl, cb, c0, c1, c2, c3, n0, n1, n2, n3⟩ := hK.out k (by omega)
        have e0 : wr.cell? ⟨b0, o0 + k * 4, none⟩ = some (.int .i64 (kd k)) := by rw [HP.out.fr.cell _ _ cb]; exact c0
        have e1 : wr.cell? ⟨b0, o0 + k * 4 + 1, none⟩ = some (.int .i64 (nn k)) := by rw [HP.out.fr.cell _ _ cb]; exact c1
        have e2 : wr.cell? ⟨b0, o0 + k * 4 + 2, none⟩ = some (.int .u32 (aa k)) := by rw [HP.out.fr.cell _ _ cb]; exact c2
        have e3 : wr.cell? ⟨b0, o0 + k * 4 + 3, none⟩ = some (.int .u32 (dd k)) := by rw [HP.out.fr.cell _ _ cb]; exact c3
        have HA0 := hideP n0
        have HA1 : Hid (aa k ≤ 4294967295) := Int.le_of_lt_add_one n1
        have HD0 := hideP n2
        have HD1 : Hid (dd k ≤ 4294967295) := Int.le_of_lt_add_one n3
        clear c0 c1 c2 c3 cb n0 n1 n2 n3
        have HPA := fun c => hideP (HP.out.alloc (.cells c 25) HP.out.fr.size)
        have HLA := fun c => hideP ((HPA c).out.laid hL.out B0.out)
        have xb := hideP (play_far HP.out)
        have CA : Hid (∀ c : Array Value, ∀ o, (wr.alloc (.cells c 25)).cell? ⟨wr.heap.size, o, none⟩ = c[o]?) := fun c o => World.cell?_alloc_at _ _ _ _ rfl
        have FB : Hid ((f : Int) ≤ 3000000000000000000) := by have := HFK.out; unfold Hid; omega
        have FC : Hid ((f : Int) ≤ 4000000000000000000) := by have := HFK.out; unfold Hid; omega
        have HLF := hideP (ldF_le ws f (aa k))
        have HSF := hideP (scF_le ws f nx (scn (nn k)))
        have HSN := hideP (scn_le (nn k))
        generalize kd k = kk at *
        generalize nn k = ii at *
        generalize aa k = ad at *
        generalize dd k = dv at *
        have HPB := hideP HPA
        have HLB := hideP HLA
        clear HPA HLA
        by_cases h2 : kk = 2
        · subst h2
          obtain ⟨cc, CC⟩ : ∃ cc : Int, Hid (stE ws ad ii = cc) := ⟨_, rfl⟩
          go_wp2_with fail
          go_region_held3 (fun w' => w'.cell? ⟨wr.heap.size, 1, none⟩ = some (.int .i64 ii) ∧ w'.cell? ⟨wr.heap.size, 2, none⟩ = some (.int .u32 ad) ∧ w'.cell? ⟨wr.heap.size, 3, none⟩ = some (.int .u32 dv)) (first | go_keep | (go_split_ands; refine ⟨?_, ?_, ?_⟩ <;> assumption))
            (first
              | (go_at_call 15; refine (mstore_as M b d f nx ws _ _ _ _ HA0.out HA1.out HD0.out HD1.out FC.out CC _ (by exact (HLB.out _).out.alike ⟨rfl, rfl, rfl⟩) N0 (by exact (HPB.out _).out.r1.heap rfl)).mono ?_; rintro e w3 ⟨rfl, hF⟩; have P3 := hideP ((HPB.out #[.int .i64 2, .int .i64 ii, .int .u32 ad, .int .u32 dv]).out.now1d hF); have y1 : w3.cell? ⟨wr.heap.size, 1, none⟩ = some (.int .i64 ii) := (hF.celld _ xb.out.1).trans (CA.out #[.int .i64 2, .int .i64 ii, .int .u32 ad, .int .u32 dv] 1); have y2 : w3.cell? ⟨wr.heap.size, 2, none⟩ = some (.int .u32 ad) := (hF.celld _ xb.out.1).trans (CA.out #[.int .i64 2, .int .i64 ii, .int .u32 ad, .int .u32 dv] 2); have y3 : w3.cell? ⟨wr.heap.size, 3, none⟩ = some (.int .u32 dv) := (hF.celld _ xb.out.1).trans (CA.out #[.int .i64 2, .int .i64 ii, .int .u32 ad, .int .u32 dv] 3); clear hF)
              | (go_at_call 18; refine (rstore_as M' b' d' f nx ws _ _ _ _ HA0.out HA1.out HD0.out HD1.out FC.out CC _ (by exact P3.out.r2)).mono ?_; rintro e w4 ⟨rfl, hF⟩; have P4 := hideP (P3.out.now2 hF); have z1 : w4.cell? ⟨wr.heap.size, 1, none⟩ = some (.int .i64 ii) := (hF.cell _ xb.out.2).trans y1; have z2 : w4.cell? ⟨wr.heap.size, 2, none⟩ = some (.int .u32 ad) := (hF.cell _ xb.out.2).trans y2; have z3 : w4.cell? ⟨wr.heap.size, 3, none⟩ = some (.int .u32 dv) := (hF.cell _ xb.out.2).trans y3; clear hF))
          go_wp2_with fail
          have q0 : w4.cell? ⟨M, 0, none⟩ = some (.pointer (some ⟨b, 0, none⟩)) := P4.out.r1.hr
          have q1 : w4.cell? ⟨b, 1, none⟩ = some (.int .i64 (ldF ws f ad : Nat)) := P4.out.r1.row.hf
          have q2 : w4.cell? ⟨M', 0, none⟩ = some (.pointer (some ⟨b', 0, none⟩)) := P4.out.r2.hr
          have q3 : w4.cell? ⟨b', 1, none⟩ = some (.int .i64 (ldF ws f ad : Nat)) := P4.out.r2.row.hf
          go_region_with (go_at_call 14; refine (mfixes_as M b _ _ (by exact q0) (by exact q1)).mono ?_; rintro e w' ⟨rfl, rfl⟩)
          all_goals
            go_wp2_with fail
            exact ⟨⟨k + 1, _, _, _, by omega, by omega, (by have := HLF.out; have := HSF.out; have := HSN.out; have := HFK.out; unfold Hid; omega), by rw [Int.natCast_add]; rfl, (P4.out.alike ⟨rfl, rfl, rfl⟩)⟩, by simp [intOf]; omega⟩
        by_cases h3 : kk = 3
        · subst h3
          obtain ⟨cc, CC⟩ : ∃ cc : Int, Hid (stE ws ad ii = cc) := ⟨_, rfl⟩
          go_wp2_with fail
          go_region_held3 (fun w' => w'.cell? ⟨wr.heap.size, 1, none⟩ = some (.int .i64 ii) ∧ w'.cell? ⟨wr.heap.size, 2, none⟩ = some (.int .u32 ad) ∧ w'.cell? ⟨wr.heap.size, 3, none⟩ = some (.int .u32 dv)) (first | go_keep | (go_split_ands; refine ⟨?_, ?_, ?_⟩ <;> assumption))
            (first
              | (go_at_call 15; refine (mstore_as M b d f nx ws _ _ _ _ HA0.out HA1.out HD0.out HD1.out FC.out CC _ (by exact (HLB.out _).out.alike ⟨rfl, rfl, rfl⟩) N0 (by exact (HPB.out _).out.r1.heap rfl)).mono ?_; rintro e w3 ⟨rfl, hF⟩; have P3 := hideP ((HPB.out #[.int .i64 3, .int .i64 ii, .int .u32 ad, .int .u32 dv]).out.now1d hF); have y1 : w3.cell? ⟨wr.heap.size, 1, none⟩ = some (.int .i64 ii) := (hF.celld _ xb.out.1).trans (CA.out #[.int .i64 3, .int .i64 ii, .int .u32 ad, .int .u32 dv] 1); have y2 : w3.cell? ⟨wr.heap.size, 2, none⟩ = some (.int .u32 ad) := (hF.celld _ xb.out.1).trans (CA.out #[.int .i64 3, .int .i64 ii, .int .u32 ad, .int .u32 dv] 2); have y3 : w3.cell? ⟨wr.heap.size, 3, none⟩ = some (.int .u32 dv) := (hF.celld _ xb.out.1).trans (CA.out #[.int .i64 3, .int .i64 ii, .int .u32 ad, .int .u32 dv] 3); clear hF)
              | (go_at_call 18; refine (rstore_as M' b' d' f nx ws _ _ _ _ HA0.out HA1.out HD0.out HD1.out FC.out CC _ (by exact P3.out.r2)).mono ?_; rintro e w4 ⟨rfl, hF⟩; have P4 := hideP (P3.out.now2 hF); have z1 : w4.cell? ⟨wr.heap.size, 1, none⟩ = some (.int .i64 ii) := (hF.cell _ xb.out.2).trans y1; have z2 : w4.cell? ⟨wr.heap.size, 2, none⟩ = some (.int .u32 ad) := (hF.cell _ xb.out.2).trans y2; have z3 : w4.cell? ⟨wr.heap.size, 3, none⟩ = some (.int .u32 dv) := (hF.cell _ xb.out.2).trans y3; clear hF))
          go_wp2_with fail
          have q0 : w4.cell? ⟨M, 0, none⟩ = some (.pointer (some ⟨b, 0, none⟩)) := P4.out.r1.hr
          have q1 : w4.cell? ⟨b, 1, none⟩ = some (.int .i64 (ldF ws f ad : Nat)) := P4.out.r1.row.hf
          have q2 : w4.cell? ⟨M', 0, none⟩ = some (.pointer (some ⟨b', 0, none⟩)) := P4.out.r2.hr
          have q3 : w4.cell? ⟨b', 1, none⟩ = some (.int .i64 (ldF ws f ad : Nat)) := P4.out.r2.row.hf
          go_region_with (go_at_call 14; refine (mfixes_as M b _ _ (by exact q0) (by exact q1)).mono ?_; rintro e w' ⟨rfl, rfl⟩)
          all_goals
            go_wp2_with fail
            exact ⟨⟨k + 1, _, _, _, by omega, by omega, (by have := HLF.out; have := HSF.out; have := HSN.out; have := HFK.out; unfold Hid; omega), by rw [Int.natCast_add]; rfl, (P4.out.alike ⟨rfl, rfl, rfl⟩)⟩, by simp [intOf]; omega⟩
        by_cases h4 : kk = 4
        · subst h4
          obtain ⟨x, X⟩ : ∃ x : Int, Hid (((scV ws nx (scn ii) : Nat) : Int) = x) := ⟨_, rfl⟩
          obtain ⟨cc, CC⟩ : ∃ cc : Int, Hid (scE ws nx (scn ii) = cc) := ⟨_, rfl⟩
          go_wp2_with fail
          refine (mscrub_as M b d f nx ws _ FB.out _ _ X CC _ (HLB.out _) N0 (HPB.out _).out.r1).mono ?_; rintro e w3 ⟨rfl, hF⟩
          have P3 := hideP ((HPB.out _).out.now1 hF)
          have y1 : w3.cell? ⟨wr.heap.size, 1, none⟩ = some (.int .i64 ii) := by rw [hF.cell _ xb.out.1, CA.out]; rfl
          clear hF
          go_wp2_with fail
          refine (rscrub_as M' b' d' f nx ws _ FB.out _ _ X CC _ P3.out.r2).mono ?_; rintro e w4 ⟨rfl, hF⟩
          have P4 := hideP (P3.out.now2 hF)
          clear hF
          go_wp2_with fail
          have q0 : w4.cell? ⟨M, 0, none⟩ = some (.pointer (some ⟨b, 0, none⟩)) := P4.out.r1.hr
          have q1 : w4.cell? ⟨b, 1, none⟩ = some (.int .i64 (scF ws f nx (scn ii) : Nat)) := P4.out.r1.row.hf
          have q2 : w4.cell? ⟨M', 0, none⟩ = some (.pointer (some ⟨b', 0, none⟩)) := P4.out.r2.hr
          have q3 : w4.cell? ⟨b', 1, none⟩ = some (.int .i64 (scF ws f nx (scn ii) : Nat)) := P4.out.r2.row.hf
          go_region_with (go_at_call 14; refine (mfixes_as M b _ _ (by exact q0) (by exact q1)).mono ?_; rintro e w' ⟨rfl, rfl⟩)
          all_goals
            go_wp2_with fail
            exact ⟨⟨k + 1, _, _, _, by omega, by omega, (by have := HLF.out; have := HSF.out; have := HSN.out; have := HFK.out; unfold Hid; omega), by rw [Int.natCast_add]; rfl, (P4.out.alike ⟨rfl, rfl, rfl⟩)⟩, by simp [intOf]; omega⟩
        by_cases h5 : kk = 5
        · subst h5
          obtain ⟨g, G⟩ : ∃ g, Hid (inF 1024 ii = g) := ⟨_, rfl⟩
          have HR2 : Hid (∀ c, (wr.alloc (.cells c 25)).drew.cell? ⟨M', 0, none⟩ = some (.pointer (some ⟨b', 0, none⟩))) := fun c => (MemAt.heap (w' := (wr.alloc (.cells c 25)).drew) (HPB.out c).out.r2 rfl).hr
          go_wp2_with fail
          have hr2 := HR2.out #[.int .i64 5, .int .i64 ii, .int .u32 ad, .int .u32 dv]
          go_region_held3 (fun w' => w'.cell? ⟨wr.heap.size, 1, none⟩ = some (.int .i64 ii) ∧ w'.cell? ⟨M', 0, none⟩ = some (.pointer (some ⟨b', 0, none⟩))) (first | go_keep | (go_split_ands; refine ⟨?_, ?_⟩ <;> assumption))
            (first
              | (go_at_call 11; refine (mflip_as M b d f nx ws _ _ G _ (by exact (HPB.out _).out.r1.heap rfl)).mono ?_; rintro e w3 ⟨rfl, hF⟩; have P3 := hideP ((HPB.out #[.int .i64 5, .int .i64 ii, .int .u32 ad, .int .u32 dv]).out.now1d hF); have y1 : w3.cell? ⟨wr.heap.size, 1, none⟩ = some (.int .i64 ii) := (hF.celld _ xb.out.1).trans (CA.out #[.int .i64 5, .int .i64 ii, .int .u32 ad, .int .u32 dv] 1); have y2 : w3.cell? ⟨M', 0, none⟩ = some (.pointer (some ⟨b', 0, none⟩)) := P3.out.r2.hr; clear hF)
              | (go_at_call 20; refine (refflip_as b' d' 1024 f ws _ _ G (by decide) _ (by exact P3.out.r2.row)).mono ?_; rintro e w4 ⟨rfl, hF⟩; have P4 := hideP (P3.out.now2 (P3.out.r2.row_now hF)); have z1 : w4.cell? ⟨wr.heap.size, 1, none⟩ = some (.int .i64 ii) := (hF.2.cell _ _ xb.out.2.2.1 xb.out.2.2.2).trans y1; have z2 : w4.cell? ⟨M', 0, none⟩ = some (.pointer (some ⟨b', 0, none⟩)) := P4.out.r2.hr; clear hF))
          go_wp2_with fail
          have q0 : w4.cell? ⟨M, 0, none⟩ = some (.pointer (some ⟨b, 0, none⟩)) := P4.out.r1.hr
          have q1 : w4.cell? ⟨b, 1, none⟩ = some (.int .i64 (f : Nat)) := P4.out.r1.row.hf
          have q2 : w4.cell? ⟨M', 0, none⟩ = some (.pointer (some ⟨b', 0, none⟩)) := P4.out.r2.hr
          have q3 : w4.cell? ⟨b', 1, none⟩ = some (.int .i64 (f : Nat)) := P4.out.r2.row.hf
          go_region_with (go_at_call 14; refine (mfixes_as M b _ _ (by exact q0) (by exact q1)).mono ?_; rintro e w' ⟨rfl, rfl⟩)
          all_goals
            go_wp2_with fail
            exact ⟨⟨k + 1, _, _, _, by omega, by omega, (by have := HLF.out; have := HSF.out; have := HSN.out; have := HFK.out; unfold Hid; omega), by rw [Int.natCast_add]; rfl, (P4.out.alike ⟨rfl, rfl, rfl⟩)⟩, by simp [intOf]; omega⟩
        by_cases h6 : kk = 6
        · subst h6
          obtain ⟨g, G⟩ : ∃ g, Hid (inF 1024 ii = g) := ⟨_, rfl⟩
          have HR2 : Hid (∀ c, (wr.alloc (.cells c 25)).drew.cell? ⟨M', 0, none⟩ = some (.pointer (some ⟨b', 0, none⟩))) := fun c => (MemAt.heap (w' := (wr.alloc (.cells c 25)).drew) (HPB.out c).out.r2 rfl).hr
          go_wp2_with fail
          have hr2 := HR2.out #[.int .i64 6, .int .i64 ii, .int .u32 ad, .int .u32 dv]
          go_region_held3 (fun w' => w'.cell? ⟨wr.heap.size, 1, none⟩ = some (.int .i64 ii) ∧ w'.cell? ⟨M', 0, none⟩ = some (.pointer (some ⟨b', 0, none⟩))) (first | go_keep | (go_split_ands; refine ⟨?_, ?_⟩ <;> assumption))
            (first
              | (go_at_call 11; refine (mflip_as M b d f nx ws _ _ G _ (by exact (HPB.out _).out.r1.heap rfl)).mono ?_; rintro e w3 ⟨rfl, hF⟩; have P3 := hideP ((HPB.out #[.int .i64 6, .int .i64 ii, .int .u32 ad, .int .u32 dv]).out.now1d hF); have y1 : w3.cell? ⟨wr.heap.size, 1, none⟩ = some (.int .i64 ii) := (hF.celld _ xb.out.1).trans (CA.out #[.int .i64 6, .int .i64 ii, .int .u32 ad, .int .u32 dv] 1); have y2 : w3.cell? ⟨M', 0, none⟩ = some (.pointer (some ⟨b', 0, none⟩)) := P3.out.r2.hr; clear hF)
              | (go_at_call 20; refine (refflip_as b' d' 1024 f ws _ _ G (by decide) _ (by exact P3.out.r2.row)).mono ?_; rintro e w4 ⟨rfl, hF⟩; have P4 := hideP (P3.out.now2 (P3.out.r2.row_now hF)); have z1 : w4.cell? ⟨wr.heap.size, 1, none⟩ = some (.int .i64 ii) := (hF.2.cell _ _ xb.out.2.2.1 xb.out.2.2.2).trans y1; have z2 : w4.cell? ⟨M', 0, none⟩ = some (.pointer (some ⟨b', 0, none⟩)) := P4.out.r2.hr; clear hF))
          go_wp2_with fail
          have q0 : w4.cell? ⟨M, 0, none⟩ = some (.pointer (some ⟨b, 0, none⟩)) := P4.out.r1.hr
          have q1 : w4.cell? ⟨b, 1, none⟩ = some (.int .i64 (f : Nat)) := P4.out.r1.row.hf
          have q2 : w4.cell? ⟨M', 0, none⟩ = some (.pointer (some ⟨b', 0, none⟩)) := P4.out.r2.hr
          have q3 : w4.cell? ⟨b', 1, none⟩ = some (.int .i64 (f : Nat)) := P4.out.r2.row.hf
          go_region_with (go_at_call 14; refine (mfixes_as M b _ _ (by exact q0) (by exact q1)).mono ?_; rintro e w' ⟨rfl, rfl⟩)
          all_goals
            go_wp2_with fail
            exact ⟨⟨k + 1, _, _, _, by omega, by omega, (by have := HLF.out; have := HSF.out; have := HSN.out; have := HFK.out; unfold Hid; omega), by rw [Int.natCast_add]; rfl, (P4.out.alike ⟨rfl, rfl, rfl⟩)⟩, by simp [intOf]; omega⟩
        · have g2 : (kk == 2) = false := by rw [beq_eq_false_iff_ne]; exact h2
          have g3 : (kk == 3) = false := by rw [beq_eq_false_iff_ne]; exact h3
          have g4 : (kk == 4) = false := by rw [beq_eq_false_iff_ne]; exact h4
          have g5 : (kk == 5) = false := by rw [beq_eq_false_iff_ne]; exact h5
          have g6 : (kk == 6) = false := by rw [beq_eq_false_iff_ne]; exact h6
          clear h2 h3 h4 h5 h6
          obtain ⟨x, X⟩ : ∃ x : Int, Hid (((ldV ws ad : Nat) : Int) = x) := ⟨_, rfl⟩
          obtain ⟨cc, CC⟩ : ∃ cc : Int, Hid (ldE ws ad = cc) := ⟨_, rfl⟩
          go_wp2_with fail
          refine (mload_as M b d f nx ws _ _ _ HA0.out HA1.out FC.out X CC _ (HLB.out _) (HPB.out _).out.r1).mono ?_; rintro e w3 ⟨rfl, hF⟩
          have P3 := hideP ((HPB.out _).out.now1 hF)
          have y2 : w3.cell? ⟨wr.heap.size, 2, none⟩ = some (.int .u32 ad) := by rw [hF.cell _ xb.out.1, CA.out]; rfl
          clear hF
          go_wp2_with fail
          refine (rload_as M' b' d' f nx ws _ _ _ HA0.out HA1.out FC.out X CC _ P3.out.r2).mono ?_; rintro e w4 ⟨rfl, hF⟩
          have P4 := hideP (P3.out.now2 hF)
          clear hF
          go_wp2_with fail
          have q0 : w4.cell? ⟨M, 0, none⟩ = some (.pointer (some ⟨b, 0, none⟩)) := P4.out.r1.hr
          have q1 : w4.cell? ⟨b, 1, none⟩ = some (.int .i64 (ldF ws f ad : Nat)) := P4.out.r1.row.hf
          have q2 : w4.cell? ⟨M', 0, none⟩ = some (.pointer (some ⟨b', 0, none⟩)) := P4.out.r2.hr
          have q3 : w4.cell? ⟨b', 1, none⟩ = some (.int .i64 (ldF ws f ad : Nat)) := P4.out.r2.row.hf
          go_region_with (go_at_call 14; refine (mfixes_as M b _ _ (by exact q0) (by exact q1)).mono ?_; rintro e w' ⟨rfl, rfl⟩)
          all_goals
            go_wp2_with fail
            exact ⟨⟨k + 1, _, _, _, by omega, by omega, (by have := HLF.out; have := HSF.out; have := HSN.out; have := HFK.out; unfold Hid; omega), by rw [Int.natCast_add]; rfl, (P4.out.alike ⟨rfl, rfl, rfl⟩)⟩, by simp [intOf]; omega⟩
      · have hlx := hideP hlt2
        clear hlx
        obtain ⟨g, G⟩ : ∃ g, Hid (bdW ws 1024 = g) := ⟨_, rfl⟩
        have LW := hideP (HP.out.laid hL.out B0.out)
        have OW := hideP HP.out.old
        have PW : Hid (0 < wr.heap.size ∧ M < wr.heap.size ∧ b < wr.heap.size ∧ d < wr.heap.size) := ⟨LW.out.pos, OW.out.1⟩
        go_wp2_with fail
        refine (mwords_as M b d f nx ws g G _ LW HP.out.r1 PW).mono ?_; rintro e v1 ⟨hT, hF⟩
        have P1 := hideP (HP.out.past hF HP.out.fr.size)
        clear hF
        have O1 := hideP P1.out.old.2
        cases g
        · unfold Told at hT
          rw [if_neg (by decide)] at hT
          obtain ⟨A1, cap1, rfl, hs1, hc1⟩ := hT
          have S1 := hideP hs1
          have C1 := hideP hc1
          clear hs1 hc1
          go_wp2_with fail
          refine (rwords_as M' b' d' f nx ws false G _ P1.out.r2 O1).mono ?_; rintro e v2 ⟨hT, hF⟩
          have P3 := hideP (P1.out.past hF P1.out.fr.size)
          have D1 : Hid (∀ i, i < 1024 → v2.cell? ⟨A1, i, none⟩ = some (.int .u32 (vw ws i : Nat))) := fun i hi => by rw [hF.cell _ _ S1.out]; exact C1.out i hi
          clear hF
          unfold Told at hT
          rw [if_neg (by decide)] at hT
          obtain ⟨A2, cap2, rfl, hs2, hc2⟩ := hT
          have D2 := hideP hc2
          clear hs2 hc2
          go_wp2_with fail
          go_loopw [173] (fun t vr => ∃ j : Nat, (j : Int) ≤ 1024 ∧ t = .int .i64 j ∧ Hid (vr.Alike v2)) (fun t _ => 1024 - (intOf t).toNat)
          case atStart => exact ⟨0, by decide, rfl, ⟨rfl, rfl, rfl⟩⟩
          case round =>
            obtain ⟨j, hj, rfl, HV⟩ := hrel
            by_cases hjl : (j : Int) < 1024
            · have y1 : wr.cell? ⟨A1, j, none⟩ = some (.int .u32 (vw ws j : Nat)) := by rw [World.cell?_of_block (w := v2) (by rw [HV.out.1])]; exact D1.out j (by omega)
              have y2 : wr.cell? ⟨A2, j, none⟩ = some (.int .u32 (vw ws j : Nat)) := by rw [World.cell?_of_block (w := v2) (by rw [HV.out.1])]; exact D2.out j (by omega)
              generalize vw ws j = vj at *
              go_wp2_with fail
              go_region
              all_goals
                go_wp2_with fail
                exact ⟨⟨j + 1, by omega, by rw [Int.natCast_add]; rfl, HV.out⟩, by simp [intOf]; omega⟩
            · go_wp2_with fail
              go_ret
              exact ⟨rfl, P3.out.fr.trans (FrB.alike HV.out)⟩
        · unfold Told at hT
          rw [if_pos rfl] at hT
          subst hT
          go_wp2_with fail
          refine (rwords_as M' b' d' f nx ws true G _ P1.out.r2 O1).mono ?_; rintro e v2 ⟨hT, hF⟩
          have P3 := hideP (P1.out.past hF P1.out.fr.size)
          clear hF
          unfold Told at hT
          rw [if_pos rfl] at hT
          subst hT
          go_wp2_with fail
          go_loopw [173] (fun t vr => t = .int .i64 0 ∧ vr = v2) (fun t _ => 0)
          case atStart => exact ⟨rfl, rfl⟩
          case round =>
            obtain ⟨rfl, rfl⟩ := hrel
            go_wp2_with fail
            go_ret
            exact ⟨rfl, P3.out.fr⟩
    · have hkl : ¬ (k : Int) < lenK := hlt
      obtain ⟨g, G⟩ : ∃ g, Hid (bdW ws 1024 = g) := ⟨_, rfl⟩
      have LW := hideP (HP.out.laid hL.out B0.out)
      have OW := hideP HP.out.old
      have PW : Hid (0 < wr.heap.size ∧ M < wr.heap.size ∧ b < wr.heap.size ∧ d < wr.heap.size) := ⟨LW.out.pos, OW.out.1⟩
      go_wp2_with fail
      refine (mwords_as M b d f nx ws g G _ LW HP.out.r1 PW).mono ?_; rintro e v1 ⟨hT, hF⟩
      have P1 := hideP (HP.out.past hF HP.out.fr.size)
      clear hF
      have O1 := hideP P1.out.old.2
      cases g
      · unfold Told at hT
        rw [if_neg (by decide)] at hT
        obtain ⟨A1, cap1, rfl, hs1, hc1⟩ := hT
        have S1 := hideP hs1
        have C1 := hideP hc1
        clear hs1 hc1
        go_wp2_with fail
        refine (rwords_as M' b' d' f nx ws false G _ P1.out.r2 O1).mono ?_; rintro e v2 ⟨hT, hF⟩
        have P3 := hideP (P1.out.past hF P1.out.fr.size)
        have D1 : Hid (∀ i, i < 1024 → v2.cell? ⟨A1, i, none⟩ = some (.int .u32 (vw ws i : Nat))) := fun i hi => by rw [hF.cell _ _ S1.out]; exact C1.out i hi
        clear hF
        unfold Told at hT
        rw [if_neg (by decide)] at hT
        obtain ⟨A2, cap2, rfl, hs2, hc2⟩ := hT
        have D2 := hideP hc2
        clear hs2 hc2
        go_wp2_with fail
        go_loopw [173] (fun t vr => ∃ j : Nat, (j : Int) ≤ 1024 ∧ t = .int .i64 j ∧ Hid (vr.Alike v2)) (fun t _ => 1024 - (intOf t).toNat)
        case atStart => exact ⟨0, by decide, rfl, ⟨rfl, rfl, rfl⟩⟩
        case round =>
          obtain ⟨j, hj, rfl, HV⟩ := hrel
          by_cases hjl : (j : Int) < 1024
          · have y1 : wr.cell? ⟨A1, j, none⟩ = some (.int .u32 (vw ws j : Nat)) := by rw [World.cell?_of_block (w := v2) (by rw [HV.out.1])]; exact D1.out j (by omega)
            have y2 : wr.cell? ⟨A2, j, none⟩ = some (.int .u32 (vw ws j : Nat)) := by rw [World.cell?_of_block (w := v2) (by rw [HV.out.1])]; exact D2.out j (by omega)
            generalize vw ws j = vj at *
            go_wp2_with fail
            go_region
            all_goals
              go_wp2_with fail
              exact ⟨⟨j + 1, by omega, by rw [Int.natCast_add]; rfl, HV.out⟩, by simp [intOf]; omega⟩
          · go_wp2_with fail
            go_ret
            exact ⟨rfl, P3.out.fr.trans (FrB.alike HV.out)⟩
      · unfold Told at hT
        rw [if_pos rfl] at hT
        subst hT
        go_wp2_with fail
        refine (rwords_as M' b' d' f nx ws true G _ P1.out.r2 O1).mono ?_; rintro e v2 ⟨hT, hF⟩
        have P3 := hideP (P1.out.past hF P1.out.fr.size)
        clear hF
        unfold Told at hT
        rw [if_pos rfl] at hT
        subst hT
        go_wp2_with fail
        go_loopw [173] (fun t vr => t = .int .i64 0 ∧ vr = v2) (fun t _ => 0)
        case atStart => exact ⟨rfl, rfl⟩
        case round =>
          obtain ⟨rfl, rfl⟩ := hrel
          go_wp2_with fail
          go_ret
          exact ⟨rfl, P3.out.fr⟩
set_option maxRecDepth 100000 in
set_option maxHeartbeats 1000000 in
theorem play_long (A : Option Addr) (len cap : Nat) (hl : (1024 : Int) < len) (hx : (len : Int) ≤ 9223372036854775807) (K : Option Addr) (lenK capK : Nat) (w : World) :
    Calls Tryd.prog 7 #[.slice A len cap, .slice K lenK capK] w fun e w' => e = .returned (.bool true) ∧ w' = w := by
  go_enter Tryd.func7, Tryd.ntmps7
  go_wp2_with fail
  refine (mnew_long A len cap hl hx _).mono ?_; rintro e w' ⟨rfl, rfl⟩
  go_wp2_with fail
  refine (rnew_long A len cap hl hx _).mono ?_; rintro e w' ⟨rfl, rfl⟩
  go_wp2_with fail
  go_ret
  exact ⟨rfl, rfl⟩
theorem play (A : Option Addr) (len cap : Nat) (zs : Nat → Int) (hx : (len : Int) ≤ 9223372036854775807) (K : Option Addr) (lenK capK : Nat) (kd nn aa dd : Nat → Int) (w : World) (hL : Hid (Laid w)) (hA : Hid (IntsIn .u32 w A len zs)) (hK : Hid (AsksIn w K lenK kd nn aa dd)) :
    Calls Tryd.prog 7 #[.slice A len cap, .slice K lenK capK] w fun e w' => e = .returned (.bool true) ∧ FrB w.heap.size w w' := by
  by_cases h : (len : Int) ≤ 1024
  · exact play_ok A len cap zs h K lenK capK kd nn aa dd w hL hA hK
  · exact (play_long A len cap (by omega) hx K lenK capK w).mono fun e w' hh => ⟨hh.1, by rw [hh.2]; exact FrB.refl _ _⟩
end Go.Proofs.YtekafmnpojbbdaaDoor.Walks
