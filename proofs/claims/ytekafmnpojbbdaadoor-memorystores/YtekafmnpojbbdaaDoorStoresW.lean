/- The walk of MemoryStores. -/
import Derived.Test.YtekafmnpojbbdaaDoorStoresN
import Derived.Test.YtekafmnpojbbdaaDoorMPair
import Derived.Test.YtekafmnpojbbdaaDoorKnow
import Derived.Test.YtekafmnpojbbdaaDoorAsks
namespace Go.Proofs.YtekafmnpojbbdaaDoor.Walks
open Go.ChangeShapes Go.WideShapes Go.ChangeAt Go.RowKit
set_option linter.unusedVariables false
theorem and15u (x : Int) (h0 : 0 ≤ x) (h1 : x ≤ 4294967295) : ∃ q : Nat, bits .and .u32 x 15 = (q : Int) ∧ q < 16 := by
  obtain ⟨n, rfl⟩ := Int.eq_ofNat_of_zero_le h0
  refine ⟨n % 16, ?_, Nat.mod_lt _ (by decide)⟩
  rw [show (15 : Int) = ((15 : Nat) : Int) from rfl, u32_and_nat _ _ (by omega) (by decide), show (15 : Nat) = 2 ^ 4 - 1 from rfl, Nat.and_two_pow_sub_one_eq_mod]
theorem ArrAt.keep {P n : Nat} {zs : Nat → Nat} {w w' : World} (h : ArrAt P n zs w) (k : w'.heap[P]? = w.heap[P]?) : ArrAt P n zs w' :=
  ⟨fun i hi => by rw [World.cell?_of_block (w := w) k]; exact h.hw i hi, fun i hi => by rw [World.frozen?_of_block (w := w) k]; exact h.zw i hi⟩
/-- the array of what was stored lies apart from the memory -/
def Far (P M b d : Nat) : Prop := P ≠ M ∧ P ≠ b ∧ P ≠ d
theorem ArrAt.now {P n M b d g gx : Nat} {zs vs : Nat → Nat} {w w' : World} (h : ArrAt P n zs w) (k : MNow M b d vs g gx w w') (f : Far P M b d) : ArrAt P n zs w' := h.keep (k.2.block P f.1 f.2.1 f.2.2)
theorem MemAt.put {M b d f nx P o : Nat} {ws : Nat → Nat} {w : World} {v : Value} (h : MemAt M b d ws f nx w) (k : Far P M b d) : MemAt M b d ws f nx (w.setCell ⟨P, o, none⟩ v) := by
  have c : ∀ x p, x ≠ P → (w.setCell ⟨P, o, none⟩ v).cell? ⟨x, p, none⟩ = w.cell? ⟨x, p, none⟩ := fun x p hx => set_other (fun e => hx (by injection e with e1; exact e1.symm))
  have z : ∀ x p, (w.setCell ⟨P, o, none⟩ v).frozen? ⟨x, p, none⟩ = w.frozen? ⟨x, p, none⟩ := fun x p => by simp
  obtain ⟨k1, k2, k3⟩ := k
  exact ⟨by rw [c _ _ k1.symm]; exact h.hr, by rw [c _ _ k1.symm]; exact h.hx, by rw [z]; exact h.zx,
    ⟨by rw [c _ _ k2.symm]; exact h.row.hs, by rw [c _ _ k2.symm]; exact h.row.hf, fun i hi => by rw [c _ _ k3.symm]; exact h.row.hw i hi, by rw [z]; exact h.row.z1, fun i hi => by rw [z]; exact h.row.zw i hi, h.row.ne, h.row.lt⟩, h.nb, h.nd, h.lt⟩
theorem MFresh.put {B M b d f nx P o : Nat} {ws : Nat → Nat} {w wr : World} {v : Value} (h : MFresh B M b d ws f nx w wr) (k : Far P M b d) (hB : B ≤ P) : MFresh B M b d ws f nx w (wr.setCell ⟨P, o, none⟩ v) := by
  obtain ⟨h1, h2, h3, h6, h7, h8⟩ := h
  have s : (wr.setCell ⟨P, o, none⟩ v).heap.size = wr.heap.size := by simp [World.setCell]
  exact ⟨h1.put k, h2.trans (FrB.set _ _ _ _ _ hB), h3, by omega, by omega, by omega⟩
theorem ArrAt.fresh (w : World) (c : Array Value) (T : TypeId) (zs : Nat → Nat) (n : Nat) (h : ∀ i, i < n → c[i]? = some (.int .u32 (zs i : Nat))) : ArrAt w.heap.size n zs (w.alloc (.cells c T)) :=
  ⟨fun i hi => by rw [World.cell?_alloc_at _ _ _ _ rfl, h i hi], fun i hi => by rw [World.frozen?_alloc_at _ _ _ _ rfl]⟩
def v0 : Nat → Nat := fun _ => 0
theorem z16 (i : Nat) (h : i < 16) : (#[.int .u32 0, .int .u32 0, .int .u32 0, .int .u32 0, .int .u32 0, .int .u32 0, .int .u32 0, .int .u32 0, .int .u32 0, .int .u32 0, .int .u32 0, .int .u32 0, .int .u32 0, .int .u32 0, .int .u32 0, .int .u32 0] : Array Value)[i]? = some (.int .u32 (v0 i : Nat)) := by
  rcases (show i = 0 ∨ i = 1 ∨ i = 2 ∨ i = 3 ∨ i = 4 ∨ i = 5 ∨ i = 6 ∨ i = 7 ∨ i = 8 ∨ i = 9 ∨ i = 10 ∨ i = 11 ∨ i = 12 ∨ i = 13 ∨ i = 14 ∨ i = 15 by omega) with rfl | rfl | rfl | rfl | rfl | rfl | rfl | rfl | rfl | rfl | rfl | rfl | rfl | rfl | rfl | rfl <;> rfl
theorem MemAt.drewn {M b d f nx : Nat} {ws : Nat → Nat} {w : World} (h : MemAt M b d ws f nx w) : MemAt M b d ws f nx w.drew := (h.alike (w' := w.drew) ⟨rfl, rfl, rfl⟩).1
theorem eW_0 (i : Nat) : imW (fun _ => 0) 0 i = eW v0 i := by
  unfold imW eW v0
  rw [if_neg (by omega)]
  decide +kernel
theorem turn_at (p q : Nat) (hp : p < 16) (hq : q < 64) : IntKind.i64.wrap (IntKind.i64.wrap (39 * (p : Int)) + (q : Int).tmod 39) = ((39 * p + q % 39 : Nat) : Int) := by
  have h1 : IntKind.i64.wrap (39 * (p : Int)) = 39 * (p : Int) := by rw [IntKind.wrap_i64]; omega
  have h2 : (q : Int).tmod 39 = ((q % 39 : Nat) : Int) := by rw [Int.tmod_eq_emod_of_nonneg (by omega)]; rfl
  have h3 : q % 39 < 39 := Nat.mod_lt _ (by decide)
  rw [h1, h2]
  generalize q % 39 = r at *
  rw [IntKind.wrap_i64]
  omega
abbrev Z16 : Array Value := #[.int .u32 0, .int .u32 0, .int .u32 0, .int .u32 0, .int .u32 0, .int .u32 0, .int .u32 0, .int .u32 0, .int .u32 0, .int .u32 0, .int .u32 0, .int .u32 0, .int .u32 0, .int .u32 0, .int .u32 0, .int .u32 0]
set_option maxRecDepth 100000 in
set_option maxHeartbeats 4000000 in
theorem stores (A : Option Addr) (len cap : Nat) (zs : Nat → Int) (D : Option Addr) (lenD capD : Nat) (zd : Nat → Int) (K : Option Addr) (lenK capK : Nat) (bl : Nat → Int) (w : World) (hL : Hid (Laid w)) (hA : Hid (IntsIn .u32 w A len zs)) (hD : Hid (IntsIn .u32 w D lenD zd)) (hK : Hid (IntsIn .i64 w K lenK bl)) :
    Calls Tryd.prog 6 #[.slice A len cap, .slice D lenD capD, .slice K lenK capK] w fun e w' => e = .returned (.bool true) ∧ FrB w.heap.size w w' := by
  have B0 := hideP hL.out.pos
  have I0 := hideP (IntsIn.none .u32 w none (fun _ => 0))
  go_enter Tryd.func6, Tryd.ntmps6
  go_wp2_with fail
  refine (mnew_ok none 0 0 (fun _ => 0) (by decide) _ hL I0).mono ?_; rintro e w1 ⟨M, b, d, rfl, hF⟩
  have F1 : Hid (MFresh w.heap.size M b d (eW v0) 0 0 w w1) := hF.congr (fun i _ => eW_0 i) rfl rfl
  have N0 : Hid (0 ≠ M ∧ 0 ≠ b ∧ 0 ≠ d) := ⟨by have := hF.2.2.1.1; have := B0.out; omega, by have := hF.2.2.1.2.1; have := B0.out; omega, by have := hF.2.2.1.2.2; have := B0.out; omega⟩
  have FP : Hid (Far w1.heap.size M b d) := ⟨by have := hF.2.2.2; omega, by have := hF.2.2.2; omega, by have := hF.2.2.2; omega⟩
  have BP : Hid (w.heap.size ≤ w1.heap.size) := hF.2.1.size
  have AR : Hid (∀ T, ArrAt w1.heap.size 16 v0 (w1.alloc (.cells Z16 T))) := fun T => ArrAt.fresh w1 _ T v0 16 z16
  have FA : Hid (∀ o, MFresh w.heap.size M b d (eW v0) 0 0 w (w1.alloc o)) := fun o => F1.out.alloc o BP.out
  clear hF F1
  go_wp2_with fail
  go_loopw [10] (fun t wr => ∃ (k F : Nat) (V : Nat → Nat), (k : Int) ≤ len ∧ (k : Int) ≤ lenD ∧ (k : Int) ≤ 40 ∧ Hid (F ≤ 2000 * k) ∧ t = .int .i64 k ∧ Hid (∀ i, V i < 4294967296) ∧ Hid (MFresh w.heap.size M b d (eW V) F 0 w wr) ∧ Hid (ArrAt w1.heap.size 16 V wr)) (fun t _ => 40 - (intOf t).toNat)
  case atStart => exact ⟨0, 0, v0, by omega, by omega, by decide, Nat.le_refl 0, rfl, fun i => by unfold v0; decide, FA.out _, AR.out _⟩
  case round =>
    obtain ⟨k, F, V, hk, hk2, hk3, HFK, rfl, HV, HF, HAR⟩ := hrel
    rename_i wr
    clear FA AR
    by_cases h1 : (k : Int) < len
    · by_cases h2 : (k : Int) < lenD
      · by_cases h3 : (k : Int) < 40
        · obtain ⟨b1, o1, rfl, c1, x1, hz1⟩ := hA.out k (by omega)
          have y1 : wr.cell? ⟨b1, o1 + k, none⟩ = some (.int .u32 (zs k)) := by rw [HF.out.2.1.cell _ _ c1]; exact x1
          obtain ⟨l1, u1⟩ := bounds_u32 hz1
          obtain ⟨q, hq, hq1⟩ := and15u (zs k) l1 u1
          generalize zs k = aa at *
          obtain ⟨b2, o2, rfl, c2, x2, hz2⟩ := hD.out k (by omega)
          obtain ⟨l2, u2⟩ := bounds_u32 hz2
          obtain ⟨dv, hdv⟩ := Int.eq_ofNat_of_zero_le l2
          have y2 : wr.cell? ⟨b2, o2 + k, none⟩ = some (.int .u32 (dv : Nat)) := by rw [HF.out.2.1.cell _ _ c2, x2, hdv]
          have D1 : Hid (dv < 4294967296) := by unfold Hid; omega
          have CC2 := hideP c2
          have Q1 : Hid (q < 16) := hq1
          have hq2 : (q : Int) < 16 := by omega
          have L := hideP (HF.out.laid hL.out B0.out)
          have FF : Hid ((F : Int) ≤ 4000000000000000000) := by have := HFK.out; unfold Hid; omega
          have FG : Hid ((F : Int) ≤ 3000000000000000000) := by have := HFK.out; unfold Hid; omega
          have SE : Hid (stE (eW V) (4 * (q : Int)) 15 = 0) := st_E V HV.out q (by omega)
          clear x1 x2 c1 c2 hz1 hz2 l1 u1 l2 u2 hdv hq1
          go_wp2_with fail
          refine (mstore_as M b d F 0 (eW V) _ _ _ _ (by omega) (by omega) (by omega) (by have := D1.out; omega) FF.out SE _ L N0 HF.out.1).mono ?_; rintro e w3 ⟨rfl, hF⟩
          have F3 : Hid (MFresh w.heap.size M b d (eW (upd V q dv)) F 0 w w3) := (HF.out.now hF).congr (fun i _ => st_W V HV.out q (by have := Q1.out; omega) dv D1.out i) (st_F V HV.out q F (by have := Q1.out; omega)) rfl
          have A3 := hideP (HAR.out.now hF FP.out)
          have W3 : Hid (∀ i, upd V q dv i < 4294967296) := upd_lt V HV.out q dv D1.out
          have y3 : w3.cell? ⟨b2, o2 + k, none⟩ = some (.int .u32 (dv : Nat)) := by rw [F3.out.2.1.cell _ _ CC2.out]; rw [← HF.out.2.1.cell _ _ CC2.out]; exact y2
          have p3 := A3.out.hw q Q1.out
          have s3 := A3.out.zw q Q1.out
          clear hF y1 y2
          have F4 := hideP (F3.out.put (o := q) (v := .int .u32 (dv : Nat)) FP.out BP.out)
          have A4 := hideP (A3.out.put q dv Q1.out)
          have HFN : Hid (F + 1024 ≤ 2000 * (k + 1)) := by have := HFK.out; unfold Hid; omega
          by_cases h4 : (k : Int) < lenK
          · obtain ⟨b3, o3, rfl, c3, x3, hz3⟩ := hK.out k (by omega)
            have CC3 := hideP c3
            have y5 : w3.cell? ⟨b3, o3 + k, none⟩ = some (.int .i64 (bl k)) := by rw [F3.out.2.1.cell _ _ c3]; exact x3
            have y4 : (w3.setCell ⟨w1.heap.size, q, none⟩ (.int .u32 (dv : Nat))).cell? ⟨b3, o3 + k, none⟩ = some (.int .i64 (bl k)) := by rw [F4.out.2.1.cell _ _ c3]; exact x3
            clear y5
            obtain ⟨q0, hq0, hq00⟩ := and63 (bl k)
            have hq01 : (q0 : Int) < 64 := by omega
            obtain ⟨p, hp, hp0⟩ : ∃ p : Nat, bits .and .i64 (bl k / 64) 15 = (p : Int) ∧ p < 16 := ⟨(bl k / 64 % 16).toNat, by rw [and15]; omega, by omega⟩
            have hp1 : (p : Int) < 16 := by omega
            have P1 : Hid (p < 1024) := by unfold Hid; omega
            have T1 : Hid (q0 % 39 < 39) := Nat.mod_lt _ (by decide)
            generalize bl k = bk at *
            have EI : Hid (39 * (p : Int) + (q0 : Int) % 39 = ((39 * p + q0 % 39 : Nat) : Int)) := by unfold Hid; omega
            obtain ⟨t, ht⟩ : ∃ t : Int, IntKind.i64.wrap (IntKind.i64.wrap (39 * (p : Int)) + (q0 : Int).tmod 39) = t := ⟨_, rfl⟩
            have EE : t = ((39 * p + q0 % 39 : Nat) : Int) := ht.symm.trans (turn_at p q0 hp0 hq00)
            have HEE := hideP EE
            clear EE
            have SF : Hid (scE (tW (upd V q dv) p (q0 % 39)) 0 (scn 1024) = 0) := tW_scE _ W3.out p _ T1.out
            obtain ⟨x, X⟩ : ∃ x : Int, Hid (((scV (tW (upd V q dv) p (q0 % 39)) 0 (scn 1024) : Nat) : Int) = x) := ⟨_, rfl⟩
            clear x3 c3 hz3 hq00 hp0
            go_wp2_with fail
            generalize w3.setCell ⟨w1.heap.size, q, none⟩ (.int .u32 (dv : Nat)) = w4 at *
            go_region_with (go_at_call 11; refine (mflip_as M b d F 0 (eW (upd V q dv)) _ _ (inF_in (n := 1024) HEE.out P1.out T1.out) _ (by exact MemAt.drewn F4.out.1)).mono ?_; rintro e w5 ⟨rfl, hF⟩)
            all_goals
              have F5 : Hid (MFresh w.heap.size M b d (tW (upd V q dv) p (q0 % 39)) F 0 w w5) := (F4.out.now hF.drew).congr (fun i _ => congrFun (tW_flip _ p _ P1.out T1.out _ HEE.out) i) rfl rfl
              have A5 := hideP (A4.out.now hF.drew FP.out)
              have L5 := hideP (F5.out.laid hL.out B0.out)
              clear hF
              go_wp2_with fail
              refine (mscrub_as M b d F 0 _ _ FG.out _ _ X SF _ L5 N0 F5.out.1).mono ?_; rintro e w6 ⟨rfl, hF⟩
              have F6 := hideP ((F5.out.now hF).congr (fun i hi => tW_sc _ W3.out p _ T1.out i hi) rfl rfl)
              have A6 := hideP (A5.out.now hF FP.out)
              have G6 := hideP (tW_scF (upd V q dv) p (q0 % 39) F)
              clear hF
              go_wp2_with fail
              exact ⟨⟨k + 1, _, upd V q dv, by omega, by omega, by omega, (by have := HFN.out; have := G6.out; exact Nat.le_trans this (by omega)), by rw [Int.natCast_add]; rfl, W3, F6, A6⟩, by simp [intOf]; omega⟩
          · go_wp2_with fail
            exact ⟨⟨k + 1, F, upd V q dv, by omega, by omega, by omega, (by have := HFN.out; unfold Hid; omega), by rw [Int.natCast_add]; rfl, W3, F4, A4⟩, by simp [intOf]; omega⟩
        · go_wp2_with fail
          go_loopw [90] (fun t vr => ∃ j : Nat, (j : Int) ≤ 16 ∧ t = .int .i64 j ∧ Hid (MFresh w.heap.size M b d (eW V) F 0 w vr) ∧ Hid (ArrAt w1.heap.size 16 V vr)) (fun t _ => 16 - (intOf t).toNat)
          case atStart => exact ⟨0, by decide, rfl, HF, HAR⟩
          case round =>
            obtain ⟨j, hj, rfl, HG, HH⟩ := hrel
            obtain ⟨vr, hvr⟩ : ∃ u, u = wr := ⟨_, rfl⟩
            subst hvr
            have L7 := hideP (HG.out.laid hL.out B0.out)
            by_cases hjl : (j : Int) < 16
            · have J1 : Hid (j < 1024) := by unfold Hid; omega
              have FF : Hid ((F : Int) ≤ 4000000000000000000) := by have := HFK.out; unfold Hid; omega
              have LV : Hid (((ldV (eW V) (4 * (j : Int)) : Nat) : Int) = (V j : Nat)) := by unfold Hid; rw [(ld_all V HV.out j (by omega)).1]
              have LE : Hid (ldE (eW V) (4 * (j : Int)) = 0) := (ld_all V HV.out j (by omega)).2.1
              have J2 : Hid (j < 16) := by unfold Hid; omega
              go_wp2_with fail
              refine (mload_as M b d F 0 (eW V) _ _ _ (by omega) (by omega) FF.out LV LE _ L7 HG.out.1).mono ?_; rintro e v2 ⟨rfl, hF⟩
              have G2 : Hid (MFresh w.heap.size M b d (eW V) F 0 w v2) := (HG.out.now hF).congr (fun i _ => by rw [(ld_all V HV.out j J1.out).2.2]) (st_F V HV.out j F J1.out) rfl
              have H2 := hideP (HH.out.now hF FP.out)
              have p2 := H2.out.hw j J2.out
              clear hF
              generalize V j = vj at *
              go_wp2_with fail
              exact ⟨⟨j + 1, by omega, by rw [Int.natCast_add]; rfl, G2, H2⟩, by simp [intOf]; omega⟩
            · go_wp2_with fail
              refine (known _ L7).mono ?_; rintro e v4 ⟨rfl, hF⟩
              have F9 := hideP (HG.out.2.1.trans (hF.mono HG.out.2.1.size))
              clear hF
              go_wp2_with fail
              go_ret
              exact ⟨rfl, F9.out⟩
      · go_wp2_with fail
        go_loopw [90] (fun t vr => ∃ j : Nat, (j : Int) ≤ 16 ∧ t = .int .i64 j ∧ Hid (MFresh w.heap.size M b d (eW V) F 0 w vr) ∧ Hid (ArrAt w1.heap.size 16 V vr)) (fun t _ => 16 - (intOf t).toNat)
        case atStart => exact ⟨0, by decide, rfl, HF, HAR⟩
        case round =>
          obtain ⟨j, hj, rfl, HG, HH⟩ := hrel
          obtain ⟨vr, hvr⟩ : ∃ u, u = wr := ⟨_, rfl⟩
          subst hvr
          have L7 := hideP (HG.out.laid hL.out B0.out)
          by_cases hjl : (j : Int) < 16
          · have J1 : Hid (j < 1024) := by unfold Hid; omega
            have FF : Hid ((F : Int) ≤ 4000000000000000000) := by have := HFK.out; unfold Hid; omega
            have LV : Hid (((ldV (eW V) (4 * (j : Int)) : Nat) : Int) = (V j : Nat)) := by unfold Hid; rw [(ld_all V HV.out j (by omega)).1]
            have LE : Hid (ldE (eW V) (4 * (j : Int)) = 0) := (ld_all V HV.out j (by omega)).2.1
            have J2 : Hid (j < 16) := by unfold Hid; omega
            go_wp2_with fail
            refine (mload_as M b d F 0 (eW V) _ _ _ (by omega) (by omega) FF.out LV LE _ L7 HG.out.1).mono ?_; rintro e v2 ⟨rfl, hF⟩
            have G2 : Hid (MFresh w.heap.size M b d (eW V) F 0 w v2) := (HG.out.now hF).congr (fun i _ => by rw [(ld_all V HV.out j J1.out).2.2]) (st_F V HV.out j F J1.out) rfl
            have H2 := hideP (HH.out.now hF FP.out)
            have p2 := H2.out.hw j J2.out
            clear hF
            generalize V j = vj at *
            go_wp2_with fail
            exact ⟨⟨j + 1, by omega, by rw [Int.natCast_add]; rfl, G2, H2⟩, by simp [intOf]; omega⟩
          · go_wp2_with fail
            refine (known _ L7).mono ?_; rintro e v4 ⟨rfl, hF⟩
            have F9 := hideP (HG.out.2.1.trans (hF.mono HG.out.2.1.size))
            clear hF
            go_wp2_with fail
            go_ret
            exact ⟨rfl, F9.out⟩
    · go_wp2_with fail
      go_loopw [90] (fun t vr => ∃ j : Nat, (j : Int) ≤ 16 ∧ t = .int .i64 j ∧ Hid (MFresh w.heap.size M b d (eW V) F 0 w vr) ∧ Hid (ArrAt w1.heap.size 16 V vr)) (fun t _ => 16 - (intOf t).toNat)
      case atStart => exact ⟨0, by decide, rfl, HF, HAR⟩
      case round =>
        obtain ⟨j, hj, rfl, HG, HH⟩ := hrel
        obtain ⟨vr, hvr⟩ : ∃ u, u = wr := ⟨_, rfl⟩
        subst hvr
        have L7 := hideP (HG.out.laid hL.out B0.out)
        by_cases hjl : (j : Int) < 16
        · have J1 : Hid (j < 1024) := by unfold Hid; omega
          have FF : Hid ((F : Int) ≤ 4000000000000000000) := by have := HFK.out; unfold Hid; omega
          have LV : Hid (((ldV (eW V) (4 * (j : Int)) : Nat) : Int) = (V j : Nat)) := by unfold Hid; rw [(ld_all V HV.out j (by omega)).1]
          have LE : Hid (ldE (eW V) (4 * (j : Int)) = 0) := (ld_all V HV.out j (by omega)).2.1
          have J2 : Hid (j < 16) := by unfold Hid; omega
          go_wp2_with fail
          refine (mload_as M b d F 0 (eW V) _ _ _ (by omega) (by omega) FF.out LV LE _ L7 HG.out.1).mono ?_; rintro e v2 ⟨rfl, hF⟩
          have G2 : Hid (MFresh w.heap.size M b d (eW V) F 0 w v2) := (HG.out.now hF).congr (fun i _ => by rw [(ld_all V HV.out j J1.out).2.2]) (st_F V HV.out j F J1.out) rfl
          have H2 := hideP (HH.out.now hF FP.out)
          have p2 := H2.out.hw j J2.out
          clear hF
          generalize V j = vj at *
          go_wp2_with fail
          exact ⟨⟨j + 1, by omega, by rw [Int.natCast_add]; rfl, G2, H2⟩, by simp [intOf]; omega⟩
        · go_wp2_with fail
          refine (known _ L7).mono ?_; rintro e v4 ⟨rfl, hF⟩
          have F9 := hideP (HG.out.2.1.trans (hF.mono HG.out.2.1.size))
          clear hF
          go_wp2_with fail
          go_ret
          exact ⟨rfl, F9.out⟩
end Go.Proofs.YtekafmnpojbbdaaDoor.Walks
