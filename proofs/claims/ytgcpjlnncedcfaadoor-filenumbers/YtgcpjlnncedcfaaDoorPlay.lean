/- Contract of the law's own 'play': a file and a row that are played side by side tell the same. -/
import Derived.Test.YtgcpjlnncedcfaaDoorFPair
import Derived.Test.YtgcpjlnncedcfaaDoorAsks
import Derived.Deep.RegionHeld3
import Derived.Deep.QuietTactic
import Derived.BigQuiet
namespace Go.Proofs.YtgcpjlnncedcfaaDoor.Walks
open Go.ChangeShapes Go.WideShapes Go.ChangeAt Go.RowKit
set_option linter.unusedVariables false
theorem MemAt.heap {M b d f nx : Nat} {ws : Nat → Nat} {w w' : World} (h : MemAt M b d ws f nx w) (hh : w'.heap = w.heap) : MemAt M b d ws f nx w' := h.of_blocks (by rw [hh]) (by rw [hh]) (by rw [hh])
theorem refnew_n (i : Int) (n : Nat) (h : Hid ((n : Int) = i)) (hn : (n : Int) ≤ 2048) (w : World) : Calls Tryd.prog 16 #[.int .i64 i] w fun e w' => ∃ b d, e = .returned (.pointer (some ⟨b, 0, none⟩)) ∧ Fresh w.heap.size b d n w0 0 w w' := by
  have := refnew_ex i w
  have e : newN i = n := by have := h.out; unfold newN; omega
  rw [e] at this
  exact this
theorem ptW_out {n : Nat} {ws : Nat → Nat} {i : Int} {v : Nat} (h : inB n i = false) : ptW n ws i v = ws := by unfold ptW; rw [h]; rfl
theorem nxF_at (q q' : Nat) (hq : (q : Int) ≤ 30) (h : (q + 1) % 31 = q') : nxF (q + 1) = q' + 1 := by unfold nxF; split <;> omega
theorem arr_far {B C M b d b' d' f nx f' : Nat} {ws ws' : Nat → Nat} {w wr : World} (h : FPair B C M b d b' d' ws f nx ws' f' w wr) : B ≤ wr.heap.size ∧ wr.heap.size ≠ M ∧ wr.heap.size ≠ b ∧ wr.heap.size ≠ d ∧ wr.heap.size ≠ b' ∧ wr.heap.size ≠ d' := by
  have := h.old
  have := h.l1
  omega
/-- while play gathers what must be told: its array at A, both rows, at world v -/
structure EndAt (A B C M b d b' d' : Nat) (ws : Nat → Nat) (f nx k : Nat) (w v : World) : Prop where
  a : ArrAt A 32 (arK ws k) v
  p : FPair B C M b d b' d' ws f nx ws f w v
  far : B ≤ A ∧ A ≠ M ∧ A ≠ b ∧ A ≠ d ∧ A ≠ b' ∧ A ≠ d'
  lt : A < v.heap.size
theorem EndAt.alike {A B C M b d b' d' f nx k : Nat} {ws : Nat → Nat} {w v v' : World} (h : EndAt A B C M b d b' d' ws f nx k w v) (e : v'.Alike v) : EndAt A B C M b d b' d' ws f nx k w v' :=
  ⟨h.a.alike e, h.p.alike e, h.far, by rw [e.1]; exact h.lt⟩
theorem EndAt.step {A B C M b d b' d' f nx k x : Nat} {ws : Nat → Nat} {w v : World} (h : EndAt A B C M b d b' d' ws f nx k w v) (hk : k + 1 < 32) (hx : vw ws k = x) : EndAt A B C M b d b' d' ws f nx (k + 1) w (v.setCell ⟨A, k + 1, none⟩ (.int .u32 (x : Int))) := by
  have t := TouA.set A (k + 1) v (.int .u32 (x : Int))
  exact ⟨(h.a.put (k + 1) x hk).congr (fun i _ => arK_next ws k x hx i), h.p.arr t h.far, h.far, by rw [t.size]; exact h.lt⟩
structure EndAt2 (A B C M b d b' d' : Nat) (ws : Nat → Nat) (f nx : Nat) (w v : World) : Prop where
  a : ArrAt A 32 (arF ws) v
  p : FPair B C M b d b' d' ws f nx ws f w v
  far : B ≤ A ∧ A ≠ M ∧ A ≠ b ∧ A ≠ d ∧ A ≠ b' ∧ A ≠ d'
  lt : A < v.heap.size
theorem arr_past {A : Nat} {zs : Nat → Nat} {V2 V3 : World} {o : Obj} (h : ArrAt A 32 zs V2) (hA : A < V2.heap.size) (t : TouA V2.heap.size (V2.alloc o) V3) : ArrAt A 32 zs V3 :=
  (h.frb (FrB.alloc V2 o) hA).of_block (t.block A (by omega))
theorem fr_past {B : Nat} {w V2 V3 : World} {o : Obj} (h : FrB B w V2) (t : TouA V2.heap.size (V2.alloc o) V3) (hB : B ≤ V2.heap.size) : FrB B w V3 :=
  (h.trans ((FrB.alloc V2 o).mono hB)).trans (FrB.toua t hB)
set_option maxRecDepth 100000 in
set_option maxHeartbeats 4000000 in
theorem play (K : Option Addr) (len cap : Nat) (kd ix nn : Nat → Int) (w : World) (hL : Hid (Laid w)) (hK : Hid (AsksIn w K len kd ix nn)) :
    Calls Tryd.prog 7 #[.slice K len cap] w fun e w' => e = .returned (.bool true) ∧ FrB w.heap.size w w' := by
  have B0 := hideP hL.out.pos
  go_enter Tryd.func7, Tryd.ntmps7
  go_wp2_with fail
  refine (fnew_as _ hL).mono ?_; rintro e w1 ⟨M, b, d, rfl, hF⟩
  have F1 : Hid (MFresh w.heap.size M b d w0 0 1 w w1) := hF
  clear hF
  go_wp2_with fail
  refine (refnew_n _ 31 rfl (by decide) _).mono ?_; rintro e w2 ⟨b', d', rfl, hF⟩
  have P2 : Hid (FPair w.heap.size w1.heap.size M b d b' d' w0 0 1 w0 0 w w2) := FPair.lay F1.out hF F1.out.2.1.size
  generalize w1.heap.size = C at *
  clear hF F1
  go_wp2_with fail
  go_loopw [5, 6] (fun t5 t6 wr => ∃ (k f q : Nat) (ws : Nat → Nat), (k : Int) ≤ len ∧ (k : Int) ≤ 100 ∧ (q : Int) ≤ 30 ∧ Hid (f ≤ k) ∧ t5 = .int .i64 q ∧ t6 = .int .i64 k ∧ Hid (FPair w.heap.size C M b d b' d' ws f (q + 1) ws f w wr)) (fun _ t6 _ => 100 - (intOf t6).toNat)
  case atStart => exact ⟨0, 0, 0, w0, by omega, by decide, by decide, Nat.le_refl 0, rfl, rfl, P2⟩
  case round =>
    obtain ⟨k, f, q, ws, hk, hk2, hq, HFK, rfl, rfl, HP⟩ := hrel
    rename_i wr
    clear P2
    by_cases hlt : (k : Int) < len
    · by_cases hlt2 : (k : Int) < 100
      · obtain ⟨b0, o0, rfl, cb, c0, c1, c2, n0, n1, n2⟩ := hK.out k (by omega)
        have e0 : wr.cell? ⟨b0, o0 + k * 3, none⟩ = some (.int .i64 (kd k)) := by rw [HP.out.fr.cell _ _ cb]; exact c0
        have e1 : wr.cell? ⟨b0, o0 + k * 3 + 1, none⟩ = some (.int .i64 (ix k)) := by rw [HP.out.fr.cell _ _ cb]; exact c1
        have e2 : wr.cell? ⟨b0, o0 + k * 3 + 2, none⟩ = some (.int .u32 (nn k)) := by rw [HP.out.fr.cell _ _ cb]; exact c2
        have N0 := hideP n0
        have N1 := hideP n1
        have N2 := hideP n2
        clear c0 c1 c2 cb n0 n1 n2
        have HPA := fun c => hideP (HP.out.alloc (.cells c 25) HP.out.fr.size)
        have HLA := fun c => hideP ((HPA c).out.laid hL.out B0.out)
        have xb := hideP HP.out.off
        have CA : Hid (∀ c : Array Value, ∀ o, (wr.alloc (.cells c 25)).cell? ⟨wr.heap.size, o, none⟩ = c[o]?) := fun c o => World.cell?_alloc_at _ _ _ _ rfl
        have xb1 : Hid (wr.heap.size ≠ M ∧ wr.heap.size ≠ b ∧ wr.heap.size ≠ d) := ⟨xb.out.1, xb.out.2.1, xb.out.2.2.1⟩
        have FB : Hid ((f : Int) ≤ 4611686018427387903) := by have := HFK.out; unfold Hid; omega
        have hkl := hideP hk
        generalize kd k = kk at *
        generalize ix k = ii at *
        generalize nn k = vv at *
        have HPB := hideP HPA
        have HLB := hideP HLA
        clear HPA HLA hk
        by_cases h2 : kk = 2
        · subst h2
          by_cases i0 : ii = 0
          · subst i0
            go_wp2_with fail
            refine (fwrite_0 M _ _).mono ?_; rintro e w' ⟨rfl, rfl⟩
            go_wp2_with fail
            exact ⟨⟨k + 1, _, q, _, by omega, by omega, by omega, (by have := HFK.out; unfold Hid; omega), rfl, by rw [Int.natCast_add]; rfl, (HPB.out _)⟩, by simp [intOf]; omega⟩
          · by_cases i1 : 0 < ii
            · by_cases i2 : ii < 32
              · have jw : wrap64 (ii - 1) = ii - 1 := by unfold wrap64; omega
                have G : Hid (inB 31 (ii - 1) = true) := inB_yes (by omega) (by omega)
                have JW := hideP jw
                have i0' : (ii == 0) = false := by rw [beq_eq_false_iff_ne]; exact i0
                have I0 := hideP i0'
                clear jw i0'
                go_wp2_with fail
                refine (fwrite_as M b d f (q + 1) ws ii _ vv I0.out JW.out _ G N0.out N1.out _ (HLB.out _) (by exact hideP (HPB.out _).out.r1)).mono ?_; rintro e w3 ⟨rfl, hF⟩
                have P3 := hideP ((HPB.out _).out.now1 hF)
                have y1 : w3.cell? ⟨wr.heap.size, 1, none⟩ = some (.int .i64 ii) := by rw [hF.cell _ xb1.out, CA.out]; rfl
                have y2 : w3.cell? ⟨wr.heap.size, 2, none⟩ = some (.int .u32 vv) := by rw [hF.cell _ xb1.out, CA.out]; rfl
                clear hF
                go_wp2_with fail
                refine (refput_as b' d' 31 f ws _ _ _ G N0.out N1.out (by decide) _ (by exact hideP P3.out.r2)).mono ?_; rintro e w4 ⟨rfl, hF⟩
                have P4 := hideP (P3.out.now2 hF)
                clear hF
                go_wp2_with fail
                exact ⟨⟨k + 1, _, q, _, by omega, by omega, by omega, (by have := HFK.out; unfold Hid; omega), rfl, by rw [Int.natCast_add]; rfl, P4⟩, by simp [intOf]; omega⟩
              · obtain ⟨j, J⟩ : ∃ j, Hid (wrap64 (ii - 1) = j) := ⟨_, rfl⟩
                have G : Hid (inB 31 j = false) := by
                  have := J.out
                  have := N2.out
                  unfold In64 at this
                  unfold Hid
                  unfold wrap64 at *
                  unfold inB
                  rw [Bool.and_eq_false_iff]
                  simp only [decide_eq_false_iff_not]
                  omega
                have i0' : (ii == 0) = false := by rw [beq_eq_false_iff_ne]; exact i0
                have I0 := hideP i0'
                clear i0'
                go_wp2_with fail
                refine (fwrite_as M b d f (q + 1) ws ii _ vv I0.out J.out _ G N0.out N1.out _ (HLB.out _) (by exact hideP (HPB.out _).out.r1)).mono ?_; rintro e w3 ⟨rfl, hF⟩
                rw [ptW_out G.out] at hF
                have P3 := hideP ((HPB.out _).out.now1 hF)
                clear hF
                go_wp2_with fail
                exact ⟨⟨k + 1, _, q, _, by omega, by omega, by omega, (by have := HFK.out; unfold Hid; omega), rfl, by rw [Int.natCast_add]; rfl, P3⟩, by simp [intOf]; omega⟩
            · have i3 : ii < 0 := by omega
              obtain ⟨j, J⟩ : ∃ j, Hid (wrap64 (ii - 1) = j) := ⟨_, rfl⟩
              have G : Hid (inB 31 j = false) := by
                have := J.out
                have := N2.out
                unfold In64 at this
                unfold Hid
                unfold wrap64 at *
                unfold inB
                rw [Bool.and_eq_false_iff]
                simp only [decide_eq_false_iff_not]
                omega
              have i0' : (ii == 0) = false := by rw [beq_eq_false_iff_ne]; exact i0
              have I0 := hideP i0'
              clear i0'
              go_wp2_with fail
              refine (fwrite_as M b d f (q + 1) ws ii _ vv I0.out J.out _ G N0.out N1.out _ (HLB.out _) (by exact hideP (HPB.out _).out.r1)).mono ?_; rintro e w3 ⟨rfl, hF⟩
              rw [ptW_out G.out] at hF
              have P3 := hideP ((HPB.out _).out.now1 hF)
              clear hF
              go_wp2_with fail
              exact ⟨⟨k + 1, _, q, _, by omega, by omega, by omega, (by have := HFK.out; unfold Hid; omega), rfl, by rw [Int.natCast_add]; rfl, P3⟩, by simp [intOf]; omega⟩
        by_cases h3 : kk = 3
        · subst h3
          by_cases i0 : ii = 0
          · subst i0
            go_wp2_with fail
            refine (fwrite_0 M _ _).mono ?_; rintro e w' ⟨rfl, rfl⟩
            go_wp2_with fail
            exact ⟨⟨k + 1, _, q, _, by omega, by omega, by omega, (by have := HFK.out; unfold Hid; omega), rfl, by rw [Int.natCast_add]; rfl, (HPB.out _)⟩, by simp [intOf]; omega⟩
          · by_cases i1 : 0 < ii
            · by_cases i2 : ii < 32
              · have jw : wrap64 (ii - 1) = ii - 1 := by unfold wrap64; omega
                have G : Hid (inB 31 (ii - 1) = true) := inB_yes (by omega) (by omega)
                have JW := hideP jw
                have i0' : (ii == 0) = false := by rw [beq_eq_false_iff_ne]; exact i0
                have I0 := hideP i0'
                clear jw i0'
                go_wp2_with fail
                refine (fwrite_as M b d f (q + 1) ws ii _ vv I0.out JW.out _ G N0.out N1.out _ (HLB.out _) (by exact hideP (HPB.out _).out.r1)).mono ?_; rintro e w3 ⟨rfl, hF⟩
                have P3 := hideP ((HPB.out _).out.now1 hF)
                have y1 : w3.cell? ⟨wr.heap.size, 1, none⟩ = some (.int .i64 ii) := by rw [hF.cell _ xb1.out, CA.out]; rfl
                have y2 : w3.cell? ⟨wr.heap.size, 2, none⟩ = some (.int .u32 vv) := by rw [hF.cell _ xb1.out, CA.out]; rfl
                clear hF
                go_wp2_with fail
                refine (refput_as b' d' 31 f ws _ _ _ G N0.out N1.out (by decide) _ (by exact hideP P3.out.r2)).mono ?_; rintro e w4 ⟨rfl, hF⟩
                have P4 := hideP (P3.out.now2 hF)
                clear hF
                go_wp2_with fail
                exact ⟨⟨k + 1, _, q, _, by omega, by omega, by omega, (by have := HFK.out; unfold Hid; omega), rfl, by rw [Int.natCast_add]; rfl, P4⟩, by simp [intOf]; omega⟩
              · obtain ⟨j, J⟩ : ∃ j, Hid (wrap64 (ii - 1) = j) := ⟨_, rfl⟩
                have G : Hid (inB 31 j = false) := by
                  have := J.out
                  have := N2.out
                  unfold In64 at this
                  unfold Hid
                  unfold wrap64 at *
                  unfold inB
                  rw [Bool.and_eq_false_iff]
                  simp only [decide_eq_false_iff_not]
                  omega
                have i0' : (ii == 0) = false := by rw [beq_eq_false_iff_ne]; exact i0
                have I0 := hideP i0'
                clear i0'
                go_wp2_with fail
                refine (fwrite_as M b d f (q + 1) ws ii _ vv I0.out J.out _ G N0.out N1.out _ (HLB.out _) (by exact hideP (HPB.out _).out.r1)).mono ?_; rintro e w3 ⟨rfl, hF⟩
                rw [ptW_out G.out] at hF
                have P3 := hideP ((HPB.out _).out.now1 hF)
                clear hF
                go_wp2_with fail
                exact ⟨⟨k + 1, _, q, _, by omega, by omega, by omega, (by have := HFK.out; unfold Hid; omega), rfl, by rw [Int.natCast_add]; rfl, P3⟩, by simp [intOf]; omega⟩
            · have i3 : ii < 0 := by omega
              obtain ⟨j, J⟩ : ∃ j, Hid (wrap64 (ii - 1) = j) := ⟨_, rfl⟩
              have G : Hid (inB 31 j = false) := by
                have := J.out
                have := N2.out
                unfold In64 at this
                unfold Hid
                unfold wrap64 at *
                unfold inB
                rw [Bool.and_eq_false_iff]
                simp only [decide_eq_false_iff_not]
                omega
              have i0' : (ii == 0) = false := by rw [beq_eq_false_iff_ne]; exact i0
              have I0 := hideP i0'
              clear i0'
              go_wp2_with fail
              refine (fwrite_as M b d f (q + 1) ws ii _ vv I0.out J.out _ G N0.out N1.out _ (HLB.out _) (by exact hideP (HPB.out _).out.r1)).mono ?_; rintro e w3 ⟨rfl, hF⟩
              rw [ptW_out G.out] at hF
              have P3 := hideP ((HPB.out _).out.now1 hF)
              clear hF
              go_wp2_with fail
              exact ⟨⟨k + 1, _, q, _, by omega, by omega, by omega, (by have := HFK.out; unfold Hid; omega), rfl, by rw [Int.natCast_add]; rfl, P3⟩, by simp [intOf]; omega⟩
        by_cases h4 : kk = 4
        · subst h4
          obtain ⟨x, X⟩ : ∃ x : Int, Hid (((pkV 31 ws (q : Int) : Nat) : Int) = x) := ⟨_, rfl⟩
          obtain ⟨s, S⟩ : ∃ s : Int, Hid (((pkS 31 ws (q : Int) : Nat) : Int) = s) := ⟨_, rfl⟩
          obtain ⟨q', Q'⟩ : ∃ q' : Nat, Hid ((q + 1) % 31 = q') := ⟨_, rfl⟩
          have ql : (q' : Int) ≤ 30 := by have := Q'.out; omega
          have e1 : ((q : Int) + 1) % 31 = q' := by have := Q'.out; omega
          have e2 : ((q : Int) + 1).tmod 31 = q' := by rw [Int.tmod_eq_emod_of_nonneg (by omega)]; exact e1
          have NX := hideP (nxF_at q q' hq Q'.out)
          have S1 : Hid (((pkS 31 ws (((q + 1 : Nat) : Int) - 1) : Nat) : Int) = s) := by unfold Hid; rw [← S.out, show ((q + 1 : Nat) : Int) - 1 = (q : Int) by omega]
          have HQ1 : Hid (((q + 1 : Nat) : Int) ≤ 31) := by unfold Hid; omega
          go_wp2_with fail
          all_goals
            refine (refget_as b' d' 31 f ws _ _ _ X S (by decide) (by have := FB.out; omega) _ (by exact hideP (HPB.out _).out.r2)).mono ?_; rintro e w3 ⟨rfl, hF⟩
            have P3 := hideP ((HPB.out _).out.now2 hF)
            have L3 := hideP (P3.out.laid hL.out B0.out)
            clear hF
            go_wp2_with fail
            refine (fscrub_as M b d f (q + 1) ws _ (by unfold Hid; omega) HQ1.out FB.out S1 _ L3 (by exact hideP P3.out.r1)).mono ?_; rintro e w4 ⟨rfl, hF⟩
            rw [NX.out, show ((q + 1 : Nat) : Int) - 1 = (q : Int) by omega] at hF
            have P4 := hideP (P3.out.now1 hF)
            clear hF
            go_wp2_with fail
            exact ⟨⟨k + 1, _, q', _, by omega, by omega, by omega, (by have := gtF_le 31 ws f (q : Int); have := HFK.out; unfold Hid; omega), rfl, by rw [Int.natCast_add]; rfl, P4⟩, by simp [intOf]; omega⟩
        by_cases h5 : kk = 5
        · subst h5
          obtain ⟨g, G⟩ : ∃ g, Hid (inF 31 ii = g) := ⟨_, rfl⟩
          go_wp2_with fail
          all_goals
            go_region_held3 (fun w' => w'.cell? ⟨wr.heap.size, 1, none⟩ = some (.int .i64 ii)) (first | go_keep | assumption)
              (first
                | (go_at_call 12; refine (fflip_as M b d f (q + 1) ws _ _ G _ (by exact hideP ((HPB.out _).out.r1.heap rfl))).mono ?_; rintro e w3 ⟨rfl, hF⟩; have P3 := hideP ((HPB.out #[.int .i64 5, .int .i64 ii, .int .u32 vv]).out.now1d hF); have y1 : w3.cell? ⟨wr.heap.size, 1, none⟩ = some (.int .i64 ii) := (hF.celld _ xb1.out).trans (CA.out #[.int .i64 5, .int .i64 ii, .int .u32 vv] 1); clear hF)
                | (go_at_call 19; refine (refflip_as b' d' 31 f ws _ _ G (by decide) _ (by exact hideP P3.out.r2)).mono ?_; rintro e w4 ⟨rfl, hF⟩; have P4 := hideP (P3.out.now2 hF); have y3 : w4.cell? ⟨wr.heap.size, 1, none⟩ = some (.int .i64 ii) := (hF.cell _ xb.out.2.2.2.1 xb.out.2.2.2.2).trans y1; clear hF))
            go_wp2_with fail
            exact ⟨⟨k + 1, _, q, _, by omega, by omega, by omega, (by have := HFK.out; unfold Hid; omega), rfl, by rw [Int.natCast_add]; rfl, P4⟩, by simp [intOf]; omega⟩
        by_cases h6 : kk = 6
        · subst h6
          obtain ⟨g, G⟩ : ∃ g, Hid (inF 31 ii = g) := ⟨_, rfl⟩
          go_wp2_with fail
          all_goals
            go_region_held3 (fun w' => w'.cell? ⟨wr.heap.size, 1, none⟩ = some (.int .i64 ii)) (first | go_keep | assumption)
              (first
                | (go_at_call 12; refine (fflip_as M b d f (q + 1) ws _ _ G _ (by exact hideP ((HPB.out _).out.r1.heap rfl))).mono ?_; rintro e w3 ⟨rfl, hF⟩; have P3 := hideP ((HPB.out #[.int .i64 6, .int .i64 ii, .int .u32 vv]).out.now1d hF); have y1 : w3.cell? ⟨wr.heap.size, 1, none⟩ = some (.int .i64 ii) := (hF.celld _ xb1.out).trans (CA.out #[.int .i64 6, .int .i64 ii, .int .u32 vv] 1); clear hF)
                | (go_at_call 19; refine (refflip_as b' d' 31 f ws _ _ G (by decide) _ (by exact hideP P3.out.r2)).mono ?_; rintro e w4 ⟨rfl, hF⟩; have P4 := hideP (P3.out.now2 hF); have y3 : w4.cell? ⟨wr.heap.size, 1, none⟩ = some (.int .i64 ii) := (hF.cell _ xb.out.2.2.2.1 xb.out.2.2.2.2).trans y1; clear hF))
            go_wp2_with fail
            exact ⟨⟨k + 1, _, q, _, by omega, by omega, by omega, (by have := HFK.out; unfold Hid; omega), rfl, by rw [Int.natCast_add]; rfl, P4⟩, by simp [intOf]; omega⟩
        have g2 : (kk == 2) = false := by rw [beq_eq_false_iff_ne]; exact h2
        have g3 : (kk == 3) = false := by rw [beq_eq_false_iff_ne]; exact h3
        have g4 : (kk == 4) = false := by rw [beq_eq_false_iff_ne]; exact h4
        have g5 : (kk == 5) = false := by rw [beq_eq_false_iff_ne]; exact h5
        have g6 : (kk == 6) = false := by rw [beq_eq_false_iff_ne]; exact h6
        clear h2 h3 h4 h5 h6
        by_cases i0 : ii = 0
        · subst i0
          go_wp2_with fail
          refine (fread_0 M _).mono ?_; rintro e w' ⟨rfl, rfl⟩
          go_wp2_with fail
          exact ⟨⟨k + 1, _, q, _, by omega, by omega, by omega, (by have := HFK.out; unfold Hid; omega), rfl, by rw [Int.natCast_add]; rfl, (HPB.out _)⟩, by simp [intOf]; omega⟩
        · obtain ⟨j, J⟩ : ∃ j, wrap64 (ii - 1) = j := ⟨_, rfl⟩
          obtain ⟨x, X⟩ : ∃ x : Int, Hid (((pkV 31 ws j : Nat) : Int) = x) := ⟨_, rfl⟩
          obtain ⟨s, S⟩ : ∃ s : Int, Hid (((pkS 31 ws j : Nat) : Int) = s) := ⟨_, rfl⟩
          have i0' : (ii == 0) = false := by rw [beq_eq_false_iff_ne]; exact i0
          go_wp2_with fail
          all_goals
            refine (fread_as M b d f (q + 1) ws ii _ _ _ i0' J FB.out X S _ (HLB.out _) (by exact hideP (HPB.out _).out.r1)).mono ?_; rintro e w3 ⟨rfl, hF⟩
            have P3 := hideP ((HPB.out _).out.now1 hF)
            have y1 : w3.cell? ⟨wr.heap.size, 1, none⟩ = some (.int .i64 ii) := by rw [hF.cell _ xb1.out, CA.out]; rfl
            clear hF
            go_wp2_with fail
            refine (refget_as b' d' 31 f ws _ _ _ X S (by decide) (by have := FB.out; omega) _ (by exact hideP P3.out.r2)).mono ?_; rintro e w4 ⟨rfl, hF⟩
            have P4 := hideP (P3.out.now2 hF)
            clear hF
            go_wp2_with fail
            exact ⟨⟨k + 1, _, q, _, by omega, by omega, by omega, (by have := gtF_le 31 ws f j; have := HFK.out; unfold Hid; omega), rfl, by rw [Int.natCast_add]; rfl, P4⟩, by simp [intOf]; omega⟩
      · have P0 := hideP HP.out
        have E1 : Hid (EndAt wr.heap.size w.heap.size C M b d b' d' ws f (q + 1) 0 w (wr.alloc (.cells z32 33))) :=
          ⟨(ArrAt.zero wr 33).congr (fun i _ => arK_0 ws i), HP.out.alloc _ HP.out.fr.size, arr_far HP.out, by simp⟩
        clear P0
        go_wp2_with fail
        generalize wr.alloc (.cells z32 33) = v1 at *
        generalize wr.heap.size = A at *
        go_loopw [16, 17] (fun t16 t17 v => ∃ (i p : Nat) (gd : Bool), (i : Int) ≤ 32 ∧ Hid (p + 1 = i) ∧ t16 = .bool gd ∧ t17 = .int .i64 i ∧ Hid (bdW ws p = !gd) ∧ Hid (EndAt A w.heap.size C M b d b' d' ws f (q + 1) p w v)) (fun _ t17 _ => 32 - (intOf t17).toNat)
        case atStart => exact ⟨1, 0, true, by decide, rfl, rfl, rfl, rfl, E1⟩
        case round =>
          obtain ⟨i, p, gd, hi, K, rfl, rfl, HG, HE⟩ := hrel
          clear E1 HP
          by_cases hil : (i : Int) < 32
          · have KL : Hid (p < 31) := by have := K.out; unfold Hid; omega
            have ks : (i : Int) - 1 = p := by have := K.out; omega
            obtain ⟨x, X⟩ : ∃ x : Nat, Hid (pkV 31 ws (p : Int) = x) := ⟨_, rfl⟩
            have XV := hideP ((pkV_in (n := 31) ws (i := (p : Int)) (k := p) rfl KL.out).symm.trans X.out)
            have SV := hideP (pkS_in (n := 31) ws (i := (p : Int)) (k := p) rfl KL.out)
            have XI : Hid (((pkV 31 ws (p : Int) : Nat) : Int) = (x : Int)) := by unfold Hid; rw [X.out]
            by_cases hs : Num.mendS (ws p) = 2
            · have S : Hid (((pkS 31 ws (p : Int) : Nat) : Int) = 2) := by unfold Hid; rw [SV.out, hs]; rfl
              have SB : Hid ((Num.mendS (ws p) == 2) = true) := by unfold Hid; rw [hs]; rfl
              clear hs
              cases gd
              · go_wp2_with fail
                refine (refpeek_as b' d' 31 f ws _ _ _ XI S (by decide) _ (by exact hideP HE.out.p.r2)).mono ?_; rintro e v2 ⟨rfl, hw⟩
                have E2 := hideP (HE.out.alike hw)
                have hk0 := E2.out.a.hw i (by omega)
                have zk0 := E2.out.a.zw i (by omega)
                clear hw
                go_wp2_with fail
                refine ⟨⟨i + 1, p + 1, false, by omega, (by have := K.out; unfold Hid; omega), rfl, by rw [Int.natCast_add]; rfl, ?_, (by have := E2.out.step (by have := KL.out; omega) XV.out; rw [K.out] at this; rw [K.out]; exact this)⟩, by simp [intOf]; omega⟩
                unfold Hid
                simp only [bdW]
                rw [HG.out, SB.out]
                rfl
              · go_wp2_with fail
                refine (refpeek_as b' d' 31 f ws _ _ _ XI S (by decide) _ (by exact hideP HE.out.p.r2)).mono ?_; rintro e v2 ⟨rfl, hw⟩
                have E2 := hideP (HE.out.alike hw)
                have hk0 := E2.out.a.hw i (by omega)
                have zk0 := E2.out.a.zw i (by omega)
                clear hw
                go_wp2_with fail
                refine ⟨⟨i + 1, p + 1, false, by omega, (by have := K.out; unfold Hid; omega), rfl, by rw [Int.natCast_add]; rfl, ?_, (by have := E2.out.step (by have := KL.out; omega) XV.out; rw [K.out] at this; rw [K.out]; exact this)⟩, by simp [intOf]; omega⟩
                unfold Hid
                simp only [bdW]
                rw [HG.out, SB.out]
                rfl
            · obtain ⟨s, S⟩ : ∃ s : Int, Hid (((pkS 31 ws (p : Int) : Nat) : Int) = s) := ⟨_, rfl⟩
              have s2 : (s == 2) = false := by rw [← S.out, SV.out, beq_eq_false_iff_ne]; omega
              have s2n : (s != 2) = true := by rw [bne_iff_ne]; rw [beq_eq_false_iff_ne] at s2; exact s2
              have SB : Hid ((Num.mendS (ws p) == 2) = false) := by unfold Hid; rw [beq_eq_false_iff_ne]; exact hs
              clear hs
              cases gd
              · go_wp2_with fail
                refine (refpeek_as b' d' 31 f ws _ _ _ XI S (by decide) _ (by exact hideP HE.out.p.r2)).mono ?_; rintro e v2 ⟨rfl, hw⟩
                have E2 := hideP (HE.out.alike hw)
                have hk0 := E2.out.a.hw i (by omega)
                have zk0 := E2.out.a.zw i (by omega)
                clear hw
                go_wp2_with fail
                refine ⟨⟨i + 1, p + 1, false, by omega, (by have := K.out; unfold Hid; omega), rfl, by rw [Int.natCast_add]; rfl, ?_, (by have := E2.out.step (by have := KL.out; omega) XV.out; rw [K.out] at this; rw [K.out]; exact this)⟩, by simp [intOf]; omega⟩
                unfold Hid
                simp only [bdW]
                rw [HG.out, SB.out]
                rfl
              · go_wp2_with fail
                refine (refpeek_as b' d' 31 f ws _ _ _ XI S (by decide) _ (by exact hideP HE.out.p.r2)).mono ?_; rintro e v2 ⟨rfl, hw⟩
                have E2 := hideP (HE.out.alike hw)
                have hk0 := E2.out.a.hw i (by omega)
                have zk0 := E2.out.a.zw i (by omega)
                clear hw
                go_wp2_with fail
                refine ⟨⟨i + 1, p + 1, true, by omega, (by have := K.out; unfold Hid; omega), rfl, by rw [Int.natCast_add]; rfl, ?_, (by have := E2.out.step (by have := KL.out; omega) XV.out; rw [K.out] at this; rw [K.out]; exact this)⟩, by simp [intOf]; omega⟩
                unfold Hid
                simp only [bdW]
                rw [HG.out, SB.out]
                rfl
          · have hp : p = 31 := by have := K.out; omega
            subst hp
            have E : ∀ W, (binOp .eql 33 (.agg (wn (arF ws) 32).toArray) (.agg (wn (arF ws) 32).toArray)).run Tryd.prog W = .ok (.bool true) W := eql33 (arF ws)
            cases gd
            · have GF := hideP (arF_bad (ws := ws) HG.out)
              go_wp2_with (first
                | (refine wpList_arr _ A (arK ws 31) HE.out.a (by rfl) _ _ rfl w0 _ z32_eq rfl rfl ?_; intro V1 hA hT; have HV : Hid (EndAt2 A w.heap.size C M b d b' d' ws f (q + 1) w V1) := ⟨(by rw [GF.out]; exact hA.out), HE.out.p.arr hT.out HE.out.far, HE.out.far, by rw [hT.out.size]; exact HE.out.lt⟩; clear hA hT))
              have LV := hideP (HV.out.p.laid hL.out B0.out)
              have PW : Hid (0 < V1.heap.size ∧ M < V1.heap.size ∧ b < V1.heap.size ∧ d < V1.heap.size) := ⟨LV.out.pos, HV.out.p.old.1⟩
              refine (fall_as M b d f (q + 1) ws false HG _ LV (hideP HV.out.p.r1) PW).mono ?_; rintro e V2 ⟨rfl, hF⟩
              have HV2 : Hid (ArrAt A 32 (arF ws) V2 ∧ FrB w.heap.size w V2 ∧ A < V2.heap.size) := ⟨HV.out.a.frb hF HV.out.lt, HV.out.p.fr.trans (hF.mono HV.out.p.fr.size), Nat.lt_of_lt_of_le HV.out.lt hF.size⟩
              clear hF HV
              have Z2 := hideP (ArrAt.zero V2 33)
              go_wp2_with (first
                | (refine wpList_arr _ V2.heap.size w0 Z2.out (by rfl) _ _ rfl (arF ws) _ rfl rfl rfl ?_; intro V3 hA hT; have R1 := hideP hA.out.range; have R2 : Hid (V3.rangeAt A 0 (wn (arF ws) 32)) := (arr_past HV2.out.1 HV2.out.2.2 hT.out).range; have F3 : Hid (FrB w.heap.size w V3) := fr_past HV2.out.2.1 hT.out HV2.out.2.1.size; clear hA hT)
                | (refine load_want (by rfl) 33 _ rfl V2.heap.size 0 rfl (wn (arF ws) 32) _ R1.out Tryd.underlying33 rfl (by rw [wn_len]; exact size33) ?_)
                | (refine load_want (by rfl) 33 _ rfl A 0 rfl (wn (arF ws) 32) _ R2.out Tryd.underlying33 rfl (by rw [wn_len]; exact size33) ?_))
              go_ret
              exact ⟨rfl, F3.out⟩
            · have GF := hideP (arF_good (ws := ws) HG.out)
              have HV : Hid (EndAt2 A w.heap.size C M b d b' d' ws f (q + 1) w wr) := ⟨(by rw [GF.out]; exact HE.out.a), HE.out.p, HE.out.far, HE.out.lt⟩
              go_wp2_with fail
              have LV := hideP (HV.out.p.laid hL.out B0.out)
              have PW : Hid (0 < wr.heap.size ∧ M < wr.heap.size ∧ b < wr.heap.size ∧ d < wr.heap.size) := ⟨LV.out.pos, HV.out.p.old.1⟩
              refine (fall_as M b d f (q + 1) ws true HG _ LV (hideP HV.out.p.r1) PW).mono ?_; rintro e V2 ⟨rfl, hF⟩
              have HV2 : Hid (ArrAt A 32 (arF ws) V2 ∧ FrB w.heap.size w V2 ∧ A < V2.heap.size) := ⟨HV.out.a.frb hF HV.out.lt, HV.out.p.fr.trans (hF.mono HV.out.p.fr.size), Nat.lt_of_lt_of_le HV.out.lt hF.size⟩
              clear hF HV
              have Z2 := hideP (ArrAt.zero V2 33)
              go_wp2_with (first
                | (refine wpList_arr _ V2.heap.size w0 Z2.out (by rfl) _ _ rfl (arF ws) _ rfl rfl rfl ?_; intro V3 hA hT; have R1 := hideP hA.out.range; have R2 : Hid (V3.rangeAt A 0 (wn (arF ws) 32)) := (arr_past HV2.out.1 HV2.out.2.2 hT.out).range; have F3 : Hid (FrB w.heap.size w V3) := fr_past HV2.out.2.1 hT.out HV2.out.2.1.size; clear hA hT)
                | (refine load_want (by rfl) 33 _ rfl V2.heap.size 0 rfl (wn (arF ws) 32) _ R1.out Tryd.underlying33 rfl (by rw [wn_len]; exact size33) ?_)
                | (refine load_want (by rfl) 33 _ rfl A 0 rfl (wn (arF ws) 32) _ R2.out Tryd.underlying33 rfl (by rw [wn_len]; exact size33) ?_))
              go_ret
              exact ⟨rfl, F3.out⟩
    · have P0 := hideP HP.out
      have E1 : Hid (EndAt wr.heap.size w.heap.size C M b d b' d' ws f (q + 1) 0 w (wr.alloc (.cells z32 33))) :=
        ⟨(ArrAt.zero wr 33).congr (fun i _ => arK_0 ws i), HP.out.alloc _ HP.out.fr.size, arr_far HP.out, by simp⟩
      clear P0
      go_wp2_with fail
      generalize wr.alloc (.cells z32 33) = v1 at *
      generalize wr.heap.size = A at *
      go_loopw [16, 17] (fun t16 t17 v => ∃ (i p : Nat) (gd : Bool), (i : Int) ≤ 32 ∧ Hid (p + 1 = i) ∧ t16 = .bool gd ∧ t17 = .int .i64 i ∧ Hid (bdW ws p = !gd) ∧ Hid (EndAt A w.heap.size C M b d b' d' ws f (q + 1) p w v)) (fun _ t17 _ => 32 - (intOf t17).toNat)
      case atStart => exact ⟨1, 0, true, by decide, rfl, rfl, rfl, rfl, E1⟩
      case round =>
        obtain ⟨i, p, gd, hi, K, rfl, rfl, HG, HE⟩ := hrel
        clear E1 HP
        by_cases hil : (i : Int) < 32
        · have KL : Hid (p < 31) := by have := K.out; unfold Hid; omega
          have ks : (i : Int) - 1 = p := by have := K.out; omega
          obtain ⟨x, X⟩ : ∃ x : Nat, Hid (pkV 31 ws (p : Int) = x) := ⟨_, rfl⟩
          have XV := hideP ((pkV_in (n := 31) ws (i := (p : Int)) (k := p) rfl KL.out).symm.trans X.out)
          have SV := hideP (pkS_in (n := 31) ws (i := (p : Int)) (k := p) rfl KL.out)
          have XI : Hid (((pkV 31 ws (p : Int) : Nat) : Int) = (x : Int)) := by unfold Hid; rw [X.out]
          by_cases hs : Num.mendS (ws p) = 2
          · have S : Hid (((pkS 31 ws (p : Int) : Nat) : Int) = 2) := by unfold Hid; rw [SV.out, hs]; rfl
            have SB : Hid ((Num.mendS (ws p) == 2) = true) := by unfold Hid; rw [hs]; rfl
            clear hs
            cases gd
            · go_wp2_with fail
              refine (refpeek_as b' d' 31 f ws _ _ _ XI S (by decide) _ (by exact hideP HE.out.p.r2)).mono ?_; rintro e v2 ⟨rfl, hw⟩
              have E2 := hideP (HE.out.alike hw)
              have hk0 := E2.out.a.hw i (by omega)
              have zk0 := E2.out.a.zw i (by omega)
              clear hw
              go_wp2_with fail
              refine ⟨⟨i + 1, p + 1, false, by omega, (by have := K.out; unfold Hid; omega), rfl, by rw [Int.natCast_add]; rfl, ?_, (by have := E2.out.step (by have := KL.out; omega) XV.out; rw [K.out] at this; rw [K.out]; exact this)⟩, by simp [intOf]; omega⟩
              unfold Hid
              simp only [bdW]
              rw [HG.out, SB.out]
              rfl
            · go_wp2_with fail
              refine (refpeek_as b' d' 31 f ws _ _ _ XI S (by decide) _ (by exact hideP HE.out.p.r2)).mono ?_; rintro e v2 ⟨rfl, hw⟩
              have E2 := hideP (HE.out.alike hw)
              have hk0 := E2.out.a.hw i (by omega)
              have zk0 := E2.out.a.zw i (by omega)
              clear hw
              go_wp2_with fail
              refine ⟨⟨i + 1, p + 1, false, by omega, (by have := K.out; unfold Hid; omega), rfl, by rw [Int.natCast_add]; rfl, ?_, (by have := E2.out.step (by have := KL.out; omega) XV.out; rw [K.out] at this; rw [K.out]; exact this)⟩, by simp [intOf]; omega⟩
              unfold Hid
              simp only [bdW]
              rw [HG.out, SB.out]
              rfl
          · obtain ⟨s, S⟩ : ∃ s : Int, Hid (((pkS 31 ws (p : Int) : Nat) : Int) = s) := ⟨_, rfl⟩
            have s2 : (s == 2) = false := by rw [← S.out, SV.out, beq_eq_false_iff_ne]; omega
            have s2n : (s != 2) = true := by rw [bne_iff_ne]; rw [beq_eq_false_iff_ne] at s2; exact s2
            have SB : Hid ((Num.mendS (ws p) == 2) = false) := by unfold Hid; rw [beq_eq_false_iff_ne]; exact hs
            clear hs
            cases gd
            · go_wp2_with fail
              refine (refpeek_as b' d' 31 f ws _ _ _ XI S (by decide) _ (by exact hideP HE.out.p.r2)).mono ?_; rintro e v2 ⟨rfl, hw⟩
              have E2 := hideP (HE.out.alike hw)
              have hk0 := E2.out.a.hw i (by omega)
              have zk0 := E2.out.a.zw i (by omega)
              clear hw
              go_wp2_with fail
              refine ⟨⟨i + 1, p + 1, false, by omega, (by have := K.out; unfold Hid; omega), rfl, by rw [Int.natCast_add]; rfl, ?_, (by have := E2.out.step (by have := KL.out; omega) XV.out; rw [K.out] at this; rw [K.out]; exact this)⟩, by simp [intOf]; omega⟩
              unfold Hid
              simp only [bdW]
              rw [HG.out, SB.out]
              rfl
            · go_wp2_with fail
              refine (refpeek_as b' d' 31 f ws _ _ _ XI S (by decide) _ (by exact hideP HE.out.p.r2)).mono ?_; rintro e v2 ⟨rfl, hw⟩
              have E2 := hideP (HE.out.alike hw)
              have hk0 := E2.out.a.hw i (by omega)
              have zk0 := E2.out.a.zw i (by omega)
              clear hw
              go_wp2_with fail
              refine ⟨⟨i + 1, p + 1, true, by omega, (by have := K.out; unfold Hid; omega), rfl, by rw [Int.natCast_add]; rfl, ?_, (by have := E2.out.step (by have := KL.out; omega) XV.out; rw [K.out] at this; rw [K.out]; exact this)⟩, by simp [intOf]; omega⟩
              unfold Hid
              simp only [bdW]
              rw [HG.out, SB.out]
              rfl
        · have hp : p = 31 := by have := K.out; omega
          subst hp
          have E : ∀ W, (binOp .eql 33 (.agg (wn (arF ws) 32).toArray) (.agg (wn (arF ws) 32).toArray)).run Tryd.prog W = .ok (.bool true) W := eql33 (arF ws)
          cases gd
          · have GF := hideP (arF_bad (ws := ws) HG.out)
            go_wp2_with (first
              | (refine wpList_arr _ A (arK ws 31) HE.out.a (by rfl) _ _ rfl w0 _ z32_eq rfl rfl ?_; intro V1 hA hT; have HV : Hid (EndAt2 A w.heap.size C M b d b' d' ws f (q + 1) w V1) := ⟨(by rw [GF.out]; exact hA.out), HE.out.p.arr hT.out HE.out.far, HE.out.far, by rw [hT.out.size]; exact HE.out.lt⟩; clear hA hT))
            have LV := hideP (HV.out.p.laid hL.out B0.out)
            have PW : Hid (0 < V1.heap.size ∧ M < V1.heap.size ∧ b < V1.heap.size ∧ d < V1.heap.size) := ⟨LV.out.pos, HV.out.p.old.1⟩
            refine (fall_as M b d f (q + 1) ws false HG _ LV (hideP HV.out.p.r1) PW).mono ?_; rintro e V2 ⟨rfl, hF⟩
            have HV2 : Hid (ArrAt A 32 (arF ws) V2 ∧ FrB w.heap.size w V2 ∧ A < V2.heap.size) := ⟨HV.out.a.frb hF HV.out.lt, HV.out.p.fr.trans (hF.mono HV.out.p.fr.size), Nat.lt_of_lt_of_le HV.out.lt hF.size⟩
            clear hF HV
            have Z2 := hideP (ArrAt.zero V2 33)
            go_wp2_with (first
              | (refine wpList_arr _ V2.heap.size w0 Z2.out (by rfl) _ _ rfl (arF ws) _ rfl rfl rfl ?_; intro V3 hA hT; have R1 := hideP hA.out.range; have R2 : Hid (V3.rangeAt A 0 (wn (arF ws) 32)) := (arr_past HV2.out.1 HV2.out.2.2 hT.out).range; have F3 : Hid (FrB w.heap.size w V3) := fr_past HV2.out.2.1 hT.out HV2.out.2.1.size; clear hA hT)
              | (refine load_want (by rfl) 33 _ rfl V2.heap.size 0 rfl (wn (arF ws) 32) _ R1.out Tryd.underlying33 rfl (by rw [wn_len]; exact size33) ?_)
              | (refine load_want (by rfl) 33 _ rfl A 0 rfl (wn (arF ws) 32) _ R2.out Tryd.underlying33 rfl (by rw [wn_len]; exact size33) ?_))
            go_ret
            exact ⟨rfl, F3.out⟩
          · have GF := hideP (arF_good (ws := ws) HG.out)
            have HV : Hid (EndAt2 A w.heap.size C M b d b' d' ws f (q + 1) w wr) := ⟨(by rw [GF.out]; exact HE.out.a), HE.out.p, HE.out.far, HE.out.lt⟩
            go_wp2_with fail
            have LV := hideP (HV.out.p.laid hL.out B0.out)
            have PW : Hid (0 < wr.heap.size ∧ M < wr.heap.size ∧ b < wr.heap.size ∧ d < wr.heap.size) := ⟨LV.out.pos, HV.out.p.old.1⟩
            refine (fall_as M b d f (q + 1) ws true HG _ LV (hideP HV.out.p.r1) PW).mono ?_; rintro e V2 ⟨rfl, hF⟩
            have HV2 : Hid (ArrAt A 32 (arF ws) V2 ∧ FrB w.heap.size w V2 ∧ A < V2.heap.size) := ⟨HV.out.a.frb hF HV.out.lt, HV.out.p.fr.trans (hF.mono HV.out.p.fr.size), Nat.lt_of_lt_of_le HV.out.lt hF.size⟩
            clear hF HV
            have Z2 := hideP (ArrAt.zero V2 33)
            go_wp2_with (first
              | (refine wpList_arr _ V2.heap.size w0 Z2.out (by rfl) _ _ rfl (arF ws) _ rfl rfl rfl ?_; intro V3 hA hT; have R1 := hideP hA.out.range; have R2 : Hid (V3.rangeAt A 0 (wn (arF ws) 32)) := (arr_past HV2.out.1 HV2.out.2.2 hT.out).range; have F3 : Hid (FrB w.heap.size w V3) := fr_past HV2.out.2.1 hT.out HV2.out.2.1.size; clear hA hT)
              | (refine load_want (by rfl) 33 _ rfl V2.heap.size 0 rfl (wn (arF ws) 32) _ R1.out Tryd.underlying33 rfl (by rw [wn_len]; exact size33) ?_)
              | (refine load_want (by rfl) 33 _ rfl A 0 rfl (wn (arF ws) 32) _ R2.out Tryd.underlying33 rfl (by rw [wn_len]; exact size33) ?_))
            go_ret
            exact ⟨rfl, F3.out⟩
end Go.Proofs.YtgcpjlnncedcfaaDoor.Walks
