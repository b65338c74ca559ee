/- The walk of GateOrder. -/
import Derived.Test.YtedcamljgnblmaaKnow
import Derived.Test.YtedcamljgnblmaaAsks
import Derived.Deep.RegionHeld3
namespace Go.Proofs.Ytedcamljgnblmaa.M
open Go.ChangeShapes Go.WideShapes Go.ChangeAt Go.RowKit Go.Proofs.Ytedcamljgnblmaa.Walks
set_option linter.unusedVariables false
/-- what waits behind i that went -/
def frm (f : Nat → Rt) (i : Nat) : Nat → Rt := fun j => f (i + j)
theorem sn_same (f : Nat → Rt) (i : Nat) : ∀ j, j < i + 1 → sn f i (f i) j = f j := fun j hj => by
  unfold sn cat
  split
  · rfl
  · rw [show j = i by omega]
theorem GAt.grew {B G c i : Nat} {A : Option Addr} {f : Nat → Rt} {w : World} (h : GAt B G A c (i + 1) (sn f i (f i)) w) : GAt B G A c (i + 1) f w := h.congr rfl (sn_same f i)
theorem GAt.went {B G c i m : Nat} {A : Option Addr} {f : Nat → Rt} {w : World} (h : GAt B G A c m (tl (frm f i)) w) : GAt B G A c m (frm f (i + 1)) w := h.congr rfl fun j _ => by unfold tl frm; rw [show i + (j + 1) = i + 1 + j by omega]
set_option maxRecDepth 100000 in
set_option maxHeartbeats 4000000 in
theorem order_n (A : Option Addr) (len cap n : Nat) (f : Nat → Rt) (bad : Int) (w : World) (hA : Hid (RIn w A len f)) (hf : Hid (∀ j, j < len → (f j).In)) (hn : (n : Int) ≤ 16) (hnl : (n : Int) ≤ len) (hmin : (len < 16 ∧ n = len) ∨ (16 ≤ len ∧ n = 16)) :
    Calls Try.prog 5 #[.slice A len cap, .int .i64 bad] w fun e w' => e = .returned (.bool true) ∧ Fr w w' := by
  have HN := hid hn
  have NL := hid hnl
  go_enter Try.func5, Try.ntmps5
  go_wp2_with fail
  refine (new_as w.heap.size _ (Nat.le_refl _) f).mono ?_; rintro e w1 ⟨rfl, hg, hF⟩
  have G1 := hid hg
  have F1 := hid hF
  clear hg hF
  go_wp2_with fail
  all_goals
    first
      | (have e16 : (16 : Int) = (n : Int) := by omega
         rw [e16]
         clear e16)
      | (have el : (len : Int) = (n : Int) := by omega
         rw [el]
         clear el)
    clear hmin
    go_loopw [7] (fun t wr => ∃ (i : Nat) (D : Option Addr) (c : Nat), (i : Int) ≤ n ∧ t = .int .i64 i ∧ Hid (GAt w.heap.size w.heap.size D c i f wr) ∧ Hid (Fr w wr)) (fun t _ => n - (intOf t).toNat)
    case atStart => exact ⟨0, none, 0, by omega, rfl, G1, F1⟩
    case round =>
      obtain ⟨i, D, c, hi, rfl, HG, HF⟩ := hrel
      rename_i wr
      by_cases hlt : (i : Int) < n
      · have hil : (i : Int) < len := by omega
        obtain ⟨b0, o0, rfl, cb, hr⟩ := (hA.out.fr HF.out) i (by omega)
        have e0 := hr 0 _ rfl
        have e1 := hr 1 _ rfl
        have e2 := hr 2 _ rfl
        have e3 := hr 3 _ rfl
        have e4 := hr 4 _ rfl
        have e5 := hr 5 _ rfl
        have e6 := hr 6 _ rfl
        rw [Nat.add_zero] at e0
        have hin := hid (hf.out i (by omega))
        have HI : Hid ((i : Int) < 16) := by have := HN.out; unfold Hid; omega
        have HH : Hid (∀ V D' c', GAt w.heap.size w.heap.size D' c' (i + 1) (sn f i (f i)) V → GAt w.heap.size w.heap.size D' c' (i + 1) f V) := fun V D' c' h => h.grew
        clear hr cb
        generalize f i = r at *
        go_wp2_with fail
        refine (first_as w.heap.size w.heap.size c i D f r _ HI.out HG hin HF.out.size).mono ?_; rintro e w3 ⟨rfl, D3, c3, hg, hm⟩
        have G3 := hid (HH.out _ _ _ hg)
        have F3 := hid (hm.fr HF.out (Nat.le_refl _) (fun k hk => (HG.out.own k hk).1))
        clear hg hm
        go_wp2_with fail
        exact ⟨⟨i + 1, D3, c3, by omega, by rw [Int.natCast_add]; rfl, G3, F3⟩, by simp [intOf]; omega⟩
      · obtain rfl : i = n := by omega
        go_wp2_with fail
        refine (within_n _ _ HN.out _).mono ?_; rintro e w' ⟨⟨kx, rfl, k0, k1⟩, rfl⟩
        clear k0 k1
        go_wp2_with fail
        go_loopw [9] (fun t wr => ∃ (j m : Nat) (D : Option Addr) (c : Nat), Hid (j + m = i) ∧ (j : Int) ≤ i ∧ t = .int .i64 j ∧ Hid (GAt w.heap.size w.heap.size D c m (frm f j) wr) ∧ Hid (Fr w wr)) (fun t _ => i - (intOf t).toNat)
        case atStart => exact ⟨0, i, D, c, Nat.zero_add _, by omega, rfl, HG.out.congr rfl (fun j _ => by unfold frm; rw [Nat.zero_add]), HF⟩
        case round =>
          obtain ⟨j, m, D, c, hjm, hj, rfl, HG, HF⟩ := hrel
          rename_i wr
          by_cases hjt : (j : Int) < i
          · have hjl : (j : Int) < len := by have := NL.out; omega
            obtain ⟨b0, o0, rfl, cb, hr⟩ := (hA.out.fr HF.out) j (by omega)
            have e0 := hr 0 _ rfl
            have e1 := hr 1 _ rfl
            have e2 := hr 2 _ rfl
            have e3 := hr 3 _ rfl
            have e4 := hr 4 _ rfl
            have e5 := hr 5 _ rfl
            have e6 := hr 6 _ rfl
            rw [Nat.add_zero] at e0
            have RA := hid hA.out
            obtain ⟨m', hm'⟩ : ∃ m', Hid (m = m' + 1) := ⟨m - 1, by have := hjm.out; unfold Hid; omega⟩
            have mi : (m : Int) = (i : Int) - j := by have := hjm.out; omega
            have mi' : (m' : Int) = (i : Int) - 1 - j := by have := hjm.out; have := hm'.out; omega
            have mw : Hid ((m : Int) ≤ 16) := by have := HN.out; unfold Hid; omega
            obtain ⟨r, hrr⟩ : ∃ r, Hid (f j = r) := ⟨_, rfl⟩
            rw [hrr.out] at e0 e1 e2 e3 e4 e5 e6
            have f0 : Hid (frm f j 0 = r) := by unfold frm Hid; rw [Nat.add_zero]; exact hrr.out
            clear hr cb
            have SR : Hid (Hid (Sec (frm f j) (m' + 1) r r 1 m' (tl (frm f j))) ∧ Hid (((m' + 1 : Nat) : Int) ≤ 16)) := ⟨.inr ⟨rfl, by rw [f0.out]; exact Rt.eq_self r, rfl, rfl, rfl⟩, by have := mw.out; have := hm'.out; unfold Hid; omega⟩
            by_cases hk : (j : Int) = kx
            · subst hk
              obtain ⟨u, U⟩ : ∃ u, (r.v + 1) % 4294967296 = u := ⟨_, rfl⟩
              have une : Hid (r.v ≠ u) := by unfold Hid; omega
              have U2 := hid U
              have E0 : ∀ W, (binOp .neq 25 (.agg #[.int .u32 0, .int .u32 0, .int .i64 0, .bool false, .int .u32 0, .int .u32 0, .int .i64 0]) (.agg #[.int .u32 0, .int .u32 0, .int .i64 0, .bool false, .int .u32 0, .int .u32 0, .int .i64 0])).run Try.prog W = .ok (.bool false) W := fun W => (neq25 zR zR W).trans (by rw [Rt.eq_self]; rfl)
              have ND : Hid ((frm f j 0).eq ⟨r.p, u, r.d, r.s, r.a, r.t, r.m⟩ = false) := by
                rw [f0.out]
                cases e : r.eq ⟨r.p, u, r.d, r.s, r.a, r.t, r.m⟩ with
                | false => rfl
                | true => exact absurd (congrArg Rt.v ((Rt.eq_iff _ _).1 e)) une.out
              have HGB := hid (HG.out.fr ((Fr.refl wr).alloc (.cells #[.int .u32 r.p, .int .u32 u, .int .i64 r.d, .bool r.s, .int .u32 r.a, .int .u32 r.t, .int .i64 r.m] 25)))
              have mp : (0 : Int) < m := by have := hm'.out; omega
              go_wp2_with fail
              refine (second_diff w.heap.size w.heap.size c m D (frm f j) ⟨r.p, u, r.d, r.s, r.a, r.t, r.m⟩ _ (by exact HGB) mp ND).mono ?_; rintro e w3 ⟨rfl, hF⟩
              have HGX := hid ((HGB.out.fr hF).fr ((Fr.refl w3).alloc (.cells #[.int .u32 0, .int .u32 0, .int .i64 0, .bool false, .int .u32 0, .int .u32 0, .int .i64 0] 25)))
              have HFX := hid (((HF.out.alloc _).trans hF).alloc (.cells #[.int .u32 0, .int .u32 0, .int .i64 0, .bool false, .int .u32 0, .int .u32 0, .int .i64 0] 25))
              clear hF e0 e1 e2 e3 e4 e5 e6
              go_wp2_with fail
              refine (waits_as w.heap.size w.heap.size c m D (frm f j) _ (by exact HGX)).mono ?_; rintro e w' ⟨rfl, rfl⟩
              clear E0
              obtain ⟨b1, o1, hb1, cb, hr⟩ := (RA.out.fr HFX.out) j (by omega)
              injection hb1 with hb1
              injection hb1 with hb1 hb2
              subst hb1
              subst hb2
              rw [hrr.out] at hr
              have hr2 := hid hr
              have x0 := hr 0 _ rfl
              have x1 := hr 1 _ rfl
              have x2 := hr 2 _ rfl
              have x3 := hr 3 _ rfl
              have x4 := hr 4 _ rfl
              have x5 := hr 5 _ rfl
              have x6 := hr 6 _ rfl
              rw [Nat.add_zero] at x0
              have cbx := hid cb
              clear hr cb
              go_wp2_with fail
              refine (second_as w.heap.size w.heap.size c (m' + 1) m' D (frm f j) (tl (frm f j)) r r 1 _ SR.out.1 SR.out.2 (by exact hid (HGX.out.congr hm'.out (fun _ _ => rfl)))).mono ?_; rintro e w4 ⟨rfl, D4, c4, hg, hm⟩
              have G4 := hid (hg.went)
              have F4 := hid (hm.fr HFX.out (Nat.le_refl _) (fun k hk => (HGX.out.own k hk).1))
              clear hg hm x0 x1 x2 x3 x4 x5 x6
              obtain ⟨b1, o1, hb1, cb, hr⟩ := (RA.out.fr (F4.out.alloc (.cells #[.int .u32 r.p, .int .u32 r.v, .int .i64 r.d, .bool r.s, .int .u32 r.a, .int .u32 r.t, .int .i64 r.m] 25))) j (by omega)
              injection hb1 with hb1
              injection hb1 with hb1 hb2
              subst hb1
              subst hb2
              rw [hrr.out] at hr
              have x0 := hr 0 _ rfl
              have x1 := hr 1 _ rfl
              have x2 := hr 2 _ rfl
              have x3 := hr 3 _ rfl
              have x4 := hr 4 _ rfl
              have x5 := hr 5 _ rfl
              have x6 := hr 6 _ rfl
              rw [Nat.add_zero] at x0
              clear hr cb
              have ww : IntKind.i64.wrap (IntKind.i64.wrap ((i : Int) - 1) - (j : Int)) = (i : Int) - 1 - j := by rw [IntKind.wrap_i64, IntKind.wrap_i64]; omega
              have G5 := hid (G4.out.fr ((Fr.refl w4).alloc (.cells #[.int .u32 r.p, .int .u32 r.v, .int .i64 r.d, .bool r.s, .int .u32 r.a, .int .u32 r.t, .int .i64 r.m] 25)))
              have E : ∀ W, (binOp .neq 25 (.agg #[.int .u32 r.p, .int .u32 r.v, .int .i64 r.d, .bool r.s, .int .u32 r.a, .int .u32 r.t, .int .i64 r.m]) (.agg #[.int .u32 r.p, .int .u32 r.v, .int .i64 r.d, .bool r.s, .int .u32 r.a, .int .u32 r.t, .int .i64 r.m])).run Try.prog W = .ok (.bool false) W := fun W => (neq25 r r W).trans (by rw [Rt.eq_self]; rfl)
              go_wp2_with fail
              go_region_held3 (fun w' => w'.cell? ⟨b0, o0 + j * 7, none⟩ = some (.int .u32 r.p) ∧ w'.cell? ⟨b0, o0 + j * 7 + 1, none⟩ = some (.int .u32 r.v) ∧ w'.cell? ⟨b0, o0 + j * 7 + 2, none⟩ = some (.int .i64 r.d) ∧ w'.cell? ⟨b0, o0 + j * 7 + 3, none⟩ = some (.bool r.s) ∧ w'.cell? ⟨b0, o0 + j * 7 + 4, none⟩ = some (.int .u32 r.a) ∧ w'.cell? ⟨b0, o0 + j * 7 + 5, none⟩ = some (.int .u32 r.t) ∧ w'.cell? ⟨b0, o0 + j * 7 + 6, none⟩ = some (.int .i64 r.m) ∧ w'.cell? ⟨w4.heap.size, 0, none⟩ = some (.int .u32 r.p) ∧ w'.cell? ⟨w4.heap.size, 1, none⟩ = some (.int .u32 r.v) ∧ w'.cell? ⟨w4.heap.size, 2, none⟩ = some (.int .i64 r.d) ∧ w'.cell? ⟨w4.heap.size, 3, none⟩ = some (.bool r.s) ∧ w'.cell? ⟨w4.heap.size, 4, none⟩ = some (.int .u32 r.a) ∧ w'.cell? ⟨w4.heap.size, 5, none⟩ = some (.int .u32 r.t) ∧ w'.cell? ⟨w4.heap.size, 6, none⟩ = some (.int .i64 r.m)) (first | assumption | go_keep)
                (first | (go_at_call 13; refine (waits_as w.heap.size w.heap.size c4 m' D4 (frm f (j + 1)) _ (by exact hid (G5.out.fr ((Fr.refl _).drew)))).mono ?_; rintro e w' ⟨rfl, rfl⟩))
              all_goals
                clear x0 x1 x2 x3 x4 x5 x6 E
                go_wp2_with fail
                all_goals first
                  | (exfalso; rename_i hbad; rw [ww] at hbad; simp at hbad; done)
                  | exact ⟨⟨j + 1, m', D4, c4, by have := hjm.out; have := hm'.out; unfold Hid; omega, by omega, by rw [Int.natCast_add]; rfl, G5.out.fr ((Fr.refl _).drew), (F4.out.alloc _).drew⟩, by simp [intOf]; omega⟩
            · have hkn : ((j : Int) == kx) = false := by rw [beq_eq_false_iff_ne]; exact hk
              have HGX := HG
              have HFX := HF
              clear e0 e1 e2 e3 e4 e5 e6
              obtain ⟨b1, o1, hb1, cb, hr⟩ := (RA.out.fr HFX.out) j (by omega)
              injection hb1 with hb1
              injection hb1 with hb1 hb2
              subst hb1
              subst hb2
              rw [hrr.out] at hr
              have hr2 := hid hr
              have x0 := hr 0 _ rfl
              have x1 := hr 1 _ rfl
              have x2 := hr 2 _ rfl
              have x3 := hr 3 _ rfl
              have x4 := hr 4 _ rfl
              have x5 := hr 5 _ rfl
              have x6 := hr 6 _ rfl
              rw [Nat.add_zero] at x0
              have cbx := hid cb
              clear hr cb
              go_wp2_with fail
              refine (second_as w.heap.size w.heap.size c (m' + 1) m' D (frm f j) (tl (frm f j)) r r 1 _ SR.out.1 SR.out.2 (by exact hid (HGX.out.congr hm'.out (fun _ _ => rfl)))).mono ?_; rintro e w4 ⟨rfl, D4, c4, hg, hm⟩
              have G4 := hid (hg.went)
              have F4 := hid (hm.fr HFX.out (Nat.le_refl _) (fun k hk => (HGX.out.own k hk).1))
              clear hg hm x0 x1 x2 x3 x4 x5 x6
              obtain ⟨b1, o1, hb1, cb, hr⟩ := (RA.out.fr (F4.out.alloc (.cells #[.int .u32 r.p, .int .u32 r.v, .int .i64 r.d, .bool r.s, .int .u32 r.a, .int .u32 r.t, .int .i64 r.m] 25))) j (by omega)
              injection hb1 with hb1
              injection hb1 with hb1 hb2
              subst hb1
              subst hb2
              rw [hrr.out] at hr
              have x0 := hr 0 _ rfl
              have x1 := hr 1 _ rfl
              have x2 := hr 2 _ rfl
              have x3 := hr 3 _ rfl
              have x4 := hr 4 _ rfl
              have x5 := hr 5 _ rfl
              have x6 := hr 6 _ rfl
              rw [Nat.add_zero] at x0
              clear hr cb
              have ww : IntKind.i64.wrap (IntKind.i64.wrap ((i : Int) - 1) - (j : Int)) = (i : Int) - 1 - j := by rw [IntKind.wrap_i64, IntKind.wrap_i64]; omega
              have G5 := hid (G4.out.fr ((Fr.refl w4).alloc (.cells #[.int .u32 r.p, .int .u32 r.v, .int .i64 r.d, .bool r.s, .int .u32 r.a, .int .u32 r.t, .int .i64 r.m] 25)))
              have E : ∀ W, (binOp .neq 25 (.agg #[.int .u32 r.p, .int .u32 r.v, .int .i64 r.d, .bool r.s, .int .u32 r.a, .int .u32 r.t, .int .i64 r.m]) (.agg #[.int .u32 r.p, .int .u32 r.v, .int .i64 r.d, .bool r.s, .int .u32 r.a, .int .u32 r.t, .int .i64 r.m])).run Try.prog W = .ok (.bool false) W := fun W => (neq25 r r W).trans (by rw [Rt.eq_self]; rfl)
              go_wp2_with fail
              go_region_held3 (fun w' => w'.cell? ⟨b0, o0 + j * 7, none⟩ = some (.int .u32 r.p) ∧ w'.cell? ⟨b0, o0 + j * 7 + 1, none⟩ = some (.int .u32 r.v) ∧ w'.cell? ⟨b0, o0 + j * 7 + 2, none⟩ = some (.int .i64 r.d) ∧ w'.cell? ⟨b0, o0 + j * 7 + 3, none⟩ = some (.bool r.s) ∧ w'.cell? ⟨b0, o0 + j * 7 + 4, none⟩ = some (.int .u32 r.a) ∧ w'.cell? ⟨b0, o0 + j * 7 + 5, none⟩ = some (.int .u32 r.t) ∧ w'.cell? ⟨b0, o0 + j * 7 + 6, none⟩ = some (.int .i64 r.m) ∧ w'.cell? ⟨w4.heap.size, 0, none⟩ = some (.int .u32 r.p) ∧ w'.cell? ⟨w4.heap.size, 1, none⟩ = some (.int .u32 r.v) ∧ w'.cell? ⟨w4.heap.size, 2, none⟩ = some (.int .i64 r.d) ∧ w'.cell? ⟨w4.heap.size, 3, none⟩ = some (.bool r.s) ∧ w'.cell? ⟨w4.heap.size, 4, none⟩ = some (.int .u32 r.a) ∧ w'.cell? ⟨w4.heap.size, 5, none⟩ = some (.int .u32 r.t) ∧ w'.cell? ⟨w4.heap.size, 6, none⟩ = some (.int .i64 r.m)) (first | assumption | go_keep)
                (first | (go_at_call 13; refine (waits_as w.heap.size w.heap.size c4 m' D4 (frm f (j + 1)) _ (by exact hid (G5.out.fr ((Fr.refl _).drew)))).mono ?_; rintro e w' ⟨rfl, rfl⟩))
              all_goals
                clear x0 x1 x2 x3 x4 x5 x6 E
                go_wp2_with fail
                all_goals first
                  | (exfalso; rename_i hbad; rw [ww] at hbad; simp at hbad; done)
                  | exact ⟨⟨j + 1, m', D4, c4, by have := hjm.out; have := hm'.out; unfold Hid; omega, by omega, by rw [Int.natCast_add]; rfl, G5.out.fr ((Fr.refl _).drew), (F4.out.alloc _).drew⟩, by simp [intOf]; omega⟩
          · go_wp2_with fail
            refine (known_as _).mono ?_; rintro e w6 ⟨rfl, hF⟩
            have F6 := hid (HF.out.trans hF)
            clear hF
            go_wp2_with fail
            go_ret
            exact ⟨rfl, F6.out⟩
end Go.Proofs.Ytedcamljgnblmaa.M
