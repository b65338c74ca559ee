/- The walk of EncodeBack. -/
import Derived.Test.YtlnliiihcajboaaDoorTellsWalk
import Derived.Test.YtlnliiihcajboaaDoorInj
import Derived.Deep.RegionHeld3
namespace Go.Proofs.YtlnliiihcajboaaDoor.Walks
open Go.ChangeShapes Go.WideShapes Go.ChangeAt Go.RowKit
set_option linter.unusedVariables false
theorem back_cells (w2 w5 w' : World) (o d a b n o' d' a' b' n' : Int) (F : Hid (Fr ((w2.alloc (.cells (cells o d a b n) 27)).alloc (.cells (cells o' d' a' b' n') 27)) w5)) (G : Hid (Fr (w5.alloc (.cells (cells o d a b n) 27)) w')) :
    w'.cell? ⟨w2.heap.size, 0, none⟩ = some (.int .i64 o) ∧ w'.cell? ⟨w2.heap.size, 1, none⟩ = some (.int .i64 d) ∧ w'.cell? ⟨w2.heap.size, 2, none⟩ = some (.int .i64 a) ∧ w'.cell? ⟨w2.heap.size, 3, none⟩ = some (.int .i64 b) ∧ w'.cell? ⟨w2.heap.size, 4, none⟩ = some (.int .i32 n) ∧ w'.cell? ⟨w2.heap.size + 1, 0, none⟩ = some (.int .i64 o') ∧ w'.cell? ⟨w2.heap.size + 1, 1, none⟩ = some (.int .i64 d') ∧ w'.cell? ⟨w2.heap.size + 1, 2, none⟩ = some (.int .i64 a') ∧ w'.cell? ⟨w2.heap.size + 1, 3, none⟩ = some (.int .i64 b') ∧ w'.cell? ⟨w2.heap.size + 1, 4, none⟩ = some (.int .i32 n') ∧ w'.cell? ⟨w5.heap.size, 0, none⟩ = some (.int .i64 o) ∧ w'.cell? ⟨w5.heap.size, 1, none⟩ = some (.int .i64 d) ∧ w'.cell? ⟨w5.heap.size, 2, none⟩ = some (.int .i64 a) ∧ w'.cell? ⟨w5.heap.size, 3, none⟩ = some (.int .i64 b) ∧ w'.cell? ⟨w5.heap.size, 4, none⟩ = some (.int .i32 n) := by
  obtain ⟨p0, p1, p2, p3, p4⟩ := box5k w2 w' w2.heap.size rfl o d a b n (((Fr.refl _).alloc _).trans (F.out.trans (((Fr.refl _).alloc _).trans G.out)))
  obtain ⟨q0, q1, q2, q3, q4⟩ := box5k (w2.alloc (.cells (cells o d a b n) 27)) w' (w2.heap.size + 1) (by simp) o' d' a' b' n' (F.out.trans (((Fr.refl _).alloc _).trans G.out))
  obtain ⟨r0, r1, r2, r3, r4⟩ := box5k w5 w' w5.heap.size rfl o d a b n G.out
  exact ⟨p0, p1, p2, p3, p4, q0, q1, q2, q3, q4, r0, r1, r2, r3, r4⟩
set_option maxRecDepth 100000 in
set_option maxHeartbeats 40000000 in
theorem back_core (A : Option Addr) (len cap : Nat) (zs : Nat → Int) (A' : Option Addr) (len' cap' : Nat) (zs' : Nat → Int) (w : World) (IN : Hid (IntsIn .i64 w A len zs)) (IN' : Hid (IntsIn .i64 w A' len' zs')) (PP : Hid (Pow w)) :
    Calls Tryd.prog 5 #[.slice A len cap, .slice A' len' cap'] w fun e w' => e = .returned (.bool true) ∧ Fr w w' := by
  have TT := hideP (tape_at w A len cap zs (IN.out.past (Fr.refl w)))
  have z0 : Hid (0 ≤ 100) := hideP (by decide)
  go_enter Tryd.func5, Tryd.ntmps5
  go_wp2_with fail
  refine (inst_as w.heap.size A len cap 0 zs _ TT z0).mono ?_; rintro e w1 ⟨⟨o, d, a, b, n, rfl, hk⟩, hG⟩
  have K := hideP hk
  have F1 : Hid (Fr w w1) := hideP (FrG.fr ((Fr.refl w).alloc _) hG (Nat.le_refl _))
  clear hG hk TT
  have TT := hideP (tape_at w1 A' len' cap' zs' (IN'.out.past F1.out))
  go_wp2_with fail
  refine (inst_as w1.heap.size A' len' cap' 0 zs' _ TT z0).mono ?_; rintro e w2 ⟨⟨o', d', a', b', n', rfl, hk⟩, hG⟩
  have K' := hideP hk
  have F2 : Hid (Fr w w2) := hideP (F1.out.trans (FrG.fr ((Fr.refl w1).alloc _) hG (Nat.le_refl _)))
  clear hG hk TT F1
  obtain ⟨v, hv⟩ : ∃ v, Hid (Num.wd o d a b n = v) := ⟨_, hideP rfl⟩
  obtain ⟨u, hu⟩ : ∃ u, Hid (Num.wd o' d' a' b' n' = u) := ⟨_, hideP rfl⟩
  have E : Hid (Num.En o d a b n v true) := hideP ⟨⟨fun _ => K.out, fun _ => rfl⟩, fun _ => hv.out.symm, fun x => absurd x (by decide)⟩
  have E' : Hid (Num.En o' d' a' b' n' u true) := hideP ⟨⟨fun _ => K'.out, fun _ => rfl⟩, fun _ => hu.out.symm, fun x => absurd x (by decide)⟩
  have D : Hid (Num.Dec v o d a b n true) := hideP (by rw [← hv.out]; exact Num.ok_dec o d a b n K.out)
  have V : Hid (0 ≤ v ∧ v ≤ 4294967295) := hideP (by rw [← hv.out]; exact Num.wd_in o d a b n K.out)
  go_wp2_with fail
  refine (encode_as o d a b n v true E _).mono ?_; rintro e w3 ⟨rfl, hF⟩
  have F3 : Hid (Fr ((w2.alloc (.cells (cells o d a b n) 27)).alloc (.cells (cells o' d' a' b' n') 27)) w3) := hideP hF
  clear hF
  obtain ⟨c0, c1, c2, c3, c4⟩ := box5k (w2.alloc (.cells (cells o d a b n) 27)) w3 (w2.heap.size + 1) (by simp) o' d' a' b' n' F3.out
  go_wp2_with fail
  refine (encode_as o' d' a' b' n' u true E' _).mono ?_; rintro e w4 ⟨rfl, hF⟩
  have F4 := hideP (F3.out.trans hF)
  clear hF c0 c1 c2 c3 c4
  go_wp2_with fail
  refine (rdecode_as v o d a b n true D V.out.1 V.out.2 _).mono ?_; rintro e w5 ⟨rfl, hF⟩
  have F5 : Hid (Fr ((w2.alloc (.cells (cells o d a b n) 27)).alloc (.cells (cells o' d' a' b' n') 27)) w5) := hideP (F4.out.trans hF)
  clear hF F3 F4 V D
  have P5 : Hid (Pow w5) := hideP (PP.out.fr (((F2.out.alloc _).alloc _).trans F5.out))
  have B5 : Hid (Fr w w5) := hideP (((F2.out.alloc _).alloc _).trans F5.out)
  have H0 : Hid (Fr (w5.alloc (.cells (cells o d a b n) 27)) (w5.alloc (.cells (cells o d a b n) 27)).drew) := hideP (Fr.refl _).drew
  by_cases q0 : o = o'
  case neg =>
    obtain ⟨s, ST⟩ : ∃ s, Hid (Num.bs (Num.tx o d a b n true) = s) := ⟨_, hideP rfl⟩
    obtain ⟨t, ST2⟩ : ∃ t, Hid (Num.bs (Num.tx o' d' a' b' n' true) = t) := ⟨_, hideP rfl⟩
    have m0 : (v == u) = false := by
      have : v ≠ u := fun h => q0 (Num.wd_inj _ _ _ _ _ _ _ _ _ _ K.out K'.out (hv.out.trans (h.trans hu.out.symm))).1
      simpa using this
    have m1 : ¬ s = t := fun h => q0 (Num.tx_inj _ _ _ _ _ _ _ _ _ _ K.out K'.out (Num.bs_inj _ _ (ST.out.trans (h.trans ST2.out.symm)))).1
    have m2 : (s.toList == t.toList) = false := Num.beq_apart s t m1
    clear m1
    have q' : ¬ o' = o := fun h => q0 h.symm
    clear K K' hv hu
    go_wp2_with fail
    go_region_held3 (fun w' => w'.cell? ⟨w2.heap.size, 0, none⟩ = some (.int .i64 o) ∧ w'.cell? ⟨w2.heap.size, 1, none⟩ = some (.int .i64 d) ∧ w'.cell? ⟨w2.heap.size, 2, none⟩ = some (.int .i64 a) ∧ w'.cell? ⟨w2.heap.size, 3, none⟩ = some (.int .i64 b) ∧ w'.cell? ⟨w2.heap.size, 4, none⟩ = some (.int .i32 n) ∧ w'.cell? ⟨w2.heap.size + 1, 0, none⟩ = some (.int .i64 o') ∧ w'.cell? ⟨w2.heap.size + 1, 1, none⟩ = some (.int .i64 d') ∧ w'.cell? ⟨w2.heap.size + 1, 2, none⟩ = some (.int .i64 a') ∧ w'.cell? ⟨w2.heap.size + 1, 3, none⟩ = some (.int .i64 b') ∧ w'.cell? ⟨w2.heap.size + 1, 4, none⟩ = some (.int .i32 n') ∧ w'.cell? ⟨w5.heap.size, 0, none⟩ = some (.int .i64 o) ∧ w'.cell? ⟨w5.heap.size, 1, none⟩ = some (.int .i64 d) ∧ w'.cell? ⟨w5.heap.size, 2, none⟩ = some (.int .i64 a) ∧ w'.cell? ⟨w5.heap.size, 3, none⟩ = some (.int .i64 b) ∧ w'.cell? ⟨w5.heap.size, 4, none⟩ = some (.int .i32 n))
      (exact back_cells w2 w5 _ o d a b n o' d' a' b' n' F5 (by assumption))
      (first
        | (go_at_call_of 12 o; refine (text_as o d a b n v true s ST E _ (hideP (P5.out.fr (((Fr.refl _).alloc _).trans (Hid.out (by assumption)))))).mono ?_; rintro e w' ⟨rfl, hF⟩; have hB : Hid (Fr (w5.alloc (.cells (cells o d a b n) 27)) w') := hideP (Fr.trans (Hid.out (by assumption)) hF); clear hF)
        | (go_at_call_of 12 o'; refine (text_as o' d' a' b' n' u true t ST2 E' _ (hideP (P5.out.fr (((Fr.refl _).alloc _).trans (Hid.out (by assumption)))))).mono ?_; rintro e w' ⟨rfl, hF⟩; have hB : Hid (Fr (w5.alloc (.cells (cells o d a b n) 27)) w') := hideP (Fr.trans (Hid.out (by assumption)) hF); clear hF)
        | (go_at_call 8; refine (known_as _ (hideP (P5.out.fr (((Fr.refl _).alloc _).trans (Hid.out (by assumption)))))).mono ?_; rintro e w' ⟨rfl, hF⟩; have hB : Hid (Fr (w5.alloc (.cells (cells o d a b n) 27)) w') := hideP (Fr.trans (Hid.out (by assumption)) hF); clear hF))
    all_goals
      go_wp2_with fail
      go_ret
      exact ⟨rfl, B5.out.trans (((Fr.refl _).alloc _).trans (Hid.out (by assumption)))⟩
  subst q0
  by_cases q1 : d = d'
  case neg =>
    obtain ⟨s, ST⟩ : ∃ s, Hid (Num.bs (Num.tx o d a b n true) = s) := ⟨_, hideP rfl⟩
    obtain ⟨t, ST2⟩ : ∃ t, Hid (Num.bs (Num.tx o d' a' b' n' true) = t) := ⟨_, hideP rfl⟩
    have m0 : (v == u) = false := by
      have : v ≠ u := fun h => q1 (Num.wd_inj _ _ _ _ _ _ _ _ _ _ K.out K'.out (hv.out.trans (h.trans hu.out.symm))).2.1
      simpa using this
    have m1 : ¬ s = t := fun h => q1 (Num.tx_inj _ _ _ _ _ _ _ _ _ _ K.out K'.out (Num.bs_inj _ _ (ST.out.trans (h.trans ST2.out.symm)))).2.1
    have m2 : (s.toList == t.toList) = false := Num.beq_apart s t m1
    clear m1
    have q' : ¬ d' = d := fun h => q1 h.symm
    clear K K' hv hu
    go_wp2_with fail
    go_region_held3 (fun w' => w'.cell? ⟨w2.heap.size, 0, none⟩ = some (.int .i64 o) ∧ w'.cell? ⟨w2.heap.size, 1, none⟩ = some (.int .i64 d) ∧ w'.cell? ⟨w2.heap.size, 2, none⟩ = some (.int .i64 a) ∧ w'.cell? ⟨w2.heap.size, 3, none⟩ = some (.int .i64 b) ∧ w'.cell? ⟨w2.heap.size, 4, none⟩ = some (.int .i32 n) ∧ w'.cell? ⟨w2.heap.size + 1, 0, none⟩ = some (.int .i64 o) ∧ w'.cell? ⟨w2.heap.size + 1, 1, none⟩ = some (.int .i64 d') ∧ w'.cell? ⟨w2.heap.size + 1, 2, none⟩ = some (.int .i64 a') ∧ w'.cell? ⟨w2.heap.size + 1, 3, none⟩ = some (.int .i64 b') ∧ w'.cell? ⟨w2.heap.size + 1, 4, none⟩ = some (.int .i32 n') ∧ w'.cell? ⟨w5.heap.size, 0, none⟩ = some (.int .i64 o) ∧ w'.cell? ⟨w5.heap.size, 1, none⟩ = some (.int .i64 d) ∧ w'.cell? ⟨w5.heap.size, 2, none⟩ = some (.int .i64 a) ∧ w'.cell? ⟨w5.heap.size, 3, none⟩ = some (.int .i64 b) ∧ w'.cell? ⟨w5.heap.size, 4, none⟩ = some (.int .i32 n))
      (exact back_cells w2 w5 _ o d a b n o d' a' b' n' F5 (by assumption))
      (first
        | (go_at_call_of 12 d; refine (text_as o d a b n v true s ST E _ (hideP (P5.out.fr (((Fr.refl _).alloc _).trans (Hid.out (by assumption)))))).mono ?_; rintro e w' ⟨rfl, hF⟩; have hB : Hid (Fr (w5.alloc (.cells (cells o d a b n) 27)) w') := hideP (Fr.trans (Hid.out (by assumption)) hF); clear hF)
        | (go_at_call_of 12 d'; refine (text_as o d' a' b' n' u true t ST2 E' _ (hideP (P5.out.fr (((Fr.refl _).alloc _).trans (Hid.out (by assumption)))))).mono ?_; rintro e w' ⟨rfl, hF⟩; have hB : Hid (Fr (w5.alloc (.cells (cells o d a b n) 27)) w') := hideP (Fr.trans (Hid.out (by assumption)) hF); clear hF)
        | (go_at_call 8; refine (known_as _ (hideP (P5.out.fr (((Fr.refl _).alloc _).trans (Hid.out (by assumption)))))).mono ?_; rintro e w' ⟨rfl, hF⟩; have hB : Hid (Fr (w5.alloc (.cells (cells o d a b n) 27)) w') := hideP (Fr.trans (Hid.out (by assumption)) hF); clear hF))
    all_goals
      go_wp2_with fail
      go_ret
      exact ⟨rfl, B5.out.trans (((Fr.refl _).alloc _).trans (Hid.out (by assumption)))⟩
  subst q1
  by_cases q2 : a = a'
  case neg =>
    obtain ⟨s, ST⟩ : ∃ s, Hid (Num.bs (Num.tx o d a b n true) = s) := ⟨_, hideP rfl⟩
    obtain ⟨t, ST2⟩ : ∃ t, Hid (Num.bs (Num.tx o d a' b' n' true) = t) := ⟨_, hideP rfl⟩
    have m0 : (v == u) = false := by
      have : v ≠ u := fun h => q2 (Num.wd_inj _ _ _ _ _ _ _ _ _ _ K.out K'.out (hv.out.trans (h.trans hu.out.symm))).2.2.1
      simpa using this
    have m1 : ¬ s = t := fun h => q2 (Num.tx_inj _ _ _ _ _ _ _ _ _ _ K.out K'.out (Num.bs_inj _ _ (ST.out.trans (h.trans ST2.out.symm)))).2.2.1
    have m2 : (s.toList == t.toList) = false := Num.beq_apart s t m1
    clear m1
    have q' : ¬ a' = a := fun h => q2 h.symm
    clear K K' hv hu
    go_wp2_with fail
    go_region_held3 (fun w' => w'.cell? ⟨w2.heap.size, 0, none⟩ = some (.int .i64 o) ∧ w'.cell? ⟨w2.heap.size, 1, none⟩ = some (.int .i64 d) ∧ w'.cell? ⟨w2.heap.size, 2, none⟩ = some (.int .i64 a) ∧ w'.cell? ⟨w2.heap.size, 3, none⟩ = some (.int .i64 b) ∧ w'.cell? ⟨w2.heap.size, 4, none⟩ = some (.int .i32 n) ∧ w'.cell? ⟨w2.heap.size + 1, 0, none⟩ = some (.int .i64 o) ∧ w'.cell? ⟨w2.heap.size + 1, 1, none⟩ = some (.int .i64 d) ∧ w'.cell? ⟨w2.heap.size + 1, 2, none⟩ = some (.int .i64 a') ∧ w'.cell? ⟨w2.heap.size + 1, 3, none⟩ = some (.int .i64 b') ∧ w'.cell? ⟨w2.heap.size + 1, 4, none⟩ = some (.int .i32 n') ∧ w'.cell? ⟨w5.heap.size, 0, none⟩ = some (.int .i64 o) ∧ w'.cell? ⟨w5.heap.size, 1, none⟩ = some (.int .i64 d) ∧ w'.cell? ⟨w5.heap.size, 2, none⟩ = some (.int .i64 a) ∧ w'.cell? ⟨w5.heap.size, 3, none⟩ = some (.int .i64 b) ∧ w'.cell? ⟨w5.heap.size, 4, none⟩ = some (.int .i32 n))
      (exact back_cells w2 w5 _ o d a b n o d a' b' n' F5 (by assumption))
      (first
        | (go_at_call_of 12 a; refine (text_as o d a b n v true s ST E _ (hideP (P5.out.fr (((Fr.refl _).alloc _).trans (Hid.out (by assumption)))))).mono ?_; rintro e w' ⟨rfl, hF⟩; have hB : Hid (Fr (w5.alloc (.cells (cells o d a b n) 27)) w') := hideP (Fr.trans (Hid.out (by assumption)) hF); clear hF)
        | (go_at_call_of 12 a'; refine (text_as o d a' b' n' u true t ST2 E' _ (hideP (P5.out.fr (((Fr.refl _).alloc _).trans (Hid.out (by assumption)))))).mono ?_; rintro e w' ⟨rfl, hF⟩; have hB : Hid (Fr (w5.alloc (.cells (cells o d a b n) 27)) w') := hideP (Fr.trans (Hid.out (by assumption)) hF); clear hF)
        | (go_at_call 8; refine (known_as _ (hideP (P5.out.fr (((Fr.refl _).alloc _).trans (Hid.out (by assumption)))))).mono ?_; rintro e w' ⟨rfl, hF⟩; have hB : Hid (Fr (w5.alloc (.cells (cells o d a b n) 27)) w') := hideP (Fr.trans (Hid.out (by assumption)) hF); clear hF))
    all_goals
      go_wp2_with fail
      go_ret
      exact ⟨rfl, B5.out.trans (((Fr.refl _).alloc _).trans (Hid.out (by assumption)))⟩
  subst q2
  by_cases q3 : b = b'
  case neg =>
    obtain ⟨s, ST⟩ : ∃ s, Hid (Num.bs (Num.tx o d a b n true) = s) := ⟨_, hideP rfl⟩
    obtain ⟨t, ST2⟩ : ∃ t, Hid (Num.bs (Num.tx o d a b' n' true) = t) := ⟨_, hideP rfl⟩
    have m0 : (v == u) = false := by
      have : v ≠ u := fun h => q3 (Num.wd_inj _ _ _ _ _ _ _ _ _ _ K.out K'.out (hv.out.trans (h.trans hu.out.symm))).2.2.2.1
      simpa using this
    have m1 : ¬ s = t := fun h => q3 (Num.tx_inj _ _ _ _ _ _ _ _ _ _ K.out K'.out (Num.bs_inj _ _ (ST.out.trans (h.trans ST2.out.symm)))).2.2.2.1
    have m2 : (s.toList == t.toList) = false := Num.beq_apart s t m1
    clear m1
    have q' : ¬ b' = b := fun h => q3 h.symm
    clear K K' hv hu
    go_wp2_with fail
    go_region_held3 (fun w' => w'.cell? ⟨w2.heap.size, 0, none⟩ = some (.int .i64 o) ∧ w'.cell? ⟨w2.heap.size, 1, none⟩ = some (.int .i64 d) ∧ w'.cell? ⟨w2.heap.size, 2, none⟩ = some (.int .i64 a) ∧ w'.cell? ⟨w2.heap.size, 3, none⟩ = some (.int .i64 b) ∧ w'.cell? ⟨w2.heap.size, 4, none⟩ = some (.int .i32 n) ∧ w'.cell? ⟨w2.heap.size + 1, 0, none⟩ = some (.int .i64 o) ∧ w'.cell? ⟨w2.heap.size + 1, 1, none⟩ = some (.int .i64 d) ∧ w'.cell? ⟨w2.heap.size + 1, 2, none⟩ = some (.int .i64 a) ∧ w'.cell? ⟨w2.heap.size + 1, 3, none⟩ = some (.int .i64 b') ∧ w'.cell? ⟨w2.heap.size + 1, 4, none⟩ = some (.int .i32 n') ∧ w'.cell? ⟨w5.heap.size, 0, none⟩ = some (.int .i64 o) ∧ w'.cell? ⟨w5.heap.size, 1, none⟩ = some (.int .i64 d) ∧ w'.cell? ⟨w5.heap.size, 2, none⟩ = some (.int .i64 a) ∧ w'.cell? ⟨w5.heap.size, 3, none⟩ = some (.int .i64 b) ∧ w'.cell? ⟨w5.heap.size, 4, none⟩ = some (.int .i32 n))
      (exact back_cells w2 w5 _ o d a b n o d a b' n' F5 (by assumption))
      (first
        | (go_at_call_of 12 b; refine (text_as o d a b n v true s ST E _ (hideP (P5.out.fr (((Fr.refl _).alloc _).trans (Hid.out (by assumption)))))).mono ?_; rintro e w' ⟨rfl, hF⟩; have hB : Hid (Fr (w5.alloc (.cells (cells o d a b n) 27)) w') := hideP (Fr.trans (Hid.out (by assumption)) hF); clear hF)
        | (go_at_call_of 12 b'; refine (text_as o d a b' n' u true t ST2 E' _ (hideP (P5.out.fr (((Fr.refl _).alloc _).trans (Hid.out (by assumption)))))).mono ?_; rintro e w' ⟨rfl, hF⟩; have hB : Hid (Fr (w5.alloc (.cells (cells o d a b n) 27)) w') := hideP (Fr.trans (Hid.out (by assumption)) hF); clear hF)
        | (go_at_call 8; refine (known_as _ (hideP (P5.out.fr (((Fr.refl _).alloc _).trans (Hid.out (by assumption)))))).mono ?_; rintro e w' ⟨rfl, hF⟩; have hB : Hid (Fr (w5.alloc (.cells (cells o d a b n) 27)) w') := hideP (Fr.trans (Hid.out (by assumption)) hF); clear hF))
    all_goals
      go_wp2_with fail
      go_ret
      exact ⟨rfl, B5.out.trans (((Fr.refl _).alloc _).trans (Hid.out (by assumption)))⟩
  subst q3
  by_cases q4 : n = n'
  case neg =>
    obtain ⟨s, ST⟩ : ∃ s, Hid (Num.bs (Num.tx o d a b n true) = s) := ⟨_, hideP rfl⟩
    obtain ⟨t, ST2⟩ : ∃ t, Hid (Num.bs (Num.tx o d a b n' true) = t) := ⟨_, hideP rfl⟩
    have m0 : (v == u) = false := by
      have : v ≠ u := fun h => q4 (Num.wd_inj _ _ _ _ _ _ _ _ _ _ K.out K'.out (hv.out.trans (h.trans hu.out.symm))).2.2.2.2
      simpa using this
    have m1 : ¬ s = t := fun h => q4 (Num.tx_inj _ _ _ _ _ _ _ _ _ _ K.out K'.out (Num.bs_inj _ _ (ST.out.trans (h.trans ST2.out.symm)))).2.2.2.2
    have m2 : (s.toList == t.toList) = false := Num.beq_apart s t m1
    clear m1
    have q' : ¬ n' = n := fun h => q4 h.symm
    clear K K' hv hu
    go_wp2_with fail
    go_region_held3 (fun w' => w'.cell? ⟨w2.heap.size, 0, none⟩ = some (.int .i64 o) ∧ w'.cell? ⟨w2.heap.size, 1, none⟩ = some (.int .i64 d) ∧ w'.cell? ⟨w2.heap.size, 2, none⟩ = some (.int .i64 a) ∧ w'.cell? ⟨w2.heap.size, 3, none⟩ = some (.int .i64 b) ∧ w'.cell? ⟨w2.heap.size, 4, none⟩ = some (.int .i32 n) ∧ w'.cell? ⟨w2.heap.size + 1, 0, none⟩ = some (.int .i64 o) ∧ w'.cell? ⟨w2.heap.size + 1, 1, none⟩ = some (.int .i64 d) ∧ w'.cell? ⟨w2.heap.size + 1, 2, none⟩ = some (.int .i64 a) ∧ w'.cell? ⟨w2.heap.size + 1, 3, none⟩ = some (.int .i64 b) ∧ w'.cell? ⟨w2.heap.size + 1, 4, none⟩ = some (.int .i32 n') ∧ w'.cell? ⟨w5.heap.size, 0, none⟩ = some (.int .i64 o) ∧ w'.cell? ⟨w5.heap.size, 1, none⟩ = some (.int .i64 d) ∧ w'.cell? ⟨w5.heap.size, 2, none⟩ = some (.int .i64 a) ∧ w'.cell? ⟨w5.heap.size, 3, none⟩ = some (.int .i64 b) ∧ w'.cell? ⟨w5.heap.size, 4, none⟩ = some (.int .i32 n))
      (exact back_cells w2 w5 _ o d a b n o d a b n' F5 (by assumption))
      (first
        | (go_at_call_of 12 n; refine (text_as o d a b n v true s ST E _ (hideP (P5.out.fr (((Fr.refl _).alloc _).trans (Hid.out (by assumption)))))).mono ?_; rintro e w' ⟨rfl, hF⟩; have hB : Hid (Fr (w5.alloc (.cells (cells o d a b n) 27)) w') := hideP (Fr.trans (Hid.out (by assumption)) hF); clear hF)
        | (go_at_call_of 12 n'; refine (text_as o d a b n' u true t ST2 E' _ (hideP (P5.out.fr (((Fr.refl _).alloc _).trans (Hid.out (by assumption)))))).mono ?_; rintro e w' ⟨rfl, hF⟩; have hB : Hid (Fr (w5.alloc (.cells (cells o d a b n) 27)) w') := hideP (Fr.trans (Hid.out (by assumption)) hF); clear hF)
        | (go_at_call 8; refine (known_as _ (hideP (P5.out.fr (((Fr.refl _).alloc _).trans (Hid.out (by assumption)))))).mono ?_; rintro e w' ⟨rfl, hF⟩; have hB : Hid (Fr (w5.alloc (.cells (cells o d a b n) 27)) w') := hideP (Fr.trans (Hid.out (by assumption)) hF); clear hF))
    all_goals
      go_wp2_with fail
      go_ret
      exact ⟨rfl, B5.out.trans (((Fr.refl _).alloc _).trans (Hid.out (by assumption)))⟩
  subst q4
  obtain rfl : v = u := hv.out.symm.trans hu.out
  obtain ⟨s, ST⟩ : ∃ s, Hid (Num.bs (Num.tx o d a b n true) = s) := ⟨_, hideP rfl⟩
  clear K K' hv hu
  go_wp2_with fail
  go_region_held3 (fun w' => w'.cell? ⟨w2.heap.size, 0, none⟩ = some (.int .i64 o) ∧ w'.cell? ⟨w2.heap.size, 1, none⟩ = some (.int .i64 d) ∧ w'.cell? ⟨w2.heap.size, 2, none⟩ = some (.int .i64 a) ∧ w'.cell? ⟨w2.heap.size, 3, none⟩ = some (.int .i64 b) ∧ w'.cell? ⟨w2.heap.size, 4, none⟩ = some (.int .i32 n) ∧ w'.cell? ⟨w2.heap.size + 1, 0, none⟩ = some (.int .i64 o) ∧ w'.cell? ⟨w2.heap.size + 1, 1, none⟩ = some (.int .i64 d) ∧ w'.cell? ⟨w2.heap.size + 1, 2, none⟩ = some (.int .i64 a) ∧ w'.cell? ⟨w2.heap.size + 1, 3, none⟩ = some (.int .i64 b) ∧ w'.cell? ⟨w2.heap.size + 1, 4, none⟩ = some (.int .i32 n) ∧ w'.cell? ⟨w5.heap.size, 0, none⟩ = some (.int .i64 o) ∧ w'.cell? ⟨w5.heap.size, 1, none⟩ = some (.int .i64 d) ∧ w'.cell? ⟨w5.heap.size, 2, none⟩ = some (.int .i64 a) ∧ w'.cell? ⟨w5.heap.size, 3, none⟩ = some (.int .i64 b) ∧ w'.cell? ⟨w5.heap.size, 4, none⟩ = some (.int .i32 n))
    (exact back_cells w2 w5 _ o d a b n o d a b n F5 (by assumption))
    (first
      | (go_at_call 12; refine (text_as o d a b n v true s ST E _ (hideP (P5.out.fr (((Fr.refl _).alloc _).trans (Hid.out (by assumption)))))).mono ?_; rintro e w' ⟨rfl, hF⟩; have hB : Hid (Fr (w5.alloc (.cells (cells o d a b n) 27)) w') := hideP (Fr.trans (Hid.out (by assumption)) hF); clear hF)
      | (go_at_call 12; refine (text_as o d a b n v true s ST E' _ (hideP (P5.out.fr (((Fr.refl _).alloc _).trans (Hid.out (by assumption)))))).mono ?_; rintro e w' ⟨rfl, hF⟩; have hB : Hid (Fr (w5.alloc (.cells (cells o d a b n) 27)) w') := hideP (Fr.trans (Hid.out (by assumption)) hF); clear hF)
      | (go_at_call 8; refine (known_as _ (hideP (P5.out.fr (((Fr.refl _).alloc _).trans (Hid.out (by assumption)))))).mono ?_; rintro e w' ⟨rfl, hF⟩; have hB : Hid (Fr (w5.alloc (.cells (cells o d a b n) 27)) w') := hideP (Fr.trans (Hid.out (by assumption)) hF); clear hF))
  all_goals
    go_wp2_with fail
    go_ret
    exact ⟨rfl, B5.out.trans (((Fr.refl _).alloc _).trans (Hid.out (by assumption)))⟩
end Go.Proofs.YtlnliiihcajboaaDoor.Walks
