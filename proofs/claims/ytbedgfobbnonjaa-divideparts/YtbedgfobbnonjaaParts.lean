/- Proved: for all uint32 a, b the call DivideParts(a, b) returns true and leaves its arguments as they were. No condition. -/
import Derived.Test.YtbedgfobbnonjaaRows
import Derived.Test.YtbedgfobbnonjaaKnown
import Derived.WalkKit
import Derived.ProofKit
import Derived.OpenShut
namespace Go.Proofs.Ytbedgfobbnonjaa.divideParts
open Go.ChangeShapes Go.WideShapes Go.ChangeAt Go.RowKit Walks
set_option linter.unusedVariables false      -- a walk need not use every 'w<i>' (that an integer argument fits its kind)

theorem own : ownKnob Try.prog.godebug = none := by kernel_rfl

/-- the law's array and its slice of ops lie behind w: the array holds x, y -/
structure Ls (w : World) (x y : Int) (wr : World) : Prop where
  fr : Fr w wr
  s0 : wr.cell? ⟨w.heap.size + 1, 0, none⟩ = some (.int .i64 43)
  s1 : wr.cell? ⟨w.heap.size + 1, 1, none⟩ = some (.int .i64 45)
  l0 : wr.cell? ⟨w.heap.size, 0, none⟩ = some (.int .u32 x)
  l1 : wr.cell? ⟨w.heap.size, 1, none⟩ = some (.int .u32 y)
  z0 : wr.frozen? ⟨w.heap.size, 0, none⟩ = false
  z1 : wr.frozen? ⟨w.heap.size, 1, none⟩ = false
  sz : w.heap.size + 2 ≤ wr.heap.size
theorem Ls.on {w wr w' : World} {x y : Int} (h : Ls w x y wr) (f : Fr wr w') : Ls w x y w' := by
  have sz := h.sz
  exact ⟨h.fr.trans f, by rw [f.cell _ _ (by omega)]; exact h.s0, by rw [f.cell _ _ (by omega)]; exact h.s1, by rw [f.cell _ _ (by omega)]; exact h.l0, by rw [f.cell _ _ (by omega)]; exact h.l1,
    by rw [f.frozen _ _ (by omega)]; exact h.z0, by rw [f.frozen _ _ (by omega)]; exact h.z1, Nat.le_trans sz f.size⟩
theorem far_ne {B i j : Nat} : (⟨B, i, none⟩ : Addr) ≠ ⟨B + 1, j, none⟩ := fun e => by injection e with e; omega
theorem Ls.set0 {w wr : World} {x y : Int} (h : Ls w x y wr) (q : Int) : Ls w q y (wr.setCell ⟨w.heap.size, 0, none⟩ (.int .u32 q)) :=
  ⟨h.fr.setCell (Nat.le_refl _) _, by rw [set_other far_ne]; exact h.s0, by rw [set_other far_ne]; exact h.s1, set_same h.l0, by rw [set_other (addr_ne (by decide))]; exact h.l1,
    by simpa using h.z0, by simpa using h.z1, by rw [World.size_setCell]; exact h.sz⟩
theorem Ls.set1 {w wr : World} {x y : Int} (h : Ls w x y wr) (q : Int) : Ls w x q (wr.setCell ⟨w.heap.size, 1, none⟩ (.int .u32 q)) :=
  ⟨h.fr.setCell (Nat.le_refl _) _, by rw [set_other far_ne]; exact h.s0, by rw [set_other far_ne]; exact h.s1, by rw [set_other (addr_ne (by decide))]; exact h.l0, set_same h.l1,
    by simpa using h.z0, by simpa using h.z1, by rw [World.size_setCell]; exact h.sz⟩
theorem Ls.made (w : World) (S T : TypeId) : Ls w 0 0 ((w.alloc (.cells #[.int .u32 0, .int .u32 0] S)).alloc (.cells #[.int .i64 43, .int .i64 45] T)) := by
  have s : (w.alloc (.cells #[.int .u32 0, .int .u32 0] S)).heap.size = w.heap.size + 1 := by simp
  refine ⟨((Fr.refl w).alloc _).alloc _, ?_, ?_, ?_, ?_, ?_, ?_, by simp⟩
  · rw [World.cell?_alloc_at _ _ _ _ s.symm]; rfl
  · rw [World.cell?_alloc_at _ _ _ _ s.symm]; rfl
  · rw [World.cell?_alloc_past _ _ _ (by rw [s]; omega), World.cell?_alloc_at _ _ _ _ rfl]; rfl
  · rw [World.cell?_alloc_past _ _ _ (by rw [s]; omega), World.cell?_alloc_at _ _ _ _ rfl]; rfl
  · rw [World.frozen?_alloc_past _ _ _ (by rw [s]; omega), World.frozen?_alloc_at _ _ _ _ rfl]
  · rw [World.frozen?_alloc_past _ _ _ (by rw [s]; omega), World.frozen?_alloc_at _ _ _ _ rfl]
/-- what the array holds behind k rounds -/
def lx (q : Int) (k : Nat) : Int := if 0 < k then q else 0
def ly (r : Int) (k : Nat) : Int := if 1 < k then r else 0
set_option maxRecDepth 100000 in
set_option maxHeartbeats 4000000 in
theorem core (a b q r : Int) (g : Bool) (a0 : 0 ≤ a) (a1 : a ≤ 4294967295) (b0 : 0 ≤ b) (b1 : b ≤ 4294967295) (hg : (b == 0) = g)
    (Q : Hid (Num.ad 43 a b = q)) (R : Hid (Num.ad 45 a b = r)) (H : (g = true ∧ q = 4294967295 ∧ r = a) ∨ (g = false ∧ (q * b + r) % 4294967296 = a ∧ r < b)) (w : World) :
    Calls Try.prog 6 #[.int .u32 a, .int .u32 b] w fun e w' => e = .returned (.bool true) ∧ Fr w w' := by
  have HH := hideP H
  clear H
  go_enter Try.func6, Try.ntmps6
  go_wp2_with fail
  go_loopw [14] (fun t wr => ∃ k : Nat, (k : Int) ≤ 2 ∧ t = .int .i64 k ∧ Hid (Ls w (lx q k) (ly r k) wr)) (fun t _ => 2 - (intOf t).toNat)
  case atStart => exact ⟨0, by decide, rfl, Ls.made w _ _⟩
  case round =>
    rename World => wr
    obtain ⟨k, hk, rfl, HL⟩ := hrel
    have s0 := HL.out.s0
    have s1 := HL.out.s1
    have : k = 0 ∨ k = 1 ∨ k = 2 := by omega
    rcases this with rfl | rfl | rfl
    · go_wp2_with fail
      refine (new_as 43 a b (by decide) (by decide) a0 a1 b0 b1 _).mono ?_; rintro e w1 ⟨rfl, hF⟩
      have F1 := hideP hF
      clear hF
      go_wp2_with fail
      go_loopw [9] (fun t wx => ∃ j : Nat, (j : Int) ≤ 34 ∧ t = .int .i64 j ∧ Hid (Born wr.heap.size 43 a b (min j 8) wr wx)) (fun t _ => 34 - (intOf t).toNat)
      case atStart => exact ⟨0, by decide, rfl, F1⟩
      case round =>
        rename World => wx
        obtain ⟨j, hj, rfl, HF⟩ := hrel
        by_cases hlt : (j : Int) < 34
        · go_wp2_with fail
          refine (step_as _ 43 a b (min j 8) _ (by omega) rfl a0 a1 b0 b1 _ HF.out.at_).mono ?_; rintro e w3 ⟨rfl, hF⟩
          have F3 := hideP (HF.out.now hF)
          rw [min_next] at F3
          clear hF
          go_wp2_with fail
          exact ⟨⟨j + 1, by omega, by rw [Int.natCast_add]; rfl, F3⟩, by simp [intOf]; omega⟩
        · have e8 : min j 8 = 8 := by omega
          rw [e8] at HF
          clear e8
          go_wp2_with fail
          refine (late_as _ 43 a b _ (by decide) (by decide) a0 a1 b0 b1 Q _ HF.out.at_).mono ?_; rintro e w3 ⟨rfl, hF⟩
          have L3 := hideP (HL.out.on (HF.out.now hF).fr)
          have l0 := L3.out.l0
          have z0 := L3.out.z0
          clear hF
          go_wp2_with fail
          exact ⟨⟨1, by decide, rfl, L3.out.set0 q⟩, by simp [intOf]⟩
    · go_wp2_with fail
      refine (new_as 45 a b (by decide) (by decide) a0 a1 b0 b1 _).mono ?_; rintro e w1 ⟨rfl, hF⟩
      have F1 := hideP hF
      clear hF
      go_wp2_with fail
      go_loopw [9] (fun t wx => ∃ j : Nat, (j : Int) ≤ 34 ∧ t = .int .i64 j ∧ Hid (Born wr.heap.size 45 a b (min j 8) wr wx)) (fun t _ => 34 - (intOf t).toNat)
      case atStart => exact ⟨0, by decide, rfl, F1⟩
      case round =>
        rename World => wx
        obtain ⟨j, hj, rfl, HF⟩ := hrel
        by_cases hlt : (j : Int) < 34
        · go_wp2_with fail
          refine (step_as _ 45 a b (min j 8) _ (by omega) rfl a0 a1 b0 b1 _ HF.out.at_).mono ?_; rintro e w3 ⟨rfl, hF⟩
          have F3 := hideP (HF.out.now hF)
          rw [min_next] at F3
          clear hF
          go_wp2_with fail
          exact ⟨⟨j + 1, by omega, by rw [Int.natCast_add]; rfl, F3⟩, by simp [intOf]; omega⟩
        · have e8 : min j 8 = 8 := by omega
          rw [e8] at HF
          clear e8
          go_wp2_with fail
          refine (late_as _ 45 a b _ (by decide) (by decide) a0 a1 b0 b1 R _ HF.out.at_).mono ?_; rintro e w3 ⟨rfl, hF⟩
          have L3 := hideP (HL.out.on (HF.out.now hF).fr)
          have l1 := L3.out.l1
          have z1 := L3.out.z1
          clear hF
          go_wp2_with fail
          exact ⟨⟨2, by decide, rfl, L3.out.set1 r⟩, by simp [intOf]⟩
    · have l0 : wr.cell? ⟨w.heap.size, 0, none⟩ = some (.int .u32 q) := HL.out.l0
      have l1 : wr.cell? ⟨w.heap.size, 1, none⟩ = some (.int .u32 r) := HL.out.l1
      rcases HH.out with ⟨h1, h2, h3⟩ | ⟨h1, h2, h3⟩
      · subst h1 h2 h3
        go_wp2_with fail
        refine (known _).mono ?_; rintro e w5 ⟨rfl, hF⟩
        have HS := hideP (HL.out.fr.trans hF)
        clear hF
        go_wp2_with fail
        go_ret
        exact ⟨rfl, HS.out⟩
      · subst h1
        go_wp2_with fail
        refine (known _).mono ?_; rintro e w5 ⟨rfl, hF⟩
        have HS := hideP (HL.out.fr.trans hF)
        clear hF
        go_wp2_with fail
        go_ret
        exact ⟨rfl, HS.out⟩
theorem walk (a0 : Int) (a1 : Int) (w0 : (Lit.int .u32 a0).wf = true) (w1 : (Lit.int .u32 a1).wf = true) (w : World) :
    Calls Try.prog 6 #[.int .u32 a0, .int .u32 a1] w fun e w' => e = .returned (.bool true) ∧ Fr w w' := by
  obtain ⟨h0, h1⟩ := bounds_u32 w0
  obtain ⟨h2, h3⟩ := bounds_u32 w1
  refine core a0 a1 _ _ _ h0 (by omega) h2 (by omega) rfl rfl rfl ?_ w
  rw [show Num.ad 43 a0 a1 = Num.du a0 a1 from rfl, show Num.ad 45 a0 a1 = Num.ru a0 a1 from rfl, Num.du, Num.ru]
  by_cases z : a1 = 0
  · rw [if_pos z, if_pos z]
    exact Or.inl ⟨by simp [z], rfl, rfl⟩
  · rw [if_neg z, if_neg z]
    refine Or.inr ⟨by simp [z], ?_, Int.emod_lt_of_pos _ (by omega)⟩
    rw [Int.mul_comm, Int.mul_ediv_add_emod]
    omega

/-! ### THE ROW's STEP: WRITTEN OUT: LEAVE IT -/
set_option maxRecDepth 100000 in
theorem lifted (os : Os) (started : os.Started) (H : Type) (enc : TypeId × Value → H) :
    ReturnsInHanded {} Try.checked os 6 .any (Rows.dividePartsSpec.pre6 enc Try.prog Try.f6 Rows.dividePartsRow.domain false) (Rows.dividePartsSpec.post enc Try.prog Try.f6 false true false false) := by
  refine returnsInHanded_of_change (C := Try.checked) own started (by kernel_rfl) Try.func6
    (ChangeSpec.witness6 (enc := enc) (C := Try.checked) false ⟨#[], #[.int .u32 0, .int .u32 0], []⟩ 8 (by kernel_rfl) (by kernel_rfl) (by kernel_rfl) (by kernel_rfl)) ?_
  intro W base args ds gs before hval0 hW hcnd _
  have hval : ∀ (j : Nat) t v, Try.f6.params[j]? = some t → args[j]? = some v → Value.okWide Try.prog W .any base t v := hval0
  have hW' := hW
  obtain ⟨p, q, hA0, hV, rfl, hfz, hnd⟩ := hW
  have hA : DataW.TrodAll enc Try.prog W 0 (fun _ => true) true Try.f6.params.toList args.toList ds p := hA0
  rw [Try.params6] at hA hval
  obtain ⟨v0, vs0, d0, ds0, p0, q0, hargs, rfl, rfl, h0, r0⟩ := trodAll_cons hA
  obtain ⟨v1, vs1, d1, ds1, p1, q1, rfl, rfl, rfl, h1, r1⟩ := trodAll_cons r0
  obtain ⟨rfl, rfl, rfl⟩ := trodAll_nil r1
  obtain rfl : args = #[v0, v1] := by cases args; simp_all
  obtain ⟨rfl, rfl⟩ := trodVars_none hV
  obtain ⟨a0, rfl, rfl, rfl, w0⟩ := open_int Try.underlying22 (hval 0 22 v0 rfl rfl) h0
  obtain ⟨a1, rfl, rfl, rfl, w1⟩ := open_int Try.underlying22 (hval 1 22 v1 rfl rfl) h1
  clear hA0 hval0
  simp only [List.append_nil] at hW'
  refine (walk a0 a1 w0 w1 W).mono fun e W' ⟨he, hg⟩ => ?_
  subst he
  exact ⟨_, rfl, _, _, _, [], [], [], hW', (trodAll_cons_mk (shut_bool Try.underlying4 _) trodAll_mk0), (trodAll_cons_mk (shut_int Try.underlying22 w0) (trodAll_cons_mk (shut_int Try.underlying22 w1) trodAll_mk0)), rfl, hg.kept _, fun h => by cases h⟩

theorem over : Rows.dividePartsRow.holds Try.pinned (OpenSpec.ofChange Rows.dividePartsSpec) :=
  OpenClaim.holds_of_wide 6 Try.f6 rfl rfl rfl rfl rfl rfl rfl ⟨rfl, rfl, rfl, rfl, rfl⟩ rfl rfl rfl rfl rfl (by kernel_rfl) Try.func6 (by kernel_rfl)
    (of_decide_eq_true (by kernel_rfl)) (by unfold Func.isWrapper; first | (rw [if_pos (by decide +kernel)]; kernel_rfl) | (rw [if_neg (by decide +kernel)]; exact ⟨rfl, rfl⟩))
    (fun os started H enc _ => lifted os started H enc)

/-- ████ THE STATEMENT ████ -/
theorem proved : Rows.DividePartsSaid :=
  over
#print axioms proved
end Go.Proofs.Ytbedgfobbnonjaa.divideParts
