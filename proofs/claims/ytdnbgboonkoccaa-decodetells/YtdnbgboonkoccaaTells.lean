/- Proved: for every uint32 w, every slice of ints tape and every instruction i the call DecodeTells(w, tape, i) returns true and leaves its arguments as they were. No condition. -/
import Derived.Test.YtdnbgboonkoccaaRows
import Derived.Test.YtdnbgboonkoccaaKnown
import Derived.Test.YtdnbgboonkoccaaEnc
import Derived.Test.YtdnbgboonkoccaaInst
import Derived.Test.YtdnbgboonkoccaaOpen
import Derived.WalkKit
import Derived.ProofKit
import Derived.OpenShut
namespace Go.Proofs.Ytdnbgboonkoccaa.decodeTells
open Go.ChangeShapes Go.WideShapes Go.ChangeAt Go.RowKit Walks
set_option linter.unusedVariables false
theorem own : ownKnob Try.prog.godebug = none := by kernel_rfl
theorem InstAt.frg {g b : Nat} {o d a e n : Int} {w w' : World} (h : InstAt b o d a e n w) (k : FrG g w w') (hb : b < w.heap.size) (hg : b ≠ g) : InstAt b o d a e n w' := by
  have e1 := fun o : Nat => World.cell?_of_block (w := w) (w' := w') (a := ⟨b, o, none⟩) (k.block b hb hg)
  have e2 := fun o : Nat => World.frozen?_of_block (w := w) (w' := w') (a := ⟨b, o, none⟩) (k.block b hb hg)
  exact ⟨by rw [e1]; exact h.c0, by rw [e1]; exact h.c1, by rw [e1]; exact h.c2, by rw [e1]; exact h.c3, by rw [e1]; exact h.c4,
    by rw [e2]; exact h.f0, by rw [e2]; exact h.f1, by rw [e2]; exact h.f2, by rw [e2]; exact h.f3, by rw [e2]; exact h.f4⟩
theorem tape_new (w : World) (c : Array Value) (A : Option Addr) (len cap : Nat) (zs : Nat → Int) (h : IntsIn .i64 w A len zs) :
    TapeAt (w.heap.size + 1) A len cap zs 0 ((w.alloc (.cells c 28)).alloc (.cells #[.slice A len cap, .int .i64 0] 33)) := by
  have s : (w.alloc (.cells c 28)).heap.size = w.heap.size + 1 := by simp
  refine ⟨?_, ?_, ?_, fun j hj => ?_⟩
  · rw [World.cell?_alloc_at _ _ _ _ s.symm]; rfl
  · rw [World.cell?_alloc_at _ _ _ _ s.symm]; rfl
  · rw [World.frozen?_alloc_at _ _ _ _ s.symm]
  · obtain ⟨b, o, h1, h2, h3, _⟩ := h j hj
    refine ⟨b, o, h1, by omega, ?_⟩
    rw [Fr.cell (((Fr.refl w).alloc _).alloc _) _ _ h2]; exact h3
set_option maxRecDepth 100000 in
set_option maxHeartbeats 8000000 in
theorem core (V o d a b n : Int) (A : Option Addr) (len cap : Nat) (zs : Nat → Int) (v0 : Hid (0 ≤ V)) (v1 : Hid (V ≤ 4294967295)) (w : World) (IN : Hid (IntsIn .i64 w A len zs)) :
    Calls Try.prog 4 #[.int .u32 V, .slice A len cap, .agg (cells o d a b n)] w fun e w' => e = .returned (.bool true) ∧ Fr w w' := by
  have TT := hideP (tape_new w (cells o d a b n) A len cap zs IN.out)
  have NI := hideP ((InstAt.new w o d a b n).past ((Fr.refl _).alloc (.cells #[.slice A len cap, .int .i64 0] 33)) (by simp))
  have z0 : Hid (0 ≤ 100) := hideP (by decide)
  go_enter Try.func4, Try.ntmps4
  go_wp2_with fail
  refine (inst_as (w.heap.size + 1) A len cap 0 zs _ TT z0).mono ?_; rintro e w1 ⟨⟨o', d', a', b', n', rfl⟩, hG⟩
  have N1 := hideP (InstAt.frg NI.out hG (by simp; omega) (by omega))
  have F1 : Hid (Fr w w1) := hideP ⟨hG.os, hG.output, Nat.le_trans (by simp; omega) hG.size, fun k hk => (hG.block k (by simp; omega) (by omega)).trans ((((Fr.refl w).alloc _).alloc _).block k hk)⟩
  clear hG
  go_wp2_with fail
  refine (enc_all o' d' a' b' n' _).mono ?_; rintro e w2 ⟨⟨v, g, rfl, l0, l1⟩, hF⟩
  have L0 := hideP l0
  have L1 := hideP l1
  have F2 := hideP hF
  clear hF l0 l1
  go_wp2_with fail
  refine (same_as _ v0.out v1.out _).mono ?_; rintro e w3 ⟨rfl, hF⟩
  have F3 := hideP (F2.out.trans hF)
  clear hF
  go_wp2_with fail
  refine (same_as _ (bits_lo_u32 _ _ _) (bits_hi_u32 _ _ _) _).mono ?_; rintro e w4 ⟨rfl, hF⟩
  have F4 := hideP (F3.out.trans hF)
  clear hF
  go_wp2_with fail
  refine (same_as _ (bits_lo_u32 _ _ _) (bits_hi_u32 _ _ _) _).mono ?_; rintro e w5 ⟨rfl, hF⟩
  have F5 := hideP (F4.out.trans hF)
  clear hF
  go_wp2_with fail
  refine (same_as _ (bits_lo_u32 _ _ _) (bits_hi_u32 _ _ _) _).mono ?_; rintro e w6 ⟨rfl, hF⟩
  have F6 := hideP (F5.out.trans hF)
  clear hF
  go_wp2_with fail
  refine (same_as _ (bits_lo_u32 _ _ _) (bits_hi_u32 _ _ _) _).mono ?_; rintro e w7 ⟨rfl, hF⟩
  have F7 := hideP (F6.out.trans hF)
  clear hF
  go_wp2_with fail
  refine (same_as _ (bits_lo_u32 _ _ _) (bits_hi_u32 _ _ _) _).mono ?_; rintro e w8 ⟨rfl, hF⟩
  have F8 := hideP (F7.out.trans hF)
  clear hF
  go_wp2_with fail
  refine (same_as _ L0.out L1.out _).mono ?_; rintro e w9 ⟨rfl, hF⟩
  have F9 := hideP (F8.out.trans hF)
  clear hF
  have lt : w.heap.size < w1.heap.size := cell_lt N1.out.c0
  have N9 := hideP ((N1.out.past ((Fr.refl w1).alloc (.cells (cells o' d' a' b' n') 28)) lt).past F9.out (by simp; omega))
  obtain ⟨c0, c1, c2, c3, c4, _, _, _, _, _⟩ := N9.out
  go_wp2_with fail
  refine (judged_as o d a b n _).mono ?_; rintro e w10 ⟨rfl, hF⟩
  have F10 := hideP (F9.out.trans hF)
  clear hF
  obtain ⟨x0, x1, x2, x3, x4⟩ := box5 w1 w10 o' d' a' b' n' F10.out
  go_wp2_with fail
  refine (judged_as o' d' a' b' n' _).mono ?_; rintro e w11 ⟨rfl, hF⟩
  have F11 := hideP (F10.out.trans hF)
  clear hF
  go_wp2_with fail
  refine (known _).mono ?_; rintro e w12 ⟨rfl, hF⟩
  have F12 := hideP (F11.out.trans hF)
  clear hF
  go_wp2_with fail
  go_ret
  exact ⟨rfl, (F1.out.alloc _).trans F12.out⟩
set_option maxRecDepth 100000 in
theorem lifted (os : Os) (started : os.Started) (H : Type) (enc : TypeId × Value → H) :
    ReturnsInHanded {} Try.checked os 4 .any (Rows.decodeTellsSpec.pre6 enc Try.prog Try.f4 Rows.decodeTellsRow.domain false) (Rows.decodeTellsSpec.post enc Try.prog Try.f4 false true false false) := by
  refine returnsInHanded_of_change (C := Try.checked) own started (by kernel_rfl) Try.func4
    (ChangeSpec.witness6 (enc := enc) (C := Try.checked) false ⟨#[], #[.int .u32 0, .slice none 0 0, .agg #[.int .i64 0, .int .i64 0, .int .i64 0, .int .i64 0, .int .i32 0]], []⟩ 8 (by kernel_rfl) (by kernel_rfl) (by kernel_rfl) (by kernel_rfl)) ?_
  intro W base args ds gs before hval0 hW hcnd _
  have hval : ∀ (j : Nat) t v, Try.f4.params[j]? = some t → args[j]? = some v → Value.okWide Try.prog W .any base t v := hval0
  have hW' := hW
  obtain ⟨p, q, hA0, hV, rfl, hfz, hnd⟩ := hW
  have hA : DataW.TrodAll enc Try.prog W 0 (fun _ => true) true Try.f4.params.toList args.toList ds p := hA0
  rw [Try.params4] at hA hval
  obtain ⟨v0, vs0, d0, ds0, p0, q0, hargs, rfl, rfl, h0, r0⟩ := trodAll_cons hA
  obtain ⟨v1, vs1, d1, ds1, p1, q1, rfl, rfl, rfl, h1, r1⟩ := trodAll_cons r0
  obtain ⟨v2, vs2, d2, ds2, p2, q2, rfl, rfl, rfl, h2, r2⟩ := trodAll_cons r1
  obtain ⟨rfl, rfl, rfl⟩ := trodAll_nil r2
  obtain rfl : args = #[v0, v1, v2] := by cases args; simp_all
  obtain ⟨rfl, rfl⟩ := trodVars_none hV
  obtain ⟨a0, rfl, rfl, rfl, w0⟩ := open_int Try.underlying22 (hval 0 22 v0 rfl rfl) h0
  obtain ⟨A1, len1, cap1, rfl⟩ := okWide_slice Try.underlying30 (hval 1 30 v1 rfl rfl)
  obtain ⟨cs, rfl, hsz⟩ := okWide_struct Try.underlying28 (hval 2 28 v2 rfl rfl)
  clear hA0 hval0
  simp only [List.append_nil] at hW'
  have hlt1 : ∀ x ∈ p1, x.block < W.heap.size := fun x hx => by simpa using hW'.lt x (by simp [hx])
  have hlt2 : ∀ x ∈ p2, x.block < W.heap.size := fun x hx => by simpa using hW'.lt x (by simp [hx])
  obtain ⟨zs, hz⟩ := ints_open Try.underlying30 Try.underlying3 cells3 h1 hlt1
  obtain ⟨o, d, a, b, n, rfl⟩ := inst_open hsz h2
  obtain ⟨l0, l1⟩ := bounds_u32 w0
  refine (core a0 o d a b n A1 len1 cap1 zs l0 l1 W hz).mono fun e W' ⟨he, hg⟩ => ?_
  subst he
  exact ⟨_, rfl, _, _, _, [], _, [], hW', (trodAll_cons_mk (shut_bool Try.underlying4 _) trodAll_mk0), (trodAll_cons_mk (shut_int Try.underlying22 w0) (trodAll_cons_mk (Fr.trod laidOut (by kernel_rfl) (of_decide_eq_true (by kernel_rfl)) h1 hg hlt1) (trodAll_cons_mk (Fr.trod laidOut (by kernel_rfl) (of_decide_eq_true (by kernel_rfl)) h2 hg hlt2) trodAll_mk0))), rfl, hg.kept _, fun h => by cases h⟩
theorem over : Rows.decodeTellsRow.holds Try.pinned (OpenSpec.ofChange Rows.decodeTellsSpec) :=
  OpenClaim.holds_of_wide 4 Try.f4 rfl rfl rfl rfl rfl rfl rfl ⟨rfl, rfl, rfl, rfl, rfl⟩ rfl rfl rfl rfl rfl (by kernel_rfl) Try.func4 (by kernel_rfl)
    (of_decide_eq_true (by kernel_rfl)) (by unfold Func.isWrapper; first | (rw [if_pos (by decide +kernel)]; kernel_rfl) | (rw [if_neg (by decide +kernel)]; exact ⟨rfl, rfl⟩))
    (fun os started H enc _ => lifted os started H enc)
/-- THE STATEMENT -/
theorem proved : Rows.DecodeTellsSaid :=
  over
#print axioms proved
end Go.Proofs.Ytdnbgboonkoccaa.decodeTells
