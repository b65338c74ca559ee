/- The walk of FilePlays. -/
import Derived.Test.YtgcpjlnncedcfaaDoorAsks
import Derived.Test.YtgcpjlnncedcfaaDoorPlay
import Derived.Test.YtgcpjlnncedcfaaDoorKnow
namespace Go.Proofs.YtgcpjlnncedcfaaDoor.Walks
open Go.ChangeShapes Go.WideShapes Go.ChangeAt Go.RowKit
set_option linter.unusedVariables false
theorem FrB.grown {B : Nat} {w w' : World} {row : Option Nat} (hg : w.grownBy w' row) (hB : B ≤ w.heap.size) (hr : ∀ k, row = some k → B ≤ k) : FrB B w w' :=
  ⟨hg.os, hg.output, hg.size, fun k hk => hg.block k (by omega) (fun e => by have := hr k e.symm; omega)⟩
theorem news3p (wr : World) (p q r : Value) (c : Obj) (j : Nat) (u : Value) (hj : [p, q, r][j]? = some u) : ((wr.alloc c).alloc (.cells #[p, q, r] 25)).cell? ((⟨wr.heap.size + 1, 0, none⟩ : Addr).add j) = some u := by
  have s : wr.heap.size + 1 = (wr.alloc c).heap.size := by simp
  have h : ∀ i, ((wr.alloc c).alloc (.cells #[p, q, r] 25)).cell? ⟨wr.heap.size + 1, i, none⟩ = #[p, q, r][i]? := fun i => World.cell?_alloc_at _ _ _ _ s
  rw [add_plain, h, ← hj]
  simp
theorem size3p {B : Nat} (wr : World) (c c' : Obj) (hB : B ≤ wr.heap.size) : B ≤ ((wr.alloc c).alloc c').heap.size := by
  simp
  omega
theorem FrB.appp {B : Nat} {w wr w1 : World} {c c' : Obj} {row : Option Nat} (h : FrB B w wr) (hg : ((wr.alloc c).alloc c').grownBy w1 row) (hB : B ≤ wr.heap.size) (hr : ∀ k, row = some k → B ≤ k) : FrB B w w1 := by
  have a : FrB B wr (wr.alloc c) := (FrB.alloc wr c).mono hB
  have b : FrB B (wr.alloc c) ((wr.alloc c).alloc c') := (FrB.alloc _ c').mono (by simp; omega)
  exact ((h.trans a).trans b).trans (FrB.grown hg (size3p wr c c' hB) hr)
theorem one3 (p q r : Int) : ∀ u ∈ [Value.int .i64 p, .int .i64 q, .int .u32 r], u.oneCell' = true := by
  intro u hu
  simp only [List.mem_cons, List.not_mem_nil, or_false] at hu
  rcases hu with rfl | rfl | rfl <;> rfl
set_option maxRecDepth 100000 in
set_option maxHeartbeats 4000000 in
theorem plays (A : Option Addr) (len cap : Nat) (kd ix nn : Nat → Int) (hlen : len * 24 ≤ 140737488351232) (w : World) (hL : Hid (Laid w)) (hA : Hid (AsksIn w A len kd ix nn)) :
    Calls Tryd.prog 4 #[.slice A len cap] w fun e w' => e = .returned (.bool true) ∧ FrB w.heap.size w w' := by
  obtain ⟨i0, hi, hz0, hz1, hz2⟩ := info_parts info25
  have HLEN := hideP hlen
  clear hlen
  have hlm : (len : Int) ≤ 9223372036854775807 := by have := HLEN.out; omega
  have B0 := hideP hL.out.pos
  go_enter Tryd.func4, Tryd.ntmps4
  go_wp2_with fail
  go_loopw [3, 8] (fun v i wr => ∃ (k : Nat) (xs : List Value), (k : Int) ≤ len ∧ i = .int .i64 k ∧ Hid (wr.ownsRow w.heap.size 25 3 v k xs) ∧ Hid (Okay xs k) ∧ Hid (FrB w.heap.size w wr)) (fun _ i _ => len - (intOf i).toNat)
  case atStart => exact ⟨0, [], by omega, rfl, World.ownsRow_nil _ _ _ _, Okay.nil, FrB.refl _ _⟩
  case round =>
    obtain ⟨k, xs, hk, rfl, HO, HK, HF⟩ := hrel
    rename_i wr
    by_cases hlt : (k : Int) < len
    · obtain ⟨b0, o0, rfl, cb, c0, c1, c2, nn0, nn1, nn2⟩ := hA.out k (by omega)
      have e0 : wr.cell? ⟨b0, o0 + k * 3, none⟩ = some (.int .i64 (kd k)) := by rw [HF.out.cell _ _ cb]; exact c0
      have e1 : wr.cell? ⟨b0, o0 + k * 3 + 1, none⟩ = some (.int .i64 (ix k)) := by rw [HF.out.cell _ _ cb]; exact c1
      have e2 : wr.cell? ⟨b0, o0 + k * 3 + 2, none⟩ = some (.int .u32 (nn k)) := by rw [HF.out.cell _ _ cb]; exact c2
      have N0 := hideP nn0
      have N1 := hideP nn1
      clear c0 c1 c2 cb nn0 nn1 nn2
      generalize kd k = kk at *
      generalize ix k = ii at *
      generalize nn k = vv at *
      go_wp2_with fail
      refine (within_kind _ _).mono ?_; rintro e w' ⟨⟨r1, rfl, r10, r11⟩, rfl⟩
      have K1 := hideP r10
      have K2 := hideP r11
      clear r10 r11
      go_wp2_with fail
      refine (within_place _ _).mono ?_; rintro e w' ⟨⟨r2, rfl, r20, r21⟩, rfl⟩
      obtain ⟨q2, Q2, q20, q21⟩ : ∃ q, r2.tmod 34 = q ∧ -33 ≤ q ∧ q ≤ 33 := ⟨_, rfl, by have := Int.lt_tmod_of_pos r2 (b := 34) (by decide); omega, by have := Int.tmod_lt_of_pos r2 (b := 34) (by decide); omega⟩
      by_cases h4 : r1 < 4
      · have I2 : Hid (In64 (q2 - 1)) := ⟨by omega, by omega⟩
        have C1 := hideP (news3p wr (.int .i64 r1) (.int .i64 (q2 - 1)) (.int .u32 vv) (.cells #[.int .i64 r1, .int .i64 (q2 - 1), .int .u32 vv] 25))
        have C2 := hideP (one3 r1 (q2 - 1) vv)
        have C3 : Hid (k + 1 ≤ maxLen) := by have := HLEN.out; unfold Hid maxLen; omega
        have C4 : Hid ((k + 1) * 24 ≤ 140737488355328) := by have := HLEN.out; unfold Hid; omega
        have C5 := hideP (size3p wr (.cells #[.int .i64 r1, .int .i64 (q2 - 1), .int .u32 vv] 25) (.cells #[.int .i64 r1, .int .i64 (q2 - 1), .int .u32 vv] 25) HF.out.size)
        go_wp2_with (first
          | (at_builtin; refine wpList_append_own _ rfl _ _ 22 rfl w.heap.size 25 i0 (.agg #[.int .i64 0, .int .i64 0, .int .u32 0]) 3 24 Tryd.underlying22 hi hz0 hz1 hz2 rfl (by decide) _ _ _ rfl (by exact (HO.out.alloc _).alloc _) ⟨wr.heap.size + 1, 0, none⟩ 1 1 [.int .i64 r1, .int .i64 (q2 - 1), .int .u32 vv] rfl rfl C1.out C2.out C3.out C4.out C5.out ?_))
        intro v' w1 hown' hgrow _
        have O1 := hideP hown'
        have KK := hideP (HK.out.snoc (by have := HO.out.1; omega) r1 (q2 - 1) vv N0.out N1.out I2.out)
        have F1 := hideP (FrB.appp HF.out hgrow HF.out.size (fun k hk => (HO.out.lt k hk).1))
        clear hown' hgrow C1 C2 C3 C4 C5
        go_wp2_with fail
        exact ⟨⟨k + 1, _, by omega, by rw [Int.natCast_add]; rfl, O1, KK, F1⟩, by simp [intOf]; omega⟩
      · have I2 : Hid (In64 (r2)) := ⟨by omega, by omega⟩
        have C1 := hideP (news3p wr (.int .i64 r1) (.int .i64 (r2)) (.int .u32 vv) (.cells #[.int .i64 r1, .int .i64 (r2), .int .u32 vv] 25))
        have C2 := hideP (one3 r1 (r2) vv)
        have C3 : Hid (k + 1 ≤ maxLen) := by have := HLEN.out; unfold Hid maxLen; omega
        have C4 : Hid ((k + 1) * 24 ≤ 140737488355328) := by have := HLEN.out; unfold Hid; omega
        have C5 := hideP (size3p wr (.cells #[.int .i64 r1, .int .i64 (r2), .int .u32 vv] 25) (.cells #[.int .i64 r1, .int .i64 (r2), .int .u32 vv] 25) HF.out.size)
        go_wp2_with (first
          | (at_builtin; refine wpList_append_own _ rfl _ _ 22 rfl w.heap.size 25 i0 (.agg #[.int .i64 0, .int .i64 0, .int .u32 0]) 3 24 Tryd.underlying22 hi hz0 hz1 hz2 rfl (by decide) _ _ _ rfl (by exact (HO.out.alloc _).alloc _) ⟨wr.heap.size + 1, 0, none⟩ 1 1 [.int .i64 r1, .int .i64 (r2), .int .u32 vv] rfl rfl C1.out C2.out C3.out C4.out C5.out ?_))
        intro v' w1 hown' hgrow _
        have O1 := hideP hown'
        have KK := hideP (HK.out.snoc (by have := HO.out.1; omega) r1 (r2) vv N0.out N1.out I2.out)
        have F1 := hideP (FrB.appp HF.out hgrow HF.out.size (fun k hk => (HO.out.lt k hk).1))
        clear hown' hgrow C1 C2 C3 C4 C5
        go_wp2_with fail
        exact ⟨⟨k + 1, _, by omega, by rw [Int.natCast_add]; rfl, O1, KK, F1⟩, by simp [intOf]; omega⟩
    · have hkl : k = len := by omega
      subst hkl
      obtain ⟨A', cap', kd', ix', nn', rfl, HA'⟩ := own_asks HO.out HK.out
      have HA1 := hideP HA'
      have HA2 := hideP (hA.out.frb HF.out)
      have L1 := hideP (HF.out.laid hL.out B0.out)
      clear HA' HO
      go_wp2_with fail
      refine (play A' _ cap' kd' ix' nn' _ L1 HA1).mono ?_; rintro e w3 ⟨rfl, hF⟩
      have F3 := hideP (HF.out.trans (hF.mono HF.out.size))
      clear hF
      have L3 := hideP (F3.out.laid hL.out B0.out)
      have HA3 := hideP (hA.out.frb F3.out)
      go_wp2_with fail
      refine (play A _ cap kd ix nn _ L3 HA3).mono ?_; rintro e w4 ⟨rfl, hF⟩
      have F4 := hideP (F3.out.trans (hF.mono F3.out.size))
      clear hF
      have L4 := hideP (F4.out.laid hL.out B0.out)
      go_wp2_with fail
      refine (known _ L4).mono ?_; rintro e w6 ⟨rfl, hF⟩
      have F6 := hideP (F4.out.trans (hF.mono F4.out.size))
      clear hF
      go_wp2_with fail
      go_ret
      exact ⟨rfl, F6.out⟩
end Go.Proofs.YtgcpjlnncedcfaaDoor.Walks
