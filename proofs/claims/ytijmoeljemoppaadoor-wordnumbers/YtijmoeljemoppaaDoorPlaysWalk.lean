/- The walk of WordPlays. -/
import Derived.Test.YtijmoeljemoppaaDoorAsks
import Derived.Test.YtijmoeljemoppaaDoorPlay
import Derived.Test.YtijmoeljemoppaaDoorKnown
namespace Go.Proofs.YtijmoeljemoppaaDoor.Walks
open Go.ChangeShapes Go.WideShapes Go.ChangeAt Go.RowKit
set_option linter.unusedVariables false
theorem FrB.grown {B : Nat} {w w' : World} {row : Option Nat} (hg : w.grownBy w' row) (hB : B ≤ w.heap.size) (hr : ∀ k, row = some k → B ≤ k) : FrB B w w' :=
  ⟨hg.os, hg.output, hg.size, fun k hk => hg.block k (by omega) (fun e => by have := hr k e.symm; omega)⟩
theorem news3 (wr : World) (p q r : Value) (c : Obj) (j : Nat) (u : Value) (hj : [p, q, r][j]? = some u) : (((wr.alloc c).alloc (.cells #[p, q, r] 25)).drew).cell? ((⟨wr.heap.size + 1, 0, none⟩ : Addr).add j) = some u := by
  have s : wr.heap.size + 1 = (wr.alloc c).heap.size := by simp
  have h : ∀ i, (((wr.alloc c).alloc (.cells #[p, q, r] 25)).drew).cell? ⟨wr.heap.size + 1, i, none⟩ = #[p, q, r][i]? := fun i => World.cell?_alloc_at _ _ _ _ s
  rw [add_plain, h, ← hj]
  simp
theorem size3 {B : Nat} (wr : World) (c c' : Obj) (hB : B ≤ wr.heap.size) : B ≤ (((wr.alloc c).alloc c').drew).heap.size := by
  show B ≤ ((wr.alloc c).alloc c').heap.size
  simp
  omega
theorem FrB.app {B : Nat} {w wr w1 : World} {c c' : Obj} {row : Option Nat} (h : FrB B w wr) (hg : ((wr.alloc c).alloc c').drew.grownBy w1 row) (hB : B ≤ wr.heap.size) (hr : ∀ k, row = some k → B ≤ k) : FrB B w w1 := by
  have a : FrB B wr (wr.alloc c) := (FrB.alloc wr c).mono hB
  have b : FrB B (wr.alloc c) ((wr.alloc c).alloc c') := (FrB.alloc _ c').mono (by simp; omega)
  have d : FrB B ((wr.alloc c).alloc c') ((wr.alloc c).alloc c').drew := FrB.alike ⟨rfl, rfl, rfl⟩
  exact (((h.trans a).trans b).trans d).trans (FrB.grown hg (by show B ≤ ((wr.alloc c).alloc c').heap.size; simp; omega) hr)
set_option maxRecDepth 100000 in
set_option maxHeartbeats 4000000 in
theorem plays (size : Int) (A : Option Addr) (len cap : Nat) (kd ix nn : Nat → Int) (hlen : len * 24 ≤ 140737488351232) (w : World) (hL : Hid (Laid w)) (hA : Hid (AsksIn w A len kd ix nn)) :
    Calls Tryd.prog 4 #[.int .i64 size, .slice A len cap] w fun e w' => e = .returned (.bool true) ∧ FrB w.heap.size w w' := by
  obtain ⟨i0, hi, hz0, hz1, hz2⟩ := info_parts info25
  have HLEN := hideP hlen
  clear hlen
  have hlm : (len : Int) ≤ 9223372036854775807 := by have := HLEN.out; omega
  have B0 := hideP hL.out.pos
  go_enter Tryd.func4, Tryd.ntmps4
  go_wp2_with fail
  go_loopw [5, 10] (fun v i wr => ∃ (k : Nat) (xs : List Value), (k : Int) ≤ len ∧ i = .int .i64 k ∧ Hid (wr.ownsRow w.heap.size 25 3 v k xs) ∧ Hid (Okay xs k) ∧ Hid (FrB w.heap.size w wr)) (fun _ i _ => len - (intOf i).toNat)
  case atStart => exact ⟨0, [], by omega, rfl, World.ownsRow_nil _ _ _ _, Okay.nil, FrB.refl _ _⟩
  case round =>
    obtain ⟨k, xs, hk, rfl, HO, HK, HF⟩ := hrel
    rename_i wr
    by_cases hlt : (k : Int) < len
    · obtain ⟨b0, o0, rfl, cb, c0, c1, c2, nn0, nn1⟩ := hA.out k (by omega)
      have e0 : wr.cell? ⟨b0, o0 + k * 3, none⟩ = some (.int .i64 (kd k)) := by rw [HF.out.cell _ _ cb]; exact c0
      have e1 : wr.cell? ⟨b0, o0 + k * 3 + 1, none⟩ = some (.int .i64 (ix k)) := by rw [HF.out.cell _ _ cb]; exact c1
      have e2 : wr.cell? ⟨b0, o0 + k * 3 + 2, none⟩ = some (.int .u32 (nn k)) := by rw [HF.out.cell _ _ cb]; exact c2
      have N0 := hideP nn0
      have N1 := hideP nn1
      clear c0 c1 c2 cb nn0 nn1
      generalize kd k = kk at *
      generalize ix k = ii at *
      generalize nn k = vv at *
      go_wp2_with fail
      go_region_with (first | (go_at_call_of 9 kk; refine (within_kind _ _).mono ?_; rintro e w' ⟨⟨r1, rfl⟩, rfl⟩) | (go_at_call_of 9 ii; refine (within_place _ _).mono ?_; rintro e w' ⟨⟨r2, rfl⟩, rfl⟩))
      all_goals
        by_cases h4 : r1 < 4
        · have C1 := hideP (news3 wr (.int .i64 r1) (.int .i64 (wrap64 (r2.tmod 5 - 1))) (.int .u32 vv) (.cells #[.int .i64 r1, .int .i64 (wrap64 (r2.tmod 5 - 1)), .int .u32 vv] 25))
          have C2 : Hid (∀ u ∈ [Value.int .i64 r1, .int .i64 (wrap64 (r2.tmod 5 - 1)), .int .u32 vv], u.oneCell' = true) := by
            intro u hu
            simp only [List.mem_cons, List.not_mem_nil, or_false] at hu
            rcases hu with rfl | rfl | rfl <;> rfl
          have C3 : Hid (k + 1 ≤ maxLen) := by have := HLEN.out; unfold Hid maxLen; omega
          have C4 : Hid ((k + 1) * 24 ≤ 140737488355328) := by have := HLEN.out; unfold Hid; omega
          have C5 := hideP (size3 wr (.cells #[.int .i64 r1, .int .i64 (wrap64 (r2.tmod 5 - 1)), .int .u32 vv] 25) (.cells #[.int .i64 r1, .int .i64 (wrap64 (r2.tmod 5 - 1)), .int .u32 vv] 25) HF.out.size)
          go_wp2_with (first
            | (at_builtin; refine wpList_append_own _ rfl _ _ 22 rfl w.heap.size 25 i0 (.agg #[.int .i64 0, .int .i64 0, .int .u32 0]) 3 24 Tryd.underlying22 hi hz0 hz1 hz2 rfl (by decide) _ _ _ rfl (by exact ((HO.out.alloc _).alloc _).drew) ⟨wr.heap.size + 1, 0, none⟩ 1 1 [.int .i64 r1, .int .i64 (wrap64 (r2.tmod 5 - 1)), .int .u32 vv] rfl rfl C1.out C2.out C3.out C4.out C5.out ?_))
          intro v' w1 hown' hgrow _
          have O1 := hideP hown'
          have K1 := hideP (HK.out.snoc (by have := HO.out.1; omega) r1 (wrap64 (r2.tmod 5 - 1)) vv N0.out N1.out)
          have F1 := hideP (FrB.app HF.out hgrow HF.out.size (fun k hk => (HO.out.lt k hk).1))
          clear hown' hgrow C1 C2 C3 C4 C5
          go_wp2_with fail
          exact ⟨⟨k + 1, _, by omega, by rw [Int.natCast_add]; rfl, O1, K1, F1⟩, by simp [intOf]; omega⟩
        · have C1 := hideP (news3 wr (.int .i64 r1) (.int .i64 (r2)) (.int .u32 vv) (.cells #[.int .i64 r1, .int .i64 (r2), .int .u32 vv] 25))
          have C2 : Hid (∀ u ∈ [Value.int .i64 r1, .int .i64 (r2), .int .u32 vv], u.oneCell' = true) := by
            intro u hu
            simp only [List.mem_cons, List.not_mem_nil, or_false] at hu
            rcases hu with rfl | rfl | rfl <;> rfl
          have C3 : Hid (k + 1 ≤ maxLen) := by have := HLEN.out; unfold Hid maxLen; omega
          have C4 : Hid ((k + 1) * 24 ≤ 140737488355328) := by have := HLEN.out; unfold Hid; omega
          have C5 := hideP (size3 wr (.cells #[.int .i64 r1, .int .i64 (r2), .int .u32 vv] 25) (.cells #[.int .i64 r1, .int .i64 (r2), .int .u32 vv] 25) HF.out.size)
          go_wp2_with (first
            | (at_builtin; refine wpList_append_own _ rfl _ _ 22 rfl w.heap.size 25 i0 (.agg #[.int .i64 0, .int .i64 0, .int .u32 0]) 3 24 Tryd.underlying22 hi hz0 hz1 hz2 rfl (by decide) _ _ _ rfl (by exact ((HO.out.alloc _).alloc _).drew) ⟨wr.heap.size + 1, 0, none⟩ 1 1 [.int .i64 r1, .int .i64 (r2), .int .u32 vv] rfl rfl C1.out C2.out C3.out C4.out C5.out ?_))
          intro v' w1 hown' hgrow _
          have O1 := hideP hown'
          have K1 := hideP (HK.out.snoc (by have := HO.out.1; omega) r1 (r2) vv N0.out N1.out)
          have F1 := hideP (FrB.app HF.out hgrow HF.out.size (fun k hk => (HO.out.lt k hk).1))
          clear hown' hgrow C1 C2 C3 C4 C5
          go_wp2_with fail
          exact ⟨⟨k + 1, _, by omega, by rw [Int.natCast_add]; rfl, O1, K1, F1⟩, by simp [intOf]; omega⟩
    · have hkl : k = len := by omega
      subst hkl
      obtain ⟨A', cap', kd', ix', nn', rfl, HA'⟩ := own_asks HO.out HK.out
      have HA1 := hideP HA'
      have HA2 := hideP (hA.out.frb HF.out)
      have L1 := hideP (HF.out.laid hL.out B0.out)
      clear HA' HO
      go_wp2_with fail
      refine (play _ A' _ cap' kd' ix' nn' _ L1 HA1).mono ?_; rintro e w3 ⟨rfl, hF⟩
      have F3 := hideP (HF.out.trans (hF.mono HF.out.size))
      clear hF
      have L3 := hideP (F3.out.laid hL.out B0.out)
      have HA3 := hideP (hA.out.frb F3.out)
      go_wp2_with fail
      refine (within_size _ _).mono ?_; rintro e w' ⟨⟨r3, rfl⟩, rfl⟩
      go_wp2_with fail
      refine (play _ A _ cap kd ix nn _ L3 HA3).mono ?_; rintro e w4 ⟨rfl, hF⟩
      have F4 := hideP (F3.out.trans (hF.mono F3.out.size))
      clear hF
      have L4 := hideP (F4.out.laid hL.out B0.out)
      have HA4 := hideP (hA.out.frb F4.out)
      go_wp2_with fail
      refine (play _ A _ cap kd ix nn _ L4 HA4).mono ?_; rintro e w5 ⟨rfl, hF⟩
      have F5 := hideP (F4.out.trans (hF.mono F4.out.size))
      clear hF
      have L5 := hideP (F5.out.laid hL.out B0.out)
      go_wp2_with fail
      refine (known _ L5).mono ?_; rintro e w6 ⟨rfl, hF⟩
      have F6 := hideP (F5.out.trans (hF.mono F5.out.size))
      clear hF
      go_wp2_with fail
      go_ret
      exact ⟨rfl, F6.out⟩
end Go.Proofs.YtijmoeljemoppaaDoor.Walks
