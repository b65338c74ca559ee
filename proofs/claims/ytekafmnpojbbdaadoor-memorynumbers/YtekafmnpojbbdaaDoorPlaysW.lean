/- The walk of MemoryPlays. -/
import Derived.Test.YtekafmnpojbbdaaDoorAsks
import Derived.Test.YtekafmnpojbbdaaDoorPlay
import Derived.Test.YtekafmnpojbbdaaDoorKnow
namespace Go.Proofs.YtekafmnpojbbdaaDoor.Walks
open Go.ChangeShapes Go.WideShapes Go.ChangeAt Go.RowKit
set_option linter.unusedVariables false
theorem size_drew (wr : World) (o o' : Obj) (B : Nat) (h : B ≤ wr.heap.size) : B ≤ ((wr.alloc o).drew.alloc o').heap.size := by
  have z : (wr.alloc o).drew.heap.size = wr.heap.size + 1 := by show (wr.alloc o).heap.size = _; simp
  have y : ((wr.alloc o).drew.alloc o').heap.size = (wr.alloc o).drew.heap.size + 1 := by simp
  omega
theorem OwnsDrew {wr : World} {B : Nat} {e : TypeId} {s n : Nat} {v : Value} {xs : List Value} (h : wr.ownsRow B e s v n xs) (o o' : Obj) : ((wr.alloc o).drew.alloc o').ownsRow B e s v n xs := (owns_alike (h.alloc o) (w' := (wr.alloc o).drew) ⟨rfl, rfl, rfl⟩).alloc o'
set_option maxRecDepth 100000 in
set_option maxHeartbeats 4000000 in
theorem plays_few (A : Option Addr) (len cap : Nat) (zs : Nat → Int) (hl : (len : Int) ≤ 1100) (K : Option Addr) (lenK capK : Nat) (kd nn aa dd : Nat → Int) (hlen : lenK * 24 ≤ 140737488351232) (w : World) (hL : Hid (Laid w)) (hA : Hid (IntsIn .u32 w A len zs)) (hK : Hid (AsksIn w K lenK kd nn aa dd)) :
    Calls Tryd.prog 4 #[.slice A len cap, .slice K lenK capK] w fun e w' => e = .returned (.bool true) ∧ FrB w.heap.size w w' := by
  obtain ⟨i0, hi, hz0, hz1, hz2⟩ := info_parts info25
  have HLEN := hideP hlen
  clear hlen
  have hlm : (lenK : Int) ≤ 9223372036854775807 := by have := HLEN.out; omega
  have B0 := hideP hL.out.pos
  go_enter Tryd.func4, Tryd.ntmps4
  go_wp2_with fail
  go_loopw [5, 10] (fun v i wr => ∃ (k : Nat) (xs : List Value), (k : Int) ≤ lenK ∧ i = .int .i64 k ∧ Hid (wr.ownsRow w.heap.size 25 4 v k xs) ∧ Hid (Okay xs k) ∧ Hid (FrB w.heap.size w wr)) (fun _ i _ => lenK - (intOf i).toNat)
  case atStart => exact ⟨0, [], by omega, rfl, World.ownsRow_nil _ _ _ _, Okay.nil, FrB.refl _ _⟩
  case round =>
    obtain ⟨k, xs, hk, rfl, HO, HK, HF⟩ := hrel
    rename_i wr
    by_cases hlt : (k : Int) < lenK
    · obtain ⟨b0, o0, rfl, cb, c0, c1, c2, c3, n0, n1, n2, n3⟩ := hK.out k (by omega)
      have e0 : wr.cell? ⟨b0, o0 + k * 4, none⟩ = some (.int .i64 (kd k)) := by rw [HF.out.cell _ _ cb]; exact c0
      have e1 : wr.cell? ⟨b0, o0 + k * 4 + 1, none⟩ = some (.int .i64 (nn k)) := by rw [HF.out.cell _ _ cb]; exact c1
      have e2 : wr.cell? ⟨b0, o0 + k * 4 + 2, none⟩ = some (.int .u32 (aa k)) := by rw [HF.out.cell _ _ cb]; exact c2
      have e3 : wr.cell? ⟨b0, o0 + k * 4 + 3, none⟩ = some (.int .u32 (dd k)) := by rw [HF.out.cell _ _ cb]; exact c3
      have N2 := hideP n2
      have N3 := hideP n3
      clear c0 c1 c2 c3 cb n0 n1 n2 n3
      generalize kd k = kk at *
      generalize nn k = ii at *
      generalize aa k = ad at *
      generalize dd k = dv at *
      obtain ⟨y, hy⟩ : ∃ y, bits .and .u32 ad 31 = y := ⟨_, rfl⟩
      obtain ⟨p, hp⟩ : ∃ p, bits .and .u32 y 1 = p := ⟨_, rfl⟩
      obtain ⟨z, hz⟩ : ∃ z, bits .andNot .u32 y 3 = z := ⟨_, rfl⟩
      have Y0 : Hid (0 ≤ y ∧ y < 4294967296) := ⟨by rw [← hy]; exact bits_lo_u32 _ _ _, Int.lt_of_le_of_lt (by rw [← hy]; exact bits_hi_u32 _ _ _) (by decide)⟩
      have Z0 : Hid (0 ≤ z ∧ z < 4294967296) := ⟨by rw [← hz]; exact bits_lo_u32 _ _ _, Int.lt_of_le_of_lt (by rw [← hz]; exact bits_hi_u32 _ _ _) (by decide)⟩
      obtain ⟨g, G⟩ : ∃ g, (p == 0) = g := ⟨_, rfl⟩
      cases g
      · go_wp2_with fail
        go_region_with (go_at_call 9; refine (within_kind _ _).mono ?_; rintro e w' ⟨⟨r1, rfl⟩, rfl⟩)
        all_goals
          go_wp2_with fail
          refine (within_n _ _).mono ?_; rintro e w' ⟨⟨r2, rfl⟩, rfl⟩
          have C1 := hideP (news4 wr (.cells #[.int .i64 r1, .int .i64 r2, .int .u32 y, .int .u32 dv] 25) (.int .i64 r1) (.int .i64 r2) (.int .u32 y) (.int .u32 dv) 25)
          have C2 := hideP (four r1 r2 y dv)
          have C3 : Hid (k + 1 ≤ maxLen) := by have := HLEN.out; unfold Hid maxLen; omega
          have C4 : Hid ((k + 1) * 24 ≤ 140737488355328) := by have := HLEN.out; unfold Hid; omega
          have C5 : Hid (∀ o o' : Obj, w.heap.size ≤ ((wr.alloc o).drew.alloc o').heap.size) := fun o o' => size_drew wr o o' _ HF.out.size
          go_wp2_with (first
            | (at_builtin; refine wpList_append_own _ rfl _ _ 22 rfl w.heap.size 25 i0 (.agg #[.int .i64 0, .int .i64 0, .int .u32 0, .int .u32 0]) 4 24 Tryd.underlying22 hi hz0 hz1 hz2 rfl (by decide) _ _ _ rfl (by exact OwnsDrew HO.out _ _) ⟨wr.heap.size + 1, 0, none⟩ 1 1 [.int .i64 r1, .int .i64 r2, .int .u32 y, .int .u32 dv] rfl rfl (by exact C1.out) C2.out C3.out C4.out (by exact C5.out _ _) ?_))
          intro v' w1 hown' hgrow _
          have O1 := hideP hown'
          have K1 := hideP (HK.out.snoc (by have := HO.out.1; omega) r1 r2 y dv Y0.out.1 Y0.out.2 N2.out N3.out)
          have F1 := hideP (FrB.app4 HF.out hgrow HF.out.size (fun k hk => (HO.out.lt k hk).1))
          clear hown' hgrow C1 C2 C3 C4 C5
          go_wp2_with fail
          exact ⟨⟨k + 1, _, by omega, by rw [Int.natCast_add]; rfl, O1, K1, F1⟩, by simp [intOf]; omega⟩
      · go_wp2_with fail
        go_region_with (go_at_call 9; refine (within_kind _ _).mono ?_; rintro e w' ⟨⟨r1, rfl⟩, rfl⟩)
        all_goals
          go_wp2_with fail
          refine (within_n _ _).mono ?_; rintro e w' ⟨⟨r2, rfl⟩, rfl⟩
          have C1 := hideP (news4 wr (.cells #[.int .i64 r1, .int .i64 r2, .int .u32 z, .int .u32 dv] 25) (.int .i64 r1) (.int .i64 r2) (.int .u32 z) (.int .u32 dv) 25)
          have C2 := hideP (four r1 r2 z dv)
          have C3 : Hid (k + 1 ≤ maxLen) := by have := HLEN.out; unfold Hid maxLen; omega
          have C4 : Hid ((k + 1) * 24 ≤ 140737488355328) := by have := HLEN.out; unfold Hid; omega
          have C5 : Hid (∀ o o' : Obj, w.heap.size ≤ ((wr.alloc o).drew.alloc o').heap.size) := fun o o' => size_drew wr o o' _ HF.out.size
          go_wp2_with (first
            | (at_builtin; refine wpList_append_own _ rfl _ _ 22 rfl w.heap.size 25 i0 (.agg #[.int .i64 0, .int .i64 0, .int .u32 0, .int .u32 0]) 4 24 Tryd.underlying22 hi hz0 hz1 hz2 rfl (by decide) _ _ _ rfl (by exact OwnsDrew HO.out _ _) ⟨wr.heap.size + 1, 0, none⟩ 1 1 [.int .i64 r1, .int .i64 r2, .int .u32 z, .int .u32 dv] rfl rfl (by exact C1.out) C2.out C3.out C4.out (by exact C5.out _ _) ?_))
          intro v' w1 hown' hgrow _
          have O1 := hideP hown'
          have K1 := hideP (HK.out.snoc (by have := HO.out.1; omega) r1 r2 z dv Z0.out.1 Z0.out.2 N2.out N3.out)
          have F1 := hideP (FrB.app4 HF.out hgrow HF.out.size (fun k hk => (HO.out.lt k hk).1))
          clear hown' hgrow C1 C2 C3 C4 C5
          go_wp2_with fail
          exact ⟨⟨k + 1, _, by omega, by rw [Int.natCast_add]; rfl, O1, K1, F1⟩, by simp [intOf]; omega⟩
    · have hkl : k = lenK := by omega
      subst hkl
      obtain ⟨A', cap', kd', nn', aa', dd', rfl, HA'⟩ := own_asks HO.out HK.out
      have HA1 := hideP HA'
      have L1 := hideP (HF.out.laid hL.out B0.out)
      have I1 := hideP (IntsIn.none .u32 wr none (fun _ => 0))
      clear HA' HO
      go_wp2_with fail
      refine (play none 0 0 (fun _ => 0) (by decide) A' _ cap' kd' nn' aa' dd' _ L1 I1 HA1).mono ?_; rintro e w3 ⟨rfl, hF⟩
      have F3 := hideP (HF.out.trans (hF.mono HF.out.size))
      clear hF
      have L3 := hideP (F3.out.laid hL.out B0.out)
      have HK3 := hideP (hK.out.frb F3.out)
      have HA3 := hideP (hA.out.frb2 F3.out)
      go_wp2_with fail
      refine (play _ len cap zs (by omega) K _ capK kd nn aa dd _ L3 HA3 HK3).mono ?_; rintro e w4 ⟨rfl, hF⟩
      have F4 := hideP (F3.out.trans (hF.mono F3.out.size))
      clear hF
      have HL4 : Hid (∀ o, FrB w.heap.size w (w4.alloc o)) := fun o => F4.out.trans ((FrB.alloc w4 o).mono F4.out.size)
      have HX4 : Hid (∀ T, IntsIn .u32 (w4.alloc (.cells #[.int .u32 7, .int .u32 8, .int .u32 9] T)) (some ⟨w4.heap.size, 0, Option.none⟩) 3 z789) := fun T => lit789 w4 T
      have HL5 : Hid (∀ o, Laid (w4.alloc o)) := fun o => (HL4.out o).laid hL.out B0.out
      have HK5 : Hid (∀ o, AsksIn (w4.alloc o) K k kd nn aa dd) := fun o => hK.out.frb (HL4.out o)
      go_wp2_with fail
      refine (play _ 3 3 z789 (by decide) K _ capK kd nn aa dd _ (by exact HL5.out _) (by exact HX4.out _) (by exact HK5.out _)).mono ?_; rintro e w5 ⟨rfl, hF⟩
      have F5 := hideP ((HL4.out _).trans (hF.mono (HL4.out _).size))
      clear hF
      have L5 := hideP (F5.out.laid hL.out B0.out)
      go_wp2_with fail
      refine (known _ L5).mono ?_; rintro e w6 ⟨rfl, hF⟩
      have F6 := hideP (F5.out.trans (hF.mono F5.out.size))
      clear hF
      go_wp2_with fail
      go_ret
      exact ⟨rfl, F6.out⟩
set_option maxRecDepth 100000 in
set_option maxHeartbeats 4000000 in
theorem plays_many (A : Option Addr) (len cap : Nat) (zs : Nat → Int) (hl : (1100 : Int) < len) (hcap : (len : Int) ≤ cap) (hx : (cap : Int) ≤ 9223372036854775807) (K : Option Addr) (lenK capK : Nat) (kd nn aa dd : Nat → Int) (hlen : lenK * 24 ≤ 140737488351232) (w : World) (hL : Hid (Laid w)) (hA : Hid (IntsIn .u32 w A 1100 zs)) (hK : Hid (AsksIn w K lenK kd nn aa dd)) :
    Calls Tryd.prog 4 #[.slice A len cap, .slice K lenK capK] w fun e w' => e = .returned (.bool true) ∧ FrB w.heap.size w w' := by
  obtain ⟨i0, hi, hz0, hz1, hz2⟩ := info_parts info25
  have HLEN := hideP hlen
  clear hlen
  have hlm : (lenK : Int) ≤ 9223372036854775807 := by have := HLEN.out; omega
  have B0 := hideP hL.out.pos
  obtain ⟨ba, oa, rfl, _⟩ := hA.out 0 (by decide)
  go_enter Tryd.func4, Tryd.ntmps4
  go_wp2_with fail
  go_loopw [5, 10] (fun v i wr => ∃ (k : Nat) (xs : List Value), (k : Int) ≤ lenK ∧ i = .int .i64 k ∧ Hid (wr.ownsRow w.heap.size 25 4 v k xs) ∧ Hid (Okay xs k) ∧ Hid (FrB w.heap.size w wr)) (fun _ i _ => lenK - (intOf i).toNat)
  case atStart => exact ⟨0, [], by omega, rfl, World.ownsRow_nil _ _ _ _, Okay.nil, FrB.refl _ _⟩
  case round =>
    obtain ⟨k, xs, hk, rfl, HO, HK, HF⟩ := hrel
    rename_i wr
    by_cases hlt : (k : Int) < lenK
    · obtain ⟨b0, o0, rfl, cb, c0, c1, c2, c3, n0, n1, n2, n3⟩ := hK.out k (by omega)
      have e0 : wr.cell? ⟨b0, o0 + k * 4, none⟩ = some (.int .i64 (kd k)) := by rw [HF.out.cell _ _ cb]; exact c0
      have e1 : wr.cell? ⟨b0, o0 + k * 4 + 1, none⟩ = some (.int .i64 (nn k)) := by rw [HF.out.cell _ _ cb]; exact c1
      have e2 : wr.cell? ⟨b0, o0 + k * 4 + 2, none⟩ = some (.int .u32 (aa k)) := by rw [HF.out.cell _ _ cb]; exact c2
      have e3 : wr.cell? ⟨b0, o0 + k * 4 + 3, none⟩ = some (.int .u32 (dd k)) := by rw [HF.out.cell _ _ cb]; exact c3
      have N2 := hideP n2
      have N3 := hideP n3
      clear c0 c1 c2 c3 cb n0 n1 n2 n3
      generalize kd k = kk at *
      generalize nn k = ii at *
      generalize aa k = ad at *
      generalize dd k = dv at *
      obtain ⟨y, hy⟩ : ∃ y, bits .and .u32 ad 31 = y := ⟨_, rfl⟩
      obtain ⟨p, hp⟩ : ∃ p, bits .and .u32 y 1 = p := ⟨_, rfl⟩
      obtain ⟨z, hz⟩ : ∃ z, bits .andNot .u32 y 3 = z := ⟨_, rfl⟩
      have Y0 : Hid (0 ≤ y ∧ y < 4294967296) := ⟨by rw [← hy]; exact bits_lo_u32 _ _ _, Int.lt_of_le_of_lt (by rw [← hy]; exact bits_hi_u32 _ _ _) (by decide)⟩
      have Z0 : Hid (0 ≤ z ∧ z < 4294967296) := ⟨by rw [← hz]; exact bits_lo_u32 _ _ _, Int.lt_of_le_of_lt (by rw [← hz]; exact bits_hi_u32 _ _ _) (by decide)⟩
      obtain ⟨g, G⟩ : ∃ g, (p == 0) = g := ⟨_, rfl⟩
      cases g
      · go_wp2_with fail
        go_region_with (go_at_call 9; refine (within_kind _ _).mono ?_; rintro e w' ⟨⟨r1, rfl⟩, rfl⟩)
        all_goals
          go_wp2_with fail
          refine (within_n _ _).mono ?_; rintro e w' ⟨⟨r2, rfl⟩, rfl⟩
          have C1 := hideP (news4 wr (.cells #[.int .i64 r1, .int .i64 r2, .int .u32 y, .int .u32 dv] 25) (.int .i64 r1) (.int .i64 r2) (.int .u32 y) (.int .u32 dv) 25)
          have C2 := hideP (four r1 r2 y dv)
          have C3 : Hid (k + 1 ≤ maxLen) := by have := HLEN.out; unfold Hid maxLen; omega
          have C4 : Hid ((k + 1) * 24 ≤ 140737488355328) := by have := HLEN.out; unfold Hid; omega
          have C5 : Hid (∀ o o' : Obj, w.heap.size ≤ ((wr.alloc o).drew.alloc o').heap.size) := fun o o' => size_drew wr o o' _ HF.out.size
          go_wp2_with (first
            | (at_builtin; refine wpList_append_own _ rfl _ _ 22 rfl w.heap.size 25 i0 (.agg #[.int .i64 0, .int .i64 0, .int .u32 0, .int .u32 0]) 4 24 Tryd.underlying22 hi hz0 hz1 hz2 rfl (by decide) _ _ _ rfl (by exact OwnsDrew HO.out _ _) ⟨wr.heap.size + 1, 0, none⟩ 1 1 [.int .i64 r1, .int .i64 r2, .int .u32 y, .int .u32 dv] rfl rfl (by exact C1.out) C2.out C3.out C4.out (by exact C5.out _ _) ?_))
          intro v' w1 hown' hgrow _
          have O1 := hideP hown'
          have K1 := hideP (HK.out.snoc (by have := HO.out.1; omega) r1 r2 y dv Y0.out.1 Y0.out.2 N2.out N3.out)
          have F1 := hideP (FrB.app4 HF.out hgrow HF.out.size (fun k hk => (HO.out.lt k hk).1))
          clear hown' hgrow C1 C2 C3 C4 C5
          go_wp2_with fail
          exact ⟨⟨k + 1, _, by omega, by rw [Int.natCast_add]; rfl, O1, K1, F1⟩, by simp [intOf]; omega⟩
      · go_wp2_with fail
        go_region_with (go_at_call 9; refine (within_kind _ _).mono ?_; rintro e w' ⟨⟨r1, rfl⟩, rfl⟩)
        all_goals
          go_wp2_with fail
          refine (within_n _ _).mono ?_; rintro e w' ⟨⟨r2, rfl⟩, rfl⟩
          have C1 := hideP (news4 wr (.cells #[.int .i64 r1, .int .i64 r2, .int .u32 z, .int .u32 dv] 25) (.int .i64 r1) (.int .i64 r2) (.int .u32 z) (.int .u32 dv) 25)
          have C2 := hideP (four r1 r2 z dv)
          have C3 : Hid (k + 1 ≤ maxLen) := by have := HLEN.out; unfold Hid maxLen; omega
          have C4 : Hid ((k + 1) * 24 ≤ 140737488355328) := by have := HLEN.out; unfold Hid; omega
          have C5 : Hid (∀ o o' : Obj, w.heap.size ≤ ((wr.alloc o).drew.alloc o').heap.size) := fun o o' => size_drew wr o o' _ HF.out.size
          go_wp2_with (first
            | (at_builtin; refine wpList_append_own _ rfl _ _ 22 rfl w.heap.size 25 i0 (.agg #[.int .i64 0, .int .i64 0, .int .u32 0, .int .u32 0]) 4 24 Tryd.underlying22 hi hz0 hz1 hz2 rfl (by decide) _ _ _ rfl (by exact OwnsDrew HO.out _ _) ⟨wr.heap.size + 1, 0, none⟩ 1 1 [.int .i64 r1, .int .i64 r2, .int .u32 z, .int .u32 dv] rfl rfl (by exact C1.out) C2.out C3.out C4.out (by exact C5.out _ _) ?_))
          intro v' w1 hown' hgrow _
          have O1 := hideP hown'
          have K1 := hideP (HK.out.snoc (by have := HO.out.1; omega) r1 r2 z dv Z0.out.1 Z0.out.2 N2.out N3.out)
          have F1 := hideP (FrB.app4 HF.out hgrow HF.out.size (fun k hk => (HO.out.lt k hk).1))
          clear hown' hgrow C1 C2 C3 C4 C5
          go_wp2_with fail
          exact ⟨⟨k + 1, _, by omega, by rw [Int.natCast_add]; rfl, O1, K1, F1⟩, by simp [intOf]; omega⟩
    · have hkl : k = lenK := by omega
      subst hkl
      obtain ⟨A', cap', kd', nn', aa', dd', rfl, HA'⟩ := own_asks HO.out HK.out
      have HA1 := hideP HA'
      have L1 := hideP (HF.out.laid hL.out B0.out)
      have I1 := hideP (IntsIn.none .u32 wr none (fun _ => 0))
      clear HA' HO
      go_wp2_with fail
      refine (play none 0 0 (fun _ => 0) (by decide) A' _ cap' kd' nn' aa' dd' _ L1 I1 HA1).mono ?_; rintro e w3 ⟨rfl, hF⟩
      have F3 := hideP (HF.out.trans (hF.mono HF.out.size))
      clear hF
      have L3 := hideP (F3.out.laid hL.out B0.out)
      have HK3 := hideP (hK.out.frb F3.out)
      have HA3 := hideP (hA.out.frb2 F3.out)
      go_wp2_with fail
      refine (play _ 1100 cap zs (by omega) K _ capK kd nn aa dd _ L3 HA3 HK3).mono ?_; rintro e w4 ⟨rfl, hF⟩
      have F4 := hideP (F3.out.trans (hF.mono F3.out.size))
      clear hF
      have HL4 : Hid (∀ o, FrB w.heap.size w (w4.alloc o)) := fun o => F4.out.trans ((FrB.alloc w4 o).mono F4.out.size)
      have HX4 : Hid (∀ T, IntsIn .u32 (w4.alloc (.cells #[.int .u32 7, .int .u32 8, .int .u32 9] T)) (some ⟨w4.heap.size, 0, Option.none⟩) 3 z789) := fun T => lit789 w4 T
      have HL5 : Hid (∀ o, Laid (w4.alloc o)) := fun o => (HL4.out o).laid hL.out B0.out
      have HK5 : Hid (∀ o, AsksIn (w4.alloc o) K k kd nn aa dd) := fun o => hK.out.frb (HL4.out o)
      go_wp2_with fail
      refine (play _ 3 3 z789 (by decide) K _ capK kd nn aa dd _ (by exact HL5.out _) (by exact HX4.out _) (by exact HK5.out _)).mono ?_; rintro e w5 ⟨rfl, hF⟩
      have F5 := hideP ((HL4.out _).trans (hF.mono (HL4.out _).size))
      clear hF
      have L5 := hideP (F5.out.laid hL.out B0.out)
      go_wp2_with fail
      refine (known _ L5).mono ?_; rintro e w6 ⟨rfl, hF⟩
      have F6 := hideP (F5.out.trans (hF.mono F5.out.size))
      clear hF
      go_wp2_with fail
      go_ret
      exact ⟨rfl, F6.out⟩
theorem plays (A : Option Addr) (len cap : Nat) (zs : Nat → Int) (hR : len ≤ cap ∧ cap ≤ maxLen) (K : Option Addr) (lenK capK : Nat) (kd nn aa dd : Nat → Int) (hlen : lenK * 24 ≤ 140737488351232) (w : World) (hL : Hid (Laid w)) (hA : IntsIn .u32 w A len zs) (hK : AsksIn w K lenK kd nn aa dd) :
    Calls Tryd.prog 4 #[.slice A len cap, .slice K lenK capK] w fun e w' => e = .returned (.bool true) ∧ FrB w.heap.size w w' := by
  by_cases h : (len : Int) ≤ 1100
  · exact plays_few A len cap zs h K lenK capK kd nn aa dd hlen w hL hA hK
  · exact plays_many A len cap zs (by omega) (by omega) (by have := hR.2; unfold maxLen at this; omega) K lenK capK kd nn aa dd hlen w hL (hA.cut (by omega)) hK
end Go.Proofs.YtekafmnpojbbdaaDoor.Walks
