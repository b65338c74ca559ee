/- The walk of MemoryNumbers. -/
import Derived.Test.YtekafmnpojbbdaaDoorPlaysW
namespace Go.Proofs.YtekafmnpojbbdaaDoor.Walks
open Go.ChangeShapes Go.WideShapes Go.ChangeAt Go.RowKit
set_option linter.unusedVariables false
theorem new_at (v : World) (B : Nat) (e : B = v.heap.size) (p q r s : Value) (T : TypeId) (j : Nat) (u : Value) (hj : [p, q, r, s][j]? = some u) : (v.alloc (.cells #[p, q, r, s] T)).cell? ((⟨B, 0, Option.none⟩ : Addr).add j) = some u := by
  have h : ∀ i, (v.alloc (.cells #[p, q, r, s] T)).cell? ⟨B, i, Option.none⟩ = #[p, q, r, s][i]? := fun i => World.cell?_alloc_at _ _ _ _ e
  rw [add_plain, h, ← hj]
  simp
theorem FrB.more {B : Nat} {w wr : World} (h : FrB B w wr) (o : Obj) (hB : B ≤ wr.heap.size) : FrB B w (wr.alloc o) := h.trans ((FrB.alloc wr o).mono hB)
theorem size_more (wr : World) (o : Obj) (B : Nat) (h : B ≤ wr.heap.size) : B ≤ (wr.alloc o).heap.size := by simp; omega
theorem nil_asks (w : World) : AsksIn w none 0 (fun _ => 0) (fun _ => 0) (fun _ => 0) (fun _ => 0) := fun j hj => absurd hj (Nat.not_lt_zero _)
def z1234 : Nat → Int := fun i => (i : Int) + 1
theorem lit1234 (w : World) (T : TypeId) (m : Nat) (hm : m ≤ 4) : IntsIn .u32 (w.alloc (.cells #[.int .u32 1, .int .u32 2, .int .u32 3, .int .u32 4] T)) (some ⟨w.heap.size, 0, Option.none⟩) m z1234 :=
  (IntsIn.lit w _ T 4 z1234 fun i hi => by
    rcases (show i = 0 ∨ i = 1 ∨ i = 2 ∨ i = 3 by omega) with rfl | rfl | rfl | rfl <;> exact ⟨rfl, by decide⟩).cut hm
abbrev five20 : Array Value := #[.int .i64 4, .int .i64 (-5), .int .u32 0, .int .u32 0, .int .i64 4, .int .i64 4611686018427387904, .int .u32 0, .int .u32 0, .int .i64 5, .int .i64 39936, .int .u32 0, .int .u32 0, .int .i64 5, .int .i64 39935, .int .u32 0, .int .u32 0, .int .i64 4, .int .i64 1024, .int .u32 0, .int .u32 0]
theorem five_asks (w : World) : ∃ kd nn aa dd, AsksIn (w.alloc (.cells five20 25)) (some ⟨w.heap.size, 0, Option.none⟩) 5 kd nn aa dd := by
  have own := World.ownsRow_lit (base := 0) (e := 25) (size := 4) w five20 5 (Nat.zero_le _) (by decide) rfl
  have ok : Okay five20.toList 5 := by
    intro j hj
    match j, hj with
    | 0, _ => exact ⟨(4, -5, 0, 0), rfl, rfl, rfl, rfl, by decide, by decide, by decide, by decide⟩
    | 1, _ => exact ⟨(4, 4611686018427387904, 0, 0), rfl, rfl, rfl, rfl, by decide, by decide, by decide, by decide⟩
    | 2, _ => exact ⟨(5, 39936, 0, 0), rfl, rfl, rfl, rfl, by decide, by decide, by decide, by decide⟩
    | 3, _ => exact ⟨(5, 39935, 0, 0), rfl, rfl, rfl, rfl, by decide, by decide, by decide, by decide⟩
    | 4, _ => exact ⟨(4, 1024, 0, 0), rfl, rfl, rfl, rfl, by decide, by decide, by decide, by decide⟩
  obtain ⟨A, cap, kd, nn, aa, dd, e, h⟩ := own_asks own ok
  simp only [Value.slice.injEq] at e
  obtain ⟨rfl, _, _⟩ := e
  exact ⟨kd, nn, aa, dd, h⟩
theorem zeros_in (w : World) (n : Nat) (c : Array Value) (T : TypeId) (h : ∀ k, k < n → c[k]? = some (.int .u32 0)) : IntsIn .u32 (w.alloc (.cells c T)) (some ⟨w.heap.size, 0, Option.none⟩) n (fun _ => 0) :=
  IntsIn.lit w c T n (fun _ => 0) fun i hi => ⟨h i hi, by decide⟩
set_option maxRecDepth 100000 in
set_option maxHeartbeats 8000000 in
theorem numbers (w : World) (hL : Hid (Laid w)) :
    Calls Tryd.prog 3 #[] w fun e w' => e = .returned (.bool true) ∧ FrB w.heap.size w w' := by
  obtain ⟨i0, hi, hz0, hz1, hz2⟩ := info_parts info25
  have B0 := hideP hL.out.pos
  go_enter Tryd.func3, Tryd.ntmps3
  go_wp2_with fail
  go_loopw [1] (fun t wr => ∃ p : Nat, (p : Int) ≤ 30 ∧ t = .int .i64 p ∧ Hid (FrB w.heap.size w wr)) (fun t _ => 30 - (intOf t).toNat)
  case atStart => exact ⟨0, by decide, rfl, FrB.refl _ _⟩
  case round =>
    obtain ⟨p, hp, rfl, HP⟩ := hrel
    by_cases hpl : (p : Int) < 30
    · go_wp2_with fail
      go_loopw [2, 3] (fun v i wr => ∃ (k : Nat) (xs : List Value), (k : Int) ≤ 90 ∧ i = .int .i64 k ∧ Hid (wr.ownsRow w.heap.size 25 4 v k xs) ∧ Hid (Okay xs k) ∧ Hid (FrB w.heap.size w wr)) (fun _ i _ => 90 - (intOf i).toNat)
      case atStart => exact ⟨0, [], by decide, rfl, World.ownsRow_nil _ _ _ _, Okay.nil, HP⟩
      case round =>
        obtain ⟨k, xs, hk, rfl, HO, HK, HF⟩ := hrel
        by_cases hlt : (k : Int) < 90
        · obtain ⟨sq, hsq, s0, s1⟩ : ∃ sq : Int, (k : Int) * (k : Int) = sq ∧ 0 ≤ sq ∧ sq ≤ 8100 := by
            refine ⟨_, rfl, Int.mul_nonneg (by omega) (by omega), ?_⟩
            have : (k : Int) * (k : Int) ≤ 90 * 90 := Int.mul_le_mul (by omega) (by omega) (by omega) (by omega)
            omega
          rename_i wr
          have C3 : Hid (k + 1 ≤ maxLen) := by unfold Hid maxLen; omega
          have C4 : Hid ((k + 1) * 24 ≤ 140737488355328) := by unfold Hid; omega
          obtain ⟨a6, ha6, a60, a61⟩ : ∃ a : Int, ((k : Int) * 7 + (p : Int)) % 6 = a ∧ 0 ≤ a ∧ a ≤ 5 := ⟨_, rfl, by omega, by omega⟩
          by_cases h4 : 4 < (sq + (p : Int)) % 7
          · by_cases h11 : (k : Int) % 11 = 3
            · rcases (show (k : Int) % 4 = 0 ∨ (k : Int) % 4 = 1 ∨ (k : Int) % 4 = 2 ∨ (k : Int) % 4 = 3 by omega) with hm | hm | hm | hm
              · have C1 := hideP (new_at ((wr.alloc (.cells #[.int .i64 ((sq + (p : Int)) % 7), .int .i64 ((sq * 13 + (p : Int) * 7) % 250), .int .u32 1, .int .u32 ((k : Int) * 16843009)] 25)).alloc (.cells #[.int .u32 1, .int .u32 4092, .int .u32 4096, .int .u32 4294967292] 23)) (wr.heap.size + 1 + 1) (by simp) (.int .i64 ((sq + (p : Int)) % 7)) (.int .i64 ((sq * 13 + (p : Int) * 7) % 250)) (.int .u32 1) (.int .u32 ((k : Int) * 16843009)) 25)
                have C2 := hideP (four ((sq + (p : Int)) % 7) ((sq * 13 + (p : Int) * 7) % 250) 1 ((k : Int) * 16843009))
                have SZ : Hid (∀ o, w.heap.size ≤ (((wr.alloc (.cells #[.int .i64 ((sq + (p : Int)) % 7), .int .i64 ((sq * 13 + (p : Int) * 7) % 250), .int .u32 1, .int .u32 ((k : Int) * 16843009)] 25)).alloc (.cells #[.int .u32 1, .int .u32 4092, .int .u32 4096, .int .u32 4294967292] 23)).alloc o).heap.size) := fun o => size_more _ _ _ (size_more _ _ _ (size_more _ _ _ HF.out.size))
                go_wp2_with (first
                  | (at_builtin; refine wpList_append_own _ rfl _ _ 22 rfl w.heap.size 25 i0 (.agg #[.int .i64 0, .int .i64 0, .int .u32 0, .int .u32 0]) 4 24 Tryd.underlying22 hi hz0 hz1 hz2 rfl (by decide) _ _ _ rfl (by exact ((HO.out.alloc _).alloc _).alloc _) ⟨wr.heap.size + 1 + 1, 0, none⟩ 1 1 [.int .i64 ((sq + (p : Int)) % 7), .int .i64 ((sq * 13 + (p : Int) * 7) % 250), .int .u32 1, .int .u32 ((k : Int) * 16843009)] rfl rfl C1.out C2.out C3.out C4.out (by exact SZ.out _) ?_))
                intro v' w1 hown' hgrow _
                have O1 := hideP hown'
                have K1 := hideP (HK.out.snoc (by have := HO.out.1; omega) ((sq + (p : Int)) % 7) ((sq * 13 + (p : Int) * 7) % 250) 1 ((k : Int) * 16843009) (by omega) (by omega) (by omega) (by omega))
                have F1 := hideP ((((HF.out.more _ HF.out.size).more _ (size_more _ _ _ HF.out.size)).more _ (size_more _ _ _ (size_more _ _ _ HF.out.size))).trans (FrB.grown hgrow (by exact SZ.out _) (fun k hk => (HO.out.lt k hk).1)))
                clear hown' hgrow C1 C2 C3 C4 SZ
                go_wp2_with fail
                exact ⟨⟨k + 1, _, by omega, by rw [Int.natCast_add]; rfl, O1, K1, F1⟩, by simp [intOf]; omega⟩
              · have C1 := hideP (new_at ((wr.alloc (.cells #[.int .i64 ((sq + (p : Int)) % 7), .int .i64 ((sq * 13 + (p : Int) * 7) % 250), .int .u32 4092, .int .u32 ((k : Int) * 16843009)] 25)).alloc (.cells #[.int .u32 1, .int .u32 4092, .int .u32 4096, .int .u32 4294967292] 23)) (wr.heap.size + 1 + 1) (by simp) (.int .i64 ((sq + (p : Int)) % 7)) (.int .i64 ((sq * 13 + (p : Int) * 7) % 250)) (.int .u32 4092) (.int .u32 ((k : Int) * 16843009)) 25)
                have C2 := hideP (four ((sq + (p : Int)) % 7) ((sq * 13 + (p : Int) * 7) % 250) 4092 ((k : Int) * 16843009))
                have SZ : Hid (∀ o, w.heap.size ≤ (((wr.alloc (.cells #[.int .i64 ((sq + (p : Int)) % 7), .int .i64 ((sq * 13 + (p : Int) * 7) % 250), .int .u32 4092, .int .u32 ((k : Int) * 16843009)] 25)).alloc (.cells #[.int .u32 1, .int .u32 4092, .int .u32 4096, .int .u32 4294967292] 23)).alloc o).heap.size) := fun o => size_more _ _ _ (size_more _ _ _ (size_more _ _ _ HF.out.size))
                go_wp2_with (first
                  | (at_builtin; refine wpList_append_own _ rfl _ _ 22 rfl w.heap.size 25 i0 (.agg #[.int .i64 0, .int .i64 0, .int .u32 0, .int .u32 0]) 4 24 Tryd.underlying22 hi hz0 hz1 hz2 rfl (by decide) _ _ _ rfl (by exact ((HO.out.alloc _).alloc _).alloc _) ⟨wr.heap.size + 1 + 1, 0, none⟩ 1 1 [.int .i64 ((sq + (p : Int)) % 7), .int .i64 ((sq * 13 + (p : Int) * 7) % 250), .int .u32 4092, .int .u32 ((k : Int) * 16843009)] rfl rfl C1.out C2.out C3.out C4.out (by exact SZ.out _) ?_))
                intro v' w1 hown' hgrow _
                have O1 := hideP hown'
                have K1 := hideP (HK.out.snoc (by have := HO.out.1; omega) ((sq + (p : Int)) % 7) ((sq * 13 + (p : Int) * 7) % 250) 4092 ((k : Int) * 16843009) (by omega) (by omega) (by omega) (by omega))
                have F1 := hideP ((((HF.out.more _ HF.out.size).more _ (size_more _ _ _ HF.out.size)).more _ (size_more _ _ _ (size_more _ _ _ HF.out.size))).trans (FrB.grown hgrow (by exact SZ.out _) (fun k hk => (HO.out.lt k hk).1)))
                clear hown' hgrow C1 C2 C3 C4 SZ
                go_wp2_with fail
                exact ⟨⟨k + 1, _, by omega, by rw [Int.natCast_add]; rfl, O1, K1, F1⟩, by simp [intOf]; omega⟩
              · have C1 := hideP (new_at ((wr.alloc (.cells #[.int .i64 ((sq + (p : Int)) % 7), .int .i64 ((sq * 13 + (p : Int) * 7) % 250), .int .u32 4096, .int .u32 ((k : Int) * 16843009)] 25)).alloc (.cells #[.int .u32 1, .int .u32 4092, .int .u32 4096, .int .u32 4294967292] 23)) (wr.heap.size + 1 + 1) (by simp) (.int .i64 ((sq + (p : Int)) % 7)) (.int .i64 ((sq * 13 + (p : Int) * 7) % 250)) (.int .u32 4096) (.int .u32 ((k : Int) * 16843009)) 25)
                have C2 := hideP (four ((sq + (p : Int)) % 7) ((sq * 13 + (p : Int) * 7) % 250) 4096 ((k : Int) * 16843009))
                have SZ : Hid (∀ o, w.heap.size ≤ (((wr.alloc (.cells #[.int .i64 ((sq + (p : Int)) % 7), .int .i64 ((sq * 13 + (p : Int) * 7) % 250), .int .u32 4096, .int .u32 ((k : Int) * 16843009)] 25)).alloc (.cells #[.int .u32 1, .int .u32 4092, .int .u32 4096, .int .u32 4294967292] 23)).alloc o).heap.size) := fun o => size_more _ _ _ (size_more _ _ _ (size_more _ _ _ HF.out.size))
                go_wp2_with (first
                  | (at_builtin; refine wpList_append_own _ rfl _ _ 22 rfl w.heap.size 25 i0 (.agg #[.int .i64 0, .int .i64 0, .int .u32 0, .int .u32 0]) 4 24 Tryd.underlying22 hi hz0 hz1 hz2 rfl (by decide) _ _ _ rfl (by exact ((HO.out.alloc _).alloc _).alloc _) ⟨wr.heap.size + 1 + 1, 0, none⟩ 1 1 [.int .i64 ((sq + (p : Int)) % 7), .int .i64 ((sq * 13 + (p : Int) * 7) % 250), .int .u32 4096, .int .u32 ((k : Int) * 16843009)] rfl rfl C1.out C2.out C3.out C4.out (by exact SZ.out _) ?_))
                intro v' w1 hown' hgrow _
                have O1 := hideP hown'
                have K1 := hideP (HK.out.snoc (by have := HO.out.1; omega) ((sq + (p : Int)) % 7) ((sq * 13 + (p : Int) * 7) % 250) 4096 ((k : Int) * 16843009) (by omega) (by omega) (by omega) (by omega))
                have F1 := hideP ((((HF.out.more _ HF.out.size).more _ (size_more _ _ _ HF.out.size)).more _ (size_more _ _ _ (size_more _ _ _ HF.out.size))).trans (FrB.grown hgrow (by exact SZ.out _) (fun k hk => (HO.out.lt k hk).1)))
                clear hown' hgrow C1 C2 C3 C4 SZ
                go_wp2_with fail
                exact ⟨⟨k + 1, _, by omega, by rw [Int.natCast_add]; rfl, O1, K1, F1⟩, by simp [intOf]; omega⟩
              · have C1 := hideP (new_at ((wr.alloc (.cells #[.int .i64 ((sq + (p : Int)) % 7), .int .i64 ((sq * 13 + (p : Int) * 7) % 250), .int .u32 4294967292, .int .u32 ((k : Int) * 16843009)] 25)).alloc (.cells #[.int .u32 1, .int .u32 4092, .int .u32 4096, .int .u32 4294967292] 23)) (wr.heap.size + 1 + 1) (by simp) (.int .i64 ((sq + (p : Int)) % 7)) (.int .i64 ((sq * 13 + (p : Int) * 7) % 250)) (.int .u32 4294967292) (.int .u32 ((k : Int) * 16843009)) 25)
                have C2 := hideP (four ((sq + (p : Int)) % 7) ((sq * 13 + (p : Int) * 7) % 250) 4294967292 ((k : Int) * 16843009))
                have SZ : Hid (∀ o, w.heap.size ≤ (((wr.alloc (.cells #[.int .i64 ((sq + (p : Int)) % 7), .int .i64 ((sq * 13 + (p : Int) * 7) % 250), .int .u32 4294967292, .int .u32 ((k : Int) * 16843009)] 25)).alloc (.cells #[.int .u32 1, .int .u32 4092, .int .u32 4096, .int .u32 4294967292] 23)).alloc o).heap.size) := fun o => size_more _ _ _ (size_more _ _ _ (size_more _ _ _ HF.out.size))
                go_wp2_with (first
                  | (at_builtin; refine wpList_append_own _ rfl _ _ 22 rfl w.heap.size 25 i0 (.agg #[.int .i64 0, .int .i64 0, .int .u32 0, .int .u32 0]) 4 24 Tryd.underlying22 hi hz0 hz1 hz2 rfl (by decide) _ _ _ rfl (by exact ((HO.out.alloc _).alloc _).alloc _) ⟨wr.heap.size + 1 + 1, 0, none⟩ 1 1 [.int .i64 ((sq + (p : Int)) % 7), .int .i64 ((sq * 13 + (p : Int) * 7) % 250), .int .u32 4294967292, .int .u32 ((k : Int) * 16843009)] rfl rfl C1.out C2.out C3.out C4.out (by exact SZ.out _) ?_))
                intro v' w1 hown' hgrow _
                have O1 := hideP hown'
                have K1 := hideP (HK.out.snoc (by have := HO.out.1; omega) ((sq + (p : Int)) % 7) ((sq * 13 + (p : Int) * 7) % 250) 4294967292 ((k : Int) * 16843009) (by omega) (by omega) (by omega) (by omega))
                have F1 := hideP ((((HF.out.more _ HF.out.size).more _ (size_more _ _ _ HF.out.size)).more _ (size_more _ _ _ (size_more _ _ _ HF.out.size))).trans (FrB.grown hgrow (by exact SZ.out _) (fun k hk => (HO.out.lt k hk).1)))
                clear hown' hgrow C1 C2 C3 C4 SZ
                go_wp2_with fail
                exact ⟨⟨k + 1, _, by omega, by rw [Int.natCast_add]; rfl, O1, K1, F1⟩, by simp [intOf]; omega⟩
            · have C1 := hideP (new_at (wr.alloc (.cells #[.int .i64 ((sq + (p : Int)) % 7), .int .i64 ((sq * 13 + (p : Int) * 7) % 250), .int .u32 (a6 * 4), .int .u32 ((k : Int) * 16843009)] 25)) (wr.heap.size + 1) (by simp) (.int .i64 ((sq + (p : Int)) % 7)) (.int .i64 ((sq * 13 + (p : Int) * 7) % 250)) (.int .u32 (a6 * 4)) (.int .u32 ((k : Int) * 16843009)) 25)
              have C2 := hideP (four ((sq + (p : Int)) % 7) ((sq * 13 + (p : Int) * 7) % 250) (a6 * 4) ((k : Int) * 16843009))
              have SZ : Hid (∀ o, w.heap.size ≤ ((wr.alloc (.cells #[.int .i64 ((sq + (p : Int)) % 7), .int .i64 ((sq * 13 + (p : Int) * 7) % 250), .int .u32 (a6 * 4), .int .u32 ((k : Int) * 16843009)] 25)).alloc o).heap.size) := fun o => size_more _ _ _ (size_more _ _ _ HF.out.size)
              go_wp2_with (first
                | (at_builtin; refine wpList_append_own _ rfl _ _ 22 rfl w.heap.size 25 i0 (.agg #[.int .i64 0, .int .i64 0, .int .u32 0, .int .u32 0]) 4 24 Tryd.underlying22 hi hz0 hz1 hz2 rfl (by decide) _ _ _ rfl (by exact (HO.out.alloc _).alloc _) ⟨wr.heap.size + 1, 0, none⟩ 1 1 [.int .i64 ((sq + (p : Int)) % 7), .int .i64 ((sq * 13 + (p : Int) * 7) % 250), .int .u32 (a6 * 4), .int .u32 ((k : Int) * 16843009)] rfl rfl C1.out C2.out C3.out C4.out (by exact SZ.out _) ?_))
              intro v' w1 hown' hgrow _
              have O1 := hideP hown'
              have K1 := hideP (HK.out.snoc (by have := HO.out.1; omega) ((sq + (p : Int)) % 7) ((sq * 13 + (p : Int) * 7) % 250) (a6 * 4) ((k : Int) * 16843009) (by omega) (by omega) (by omega) (by omega))
              have F1 := hideP (((HF.out.more _ HF.out.size).more _ (size_more _ _ _ HF.out.size)).trans (FrB.grown hgrow (by exact SZ.out _) (fun k hk => (HO.out.lt k hk).1)))
              clear hown' hgrow C1 C2 C3 C4 SZ
              go_wp2_with fail
              exact ⟨⟨k + 1, _, by omega, by rw [Int.natCast_add]; rfl, O1, K1, F1⟩, by simp [intOf]; omega⟩
          · by_cases h11 : (k : Int) % 11 = 3
            · rcases (show (k : Int) % 4 = 0 ∨ (k : Int) % 4 = 1 ∨ (k : Int) % 4 = 2 ∨ (k : Int) % 4 = 3 by omega) with hm | hm | hm | hm
              · have C1 := hideP (new_at ((wr.alloc (.cells #[.int .i64 ((sq + (p : Int)) % 7), .int .i64 (((k : Int) + (p : Int)) % 17), .int .u32 1, .int .u32 ((k : Int) * 16843009)] 25)).alloc (.cells #[.int .u32 1, .int .u32 4092, .int .u32 4096, .int .u32 4294967292] 23)) (wr.heap.size + 1 + 1) (by simp) (.int .i64 ((sq + (p : Int)) % 7)) (.int .i64 (((k : Int) + (p : Int)) % 17)) (.int .u32 1) (.int .u32 ((k : Int) * 16843009)) 25)
                have C2 := hideP (four ((sq + (p : Int)) % 7) (((k : Int) + (p : Int)) % 17) 1 ((k : Int) * 16843009))
                have SZ : Hid (∀ o, w.heap.size ≤ (((wr.alloc (.cells #[.int .i64 ((sq + (p : Int)) % 7), .int .i64 (((k : Int) + (p : Int)) % 17), .int .u32 1, .int .u32 ((k : Int) * 16843009)] 25)).alloc (.cells #[.int .u32 1, .int .u32 4092, .int .u32 4096, .int .u32 4294967292] 23)).alloc o).heap.size) := fun o => size_more _ _ _ (size_more _ _ _ (size_more _ _ _ HF.out.size))
                go_wp2_with (first
                  | (at_builtin; refine wpList_append_own _ rfl _ _ 22 rfl w.heap.size 25 i0 (.agg #[.int .i64 0, .int .i64 0, .int .u32 0, .int .u32 0]) 4 24 Tryd.underlying22 hi hz0 hz1 hz2 rfl (by decide) _ _ _ rfl (by exact ((HO.out.alloc _).alloc _).alloc _) ⟨wr.heap.size + 1 + 1, 0, none⟩ 1 1 [.int .i64 ((sq + (p : Int)) % 7), .int .i64 (((k : Int) + (p : Int)) % 17), .int .u32 1, .int .u32 ((k : Int) * 16843009)] rfl rfl C1.out C2.out C3.out C4.out (by exact SZ.out _) ?_))
                intro v' w1 hown' hgrow _
                have O1 := hideP hown'
                have K1 := hideP (HK.out.snoc (by have := HO.out.1; omega) ((sq + (p : Int)) % 7) (((k : Int) + (p : Int)) % 17) 1 ((k : Int) * 16843009) (by omega) (by omega) (by omega) (by omega))
                have F1 := hideP ((((HF.out.more _ HF.out.size).more _ (size_more _ _ _ HF.out.size)).more _ (size_more _ _ _ (size_more _ _ _ HF.out.size))).trans (FrB.grown hgrow (by exact SZ.out _) (fun k hk => (HO.out.lt k hk).1)))
                clear hown' hgrow C1 C2 C3 C4 SZ
                go_wp2_with fail
                exact ⟨⟨k + 1, _, by omega, by rw [Int.natCast_add]; rfl, O1, K1, F1⟩, by simp [intOf]; omega⟩
              · have C1 := hideP (new_at ((wr.alloc (.cells #[.int .i64 ((sq + (p : Int)) % 7), .int .i64 (((k : Int) + (p : Int)) % 17), .int .u32 4092, .int .u32 ((k : Int) * 16843009)] 25)).alloc (.cells #[.int .u32 1, .int .u32 4092, .int .u32 4096, .int .u32 4294967292] 23)) (wr.heap.size + 1 + 1) (by simp) (.int .i64 ((sq + (p : Int)) % 7)) (.int .i64 (((k : Int) + (p : Int)) % 17)) (.int .u32 4092) (.int .u32 ((k : Int) * 16843009)) 25)
                have C2 := hideP (four ((sq + (p : Int)) % 7) (((k : Int) + (p : Int)) % 17) 4092 ((k : Int) * 16843009))
                have SZ : Hid (∀ o, w.heap.size ≤ (((wr.alloc (.cells #[.int .i64 ((sq + (p : Int)) % 7), .int .i64 (((k : Int) + (p : Int)) % 17), .int .u32 4092, .int .u32 ((k : Int) * 16843009)] 25)).alloc (.cells #[.int .u32 1, .int .u32 4092, .int .u32 4096, .int .u32 4294967292] 23)).alloc o).heap.size) := fun o => size_more _ _ _ (size_more _ _ _ (size_more _ _ _ HF.out.size))
                go_wp2_with (first
                  | (at_builtin; refine wpList_append_own _ rfl _ _ 22 rfl w.heap.size 25 i0 (.agg #[.int .i64 0, .int .i64 0, .int .u32 0, .int .u32 0]) 4 24 Tryd.underlying22 hi hz0 hz1 hz2 rfl (by decide) _ _ _ rfl (by exact ((HO.out.alloc _).alloc _).alloc _) ⟨wr.heap.size + 1 + 1, 0, none⟩ 1 1 [.int .i64 ((sq + (p : Int)) % 7), .int .i64 (((k : Int) + (p : Int)) % 17), .int .u32 4092, .int .u32 ((k : Int) * 16843009)] rfl rfl C1.out C2.out C3.out C4.out (by exact SZ.out _) ?_))
                intro v' w1 hown' hgrow _
                have O1 := hideP hown'
                have K1 := hideP (HK.out.snoc (by have := HO.out.1; omega) ((sq + (p : Int)) % 7) (((k : Int) + (p : Int)) % 17) 4092 ((k : Int) * 16843009) (by omega) (by omega) (by omega) (by omega))
                have F1 := hideP ((((HF.out.more _ HF.out.size).more _ (size_more _ _ _ HF.out.size)).more _ (size_more _ _ _ (size_more _ _ _ HF.out.size))).trans (FrB.grown hgrow (by exact SZ.out _) (fun k hk => (HO.out.lt k hk).1)))
                clear hown' hgrow C1 C2 C3 C4 SZ
                go_wp2_with fail
                exact ⟨⟨k + 1, _, by omega, by rw [Int.natCast_add]; rfl, O1, K1, F1⟩, by simp [intOf]; omega⟩
              · have C1 := hideP (new_at ((wr.alloc (.cells #[.int .i64 ((sq + (p : Int)) % 7), .int .i64 (((k : Int) + (p : Int)) % 17), .int .u32 4096, .int .u32 ((k : Int) * 16843009)] 25)).alloc (.cells #[.int .u32 1, .int .u32 4092, .int .u32 4096, .int .u32 4294967292] 23)) (wr.heap.size + 1 + 1) (by simp) (.int .i64 ((sq + (p : Int)) % 7)) (.int .i64 (((k : Int) + (p : Int)) % 17)) (.int .u32 4096) (.int .u32 ((k : Int) * 16843009)) 25)
                have C2 := hideP (four ((sq + (p : Int)) % 7) (((k : Int) + (p : Int)) % 17) 4096 ((k : Int) * 16843009))
                have SZ : Hid (∀ o, w.heap.size ≤ (((wr.alloc (.cells #[.int .i64 ((sq + (p : Int)) % 7), .int .i64 (((k : Int) + (p : Int)) % 17), .int .u32 4096, .int .u32 ((k : Int) * 16843009)] 25)).alloc (.cells #[.int .u32 1, .int .u32 4092, .int .u32 4096, .int .u32 4294967292] 23)).alloc o).heap.size) := fun o => size_more _ _ _ (size_more _ _ _ (size_more _ _ _ HF.out.size))
                go_wp2_with (first
                  | (at_builtin; refine wpList_append_own _ rfl _ _ 22 rfl w.heap.size 25 i0 (.agg #[.int .i64 0, .int .i64 0, .int .u32 0, .int .u32 0]) 4 24 Tryd.underlying22 hi hz0 hz1 hz2 rfl (by decide) _ _ _ rfl (by exact ((HO.out.alloc _).alloc _).alloc _) ⟨wr.heap.size + 1 + 1, 0, none⟩ 1 1 [.int .i64 ((sq + (p : Int)) % 7), .int .i64 (((k : Int) + (p : Int)) % 17), .int .u32 4096, .int .u32 ((k : Int) * 16843009)] rfl rfl C1.out C2.out C3.out C4.out (by exact SZ.out _) ?_))
                intro v' w1 hown' hgrow _
                have O1 := hideP hown'
                have K1 := hideP (HK.out.snoc (by have := HO.out.1; omega) ((sq + (p : Int)) % 7) (((k : Int) + (p : Int)) % 17) 4096 ((k : Int) * 16843009) (by omega) (by omega) (by omega) (by omega))
                have F1 := hideP ((((HF.out.more _ HF.out.size).more _ (size_more _ _ _ HF.out.size)).more _ (size_more _ _ _ (size_more _ _ _ HF.out.size))).trans (FrB.grown hgrow (by exact SZ.out _) (fun k hk => (HO.out.lt k hk).1)))
                clear hown' hgrow C1 C2 C3 C4 SZ
                go_wp2_with fail
                exact ⟨⟨k + 1, _, by omega, by rw [Int.natCast_add]; rfl, O1, K1, F1⟩, by simp [intOf]; omega⟩
              · have C1 := hideP (new_at ((wr.alloc (.cells #[.int .i64 ((sq + (p : Int)) % 7), .int .i64 (((k : Int) + (p : Int)) % 17), .int .u32 4294967292, .int .u32 ((k : Int) * 16843009)] 25)).alloc (.cells #[.int .u32 1, .int .u32 4092, .int .u32 4096, .int .u32 4294967292] 23)) (wr.heap.size + 1 + 1) (by simp) (.int .i64 ((sq + (p : Int)) % 7)) (.int .i64 (((k : Int) + (p : Int)) % 17)) (.int .u32 4294967292) (.int .u32 ((k : Int) * 16843009)) 25)
                have C2 := hideP (four ((sq + (p : Int)) % 7) (((k : Int) + (p : Int)) % 17) 4294967292 ((k : Int) * 16843009))
                have SZ : Hid (∀ o, w.heap.size ≤ (((wr.alloc (.cells #[.int .i64 ((sq + (p : Int)) % 7), .int .i64 (((k : Int) + (p : Int)) % 17), .int .u32 4294967292, .int .u32 ((k : Int) * 16843009)] 25)).alloc (.cells #[.int .u32 1, .int .u32 4092, .int .u32 4096, .int .u32 4294967292] 23)).alloc o).heap.size) := fun o => size_more _ _ _ (size_more _ _ _ (size_more _ _ _ HF.out.size))
                go_wp2_with (first
                  | (at_builtin; refine wpList_append_own _ rfl _ _ 22 rfl w.heap.size 25 i0 (.agg #[.int .i64 0, .int .i64 0, .int .u32 0, .int .u32 0]) 4 24 Tryd.underlying22 hi hz0 hz1 hz2 rfl (by decide) _ _ _ rfl (by exact ((HO.out.alloc _).alloc _).alloc _) ⟨wr.heap.size + 1 + 1, 0, none⟩ 1 1 [.int .i64 ((sq + (p : Int)) % 7), .int .i64 (((k : Int) + (p : Int)) % 17), .int .u32 4294967292, .int .u32 ((k : Int) * 16843009)] rfl rfl C1.out C2.out C3.out C4.out (by exact SZ.out _) ?_))
                intro v' w1 hown' hgrow _
                have O1 := hideP hown'
                have K1 := hideP (HK.out.snoc (by have := HO.out.1; omega) ((sq + (p : Int)) % 7) (((k : Int) + (p : Int)) % 17) 4294967292 ((k : Int) * 16843009) (by omega) (by omega) (by omega) (by omega))
                have F1 := hideP ((((HF.out.more _ HF.out.size).more _ (size_more _ _ _ HF.out.size)).more _ (size_more _ _ _ (size_more _ _ _ HF.out.size))).trans (FrB.grown hgrow (by exact SZ.out _) (fun k hk => (HO.out.lt k hk).1)))
                clear hown' hgrow C1 C2 C3 C4 SZ
                go_wp2_with fail
                exact ⟨⟨k + 1, _, by omega, by rw [Int.natCast_add]; rfl, O1, K1, F1⟩, by simp [intOf]; omega⟩
            · have C1 := hideP (new_at (wr.alloc (.cells #[.int .i64 ((sq + (p : Int)) % 7), .int .i64 (((k : Int) + (p : Int)) % 17), .int .u32 (a6 * 4), .int .u32 ((k : Int) * 16843009)] 25)) (wr.heap.size + 1) (by simp) (.int .i64 ((sq + (p : Int)) % 7)) (.int .i64 (((k : Int) + (p : Int)) % 17)) (.int .u32 (a6 * 4)) (.int .u32 ((k : Int) * 16843009)) 25)
              have C2 := hideP (four ((sq + (p : Int)) % 7) (((k : Int) + (p : Int)) % 17) (a6 * 4) ((k : Int) * 16843009))
              have SZ : Hid (∀ o, w.heap.size ≤ ((wr.alloc (.cells #[.int .i64 ((sq + (p : Int)) % 7), .int .i64 (((k : Int) + (p : Int)) % 17), .int .u32 (a6 * 4), .int .u32 ((k : Int) * 16843009)] 25)).alloc o).heap.size) := fun o => size_more _ _ _ (size_more _ _ _ HF.out.size)
              go_wp2_with (first
                | (at_builtin; refine wpList_append_own _ rfl _ _ 22 rfl w.heap.size 25 i0 (.agg #[.int .i64 0, .int .i64 0, .int .u32 0, .int .u32 0]) 4 24 Tryd.underlying22 hi hz0 hz1 hz2 rfl (by decide) _ _ _ rfl (by exact (HO.out.alloc _).alloc _) ⟨wr.heap.size + 1, 0, none⟩ 1 1 [.int .i64 ((sq + (p : Int)) % 7), .int .i64 (((k : Int) + (p : Int)) % 17), .int .u32 (a6 * 4), .int .u32 ((k : Int) * 16843009)] rfl rfl C1.out C2.out C3.out C4.out (by exact SZ.out _) ?_))
              intro v' w1 hown' hgrow _
              have O1 := hideP hown'
              have K1 := hideP (HK.out.snoc (by have := HO.out.1; omega) ((sq + (p : Int)) % 7) (((k : Int) + (p : Int)) % 17) (a6 * 4) ((k : Int) * 16843009) (by omega) (by omega) (by omega) (by omega))
              have F1 := hideP (((HF.out.more _ HF.out.size).more _ (size_more _ _ _ HF.out.size)).trans (FrB.grown hgrow (by exact SZ.out _) (fun k hk => (HO.out.lt k hk).1)))
              clear hown' hgrow C1 C2 C3 C4 SZ
              go_wp2_with fail
              exact ⟨⟨k + 1, _, by omega, by rw [Int.natCast_add]; rfl, O1, K1, F1⟩, by simp [intOf]; omega⟩
        · have hkl : k = 90 := by omega
          subst hkl
          obtain ⟨A', cap', kd', nn', aa', dd', rfl, HA'⟩ := own_asks HO.out HK.out
          rename_i wr
          have FX : Hid (∀ o, FrB w.heap.size w (wr.alloc o)) := fun o => HF.out.more o HF.out.size
          have HA1 : Hid (∀ o, AsksIn (wr.alloc o) A' 90 kd' nn' aa' dd') := fun o => HA'.frb (FrB.alloc wr o)
          have L1 : Hid (∀ o, Laid (wr.alloc o)) := fun o => (FX.out o).laid hL.out B0.out
          have HX : Hid (∀ T m, m ≤ 4 → IntsIn .u32 (wr.alloc (.cells #[.int .u32 1, .int .u32 2, .int .u32 3, .int .u32 4] T)) (some ⟨wr.heap.size, 0, Option.none⟩) m z1234) := fun T m hm => lit1234 wr T m hm
          clear HA' HO HK
          rcases (show (p : Int) % 5 = 0 ∨ (p : Int) % 5 = 1 ∨ (p : Int) % 5 = 2 ∨ (p : Int) % 5 = 3 ∨ (p : Int) % 5 = 4 by omega) with hm | hm | hm | hm | hm
          · go_wp2_with fail
            refine (play _ 0 4 z1234 (by decide) A' _ cap' kd' nn' aa' dd' _ (by exact L1.out _) (by exact HX.out _ 0 (by decide)) (by exact HA1.out _)).mono ?_; rintro e w3 ⟨rfl, hF⟩
            have F3 := hideP ((FX.out _).trans (hF.mono (FX.out _).size))
            clear hF
            go_wp2_with fail
            exact ⟨⟨p + 1, by omega, by rw [Int.natCast_add]; rfl, F3⟩, by simp [intOf]; omega⟩
          · go_wp2_with fail
            refine (play _ 1 4 z1234 (by decide) A' _ cap' kd' nn' aa' dd' _ (by exact L1.out _) (by exact HX.out _ 1 (by decide)) (by exact HA1.out _)).mono ?_; rintro e w3 ⟨rfl, hF⟩
            have F3 := hideP ((FX.out _).trans (hF.mono (FX.out _).size))
            clear hF
            go_wp2_with fail
            exact ⟨⟨p + 1, by omega, by rw [Int.natCast_add]; rfl, F3⟩, by simp [intOf]; omega⟩
          · go_wp2_with fail
            refine (play _ 2 4 z1234 (by decide) A' _ cap' kd' nn' aa' dd' _ (by exact L1.out _) (by exact HX.out _ 2 (by decide)) (by exact HA1.out _)).mono ?_; rintro e w3 ⟨rfl, hF⟩
            have F3 := hideP ((FX.out _).trans (hF.mono (FX.out _).size))
            clear hF
            go_wp2_with fail
            exact ⟨⟨p + 1, by omega, by rw [Int.natCast_add]; rfl, F3⟩, by simp [intOf]; omega⟩
          · go_wp2_with fail
            refine (play _ 3 4 z1234 (by decide) A' _ cap' kd' nn' aa' dd' _ (by exact L1.out _) (by exact HX.out _ 3 (by decide)) (by exact HA1.out _)).mono ?_; rintro e w3 ⟨rfl, hF⟩
            have F3 := hideP ((FX.out _).trans (hF.mono (FX.out _).size))
            clear hF
            go_wp2_with fail
            exact ⟨⟨p + 1, by omega, by rw [Int.natCast_add]; rfl, F3⟩, by simp [intOf]; omega⟩
          · go_wp2_with fail
            refine (play _ 4 4 z1234 (by decide) A' _ cap' kd' nn' aa' dd' _ (by exact L1.out _) (by exact HX.out _ 4 (by decide)) (by exact HA1.out _)).mono ?_; rintro e w3 ⟨rfl, hF⟩
            have F3 := hideP ((FX.out _).trans (hF.mono (FX.out _).size))
            clear hF
            go_wp2_with fail
            exact ⟨⟨p + 1, by omega, by rw [Int.natCast_add]; rfl, F3⟩, by simp [intOf]; omega⟩
    · obtain ⟨c, hc0, hcs⟩ : ∃ c, madeCells #[Value.int .u32 0] 1024 = c ∧ ∀ k, k < 1024 → c[k]? = some (.int .u32 0) := ⟨_, rfl, made23 1024⟩
      obtain ⟨c2, hc2, hcs2⟩ : ∃ c, madeCells #[Value.int .u32 0] 1025 = c ∧ ∀ k, k < 1025 → c[k]? = some (.int .u32 0) := ⟨_, rfl, made23 1025⟩
      have hmk : ∀ w : World, (Instr.makeSlice 26 (.int .i64 1024) (.int .i64 1024)).run Tryd.prog w = .ok (.slice (some ⟨w.heap.size, 0, none⟩) 1024 1024) (w.alloc (.cells c 23)) := fun w => by
        have := make23 1024 (by decide) w
        rw [hc0] at this
        exact this
      have hmk2 : ∀ w : World, (Instr.makeSlice 26 (.int .i64 1025) (.int .i64 1025)).run Tryd.prog w = .ok (.slice (some ⟨w.heap.size, 0, none⟩) 1025 1025) (w.alloc (.cells c2 23)) := fun w => by
        have := make23 1025 (by decide) w
        rw [hc2] at this
        exact this
      rename_i wr
      have HC2 := hideP hcs2
      have FX : Hid (FrB w.heap.size w ((wr.alloc (.cells c 23)).alloc (.cells five20 25))) := (HP.out.more _ HP.out.size).more _ (size_more _ _ _ HP.out.size)
      have LX := hideP (FX.out.laid hL.out B0.out)
      have IX : Hid (IntsIn .u32 ((wr.alloc (.cells c 23)).alloc (.cells five20 25)) (some ⟨wr.heap.size, 0, Option.none⟩) 1024 (fun _ => 0)) := (zeros_in wr 1024 c 23 hcs).frb2 (FrB.alloc _ _)
      obtain ⟨kd, nn, aa, dd, HQ⟩ := five_asks (wr.alloc (.cells c 23))
      have ez : (wr.alloc (.cells c 23)).heap.size = wr.heap.size + 1 := by simp
      rw [ez] at HQ
      have KX := hideP HQ
      clear HQ ez hc0 hc2 hcs hcs2
      go_wp2_with fail
      refine (play _ 1024 1024 (fun _ => 0) (by decide) _ 5 5 kd nn aa dd _ (by exact LX) (by exact IX) (by exact KX)).mono ?_; rintro e w3 ⟨rfl, hF⟩
      have F3 := hideP (FX.out.trans (hF.mono FX.out.size))
      clear hF FX LX IX KX
      have F4 : Hid (∀ o, FrB w.heap.size w (w3.alloc o)) := fun o => F3.out.more o F3.out.size
      have L4 : Hid (∀ o, Laid (w3.alloc o)) := fun o => (F4.out o).laid hL.out B0.out
      have I4 : Hid (∀ T, IntsIn .u32 (w3.alloc (.cells c2 T)) (some ⟨w3.heap.size, 0, Option.none⟩) 1025 (fun _ => 0)) := fun T => zeros_in w3 1025 c2 T HC2.out
      have K4 : Hid (∀ o, AsksIn (w3.alloc o) none 0 (fun _ => 0) (fun _ => 0) (fun _ => 0) (fun _ => 0)) := fun o => nil_asks _
      go_wp2_with fail
      refine (play _ 1025 1025 (fun _ => 0) (by decide) none 0 0 _ _ _ _ _ (by exact L4.out _) (by exact I4.out _) (by exact K4.out _)).mono ?_; rintro e w4 ⟨rfl, hF⟩
      have F5 := hideP ((F4.out _).trans (hF.mono (F4.out _).size))
      have L5 := hideP (F5.out.laid hL.out B0.out)
      clear hF
      go_wp2_with fail
      refine (known _ L5).mono ?_; rintro e w6 ⟨rfl, hF⟩
      have F6 := hideP (F5.out.trans (hF.mono F5.out.size))
      clear hF
      go_wp2_with fail
      go_ret
      exact ⟨rfl, F6.out⟩
end Go.Proofs.YtekafmnpojbbdaaDoor.Walks
