/- Contracts of Forward: the program's, the document's. -/
import Derived.Test.YtedcamljgnblmaaRSecond
import Derived.Test.YtedcamljgnblmaaAlMerge
namespace Go.Proofs.Ytedcamljgnblmaa.M
open Go.ChangeShapes Go.WideShapes Go.ChangeAt Go.RowKit Go.Proofs.Ytedcamljgnblmaa.Walks Go.Proofs.Ytedcamljgnblmaa.Al
set_option linter.unusedVariables false
/-- what Forward tells behind k of them -/
def fw (f : Nat → Rt) (a x : Int) : Nat → Int
  | 0 => x
  | k + 1 => if (f k).s && ((f k).a == a) then Num.mgm (fw f a x k) (f k).t (f k).m else fw f a x k
theorem mg_in (c0 c1 c2 c3 : Bool) (o d : Int) : 0 ≤ Num.mg c0 c1 c2 c3 o d ∧ Num.mg c0 c1 c2 c3 o d ≤ 4294967295 := by
  unfold Num.mg Num.pk
  split <;> split <;> split <;> split <;> omega
theorem fw_in (f : Nat → Rt) (a x : Int) (h0 : 0 ≤ x) (h1 : x ≤ 4294967295) : ∀ k, 0 ≤ fw f a x k ∧ fw f a x k ≤ 4294967295
  | 0 => ⟨h0, h1⟩
  | k + 1 => by
    rw [fw]
    split
    · exact mg_in _ _ _ _ _ _
    · exact fw_in f a x h0 h1 k
theorem fw_yes {f : Nat → Rt} {a x : Int} {k : Nat} (h : (f k).s = true) (h2 : (f k).a = a) : fw f a x (k + 1) = Num.mgm (fw f a x k) (f k).t (f k).m := by rw [fw, h, h2]; simp
theorem fw_no1 {f : Nat → Rt} {a x : Int} {k : Nat} (h : (f k).s = false) : fw f a x (k + 1) = fw f a x k := by rw [fw, h]; simp
theorem fw_no2 {f : Nat → Rt} {a x : Int} {k : Nat} (h : ((f k).a == a) = false) : fw f a x (k + 1) = fw f a x k := by rw [fw, h]; simp
set_option maxRecDepth 100000 in
set_option maxHeartbeats 2000000 in
theorem fwd_as (B G c n : Nat) (A : Option Addr) (f : Nat → Rt) (a x y : Int) (w : World) (hG : Hid (GAt B G A c n f w)) (hn : (n : Int) ≤ 16) (x0 : 0 ≤ x) (x1 : x ≤ 4294967295) (Y : Hid (fw f a x n = y)) :
    Calls Try.prog 14 #[.pointer (some ⟨G, 0, none⟩), .int .u32 a, .int .u32 x] w fun e w' => e = .returned (.int .u32 y) ∧ Fr w w' := by
  have c0 := hG.out.c0
  have X0 := hid x0
  have X1 := hid x1
  have R0 := hid hG.out.rin
  clear x0 x1
  go_enter Try.func14, Try.ntmps14
  go_wp2_with fail
  go_loopw [2, 14] (fun t2 i wr => ∃ k : Nat, (k : Int) ≤ n ∧ i = .int .i64 k ∧ t2 = .int .u32 (fw f a x k) ∧ Hid (Fr w wr)) (fun _ i _ => n - (intOf i).toNat)
  case atStart => exact ⟨0, by omega, rfl, rfl, Fr.refl _⟩
  case round =>
    obtain ⟨k, hk, rfl, rfl, HF⟩ := hrel
    rename_i wr
    by_cases hlt : (k : Int) < n
    · obtain ⟨b0, o0, rfl, cb, hr⟩ := (R0.out.fr HF.out) k (by omega)
      have e0 := hr 0 _ rfl
      have e1 := hr 1 _ rfl
      have e2 := hr 2 _ rfl
      have e3 := hr 3 _ rfl
      have e4 := hr 4 _ rfl
      have e5 := hr 5 _ rfl
      have e6 := hr 6 _ rfl
      rw [Nat.add_zero] at e0
      have hin := hid (hG.out.wf k (by omega))
      have hfk := hid (fw_in f a x X0.out X1.out k)
      have hy := hid (fun h h2 => @fw_yes f a x k h h2)
      have hn1 := hid (fun h => @fw_no1 f a x k h)
      have hn2 := hid (fun h => @fw_no2 f a x k h)
      clear hr cb
      generalize f k = r at *
      cases hs : r.s with
      | false =>
        rw [hs] at e3
        go_wp2_with fail
        all_goals exact ⟨⟨k + 1, by omega, by rw [Int.natCast_add]; rfl, by rw [hn1.out hs], HF.out.alloc _⟩, by simp [intOf]; omega⟩
      | true =>
        rw [hs] at e3
        cases ha : r.a == a with
        | false =>
          go_wp2_with fail
          all_goals exact ⟨⟨k + 1, by omega, by rw [Int.natCast_add]; rfl, by rw [hn2.out ha], HF.out.alloc _⟩, by simp [intOf]; omega⟩
        | true =>
          go_wp2_with fail
          refine (Al.Walks.merge_as _ _ _ _ hfk.out.1 hfk.out.2 hin.out.1 hin.out.2 (Eq.refl _) _).mono ?_; rintro e w1 ⟨rfl, rfl⟩
          go_wp2_with fail
          exact ⟨⟨k + 1, by omega, by rw [Int.natCast_add]; rfl, by rw [hy.out hs (by simpa using ha)], HF.out.alloc _⟩, by simp [intOf]; omega⟩
    · obtain rfl : k = n := by omega
      rw [Y.out]
      go_wp2_with fail
      go_ret
      exact ⟨rfl, HF.out⟩
set_option maxRecDepth 100000 in
set_option maxHeartbeats 2000000 in
theorem rfwd_as (B G c n : Nat) (A : Option Addr) (f : Nat → Rt) (a x y : Int) (w : World) (hG : Hid (GAt B G A c n f w)) (hn : (n : Int) ≤ 16) (x0 : 0 ≤ x) (x1 : x ≤ 4294967295) (Y : Hid (fw f a x n = y)) :
    Calls Try.prog 16 #[.pointer (some ⟨G, 0, none⟩), .int .u32 a, .int .u32 x] w fun e w' => e = .returned (.int .u32 y) ∧ Fr w w' := by
  have c0 := hG.out.c0
  have X0 := hid x0
  have X1 := hid x1
  have R0 := hid hG.out.rin
  clear x0 x1
  go_enter Try.func16, Try.ntmps16
  go_wp2_with fail
  go_loopw [2, 14] (fun t2 i wr => ∃ k : Nat, (k : Int) ≤ n ∧ i = .int .i64 k ∧ t2 = .int .u32 (fw f a x k) ∧ Hid (Fr w wr)) (fun _ i _ => n - (intOf i).toNat)
  case atStart => exact ⟨0, by omega, rfl, rfl, Fr.refl _⟩
  case round =>
    obtain ⟨k, hk, rfl, rfl, HF⟩ := hrel
    rename_i wr
    by_cases hlt : (k : Int) < n
    · obtain ⟨b0, o0, rfl, cb, hr⟩ := (R0.out.fr HF.out) k (by omega)
      have e0 := hr 0 _ rfl
      have e1 := hr 1 _ rfl
      have e2 := hr 2 _ rfl
      have e3 := hr 3 _ rfl
      have e4 := hr 4 _ rfl
      have e5 := hr 5 _ rfl
      have e6 := hr 6 _ rfl
      rw [Nat.add_zero] at e0
      have hin := hid (hG.out.wf k (by omega))
      have hfk := hid (fw_in f a x X0.out X1.out k)
      have hy := hid (fun h h2 => @fw_yes f a x k h h2)
      have hn1 := hid (fun h => @fw_no1 f a x k h)
      have hn2 := hid (fun h => @fw_no2 f a x k h)
      clear hr cb
      generalize f k = r at *
      cases hs : r.s with
      | false =>
        rw [hs] at e3
        go_wp2_with fail
        all_goals exact ⟨⟨k + 1, by omega, by rw [Int.natCast_add]; rfl, by rw [hn1.out hs], HF.out.alloc _⟩, by simp [intOf]; omega⟩
      | true =>
        rw [hs] at e3
        cases ha : r.a == a with
        | false =>
          go_wp2_with fail
          all_goals exact ⟨⟨k + 1, by omega, by rw [Int.natCast_add]; rfl, by rw [hn2.out ha], HF.out.alloc _⟩, by simp [intOf]; omega⟩
        | true =>
          go_wp2_with fail
          refine (Al.Walks.rmerge_as _ _ _ _ hfk.out.1 hfk.out.2 hin.out.1 hin.out.2 (Eq.refl _) _).mono ?_; rintro e w1 ⟨rfl, rfl⟩
          go_wp2_with fail
          exact ⟨⟨k + 1, by omega, by rw [Int.natCast_add]; rfl, by rw [hy.out hs (by simpa using ha)], HF.out.alloc _⟩, by simp [intOf]; omega⟩
    · obtain rfl : k = n := by omega
      rw [Y.out]
      go_wp2_with fail
      go_ret
      exact ⟨rfl, HF.out⟩
end Go.Proofs.Ytedcamljgnblmaa.M
