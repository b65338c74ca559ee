/- Contracts of a file's methods but All: New, Read, Write, Scrub, Flip, Bits. -/
import Derived.Test.YtgcpjlnncedcfaaDoorFNums
namespace Go.Proofs.YtgcpjlnncedcfaaDoor.Walks
open Go.ChangeShapes Go.WideShapes Go.ChangeAt Go.RowKit
set_option linter.unusedVariables false
theorem Fresh.boxed {b d f B : Nat} {ws : Nat → Nat} {w v : World} (h : Fresh B b d 31 ws f w v) (T : TypeId) (hB : B ≤ v.heap.size) :
    MFresh B v.heap.size b d ws f 1 w (v.alloc (.cells #[.pointer (some ⟨b, 0, none⟩), .int .i64 1] T)) := by
  obtain ⟨h1, h2, h3, h4, h5, h6⟩ := h
  have s : (v.alloc (.cells #[.pointer (some ⟨b, 0, none⟩), .int .i64 1] T)).heap.size = v.heap.size + 1 := by simp
  refine ⟨⟨?_, ?_, ?_, h1.frb (FrB.alloc v _) h5 h6, by omega, by omega, by decide⟩, h2.trans ((FrB.alloc v _).mono hB), ⟨hB, h3, h4⟩, by omega, by omega, by omega⟩
  · rw [World.cell?_alloc_at _ _ _ _ rfl]; rfl
  · rw [World.cell?_alloc_at _ _ _ _ rfl]; rfl
  · rw [World.frozen?_alloc_at _ _ _ _ rfl]
/-- what New tells: new registers that are all 0 -/
def FMade (w : World) (e : Ending) (w' : World) : Prop := ∃ M b d, e = .returned (.pointer (some ⟨M, 0, none⟩)) ∧ MFresh w.heap.size M b d w0 0 1 w w'
set_option maxHeartbeats 1000000 in
theorem fnew_as (w : World) (hL : Hid (Laid w)) : Calls Tryd.prog 10 #[] w fun e w' => FMade w e w' := by
  go_enter Tryd.func10, Tryd.ntmps10
  go_wp2_with fail
  refine (new_n _ 31 rfl (by decide) _ hL).mono ?_; rintro e w1 ⟨b, d, rfl, hF⟩
  have HB := hideP (hF.boxed 48 hF.2.1.size)
  clear hF
  go_wp2_with fail
  go_ret
  exact ⟨_, _, _, rfl, HB.out⟩
set_option maxHeartbeats 1000000 in
theorem fread_0 (M : Nat) (w : World) : Calls Tryd.prog 15 #[.pointer (some ⟨M, 0, none⟩), .int .i64 0] w fun e w' => e = .returned (.tuple #[.int .u32 0, .int .i64 0]) ∧ w' = w := by
  go_enter Tryd.func15, Tryd.ntmps15
  go_wp2_with fail
  go_ret2
  exact ⟨rfl, rfl⟩
set_option maxHeartbeats 1000000 in
theorem fread_as (M b d f nx : Nat) (ws : Nat → Nat) (i j x s : Int) (hi : (i == 0) = false) (J : wrap64 (i - 1) = j) (hf : (f : Int) ≤ 4611686018427387903) (X : Hid (((pkV 31 ws j : Nat) : Int) = x)) (S : Hid (((pkS 31 ws j : Nat) : Int) = s)) (w : World) (hL : Hid (Laid w)) (hM : Hid (MemAt M b d ws f nx w)) :
    Calls Tryd.prog 15 #[.pointer (some ⟨M, 0, none⟩), .int .i64 i] w fun e w' => e = .returned (.tuple #[.int .u32 x, .int .i64 s]) ∧ MNow M b d (gtW 31 ws j) (gtF 31 ws f j) nx w w' := by
  have hr := hM.out.hr
  go_enter Tryd.func15, Tryd.ntmps15
  go_wp2_with fail
  refine (get_as b d 31 f ws j _ _ X S (by decide) (by omega) _ hL hM.out.row).mono ?_; rintro e w1 ⟨rfl, hF⟩
  have HN := hideP (hM.out.row_now hF)
  clear hF
  go_wp2_with fail
  go_ret2
  exact ⟨rfl, HN.out⟩
set_option maxHeartbeats 1000000 in
theorem fwrite_0 (M : Nat) (v : Int) (w : World) : Calls Tryd.prog 11 #[.pointer (some ⟨M, 0, none⟩), .int .i64 0, .int .u32 v] w fun e w' => e = .returned (.bool true) ∧ w' = w := by
  go_enter Tryd.func11, Tryd.ntmps11
  go_wp2_with fail
  go_ret
  exact ⟨rfl, rfl⟩
set_option maxHeartbeats 1000000 in
theorem fwrite_as (M b d f nx : Nat) (ws : Nat → Nat) (i j v : Int) (hi : (i == 0) = false) (J : wrap64 (i - 1) = j) (g : Bool) (G : Hid (inB 31 j = g)) (v0 : 0 ≤ v) (v1 : v < 4294967296) (w : World) (hL : Hid (Laid w)) (hM : Hid (MemAt M b d ws f nx w)) :
    Calls Tryd.prog 11 #[.pointer (some ⟨M, 0, none⟩), .int .i64 i, .int .u32 v] w fun e w' => e = .returned (.bool g) ∧ MNow M b d (ptW 31 ws j v.toNat) f nx w w' := by
  have hr := hM.out.hr
  go_enter Tryd.func11, Tryd.ntmps11
  go_wp2_with fail
  refine (put_as b d 31 f ws j _ _ G v0 v1 (by decide) _ hL hM.out.row).mono ?_; rintro e w1 ⟨rfl, hF⟩
  have HN := hideP (hM.out.row_now hF)
  clear hF
  go_wp2_with fail
  go_ret
  exact ⟨rfl, HN.out⟩
set_option maxHeartbeats 1000000 in
theorem fflip_as (M b d f nx : Nat) (ws : Nat → Nat) (i : Int) (g : Bool) (G : Hid (inF 31 i = g)) (w : World) (hM : Hid (MemAt M b d ws f nx w)) :
    Calls Tryd.prog 12 #[.pointer (some ⟨M, 0, none⟩), .int .i64 i] w fun e w' => e = .returned (.bool g) ∧ MNow M b d (flW 31 ws i) f nx w w' := by
  have hr := hM.out.hr
  go_enter Tryd.func12, Tryd.ntmps12
  go_wp2_with fail
  refine (flip_as b d 31 f ws i _ G (by decide) _ hM.out.row).mono ?_; rintro e w1 ⟨rfl, hF⟩
  have HN := hideP (hM.out.row_now hF)
  clear hF
  go_wp2_with fail
  go_ret
  exact ⟨rfl, HN.out⟩
set_option maxHeartbeats 1000000 in
theorem fbits_as (M b d : Nat) (w : World) (hr : w.cell? ⟨M, 0, none⟩ = some (.pointer (some ⟨b, 0, none⟩))) (hs : w.cell? ⟨b, 0, none⟩ = some (.slice (some ⟨d, 0, none⟩) 31 31)) :
    Calls Tryd.prog 21 #[.pointer (some ⟨M, 0, none⟩)] w fun e w' => e = .returned (.int .i64 1209) ∧ w' = w := by
  go_enter Tryd.func21, Tryd.ntmps21
  go_wp2_with fail
  refine (bits_as b d 31 (by decide) _ hs).mono ?_; rintro e w' ⟨rfl, rfl⟩
  go_wp2_with fail
  go_ret
  exact ⟨rfl, rfl⟩
set_option maxHeartbeats 1000000 in
theorem fscrub_as (M b d f nx : Nat) (ws : Nat → Nat) (s : Int) (h0 : Hid (1 ≤ nx)) (h1 : (nx : Int) ≤ 31) (hf : (f : Int) ≤ 4611686018427387903) (S : Hid (((pkS 31 ws ((nx : Int) - 1) : Nat) : Int) = s)) (w : World) (hL : Hid (Laid w)) (hM : Hid (MemAt M b d ws f nx w)) :
    Calls Tryd.prog 14 #[.pointer (some ⟨M, 0, none⟩)] w fun e w' => e = .returned (.int .i64 s) ∧ MNow M b d (gtW 31 ws ((nx : Int) - 1)) (gtF 31 ws f ((nx : Int) - 1)) (nxF nx) w w' := by
  have hx := hM.out.hx
  obtain ⟨x, X⟩ : ∃ x : Int, Hid (((pkV 31 ws ((nx : Int) - 1) : Nat) : Int) = x) := ⟨_, rfl⟩
  have n0 : ((nx : Int) == 0) = false := by rw [beq_eq_false_iff_ne]; have := h0.out; omega
  have nw : wrap64 ((nx : Int) - 1) = (nx : Int) - 1 := by unfold wrap64; have := h0.out; omega
  go_enter Tryd.func14, Tryd.ntmps14
  go_wp2_with fail
  refine (fread_as M b d f nx ws _ _ _ _ n0 nw hf X S _ hL hM).mono ?_; rintro e w1 ⟨rfl, hF⟩
  have HN := hideP hF
  clear hF
  have hx1 := HN.out.1.hx
  have zx1 := HN.out.1.zx
  by_cases e : nx = 31
  · have e' := hideP e
    have en : (nx : Int) = 31 := by omega
    rw [en] at hx1
    clear e
    go_wp2_with fail
    go_ret
    have q := HN.out.1.go 32 (by decide)
    have r := q.1.go 1 (by decide)
    refine ⟨rfl, ?_⟩
    unfold nxF
    rw [if_pos e'.out]
    exact (HN.out.trans q).trans r
  · have e' := hideP e
    obtain ⟨k, hk⟩ : ∃ k : Nat, Hid (nx + 1 = k) := ⟨_, rfl⟩
    have e1 : (nx : Int) + 1 = (k : Int) := by have := hk.out; omega
    have kl : (k : Int) ≤ 31 := by omega
    have hb : Hid (k < 1024) := by unfold Hid; omega
    clear e n0 nw h1 X S hf h0
    go_wp2_with fail
    go_ret
    refine ⟨rfl, ?_⟩
    unfold nxF
    rw [if_neg e'.out, hk.out]
    exact HN.out.trans (HN.out.1.go k hb.out)
end Go.Proofs.YtgcpjlnncedcfaaDoor.Walks
