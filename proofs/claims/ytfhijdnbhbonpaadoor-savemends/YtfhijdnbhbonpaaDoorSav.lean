/- Contract of Save. -/
import Derived.Test.YtfhijdnbhbonpaaDoorPut
namespace Go.Proofs.YtfhijdnbhbonpaaDoor.Walks
open Go.ChangeShapes Go.WideShapes Go.ChangeAt Go.RowKit
set_option linter.unusedVariables false
theorem put_ax (M b d f nx o : Nat) (ws p : Nat → Nat) (x : Int) (X : Hid ((o : Int) = x)) (ho : (o : Int) ≤ 1) (hp : Hid (∀ i, i < 39 → p i < 4294967296)) (w : World) (hS : Hid (SAt M b d ws f nx w)) :
    Calls Tryd.prog 23 #[.pointer (some ⟨M, 0, none⟩), .int .i64 x, .agg (wn p 39).toArray] w fun e w' => e = .returned (.tuple #[]) ∧ SNow M b d (ptK ws (39 * o) p 39) f nx w w' := by
  rw [← X.out]; exact put_core M b d f nx o ws p ho hp w hS
/-- what a call is handed: arrays of words -/
def Wd (n : Nat) (rs : Nat → Nat) : Prop := ∀ i, i < n → rs i < 4294967296
theorem pnt_lt2 {pc : Nat} {rs cs : Nat → Nat} {z : Nat} (h0 : pc < 4294967296) (h1 : Wd 32 rs) (h2 : Wd 5 cs) (h3 : z < 4294967296) (i : Nat) : pnt pc rs cs z i < 4294967296 := by
  unfold pnt
  split
  · exact h0
  · split
    · exact h1 _ (by omega)
    · split
      · exact h2 _ (by omega)
      · split
        · exact h3
        · exact mk_lt z
set_option maxRecDepth 100000 in
set_option maxHeartbeats 1000000 in
theorem save_core (M b d f nx pc l : Nat) (ws rs cs : Nat → Nat) (n : Int) (hl : l = 0 ∨ l = 1) (HL : Hid (lat ws = l)) (hpc : Hid (pc < 4294967296)) (hrs : Hid (Wd 32 rs)) (hcs : Hid (Wd 5 cs)) (hf : (f : Int) < 4611686018427387904) (w : World) (hS : Hid (SAt M b d ws f nx w)) :
    Calls Tryd.prog 12 #[.pointer (some ⟨M, 0, none⟩), .int .u32 pc, .agg (wn rs 32).toArray, .agg (wn cs 5).toArray, .int .i64 n] w fun e w' => e = .returned (.tuple #[]) ∧ SNow M b d (svW ws (pnt pc rs cs (num n))) (f1 ws f) nx w w' := by
  have S1 := hideP (hS.out.alloc (.cells (wn rs 32).toArray 27))
  have S2 := hideP (S1.out.trans (S1.out.1.alloc (.cells (wn cs 5).toArray 28)))
  have R1 : Hid (ArrAt w.heap.size 32 rs ((w.alloc (.cells (wn rs 32).toArray 27)).alloc (.cells (wn cs 5).toArray 28))) := (ArrAt.new w rs 32 27).frb (FrB.alloc _ _) (by simp)
  have R2 : Hid (ArrAt (w.heap.size + 1) 5 cs ((w.alloc (.cells (wn rs 32).toArray 27)).alloc (.cells (wn cs 5).toArray 28))) := by have := ArrAt.new (w.alloc (.cells (wn rs 32).toArray 27)) cs 5 28; unfold Hid; simpa using this
  have Z : Hid (((w.alloc (.cells (wn rs 32).toArray 27)).alloc (.cells (wn cs 5).toArray 28)).heap.size = w.heap.size + 2) := by unfold Hid; simp
  have HP : Hid (∀ i, i < 39 → pnt pc rs cs (num n) i < 4294967296) := fun i _ => pnt_lt2 hpc.out hrs.out hcs.out (by have := num_lt n; omega) i
  clear S1
  rcases hl with rfl | rfl
  · go_enter Tryd.func12, Tryd.ntmps12
    go_wp2_with fail
    generalize ((w.alloc (.cells (wn rs 32).toArray 27)).alloc (.cells (wn cs 5).toArray 28)) = w2 at *
    refine (latest_as M b d f nx ws _ _ HL (hideP rfl) hf _ (hideP S2.out.1)).mono ?_; rintro e w3 ⟨rfl, hN⟩
    have S3 := hideP (S2.out.trans hN)
    have A1 := hideP ((R1.out.tub hN.2 (by have := Z.out; omega) (by have := hS.out.hM; omega) (by have := hS.out.hb; omega) (by have := hS.out.hd; omega)).range)
    have A2 := hideP ((R2.out.tub hN.2 (by have := Z.out; omega) (by have := hS.out.hM; omega) (by have := hS.out.hb; omega) (by have := hS.out.hd; omega)).range)
    clear hN
    go_wp2_with (first
      | (refine load_want (by rfl) 27 _ rfl w.heap.size 0 rfl (wn rs 32) _ A1.out Tryd.underlying27 rfl (by rw [wn_len]; exact size27) ?_)
      | (refine load_want (by rfl) 28 _ rfl (w.heap.size + 1) 0 rfl (wn cs 5) _ A2.out Tryd.underlying28 rfl (by rw [wn_len]; exact size28) ?_))
    refine (point_as pc rs cs n _).mono ?_; rintro e w4 ⟨rfl, hN⟩
    have S4 := hideP (S3.out.trans (S3.out.1.past hN))
    clear hN
    go_wp2_with fail
    refine (put_ax M b d _ nx 1 _ _ _ (hideP rfl) (by decide) HP _ (hideP S4.out.1)).mono ?_; rintro e w5 ⟨rfl, hN⟩
    have S5 := hideP (S4.out.trans hN)
    have hr5 := S5.out.1.mem.hr
    have L5 := hideP S5.out.1.laid
    have R5 := hideP S5.out.1.mem.row
    clear hN
    go_wp2_with fail
    refine (put_as b d 79 _ _ 78 1 true (hideP (by decide +kernel)) (by decide) (by decide) (by decide) _ L5 R5).mono ?_; rintro e w6 ⟨rfl, hN⟩
    have S6 := hideP (S5.out.trans (S5.out.1.now hN))
    clear hN
    go_wp2_with fail
    go_end0
    refine ⟨rfl, ?_⟩
    unfold svW
    rw [HL.out]
    exact S6.out
  · go_enter Tryd.func12, Tryd.ntmps12
    go_wp2_with fail
    generalize ((w.alloc (.cells (wn rs 32).toArray 27)).alloc (.cells (wn cs 5).toArray 28)) = w2 at *
    refine (latest_as M b d f nx ws _ _ HL (hideP rfl) hf _ (hideP S2.out.1)).mono ?_; rintro e w3 ⟨rfl, hN⟩
    have S3 := hideP (S2.out.trans hN)
    have A1 := hideP ((R1.out.tub hN.2 (by have := Z.out; omega) (by have := hS.out.hM; omega) (by have := hS.out.hb; omega) (by have := hS.out.hd; omega)).range)
    have A2 := hideP ((R2.out.tub hN.2 (by have := Z.out; omega) (by have := hS.out.hM; omega) (by have := hS.out.hb; omega) (by have := hS.out.hd; omega)).range)
    clear hN
    go_wp2_with (first
      | (refine load_want (by rfl) 27 _ rfl w.heap.size 0 rfl (wn rs 32) _ A1.out Tryd.underlying27 rfl (by rw [wn_len]; exact size27) ?_)
      | (refine load_want (by rfl) 28 _ rfl (w.heap.size + 1) 0 rfl (wn cs 5) _ A2.out Tryd.underlying28 rfl (by rw [wn_len]; exact size28) ?_))
    refine (point_as pc rs cs n _).mono ?_; rintro e w4 ⟨rfl, hN⟩
    have S4 := hideP (S3.out.trans (S3.out.1.past hN))
    clear hN
    go_wp2_with fail
    refine (put_ax M b d _ nx 0 _ _ _ (hideP rfl) (by decide) HP _ (hideP S4.out.1)).mono ?_; rintro e w5 ⟨rfl, hN⟩
    have S5 := hideP (S4.out.trans hN)
    have hr5 := S5.out.1.mem.hr
    have L5 := hideP S5.out.1.laid
    have R5 := hideP S5.out.1.mem.row
    clear hN
    go_wp2_with fail
    refine (put_as b d 79 _ _ 78 0 true (hideP (by decide +kernel)) (by decide) (by decide) (by decide) _ L5 R5).mono ?_; rintro e w6 ⟨rfl, hN⟩
    have S6 := hideP (S5.out.trans (S5.out.1.now hN))
    clear hN
    go_wp2_with fail
    go_end0
    refine ⟨rfl, ?_⟩
    unfold svW
    rw [HL.out]
    exact S6.out
theorem save_as (M b d f nx pc : Nat) (ws rs cs : Nat → Nat) (n : Int) (hpc : Hid (pc < 4294967296)) (hrs : Hid (Wd 32 rs)) (hcs : Hid (Wd 5 cs)) (hf : (f : Int) < 4611686018427387904) (w : World) (hS : Hid (SAt M b d ws f nx w)) :
    Calls Tryd.prog 12 #[.pointer (some ⟨M, 0, none⟩), .int .u32 pc, .agg (wn rs 32).toArray, .agg (wn cs 5).toArray, .int .i64 n] w fun e w' => e = .returned (.tuple #[]) ∧ SNow M b d (svW ws (pnt pc rs cs (num n))) (f1 ws f) nx w w' :=
  save_core M b d f nx pc (lat ws) ws rs cs n (by have := lat_le ws; omega) (hideP rfl) hpc hrs hcs hf w hS
end Go.Proofs.YtfhijdnbhbonpaaDoor.Walks
