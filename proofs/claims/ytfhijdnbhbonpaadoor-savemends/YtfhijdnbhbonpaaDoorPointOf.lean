/- Contract of pointOf: the 39 words of a copy. -/
import Derived.Test.YtfhijdnbhbonpaaDoorPoint
namespace Go.Proofs.YtfhijdnbhbonpaaDoor.Walks
open Go.ChangeShapes Go.WideShapes Go.ChangeAt Go.RowKit
set_option linter.unusedVariables false
theorem markx_as (z : Nat) (x m : Int) (X : Hid ((z : Int) = x)) (M : Hid (((mk z : Nat) : Int) = m)) (hz : Hid (z < 4294967296)) (w : World) : Calls Tryd.prog 39 #[.int .u32 x] w fun e w' => e = .returned (.int .u32 m) ∧ w' = w := by
  rw [← X.out]; exact mark_as z m M hz w
/-- pointOf's own boxes: the arguments, the result, the copy -/
structure PtAt (w : World) (rs cs p : Nat → Nat) (wr : World) : Prop where
  a0 : ArrAt w.heap.size 32 rs wr
  a1 : ArrAt (w.heap.size + 1) 5 cs wr
  a2 : ArrAt (w.heap.size + 2) 39 w0 wr
  a3 : ArrAt (w.heap.size + 3) 39 p wr
  fr : FrB w.heap.size w wr
theorem PtAt.start (w : World) (rs cs : Nat → Nat) (wr : World) (h : (((w.alloc (.cells (wn rs 32).toArray 27)).alloc (.cells (wn cs 5).toArray 28)).alloc (.cells z39 54)).alloc (.cells z39 54) = wr) : PtAt w rs cs w0 wr := by
  subst h
  have s1 : (w.alloc (.cells (wn rs 32).toArray 27)).heap.size = w.heap.size + 1 := by simp
  have s2 : ((w.alloc (.cells (wn rs 32).toArray 27)).alloc (.cells (wn cs 5).toArray 28)).heap.size = w.heap.size + 2 := by simp
  have s3 : (((w.alloc (.cells (wn rs 32).toArray 27)).alloc (.cells (wn cs 5).toArray 28)).alloc (.cells z39 54)).heap.size = w.heap.size + 3 := by simp
  have b0 := ArrAt.new w rs 32 27
  have b1 := ArrAt.new (w.alloc (.cells (wn rs 32).toArray 27)) cs 5 28
  have b2 := ArrAt.zero39 ((w.alloc (.cells (wn rs 32).toArray 27)).alloc (.cells (wn cs 5).toArray 28)) 54
  have b3 := ArrAt.zero39 (((w.alloc (.cells (wn rs 32).toArray 27)).alloc (.cells (wn cs 5).toArray 28)).alloc (.cells z39 54)) 54
  have f0 := FrB.alloc w (.cells (wn rs 32).toArray 27)
  have f1 := FrB.alloc (w.alloc (.cells (wn rs 32).toArray 27)) (.cells (wn cs 5).toArray 28)
  have f2 := FrB.alloc ((w.alloc (.cells (wn rs 32).toArray 27)).alloc (.cells (wn cs 5).toArray 28)) (.cells z39 54)
  have f3 := FrB.alloc (((w.alloc (.cells (wn rs 32).toArray 27)).alloc (.cells (wn cs 5).toArray 28)).alloc (.cells z39 54)) (.cells z39 54)
  rw [s1] at b1 f1
  rw [s2] at b2 f2
  rw [s3] at b3 f3
  have g := (f1.trans (f2.mono (by omega))).trans (f3.mono (by omega))
  exact ⟨b0.frb g (by omega), b1.frb (f2.trans (f3.mono (by omega))) (by omega), b2.frb f3 (by omega), b3, f0.trans (g.mono (by omega))⟩
theorem PtAt.put {w wr w' : World} {rs cs p q : Nat → Nat} (h : PtAt w rs cs p wr) (a : ArrAt (w.heap.size + 3) 39 q w') (t : TouA (w.heap.size + 3) wr w') : PtAt w rs cs q w' :=
  ⟨h.a0.of_block (t.block _ (by omega)), h.a1.of_block (t.block _ (by omega)), h.a2.of_block (t.block _ (by omega)), a, h.fr.trans (FrB.toua t (by omega))⟩
theorem PtAt.drew {w wr : World} {rs cs p : Nat → Nat} (h : PtAt w rs cs p wr) : PtAt w rs cs p wr.drew :=
  have a : wr.drew.Alike wr := ⟨rfl, rfl, rfl⟩
  ⟨h.a0.alike a, h.a1.alike a, h.a2.alike a, h.a3.alike a, h.fr.trans (FrB.alike a)⟩
theorem pnt_put (pc z : Nat) (rs cs : Nat → Nat) : ovr (ovr (pnt pc w0 w0 z) 1 31 (fun j => rs (j + 1))) 32 5 cs = pnt pc rs cs z := by
  funext i
  unfold ovr pnt
  by_cases h0 : i = 0
  · subst h0; rfl
  · by_cases h1 : i < 32
    · rw [if_neg (by omega), if_pos (by omega), if_neg h0, if_pos h1]; show rs (i - 1 + 1) = _; rw [show i - 1 + 1 = i by omega]
    · by_cases h2 : i < 37
      · rw [if_pos (by omega), if_neg h0, if_neg h1, if_pos h2]
      · rw [if_neg (by omega), if_neg (by omega), if_neg h0, if_neg h1, if_neg h2, if_neg h0, if_neg h1, if_neg h2]
set_option maxRecDepth 100000 in
set_option maxHeartbeats 2000000 in
theorem point_core (pc z : Nat) (m : Int) (rs cs : Nat → Nat) (n : Int) (hz4 : Hid (z < 4294967296)) (hz : (n < 0 ∧ Hid ((z : Int) = 0)) ∨ (0 ≤ n ∧ n ≤ 2147483647 ∧ Hid ((z : Int) = n)) ∨ (2147483647 < n ∧ Hid ((z : Int) = 2147483647))) (hm : Hid (((mk z : Nat) : Int) = m)) (w : World) :
    Calls Tryd.prog 24 #[.int .u32 pc, .agg (wn rs 32).toArray, .agg (wn cs 5).toArray, .int .i64 n] w fun e w' => e = .returned (.agg (wn (pnt pc rs cs z) 39).toArray) ∧ FrB w.heap.size w w' := by
  have P4 := hideP (PtAt.start w rs cs _ rfl)
  have Y4 : Hid (∀ x : Int, (z : Int) = x → #[.int .u32 (pc : Int), .int .u32 0, .int .u32 0, .int .u32 0, .int .u32 0, .int .u32 0, .int .u32 0, .int .u32 0, .int .u32 0, .int .u32 0, .int .u32 0, .int .u32 0, .int .u32 0, .int .u32 0, .int .u32 0, .int .u32 0, .int .u32 0, .int .u32 0, .int .u32 0, .int .u32 0, .int .u32 0, .int .u32 0, .int .u32 0, .int .u32 0, .int .u32 0, .int .u32 0, .int .u32 0, .int .u32 0, .int .u32 0, .int .u32 0, .int .u32 0, .int .u32 0, .int .u32 0, .int .u32 0, .int .u32 0, .int .u32 0, .int .u32 0, .int .u32 x, .int .u32 m] = (wn (pnt pc w0 w0 z) 39).toArray) := by
    unfold Hid
    intro x hx
    rw [← hx, ← hm.out]
    rfl
  rcases hz with ⟨h0, h2⟩ | ⟨h0, h1, h2⟩ | ⟨h0, h2⟩
  all_goals
    go_enter Tryd.func24, Tryd.ntmps24
    go_wp2_with fail
    refine (markx_as z _ m h2 hm hz4 _).mono ?_; rintro e w' ⟨rfl, rfl⟩
    go_wp2_with (first
      | (refine wpList_arrG 54 39 size54 _ (w.heap.size + 3) w0 P4.out.a3 (by rfl) _ _ rfl (pnt pc w0 w0 z) _ (Y4.out _ h2.out) rfl rfl ?_; intro w5 hA hT; have P5 := hideP ((P4.out.put hA.out hT.out).drew); clear hA hT))
    go_region_law (refine step_copyA rfl (.tmp 20) (.tmp 21) rfl (w.heap.size + 3) 39 (pnt pc w0 w0 z) P5.out.a3 1 31 38 (by decide) w.heap.size 1 31 (fun j => rs (j + 1)) (fun j hj => by rw [P5.out.a0.hw (1 + j) (by omega), Nat.add_comm]) (by simp [Act.eval, Act.put]) (by simp [Act.eval, Act.put]) ?_; intro w6 hA hT; have P6 := hideP ((P5.out.put hA.out hT.out).drew); clear hA hT)
    all_goals
      go_wp2_with fail
      go_region_law (refine step_copyA rfl (.tmp 23) (.tmp 24) rfl (w.heap.size + 3) 39 _ P6.out.a3 32 5 7 (by decide) (w.heap.size + 1) 0 5 cs (fun j hj => by rw [Nat.zero_add, P6.out.a1.hw j (by omega)]) (by simp [Act.eval, Act.put]) (by simp [Act.eval, Act.put]) ?_; intro w7 hA hT; have P7 := hideP (P6.out.put hA.out hT.out); clear hA hT)
      all_goals
        have R7 := hideP P7.out.a3.range
        go_wp2_with (first
          | (refine load_want (by rfl) 54 _ rfl (w.heap.size + 3) 0 rfl (wn _ 39) _ R7.out Tryd.underlying54 rfl (by rw [wn_len]; exact size54) ?_)
          | (refine wpList_arrG 54 39 size54 _ (w.heap.size + 2) w0 P7.out.a2 (by rfl) _ _ rfl _ _ rfl rfl rfl ?_; intro W' hA hT; have FW : Hid (FrB w.heap.size w W') := P7.out.fr.trans (FrB.toua hT.out (by omega)); have HL := hA.out.told 54 _ Tryd.underlying54 rfl size54; clear hA hT))
        refine bodyPost_ret (v := .agg (wn (ovr (ovr (pnt pc w0 w0 z) 1 31 (fun j => rs (j + 1))) 32 5 cs) 39).toArray) (by simp [results, Tryd.results24, asAddr, Act.put, HL]) rfl ⟨?_, FW.out⟩
        rw [pnt_put]
theorem point_as (pc : Nat) (rs cs : Nat → Nat) (n : Int) (w : World) :
    Calls Tryd.prog 24 #[.int .u32 pc, .agg (wn rs 32).toArray, .agg (wn cs 5).toArray, .int .i64 n] w fun e w' => e = .returned (.agg (wn (pnt pc rs cs (num n)) 39).toArray) ∧ FrB w.heap.size w w' := by
  refine point_core pc (num n) _ rs cs n (by have := num_lt n; unfold Hid; omega) ?_ (hideP rfl) w
  unfold Hid num
  omega
end Go.Proofs.YtfhijdnbhbonpaaDoor.Walks
