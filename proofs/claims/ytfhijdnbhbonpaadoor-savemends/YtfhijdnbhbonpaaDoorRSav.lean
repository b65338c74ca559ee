/- Contract of the document's own Save. -/
import Derived.Test.YtfhijdnbhbonpaaDoorRPut
import Derived.Test.YtfhijdnbhbonpaaDoorSav
namespace Go.Proofs.YtfhijdnbhbonpaaDoor.Walks
open Go.ChangeShapes Go.WideShapes Go.ChangeAt Go.RowKit
set_option linter.unusedVariables false
theorem FrB.grown {B : Nat} {w w' : World} {row : Option Nat} (hg : w.grownBy w' row) (hB : B ≤ w.heap.size) (hr : ∀ k, row = some k → B ≤ k) : FrB B w w' :=
  ⟨hg.os, hg.output, hg.size, fun k hk => hg.block k (by omega) (fun e => by have := hr k e.symm; omega)⟩
theorem add_mid (g o j : Nat) : (⟨g, o, none⟩ : Addr).add j = ⟨g, o + j, none⟩ := by unfold Addr.add; split <;> simp_all
theorem owns_one (w : World) (B : Nat) (v : Value) (hB : B ≤ w.heap.size) : (w.alloc (.cells #[v] 26)).ownsRow B 26 1 (.slice (some ⟨w.heap.size, 0, none⟩) 1 1) 1 [v] :=
  ⟨by simp, .inr ⟨w.heap.size, 1, #[v], rfl, hB, heap_alloc_new w _, Nat.le_refl _, by unfold maxLen; omega, rfl, rfl⟩⟩
theorem owns_at (w : World) (B : Nat) (v : Value) (k : Nat) (hk : w.heap.size = k) (hB : B ≤ k) : (w.alloc (.cells #[v] 26)).ownsRow B 26 1 (.slice (some ⟨k, 0, none⟩) 1 1) 1 [v] := by
  subst hk; exact owns_one w B v hB
theorem news_one (w : World) (v : Value) (j : Nat) (u : Value) (hj : [v][j]? = some u) : (w.alloc (.cells #[v] 26)).cell? ((⟨w.heap.size, 0, none⟩ : Addr).add j) = some u := by
  have h : ∀ i, (w.alloc (.cells #[v] 26)).cell? ⟨w.heap.size, i, none⟩ = #[v][i]? := fun i => World.cell?_alloc_at _ _ _ _ rfl
  rw [add_mid, Nat.zero_add, h, ← hj]
  simp
theorem one_one (k : IntKind) (x : Int) : ∀ u ∈ [Value.int k x], u.oneCell' = true := by
  intro u hu
  simp only [List.mem_cons, List.not_mem_nil, or_false] at hu
  rcases hu with rfl
  rfl
theorem wn_app (p : Nat → Nat) (n m : Nat) : wn p (n + m) = wn p n ++ wn (fun j => p (n + j)) m := by
  apply List.ext_getElem?
  intro i
  by_cases h : i < n
  · rw [wn_at _ _ _ (by omega), List.getElem?_append_left (by rw [wn_len]; exact h), wn_at _ _ _ h]
  · rw [List.getElem?_append_right (by rw [wn_len]; omega), wn_len]
    by_cases g : i < n + m
    · rw [wn_at _ _ _ g, wn_at _ _ _ (by omega), show n + (i - n) = i by omega]
    · rw [List.getElem?_eq_none (by rw [wn_len]; omega), List.getElem?_eq_none (by rw [wn_len]; omega)]
theorem news_arr {w : World} {A n : Nat} {zs : Nat → Nat} (h : ArrAt A n zs w) (o m : Nat) (ho : o + m ≤ n) (j : Nat) (u : Value) (hj : (wn (fun i => zs (o + i)) m)[j]? = some u) : w.cell? ((⟨A, o, none⟩ : Addr).add j) = some u := by
  have hm : j < m := by have := (List.getElem?_eq_some_iff.1 hj).1; rwa [wn_len] at this
  rw [wn_at _ _ _ hm] at hj
  injection hj with hj
  subst hj
  rw [add_mid]
  exact h.hw _ (by omega)
/-- while the document's Save lays its list: the arguments' boxes, the store -/
structure RsAt (w : World) (M b d : Nat) (ws : Nat → Nat) (f nx : Nat) (rs cs : Nat → Nat) (wr : World) : Prop where
  now : SNow M b d ws f nx w wr
  a0 : ArrAt w.heap.size 32 rs wr
  a1 : ArrAt (w.heap.size + 1) 5 cs wr
  sz : w.heap.size + 2 ≤ wr.heap.size
theorem RsAt.start {w : World} {M b d f nx : Nat} {ws : Nat → Nat} (h : SAt M b d ws f nx w) (rs cs : Nat → Nat) : RsAt w M b d ws f nx rs cs ((w.alloc (.cells (wn rs 32).toArray 27)).alloc (.cells (wn cs 5).toArray 28)) := by
  have n1 := h.alloc (.cells (wn rs 32).toArray 27)
  have a := ArrAt.new (w.alloc (.cells (wn rs 32).toArray 27)) cs 5 28
  rw [show (w.alloc (.cells (wn rs 32).toArray 27)).heap.size = w.heap.size + 1 by simp] at a
  exact ⟨n1.trans (n1.1.alloc _), (ArrAt.new w rs 32 27).frb (FrB.alloc _ _) (by simp), a, by simp⟩
theorem RsAt.past {w wr w' : World} {M b d f nx : Nat} {ws rs cs : Nat → Nat} (h : RsAt w M b d ws f nx rs cs wr) (hS : M < w.heap.size ∧ b < w.heap.size ∧ d < w.heap.size) (t : FrB (w.heap.size + 2) wr w') : RsAt w M b d ws f nx rs cs w' :=
  ⟨⟨h.now.1.frb t (by omega) (by omega) (by omega), h.now.2.trans (Tub.of_frb (t.mono (by omega)) _ _ _)⟩, h.a0.frb t (by omega), h.a1.frb t (by omega), by have := t.size; have := h.sz; omega⟩
theorem lie_owned {w : World} {B A c n : Nat} {p : Nat → Nat} (h : w.ownsRow B 26 1 (.slice (some ⟨A, 0, none⟩) n c) n (wn p n)) : Lie A 0 n p w := fun i hi => by
  have := h.cells (g := A) rfl i _ (wn_at p n i hi)
  rwa [add_mid] at this
theorem owned_slice {w : World} {B n : Nat} {v : Value} {xs : List Value} (h : w.ownsRow B 26 1 v n xs) (hn : 0 < n) : ∃ A c, v = .slice (some ⟨A, 0, none⟩) n c ∧ B ≤ A ∧ A < w.heap.size := by
  obtain ⟨e, e2⟩ | ⟨A, cap, cur, rfl, h2⟩ := h.2
  · omega
  · exact ⟨A, cap, rfl, h.lt A rfl⟩
set_option maxRecDepth 100000 in
set_option maxHeartbeats 2000000 in
theorem rsave_core (M b d f nx pc l o z : Nat) (ws rs cs : Nat → Nat) (n : Int) (hl : (l : Int) ≤ 1) (HO : Hid ((o : Int) = 1 - (l : Int))) (ho : (o : Int) ≤ 1) (HL : Hid (lat ws = l)) (hpc : Hid (pc < 4294967296)) (hrs : Hid (Wd 32 rs)) (hcs : Hid (Wd 5 cs)) (hz4 : Hid (z < 4294967296))
    (hz : (n < 0 ∧ Hid ((z : Int) = 0)) ∨ (0 ≤ n ∧ n ≤ 2147483647 ∧ Hid ((z : Int) = n)) ∨ (2147483647 < n ∧ Hid ((z : Int) = 2147483647))) (hf : (f : Int) ≤ 4611686018427387903) (w : World) (hS : Hid (SAt M b d ws f nx w)) :
    Calls Tryd.prog 20 #[.pointer (some ⟨M, 0, none⟩), .int .u32 pc, .agg (wn rs 32).toArray, .agg (wn cs 5).toArray, .int .i64 n] w fun e w' => e = .returned (.tuple #[]) ∧ SNow M b d (svW ws (pnt pc rs cs z)) (f1 ws f) nx w w' := by
  obtain ⟨i0, hi, hz0, hz1, hz2⟩ := info_parts info23
  have hM : Hid (M < w.heap.size ∧ b < w.heap.size ∧ d < w.heap.size) := ⟨hS.out.hM, hS.out.hb, hS.out.hd⟩
  have D0 := hideP (RsAt.start hS.out rs cs)
  have X : Hid (((pkV 79 ws 78 : Nat) : Int) = (vw ws 78 : Nat)) := by unfold Hid; rw [show (78 : Int) = ((78 : Nat) : Int) from rfl, pkV_is ws (by decide)]
  have A := low1 _ (vw_lt ws 78)
  rw [show vw ws 78 % 2 = l from HL.out] at A
  obtain ⟨p, HP⟩ : ∃ p, Hid (pnt pc rs cs z = p) := ⟨_, rfl⟩
  have PB : Hid (∀ i, i < 39 → p i < 4294967296) := fun i _ => by rw [← HP.out]; exact pnt_lt2 hpc.out hrs.out hcs.out hz4.out i
  have PM : Hid (p 38 = mk (p 37)) := by unfold Hid; rw [← HP.out]; rfl
  have P0 : Hid ([.int .u32 (pc : Int)] = wn p 1) := by unfold Hid; rw [← HP.out]; rfl
  have P1 : Hid (wn p 1 ++ wn (fun j => rs (1 + j)) 31 = wn p 32) := by
    have e : wn (fun j => rs (1 + j)) 31 = wn (fun j => p (1 + j)) 31 := wn_congr _ _ _ fun i hi => by
      rw [← HP.out]; unfold pnt; rw [if_neg (by omega), if_pos (by omega)]
    unfold Hid
    rw [e]
    exact (wn_app p 1 31).symm
  have P2 : Hid (wn p 32 ++ wn (fun j => cs (0 + j)) 5 = wn p 37) := by
    have e : wn (fun j => cs (0 + j)) 5 = wn (fun j => p (32 + j)) 5 := wn_congr _ _ _ fun i hi => by
      rw [← HP.out]; unfold pnt; rw [if_neg (by omega), if_neg (by omega), if_pos (by omega), show 0 + i = 32 + i - 32 by omega]
    unfold Hid
    rw [e]
    exact (wn_app p 32 5).symm
  have P3 : Hid (wn p 37 ++ [.int .u32 (z : Int)] = wn p 38) := by
    have e : [.int .u32 (z : Int)] = wn (fun j => p (37 + j)) 1 := by rw [← HP.out]; rfl
    unfold Hid
    rw [e]
    exact (wn_app p 37 1).symm
  have C3 : Hid (38 ≤ maxLen) := by unfold Hid maxLen; omega
  generalize ((vw ws 78 : Nat) : Int) = x at *
  have CM : Hid (∀ k : Nat, k ≤ 38 → k ≤ maxLen) := fun k hk => Nat.le_trans hk C3.out
  rcases hz with ⟨n0, h2⟩ | ⟨n0, n1, h2⟩ | ⟨n0, h2⟩
  all_goals
    go_enter Tryd.func20, Tryd.ntmps20
    go_wp2_with (first
      | (at_builtin; refine wpList_append_own _ rfl _ _ 66 rfl (w.heap.size + 2) 26 i0 (.int .u32 0) 1 4 Tryd.underlying66 hi hz0 hz1 hz2 rfl (by decide) _ 1 [.int .u32 (pc : Int)] rfl (by exact owns_at _ _ _ _ (by simp) (by omega)) ⟨w.heap.size, 1, none⟩ 31 31 (wn (fun j => rs (1 + j)) 31) rfl (by rw [wn_len]) (by exact news_arr (D0.out.a0.frb (FrB.alloc _ _) (by simp; omega)) 1 31 (by decide)) (wn_one _ _) (CM.out _ (by decide)) (by decide) (by simp) ?_))
    intro v1 w3 hown hgrow _
    have D1 : Hid (RsAt w M b d ws f nx rs cs w3) := (D0.out.past hM.out ((FrB.alloc _ _).mono (by simp))).past hM.out (FrB.grown hgrow (by simp) (fun k hk => by have e : w.heap.size + 1 + 1 = k := Option.some.inj hk; omega))
    have O1 : Hid (w3.ownsRow (w.heap.size + 2) 26 1 v1 32 (wn p 32)) := by
      unfold Hid
      rw [← P1.out, ← P0.out]
      exact hown
    clear hown hgrow
    go_wp2_with (first
      | (at_builtin; refine wpList_append_own _ rfl _ _ 66 rfl (w.heap.size + 2) 26 i0 (.int .u32 0) 1 4 Tryd.underlying66 hi hz0 hz1 hz2 rfl (by decide) _ 32 (wn p 32) rfl (by exact O1.out) ⟨w.heap.size + 1, 0, none⟩ 5 5 (wn (fun j => cs (0 + j)) 5) rfl (by rw [wn_len]) (by exact news_arr D1.out.a1 0 5 (by decide)) (wn_one _ _) (CM.out _ (by decide)) (by decide) (by exact D1.out.sz) ?_))
    intro v2 w4 hown hgrow _
    have D2 : Hid (RsAt w M b d ws f nx rs cs w4) := D1.out.past hM.out (FrB.grown hgrow D1.out.sz (fun k hk => (O1.out.lt k hk).1))
    have O2 : Hid (w4.ownsRow (w.heap.size + 2) 26 1 v2 37 (wn p 37)) := by
      unfold Hid
      rw [← P2.out]
      exact hown
    clear hown hgrow
    go_wp2_with (first
      | (at_builtin; refine wpList_append_own _ rfl _ _ 66 rfl (w.heap.size + 2) 26 i0 (.int .u32 0) 1 4 Tryd.underlying66 hi hz0 hz1 hz2 rfl (by decide) _ 37 (wn p 37) rfl (by exact O2.out.alloc _) ⟨w4.heap.size, 0, none⟩ 1 1 [.int .u32 (z : Int)] rfl rfl (by rw [h2.out]; exact news_one _ _) (one_one _ _) (CM.out _ (by decide)) (by decide) (by have := D2.out.sz; simp; omega) ?_))
    intro v3 w5 hown hgrow _
    have D3 : Hid (RsAt w M b d ws f nx rs cs w5) := (D2.out.past hM.out ((FrB.alloc _ _).mono D2.out.sz)).past hM.out (FrB.grown hgrow (by have := D2.out.sz; simp; omega) (fun k hk => (O2.out.lt k hk).1))
    have O3 : Hid (w5.ownsRow (w.heap.size + 2) 26 1 v3 38 (wn p 38)) := by
      unfold Hid
      rw [← P3.out]
      exact hown
    clear hown hgrow
    obtain ⟨A', c, rfl, hA1, hA2⟩ := owned_slice O3.out (by decide)
    have LI := hideP (lie_owned O3.out)
    have HA1 := hideP hA1
    have HA2 := hideP hA2
    clear hA1 hA2
    have hr := D3.out.now.1.mem.hr
    have R := hideP D3.out.now.1.mem.row
    obtain ⟨s, S⟩ : ∃ s : Int, Hid (((pkS 79 ws 78 : Nat) : Int) = s) := ⟨_, rfl⟩
    go_wp2_with fail
    refine (refget_as b d 79 f ws 78 x s X S (by decide) hf _ R).mono ?_; rintro e w6 ⟨rfl, hN⟩
    have S6 : Hid (SNow M b d (ws1 ws) (f1 ws f) nx w w6) := D3.out.now.trans (D3.out.now.1.now hN)
    have LI6 := hideP (LI.out.tub (D3.out.now.1.now hN).2 HA2.out (by have := hM.out; have := HA1.out; omega) (by have := hM.out; have := HA1.out; omega) (by have := hM.out; have := HA1.out; omega))
    have HA6 : Hid (A' < w6.heap.size ∧ A' ≠ M ∧ A' ≠ b ∧ A' ≠ d) := by have := hM.out; have := HA1.out; have := HA2.out; have := hN.2.size; unfold Hid; omega
    clear hN
    go_wp2_with fail
    refine (rput_core M b d _ nx o A' 0 c _ p _ HO ho PB PM _ (hideP S6.out.1) HA6 LI6).mono ?_; rintro e w7 ⟨rfl, hN⟩
    have S7 := hideP (S6.out.trans hN)
    clear hN
    have hr7 := S7.out.1.mem.hr
    have R7 := hideP S7.out.1.mem.row
    go_wp2_with fail
    refine (refput_as b d 79 _ _ 78 (1 - (l : Int)) true (hideP (by decide +kernel)) (by omega) (by omega) (by decide) _ R7).mono ?_; rintro e w8 ⟨rfl, hN⟩
    have S8 := hideP (S7.out.trans (S7.out.1.now hN))
    clear hN
    go_wp2_with fail
    go_end0
    refine ⟨rfl, ?_⟩
    have q := S8.out
    rw [← HO.out, Int.toNat_natCast] at q
    unfold svW
    rw [HP.out, HL.out, show 1 - l = o by have := HO.out; omega]
    exact q
theorem rsave_as (M b d f nx pc : Nat) (ws rs cs : Nat → Nat) (n : Int) (hpc : Hid (pc < 4294967296)) (hrs : Hid (Wd 32 rs)) (hcs : Hid (Wd 5 cs)) (hf : (f : Int) ≤ 4611686018427387903) (w : World) (hS : Hid (SAt M b d ws f nx w)) :
    Calls Tryd.prog 20 #[.pointer (some ⟨M, 0, none⟩), .int .u32 pc, .agg (wn rs 32).toArray, .agg (wn cs 5).toArray, .int .i64 n] w fun e w' => e = .returned (.tuple #[]) ∧ SNow M b d (svW ws (pnt pc rs cs (num n))) (f1 ws f) nx w w' := by
  have l1 := lat_le ws
  refine rsave_core M b d f nx pc (lat ws) (1 - lat ws) (num n) ws rs cs n (by omega) (by unfold Hid; omega) (by omega) (hideP rfl) hpc hrs hcs (by have := num_lt n; unfold Hid; omega) ?_ hf w hS
  unfold Hid num
  omega
end Go.Proofs.YtfhijdnbhbonpaaDoor.Walks
