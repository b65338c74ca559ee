/- Contract of the law's own asks. -/
import Derived.Test.YtfhijdnbhbonpaaDoorAks
import Derived.Test.YtfhijdnbhbonpaaDoorKnow
namespace Go.Proofs.YtfhijdnbhbonpaaDoor.Walks
open Go.ChangeShapes Go.WideShapes Go.ChangeAt Go.RowKit
set_option linter.unusedVariables false
theorem BxAt.newsK {A : Nat} {l : List Value} {w : World} (h : BxAt A l w) : ∀ j u, l[j]? = some u → w.cell? ((⟨A, 0, none⟩ : Addr).add j) = some u := fun j u hu => by
  rw [add_mid]; exact h.hw j u hu
theorem upd_wd {n i v : Nat} {f : Nat → Nat} (h : Wd n f) (hv : v < 4294967296) : Wd n (upd f i v) := fun j hj => by
  by_cases e : j = i
  · subst e; rw [upd_at]; exact hv
  · rw [upd_off _ _ _ _ e]; exact h j hj
def AskTold (w : World) (e : Ending) (w' : World) : Prop := (∃ A cap qs, e = .returned (.slice A 50 cap) ∧ AksIn w' A 50 qs) ∧ FrB w.heap.size w w'
set_option maxRecDepth 100000 in
set_option maxHeartbeats 2000000 in
theorem asks_as (p : Nat) (hp : (p : Int) < 40) (w : World) : Calls Tryd.prog 8 #[.int .i64 p] w fun e w' => AskTold w e w' := by
  obtain ⟨i0, hi, hz0, hz1, hz2⟩ := info_parts info30
  go_enter Tryd.func8, Tryd.ntmps8
  go_wp2_with fail
  go_loopw [3, 4] (fun v i wr => ∃ (k : Nat) (xs : List Value), (k : Int) ≤ 50 ∧ i = .int .i64 k ∧ Hid (wr.ownsRow w.heap.size 30 40 v k xs) ∧ Hid (OkAk xs k) ∧ Hid (FrB w.heap.size w wr)) (fun _ i _ => 50 - (intOf i).toNat)
  case atStart => exact ⟨0, [], by decide, rfl, World.ownsRow_nil _ _ _ _, OkAk.nil, FrB.refl _ _⟩
  case round =>
    obtain ⟨k, xs, hk, rfl, HO, HK, HF⟩ := hrel
    rename_i wr
    by_cases hlt : (k : Int) < 50
    · obtain ⟨sq, hsq, s0, s1⟩ : ∃ sq : Int, (k : Int) * (k : Int) = sq ∧ 0 ≤ sq ∧ sq ≤ 2500 := by
        refine ⟨_, rfl, Int.mul_nonneg (by omega) (by omega), ?_⟩
        have : (k : Int) * (k : Int) ≤ 50 * 50 := Int.mul_le_mul (by omega) (by omega) (by omega) (by omega)
        omega
      obtain ⟨pr, hpr, p0, p1⟩ : ∃ pr : Nat, (p : Int) * (k : Int) = pr ∧ (0:Int) ≤ pr ∧ (pr : Int) ≤ 2000 := by
        refine ⟨p * k, (Int.natCast_mul p k).symm, by omega, ?_⟩
        have : (p : Int) * (k : Int) ≤ 40 * 50 := Int.mul_le_mul (by omega) (by omega) (by omega) (by omega)
        rw [Int.natCast_mul]
        omega
      have hrp : (k : Int) * (p : Int) = pr := by rw [Int.mul_comm]; exact hpr
      obtain ⟨pq, hpq, q1⟩ : ∃ pq : Nat, (k : Int) * 4 = pq ∧ (pq : Int) < 200 := ⟨k * 4, by omega, by omega⟩
      obtain ⟨kd, KD, kd0, kd1⟩ : ∃ kd : Int, (sq + (pr : Int)) % 7 = kd ∧ 0 ≤ kd ∧ kd < 7 := ⟨_, rfl, by omega, by omega⟩
      have Z0 := hideP (BxAt.zero40 wr 30)
      have E0 := hideP (FrB.alloc wr (.cells z40 30))
      have C3 : Hid (k + 1 ≤ maxLen) := by unfold Hid maxLen; omega
      have C4 : Hid ((k + 1) * 168 ≤ 140737488355328) := by unfold Hid; omega
      have IR : Hid (Wd 32 (upd (upd w0 (k % 32) pr) 0 5)) := upd_wd (upd_wd (w0_wd _) (by omega)) (by decide)
      have IC : Hid (Wd 5 (upd w0 (k % 5) k)) := upd_wd (w0_wd _) (by omega)
      by_cases h4 : 4 < kd
      · obtain ⟨nv, NV, nv0, nv1⟩ : ∃ nv : Int, (sq * 31 + (p : Int) * 97) % 3085 = nv ∧ 0 ≤ nv ∧ nv < 3085 := ⟨_, rfl, by omega, by omega⟩
        go_wp2_with (first
          | (refine wpList_box _ wr.heap.size zAk ⟨kd, (pr : Int), pq, w0, w0⟩ Z0.out (by rfl) _ _ rfl _ (by rfl) rfl rfl ?_; intro W1 hB hT; have E1 := hideP (E0.out.trans (FrB.toua hT.out (Nat.le_refl _))); have B1 := hideP hB.out; clear hB hT)
          | (refine wpList_cell26 _ wr.heap.size (3 + k % 32) ⟨kd, (pr : Int), pq, w0, w0⟩ ⟨kd, (pr : Int), pq, upd w0 (k % 32) pr, w0⟩ B1.out (by omega) pr (Ak.setR _ (k % 32) pr (by omega)) (by rfl) _ _ rfl rfl _ rfl rfl ?_; intro W2 hB hT; have E2 := hideP (E1.out.trans (FrB.toua hT.out (Nat.le_refl _))); have B2 := hideP hB.out; clear hB hT)
          | (refine wpList_cell26 _ wr.heap.size (35 + k % 5) ⟨kd, (pr : Int), pq, upd w0 (k % 32) pr, w0⟩ ⟨kd, (pr : Int), pq, upd w0 (k % 32) pr, upd w0 (k % 5) k⟩ B2.out (by omega) k (Ak.setC _ (k % 5) k (by omega)) (by rfl) _ _ rfl rfl _ rfl rfl ?_; intro W3 hB hT; have E3 := hideP (E2.out.trans (FrB.toua hT.out (Nat.le_refl _))); have B3 := hideP hB.out; clear hB hT)
          | (refine wpList_cell26 _ wr.heap.size 3 ⟨kd, (pr : Int), pq, upd w0 (k % 32) pr, upd w0 (k % 5) k⟩ ⟨kd, (pr : Int), pq, upd (upd w0 (k % 32) pr) 0 5, upd w0 (k % 5) k⟩ B3.out (by omega) 5 (Ak.setR _ 0 5 (by decide)) (by rfl) _ _ rfl rfl _ rfl rfl ?_; intro W4 hB hT; have E4 := hideP (E3.out.trans (FrB.toua hT.out (Nat.le_refl _))); have B4 := hideP hB.out; have y0 : W4.cell? ⟨wr.heap.size, 0, none⟩ = some (.int .i64 kd) := hB.out.cell rfl; have R4 := hideP hB.out.hw; clear hB hT)
          | (refine wpList_cell3 _ wr.heap.size 1 ⟨kd, (pr : Int), pq, upd (upd w0 (k % 32) pr) 0 5, upd w0 (k % 5) k⟩ ⟨kd, nv, pq, upd (upd w0 (k % 32) pr) 0 5, upd w0 (k % 5) k⟩ B4.out (by decide) nv rfl (by rfl) _ _ rfl rfl (congrArg (Value.int .i64) NV) ?_; intro W5 hB hT; have E5 := hideP (E4.out.trans (FrB.toua hT.out (Nat.le_refl _))); have B5 := hideP hB.out; have R5 := hideP hB.out.hw; clear hB hT)
          | (refine load_want (by rfl) 30 _ rfl wr.heap.size 0 rfl (Ak.l ⟨kd, nv, pq, upd (upd w0 (k % 32) pr) 0 5, upd w0 (k % 5) k⟩) _ R5.out Tryd.underlying30 rfl (by rw [Ak.len]; exact size30) ?_)
          | (refine wpList_bs _ (by rfl) _ rfl ⟨kd, nv, pq, upd (upd w0 (k % 32) pr) 0 5, upd w0 (k % 5) k⟩ rfl ?_; intro W8 hB hF hs; have E8 := hideP (E5.out.trans (hF.out.mono E5.out.size)); have N8 := hideP hB.out.newsK; have O8 := hideP (owns_frb HO.out E8.out); have S8 : Hid (w.heap.size ≤ W8.heap.size) := (Nat.le_trans HF.out.size E8.out.size); clear hB hF hs)
          | (at_builtin; refine wpList_append_own _ rfl _ _ 23 rfl w.heap.size 30 i0 (.agg z40) 40 168 Tryd.underlying23 hi hz0 hz1 hz2 rfl (by decide) _ k xs rfl (by exact O8.out) ⟨W5.heap.size, 0, none⟩ 1 1 (Ak.l ⟨kd, nv, pq, upd (upd w0 (k % 32) pr) 0 5, upd w0 (k % 5) k⟩) rfl (by rw [Ak.len]) (by exact N8.out) (Ak.one _) C3.out C4.out (by exact S8.out) ?_))
        intro v' w9 hown' hgrow _
        have O9 := hideP hown'
        have K9 := hideP (HK.out.snoc (by have := HO.out.1; omega) ⟨kd, nv, pq, upd (upd w0 (k % 32) pr) 0 5, upd w0 (k % 5) k⟩ ⟨⟨by show (-9223372036854775808 : Int) ≤ kd; omega, by show kd ≤ (9223372036854775807 : Int); omega⟩, ⟨by show (-9223372036854775808 : Int) ≤ nv; omega, by show nv ≤ (9223372036854775807 : Int); omega⟩, (by show pq < 4294967296; omega), IR.out, IC.out⟩)
        have F9 := hideP ((HF.out.trans (E8.out.mono HF.out.size)).trans (FrB.grown hgrow S8.out (fun k hk => (O8.out.lt k hk).1)))
        clear hown' hgrow
        go_wp2_with fail
        exact ⟨⟨k + 1, _, by omega, by rw [Int.natCast_add]; rfl, O9, K9, F9⟩, by simp [intOf]; omega⟩
      · go_wp2_with (first
          | (refine wpList_box _ wr.heap.size zAk ⟨kd, (pr : Int), pq, w0, w0⟩ Z0.out (by rfl) _ _ rfl _ (by rfl) rfl rfl ?_; intro W1 hB hT; have E1 := hideP (E0.out.trans (FrB.toua hT.out (Nat.le_refl _))); have B1 := hideP hB.out; clear hB hT)
          | (refine wpList_cell26 _ wr.heap.size (3 + k % 32) ⟨kd, (pr : Int), pq, w0, w0⟩ ⟨kd, (pr : Int), pq, upd w0 (k % 32) pr, w0⟩ B1.out (by omega) pr (Ak.setR _ (k % 32) pr (by omega)) (by rfl) _ _ rfl rfl _ rfl rfl ?_; intro W2 hB hT; have E2 := hideP (E1.out.trans (FrB.toua hT.out (Nat.le_refl _))); have B2 := hideP hB.out; clear hB hT)
          | (refine wpList_cell26 _ wr.heap.size (35 + k % 5) ⟨kd, (pr : Int), pq, upd w0 (k % 32) pr, w0⟩ ⟨kd, (pr : Int), pq, upd w0 (k % 32) pr, upd w0 (k % 5) k⟩ B2.out (by omega) k (Ak.setC _ (k % 5) k (by omega)) (by rfl) _ _ rfl rfl _ rfl rfl ?_; intro W3 hB hT; have E3 := hideP (E2.out.trans (FrB.toua hT.out (Nat.le_refl _))); have B3 := hideP hB.out; clear hB hT)
          | (refine wpList_cell26 _ wr.heap.size 3 ⟨kd, (pr : Int), pq, upd w0 (k % 32) pr, upd w0 (k % 5) k⟩ ⟨kd, (pr : Int), pq, upd (upd w0 (k % 32) pr) 0 5, upd w0 (k % 5) k⟩ B3.out (by omega) 5 (Ak.setR _ 0 5 (by decide)) (by rfl) _ _ rfl rfl _ rfl rfl ?_; intro W4 hB hT; have E4 := hideP (E3.out.trans (FrB.toua hT.out (Nat.le_refl _))); have B4 := hideP hB.out; have y0 : W4.cell? ⟨wr.heap.size, 0, none⟩ = some (.int .i64 kd) := hB.out.cell rfl; have R4 := hideP hB.out.hw; clear hB hT)
          | (refine load_want (by rfl) 30 _ rfl wr.heap.size 0 rfl (Ak.l ⟨kd, (pr : Int), pq, upd (upd w0 (k % 32) pr) 0 5, upd w0 (k % 5) k⟩) _ R4.out Tryd.underlying30 rfl (by rw [Ak.len]; exact size30) ?_)
          | (refine wpList_bs _ (by rfl) _ rfl ⟨kd, (pr : Int), pq, upd (upd w0 (k % 32) pr) 0 5, upd w0 (k % 5) k⟩ rfl ?_; intro W8 hB hF hs; have E8 := hideP (E4.out.trans (hF.out.mono E4.out.size)); have N8 := hideP hB.out.newsK; have O8 := hideP (owns_frb HO.out E8.out); have S8 : Hid (w.heap.size ≤ W8.heap.size) := (Nat.le_trans HF.out.size E8.out.size); clear hB hF hs)
          | (at_builtin; refine wpList_append_own _ rfl _ _ 23 rfl w.heap.size 30 i0 (.agg z40) 40 168 Tryd.underlying23 hi hz0 hz1 hz2 rfl (by decide) _ k xs rfl (by exact O8.out) ⟨W4.heap.size, 0, none⟩ 1 1 (Ak.l ⟨kd, (pr : Int), pq, upd (upd w0 (k % 32) pr) 0 5, upd w0 (k % 5) k⟩) rfl (by rw [Ak.len]) (by exact N8.out) (Ak.one _) C3.out C4.out (by exact S8.out) ?_))
        intro v' w9 hown' hgrow _
        have O9 := hideP hown'
        have K9 := hideP (HK.out.snoc (by have := HO.out.1; omega) ⟨kd, (pr : Int), pq, upd (upd w0 (k % 32) pr) 0 5, upd w0 (k % 5) k⟩ ⟨⟨by show (-9223372036854775808 : Int) ≤ kd; omega, by show kd ≤ (9223372036854775807 : Int); omega⟩, ⟨by show (-9223372036854775808 : Int) ≤ (pr : Int); omega, by show (pr : Int) ≤ (9223372036854775807 : Int); omega⟩, (by show pq < 4294967296; omega), IR.out, IC.out⟩)
        have F9 := hideP ((HF.out.trans (E8.out.mono HF.out.size)).trans (FrB.grown hgrow S8.out (fun k hk => (O8.out.lt k hk).1)))
        clear hown' hgrow
        go_wp2_with fail
        exact ⟨⟨k + 1, _, by omega, by rw [Int.natCast_add]; rfl, O9, K9, F9⟩, by simp [intOf]; omega⟩
    · have hkl : k = 50 := by omega
      subst hkl
      obtain ⟨A', cap', qs', rfl, HA'⟩ := own_aks HO.out HK.out
      have HA1 := hideP HA'
      clear HA' HO
      go_wp2_with fail
      go_ret
      exact ⟨⟨A', cap', qs', rfl, HA1.out⟩, HF.out⟩
end Go.Proofs.YtfhijdnbhbonpaaDoor.Walks
