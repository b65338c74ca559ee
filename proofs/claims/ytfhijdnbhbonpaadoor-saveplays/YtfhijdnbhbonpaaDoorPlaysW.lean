/- The walk of SavePlays. -/
import Derived.Test.YtfhijdnbhbonpaaDoorAks
import Derived.Test.YtfhijdnbhbonpaaDoorPlay
import Derived.Test.YtfhijdnbhbonpaaDoorKnow
namespace Go.Proofs.YtfhijdnbhbonpaaDoor.Walks
open Go.ChangeShapes Go.WideShapes Go.ChangeAt Go.RowKit
set_option linter.unusedVariables false
theorem BxAt.news {A : Nat} {l : List Value} {w : World} (h : BxAt A l w) : ∀ j u, l[j]? = some u → w.cell? ((⟨A, 0, none⟩ : Addr).add j) = some u := fun j u hu => by
  rw [add_mid]; exact h.hw j u hu
set_option maxRecDepth 100000 in
set_option maxHeartbeats 2000000 in
theorem plays (A : Option Addr) (len cap : Nat) (qs : Nat → Ak) (hlen : len * 168 ≤ 140737488351232) (w : World) (hL : Hid (Laid w)) (hA : Hid (AksIn w A len qs)) :
    Calls Tryd.prog 4 #[.slice A len cap] w fun e w' => e = .returned (.bool true) ∧ FrB w.heap.size w w' := by
  obtain ⟨i0, hi, hz0, hz1, hz2⟩ := info_parts info30
  have HLEN := hideP hlen
  clear hlen
  have hlm : (len : Int) ≤ 9223372036854775807 := by have := HLEN.out; omega
  have B0 := hideP hL.out.pos
  go_enter Tryd.func4, Tryd.ntmps4
  go_wp2_with fail
  go_loopw [3, 8] (fun v i wr => ∃ (k : Nat) (xs : List Value), (k : Int) ≤ len ∧ i = .int .i64 k ∧ Hid (wr.ownsRow w.heap.size 30 40 v k xs) ∧ Hid (OkAk xs k) ∧ Hid (FrB w.heap.size w wr)) (fun _ i _ => len - (intOf i).toNat)
  case atStart => exact ⟨0, [], by omega, rfl, World.ownsRow_nil _ _ _ _, OkAk.nil, FrB.refl _ _⟩
  case round =>
    obtain ⟨k, xs, hk, rfl, HO, HK, HF⟩ := hrel
    rename_i wr
    by_cases hlt : (k : Int) < len
    · obtain ⟨b0, o0, rfl, cb, c0, IN⟩ := hA.out k (by omega)
      have RA : Hid (wr.rangeAt b0 (o0 + k * 40) (qs k).l) := fun j u hu => by rw [HF.out.cell _ _ cb]; exact c0 j u hu
      have NI := hideP IN
      clear cb c0 IN
      have Z0 := hideP (BxAt.zero40 wr 30)
      have E0 := hideP (FrB.alloc wr (.cells z40 30))
      have C3 : Hid (k + 1 ≤ maxLen) := by have := HLEN.out; unfold Hid maxLen; omega
      have C4 : Hid ((k + 1) * 168 ≤ 140737488355328) := by have := HLEN.out; unfold Hid; omega
      generalize qs k = q at *
      obtain ⟨kk, nn, pc, rs, cs⟩ := q
      go_wp2_with (first
        | (refine load_want (by rfl) 30 _ rfl b0 (o0 + k * 40) rfl (Ak.l ⟨kk, nn, pc, rs, cs⟩) _ RA.out Tryd.underlying30 rfl (by rw [Ak.len]; exact size30) ?_)
        | (refine wpList_box _ wr.heap.size zAk ⟨kk, nn, pc, rs, cs⟩ Z0.out (by rfl) _ _ rfl _ rfl rfl rfl ?_; intro W1 hB hT; have E1 := hideP (E0.out.trans (FrB.toua hT.out (Nat.le_refl _))); have B1 := hideP hB.out; have y0 : W1.cell? ⟨wr.heap.size, 0, none⟩ = some (.int .i64 kk) := hB.out.cell rfl; clear hB hT))
      refine (within_kind _ _).mono ?_; rintro e w' ⟨⟨r1, rfl, r10, r11⟩, rfl⟩
      clear y0
      have I1 : Hid (In64 r1) := ⟨by omega, by omega⟩
      by_cases h4 : 4 < r1
      · go_wp2_with (first
            | (refine wpList_cell3 _ wr.heap.size 0 ⟨kk, nn, pc, rs, cs⟩ ⟨r1, nn, pc, rs, cs⟩ B1.out (by decide) r1 rfl (by rfl) _ _ rfl rfl rfl ?_; intro W2 hB hT; have E2 := hideP (E1.out.trans (FrB.toua hT.out (Nat.le_refl _))); have B2 := hideP hB.out; have z0 : W2.cell? ⟨wr.heap.size, 0, none⟩ = some (.int .i64 r1) := hB.out.cell rfl; have z1 : W2.cell? ⟨wr.heap.size, 1, none⟩ = some (.int .i64 nn) := hB.out.cell rfl; clear hB hT))
        refine (within_bit _ _).mono ?_; rintro e w' ⟨⟨r2, rfl, r20, r21⟩, rfl⟩
        clear z0 z1
        have I2 : Hid (In64 r2) := ⟨by omega, by omega⟩
        go_wp2_with (first
            | (refine wpList_cell3 _ wr.heap.size 1 ⟨r1, nn, pc, rs, cs⟩ ⟨r1, r2, pc, rs, cs⟩ B2.out (by decide) r2 rfl (by rfl) _ _ rfl rfl rfl ?_; intro W3 hB hT; have E3 := hideP (E2.out.trans (FrB.toua hT.out (Nat.le_refl _))); have B3 := hideP hB.out; have R3 := hideP hB.out.hw; clear hB hT)
            | (refine load_want (by rfl) 30 _ rfl wr.heap.size 0 rfl (Ak.l ⟨r1, r2, pc, rs, cs⟩) _ R3.out Tryd.underlying30 rfl (by rw [Ak.len]; exact size30) ?_)
            | (refine wpList_bs _ (by rfl) _ rfl ⟨r1, r2, pc, rs, cs⟩ rfl ?_; intro W8 hB hF hs; have E8 := hideP (E3.out.trans (hF.out.mono E3.out.size)); have N8 := hideP hB.out.news; have O8 := hideP (owns_frb HO.out E8.out); have S8 : Hid (w.heap.size ≤ W8.heap.size) := (Nat.le_trans HF.out.size E8.out.size); clear hB hF hs)
            | (at_builtin; refine wpList_append_own _ rfl _ _ 23 rfl w.heap.size 30 i0 (.agg z40) 40 168 Tryd.underlying23 hi hz0 hz1 hz2 rfl (by decide) _ k xs rfl (by exact O8.out) ⟨W3.heap.size, 0, none⟩ 1 1 (Ak.l ⟨r1, r2, pc, rs, cs⟩) rfl (by rw [Ak.len]) (by exact N8.out) (Ak.one _) C3.out C4.out (by exact S8.out) ?_))
        intro v' w9 hown' hgrow _
        have O9 := hideP hown'
        have K9 := hideP (HK.out.snoc (by have := HO.out.1; omega) ⟨r1, r2, pc, rs, cs⟩ ⟨I1.out, I2.out, NI.out.pc, NI.out.rs, NI.out.cs⟩)
        have F9 := hideP ((HF.out.trans (E8.out.mono HF.out.size)).trans (FrB.grown hgrow S8.out (fun k hk => (O8.out.lt k hk).1)))
        clear hown' hgrow
        go_wp2_with fail
        exact ⟨⟨k + 1, _, by omega, by rw [Int.natCast_add]; rfl, O9, K9, F9⟩, by simp [intOf]; omega⟩
      · go_wp2_with (first
            | (refine wpList_cell3 _ wr.heap.size 0 ⟨kk, nn, pc, rs, cs⟩ ⟨r1, nn, pc, rs, cs⟩ B1.out (by decide) r1 rfl (by rfl) _ _ rfl rfl rfl ?_; intro W2 hB hT; have E2 := hideP (E1.out.trans (FrB.toua hT.out (Nat.le_refl _))); have B2 := hideP hB.out; have z0 : W2.cell? ⟨wr.heap.size, 0, none⟩ = some (.int .i64 r1) := hB.out.cell rfl; have z1 : W2.cell? ⟨wr.heap.size, 1, none⟩ = some (.int .i64 nn) := hB.out.cell rfl; have R2 := hideP hB.out.hw; clear hB hT)
            | (refine load_want (by rfl) 30 _ rfl wr.heap.size 0 rfl (Ak.l ⟨r1, nn, pc, rs, cs⟩) _ R2.out Tryd.underlying30 rfl (by rw [Ak.len]; exact size30) ?_)
            | (refine wpList_bs _ (by rfl) _ rfl ⟨r1, nn, pc, rs, cs⟩ rfl ?_; intro W8 hB hF hs; have E8 := hideP (E2.out.trans (hF.out.mono E2.out.size)); have N8 := hideP hB.out.news; have O8 := hideP (owns_frb HO.out E8.out); have S8 : Hid (w.heap.size ≤ W8.heap.size) := (Nat.le_trans HF.out.size E8.out.size); clear hB hF hs)
            | (at_builtin; refine wpList_append_own _ rfl _ _ 23 rfl w.heap.size 30 i0 (.agg z40) 40 168 Tryd.underlying23 hi hz0 hz1 hz2 rfl (by decide) _ k xs rfl (by exact O8.out) ⟨W2.heap.size, 0, none⟩ 1 1 (Ak.l ⟨r1, nn, pc, rs, cs⟩) rfl (by rw [Ak.len]) (by exact N8.out) (Ak.one _) C3.out C4.out (by exact S8.out) ?_))
        intro v' w9 hown' hgrow _
        have O9 := hideP hown'
        have K9 := hideP (HK.out.snoc (by have := HO.out.1; omega) ⟨r1, nn, pc, rs, cs⟩ ⟨I1.out, NI.out.n, NI.out.pc, NI.out.rs, NI.out.cs⟩)
        have F9 := hideP ((HF.out.trans (E8.out.mono HF.out.size)).trans (FrB.grown hgrow S8.out (fun k hk => (O8.out.lt k hk).1)))
        clear hown' hgrow
        go_wp2_with fail
        exact ⟨⟨k + 1, _, by omega, by rw [Int.natCast_add]; rfl, O9, K9, F9⟩, by simp [intOf]; omega⟩
    · have hkl : k = len := by omega
      subst hkl
      obtain ⟨A', cap', qs', rfl, HA'⟩ := own_aks HO.out HK.out
      have HA1 := hideP HA'
      have L1 := hideP (HF.out.laid hL.out B0.out)
      clear HA' HO
      go_wp2_with fail
      refine (play A' _ cap' qs' _ L1 HA1).mono ?_; rintro e w3 ⟨rfl, hF⟩
      have F3 := hideP (HF.out.trans (hF.mono HF.out.size))
      clear hF
      have L3 := hideP (F3.out.laid hL.out B0.out)
      have HA3 := hideP (hA.out.frb F3.out)
      go_wp2_with fail
      refine (play A _ cap qs _ L3 HA3).mono ?_; rintro e w4 ⟨rfl, hF⟩
      have F4 := hideP (F3.out.trans (hF.mono F3.out.size))
      clear hF
      have L4 := hideP (F4.out.laid hL.out B0.out)
      go_wp2_with fail
      refine (known _ L4).mono ?_; rintro e w6 ⟨rfl, hF⟩
      have F6 := hideP (F4.out.trans (hF.mono F4.out.size))
      clear hF
      go_wp2_with fail
      go_ret
      exact ⟨rfl, F6.out⟩
end Go.Proofs.YtfhijdnbhbonpaaDoor.Walks
