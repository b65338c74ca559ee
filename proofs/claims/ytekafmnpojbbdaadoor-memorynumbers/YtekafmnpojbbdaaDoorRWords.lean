/- Contract of the document's own Words. -/
import Derived.Test.YtekafmnpojbbdaaDoorMWords
namespace Go.Proofs.YtekafmnpojbbdaaDoor.Walks
open Go.ChangeShapes Go.WideShapes Go.ChangeAt Go.RowKit
set_option linter.unusedVariables false
theorem FrB.grown {B : Nat} {w w' : World} {row : Option Nat} (hg : w.grownBy w' row) (hB : B ≤ w.heap.size) (hr : ∀ k, row = some k → B ≤ k) : FrB B w w' :=
  ⟨hg.os, hg.output, hg.size, fun k hk => hg.block k (by omega) (fun e => by have := hr k e.symm; omega)⟩
theorem owns_alike {w w' : World} {B : Nat} {e : TypeId} {s n : Nat} {v : Value} {xs : List Value} (h : w.ownsRow B e s v n xs) (k : w'.Alike w) : w'.ownsRow B e s v n xs := by
  refine ⟨h.1, ?_⟩
  rcases h.2 with h' | ⟨g, cap, cur, a, b, c, d⟩
  · exact .inl h'
  · exact .inr ⟨g, cap, cur, a, b, by rw [k.1]; exact c, d⟩
/-- the words told so far, as values -/
def vl (ws : Nat → Nat) : Nat → List Value
  | 0 => []
  | k + 1 => vl ws k ++ [.int .u32 (vw ws k : Nat)]
theorem vl_len (ws : Nat → Nat) : ∀ k, (vl ws k).length = k
  | 0 => rfl
  | k + 1 => by simp only [vl]; rw [List.length_append, vl_len ws k]; rfl
theorem vl_at (ws : Nat → Nat) : ∀ (k i : Nat), i < k → (vl ws k)[i]? = some (.int .u32 (vw ws i : Nat))
  | 0, i, h => absurd h (Nat.not_lt_zero _)
  | k + 1, i, h => by
    simp only [vl]
    by_cases e : i = k
    · subst e
      rw [List.getElem?_append_right (by rw [vl_len]; omega), vl_len, Nat.sub_self]
      rfl
    · rw [List.getElem?_append_left (by rw [vl_len]; omega)]
      exact vl_at ws k i (by omega)
theorem news1 (w : World) (p : Value) (T : TypeId) (j : Nat) (u : Value) (hj : [p][j]? = some u) : (w.alloc (.cells #[p] T)).cell? ((⟨w.heap.size, 0, none⟩ : Addr).add j) = some u := by
  have h : ∀ i, (w.alloc (.cells #[p] T)).cell? ⟨w.heap.size, i, none⟩ = #[p][i]? := fun i => World.cell?_alloc_at _ _ _ _ rfl
  rw [add_plain, h, ← hj]
  simp
set_option maxHeartbeats 2000000 in
theorem rwords_as (M b d f nx : Nat) (ws : Nat → Nat) (g : Bool) (G : Hid (bdW ws 1024 = g)) (w : World) (hM : Hid (MemAt M b d ws f nx w)) (hB : Hid (M < w.heap.size ∧ b < w.heap.size ∧ d < w.heap.size)) :
    Calls Tryd.prog 22 #[.pointer (some ⟨M, 0, none⟩)] w fun e w' => Told ws g e w' ∧ FrB w.heap.size w w' := by
  obtain ⟨i0, hi, hz0, hz1, hz2⟩ := info_parts info23
  have hr0 := hM.out.hr
  have hs0 := hM.out.row.hs
  go_enter Tryd.func22, Tryd.ntmps22
  go_wp2_with fail
  go_loopw [16, 4] (fun t v wr => ∃ k : Nat, (k : Int) ≤ 1024 ∧ t = .int .i64 k ∧ Hid (wr.ownsRow w.heap.size 23 1 v k (vl ws k)) ∧ Hid (FrB w.heap.size w wr) ∧ Hid (∀ i, i < k → Num.mendS (ws i) ≠ 2)) (fun t _ _ => 1024 - (intOf t).toNat)
  case atStart => exact ⟨0, by decide, rfl, World.ownsRow_nil _ _ _ _, FrB.refl _ _, fun i hi => absurd hi (Nat.not_lt_zero _)⟩
  case round =>
    obtain ⟨k, hk, rfl, HO, HF, HN⟩ := hrel
    rename_i wr
    by_cases hlt : (k : Int) < 1024
    · have hr : wr.cell? ⟨M, 0, none⟩ = some (.pointer (some ⟨b, 0, none⟩)) := by rw [HF.out.cell _ _ hB.out.1]; exact hM.out.hr
      have R := hideP (hM.out.row.frb HF.out hB.out.2.1 hB.out.2.2)
      obtain ⟨x, X⟩ : ∃ x : Nat, Hid (pkV 1024 ws (k : Int) = x) := ⟨_, rfl⟩
      have XV := hideP ((pkV_in (n := 1024) ws (i := (k : Int)) (k := k) rfl (by omega)).symm.trans X.out)
      have SV := hideP (pkS_in (n := 1024) ws (i := (k : Int)) (k := k) rfl (by omega))
      have XI : Hid (((pkV 1024 ws (k : Int) : Nat) : Int) = (x : Int)) := by unfold Hid; rw [X.out]
      by_cases hs : Num.mendS (ws k) = 2
      · have S : Hid (((pkS 1024 ws (k : Int) : Nat) : Int) = 2) := by unfold Hid; rw [SV.out, hs]; rfl
        have GY : Hid (g = true) := by unfold Hid; rw [← G.out]; exact bdW_yes hs (by omega)
        clear hs
        go_wp2_with fail
        refine (refpeek_as b d 1024 f ws _ _ _ XI S (by decide) _ R.out).mono ?_; rintro e w1 ⟨rfl, hw⟩
        have F2 := hideP (HF.out.trans (FrB.alike hw))
        clear hw
        go_wp2_with fail
        go_ret2
        exact ⟨by unfold Told; rw [GY.out, if_pos rfl]; rfl, F2.out⟩
      · obtain ⟨s, S⟩ : ∃ s : Int, Hid (((pkS 1024 ws (k : Int) : Nat) : Int) = s) := ⟨_, rfl⟩
        have s2 : (s == 2) = false := by rw [← S.out, SV.out, beq_eq_false_iff_ne]; omega
        have HS2 := hideP hs
        clear hs
        go_wp2_with fail
        refine (refpeek_as b d 1024 f ws _ _ _ XI S (by decide) _ R.out).mono ?_; rintro e w1 ⟨rfl, hw⟩
        have O2 := hideP (owns_alike HO.out hw)
        have F2 := hideP (HF.out.trans (FrB.alike hw))
        clear hw
        have C1 := fun T => hideP (news1 w1 (.int .u32 (x : Int)) T)
        have C2 : Hid (∀ u ∈ [Value.int .u32 (x : Int)], u.oneCell' = true) := by
          intro u hu
          simp only [List.mem_cons, List.not_mem_nil, or_false] at hu
          rcases hu with rfl
          rfl
        have C3 : Hid (k + 1 ≤ maxLen) := by unfold Hid maxLen; omega
        have C4 : Hid ((k + 1) * 4 ≤ 140737488355328) := by unfold Hid; omega
        have C5 : Hid (∀ o : Obj, w.heap.size ≤ (w1.alloc o).heap.size) := fun o => by have := F2.out.size; simp; omega
        have HC1 := hideP C1
        clear C1
        go_wp2_with (first
          | (at_builtin; refine wpList_append_own _ rfl _ _ 26 rfl w.heap.size 23 i0 (.int .u32 0) 1 4 Tryd.underlying26 hi hz0 hz1 hz2 rfl (by decide) _ _ _ rfl (by exact O2.out.alloc _) ⟨w1.heap.size, 0, none⟩ 1 1 [.int .u32 (x : Int)] rfl rfl (by exact (HC1.out _).out) C2.out C3.out C4.out (by exact C5.out _) ?_))
        intro v' w2 hown hgrow _
        have O3 : Hid (w2.ownsRow w.heap.size 23 1 v' (k + 1) (vl ws (k + 1))) := by
          have e : vl ws (k + 1) = vl ws k ++ [.int .u32 (x : Int)] := by simp only [vl]; rw [show vw ws k = x from XV.out]
          unfold Hid
          rw [e]
          exact hown
        have F3 := hideP ((F2.out.trans ((FrB.alloc w1 _).mono F2.out.size)).trans (FrB.grown hgrow (C5.out _) (fun k hk => (O2.out.lt k hk).1)))
        clear hown hgrow HC1 C2 C3 C4 C5
        go_wp2_with fail
        refine ⟨⟨k + 1, by omega, by rw [Int.natCast_add]; rfl, O3, F3, fun i hi => ?_⟩, by simp [intOf]; omega⟩
        by_cases e : i = k
        · subst e; exact HS2.out
        · exact HN.out i (by omega)
    · have hk1 : k = 1024 := by omega
      have GN : Hid (g = false) := by unfold Hid; rw [← G.out]; exact bdW_no (fun i hi => HN.out i (by omega))
      subst hk1
      obtain ⟨e, e2⟩ | ⟨A, cap, cur, rfl, h2⟩ := HO.out.2
      · exact absurd e2 (by decide)
      · have HV : Hid (∀ i, i < 1024 → wr.cell? ⟨A, i, none⟩ = some (.int .u32 (vw ws i : Nat))) := fun i hi => by
          have := HO.out.cells (g := A) rfl i _ (vl_at ws 1024 i hi)
          rwa [add_plain, Nat.zero_add] at this
        have HA := hideP (HO.out.lt A rfl).2
        clear h2
        go_wp2_with fail
        go_ret2
        refine ⟨?_, HF.out⟩
        unfold Told
        rw [GN.out, if_neg (by decide)]
        exact ⟨_, _, rfl, HA.out, HV.out⟩
end Go.Proofs.YtekafmnpojbbdaaDoor.Walks
