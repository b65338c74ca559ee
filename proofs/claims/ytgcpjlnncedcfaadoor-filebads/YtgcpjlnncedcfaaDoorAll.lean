/- Contract of All. -/
import Derived.Test.YtgcpjlnncedcfaaDoorFil
namespace Go.Proofs.YtgcpjlnncedcfaaDoor.Walks
open Go.ChangeShapes Go.WideShapes Go.ChangeAt Go.RowKit
set_option linter.unusedVariables false
abbrev z32 : Array Value := #[.int .u32 0, .int .u32 0, .int .u32 0, .int .u32 0, .int .u32 0, .int .u32 0, .int .u32 0, .int .u32 0, .int .u32 0, .int .u32 0, .int .u32 0, .int .u32 0, .int .u32 0, .int .u32 0, .int .u32 0, .int .u32 0, .int .u32 0, .int .u32 0, .int .u32 0, .int .u32 0, .int .u32 0, .int .u32 0, .int .u32 0, .int .u32 0, .int .u32 0, .int .u32 0, .int .u32 0, .int .u32 0, .int .u32 0, .int .u32 0, .int .u32 0, .int .u32 0]
theorem z32_eq : z32 = (wn w0 32).toArray := by rfl
theorem ArrAt.zero (w : World) (T : TypeId) : ArrAt w.heap.size 32 w0 (w.alloc (.cells z32 T)) := by rw [z32_eq]; exact ArrAt.new w w0 32 T
/-- while All goes on: its result's box, its own array, nothing else has turned -/
structure AllAt (w : World) (ws : Nat → Nat) (k : Nat) (wr : World) : Prop where
  a1 : ArrAt w.heap.size 32 w0 wr
  a2 : ArrAt (w.heap.size + 1) 32 (arK ws k) wr
  fr : FrB w.heap.size w wr
  sz : wr.heap.size = w.heap.size + 2
theorem AllAt.start (w : World) (ws : Nat → Nat) : AllAt w ws 0 ((w.alloc (.cells z32 33)).alloc (.cells z32 33)) := by
  have s : (w.alloc (.cells z32 33)).heap.size = w.heap.size + 1 := by simp
  have a := ArrAt.zero (w.alloc (.cells z32 33)) 33
  rw [s] at a
  exact ⟨(ArrAt.zero w 33).frb (FrB.alloc _ _) (by omega), a.congr (fun i _ => arK_0 ws i), (FrB.alloc w _).trans ((FrB.alloc _ _).mono (by omega)), by simp⟩
theorem AllAt.alike {w : World} {ws : Nat → Nat} {k : Nat} {wr w' : World} (h : AllAt w ws k wr) (e : w'.Alike wr) : AllAt w ws k w' :=
  ⟨h.a1.alike e, h.a2.alike e, h.fr.trans (FrB.alike e), by rw [e.1]; exact h.sz⟩
theorem AllAt.step {w : World} {ws : Nat → Nat} {k x : Nat} {wr : World} (h : AllAt w ws k wr) (hk : k + 1 < 32) (hx : vw ws k = x) : AllAt w ws (k + 1) (wr.setCell ⟨w.heap.size + 1, k + 1, none⟩ (.int .u32 (x : Int))) := by
  have t := TouA.set (w.heap.size + 1) (k + 1) wr (.int .u32 (x : Int))
  exact ⟨h.a1.of_block (t.block _ (by omega)), (h.a2.put (k + 1) x hk).congr (fun i _ => arK_next ws k x hx i), h.fr.trans (FrB.toua t (by omega)), by rw [t.size]; exact h.sz⟩
/-- the box's array, as it is told -/
theorem ArrAt.told {A : Nat} {f : Nat → Nat} {w : World} (h : ArrAt A 32 f w) : (loadVar 33 ⟨A, 0, none⟩).run Tryd.prog w = .ok (.agg (wn f 32).toArray) w :=
  run_loadVar_mid w A 0 33 (wn f 32) _ h.range Tryd.underlying33 rfl (by rw [wn_len]; exact size33)
set_option maxRecDepth 100000 in
set_option maxHeartbeats 1000000 in
theorem fall_as (M b d f nx : Nat) (ws : Nat → Nat) (g : Bool) (G : Hid (bdW ws 31 = !g)) (w : World) (hL : Hid (Laid w)) (hM : Hid (MemAt M b d ws f nx w)) (hB : Hid (0 < w.heap.size ∧ M < w.heap.size ∧ b < w.heap.size ∧ d < w.heap.size)) :
    Calls Tryd.prog 13 #[.pointer (some ⟨M, 0, none⟩)] w fun e w' => e = .returned (.tuple #[.agg (wn (arF ws) 32).toArray, .bool g]) ∧ FrB w.heap.size w w' := by
  have H1 := hideP (AllAt.start w ws)
  go_enter Tryd.func13, Tryd.ntmps13
  go_wp2_with fail
  generalize ((w.alloc (.cells z32 33)).alloc (.cells z32 33)) = w1 at *
  go_loopw [5] (fun t wr => ∃ i k : Nat, (i : Int) ≤ 32 ∧ Hid (k + 1 = i) ∧ t = .int .i64 i ∧ Hid (AllAt w ws k wr) ∧ Hid (∀ i, i < k → Num.mendS (ws i) ≠ 2)) (fun t _ => 32 - (intOf t).toNat)
  case atStart => exact ⟨1, 0, by decide, rfl, rfl, H1, fun i hi => absurd hi (Nat.not_lt_zero _)⟩
  case round =>
    obtain ⟨i, k, hi, K, rfl, HA, HN⟩ := hrel
    rename_i wr
    clear H1
    by_cases hlt : (i : Int) ≤ 31
    · have hr : wr.cell? ⟨M, 0, none⟩ = some (.pointer (some ⟨b, 0, none⟩)) := by rw [HA.out.fr.cell _ _ hB.out.2.1]; exact hM.out.hr
      have R := hideP (hM.out.row.frb HA.out.fr hB.out.2.2.1 hB.out.2.2.2)
      have L := hideP (HA.out.fr.laid hL.out hB.out.1)
      have KL : Hid (k < 31) := by have := K.out; unfold Hid; omega
      obtain ⟨x, X⟩ : ∃ x : Nat, Hid (pkV 31 ws (k : Int) = x) := ⟨_, rfl⟩
      have XV := hideP ((pkV_in (n := 31) ws (i := (k : Int)) (k := k) rfl KL.out).symm.trans X.out)
      have SV := hideP (pkS_in (n := 31) ws (i := (k : Int)) (k := k) rfl KL.out)
      have XI : Hid (((pkV 31 ws (k : Int) : Nat) : Int) = (x : Int)) := by unfold Hid; rw [X.out]
      have ks : (i : Int) - 1 = k := by have := K.out; omega
      by_cases hs : Num.mendS (ws k) = 2
      · have S : Hid (((pkS 31 ws (k : Int) : Nat) : Int) = 2) := by unfold Hid; rw [SV.out, hs]; rfl
        have GY := hideP (bdW_yes hs (n := 31) KL.out)
        have GF : Hid (g = false) := by
          unfold Hid
          have := G.out
          rw [GY.out] at this
          cases g
          · rfl
          · exact absurd this (by decide)
        clear hs
        go_wp2_with fail
        refine (peek_as b d 31 f ws _ _ _ XI S (by decide) _ L R.out).mono ?_; rintro e w2 ⟨rfl, hw⟩
        have A2 := hideP (HA.out.alike hw)
        clear hw
        go_wp2_with (first
          | (refine wpList_arr _ w.heap.size w0 A2.out.a1 (by rfl) _ _ rfl w0 _ z32_eq rfl rfl ?_; intro W' hA hT; have FW : Hid (FrB w.heap.size w W') := A2.out.fr.trans (FrB.toua hT.out (Nat.le_refl _)); have HL := hA.out.told; clear hA hT))
        refine bodyPost_ret (v := .tuple #[.agg (wn w0 32).toArray, .bool false]) (by simp [results, Tryd.results13, asAddr, HL]) rfl ⟨?_, FW.out⟩
        rw [arF_bad GY.out, GF.out]
        rfl
      · obtain ⟨s, S⟩ : ∃ s : Int, Hid (((pkS 31 ws (k : Int) : Nat) : Int) = s) := ⟨_, rfl⟩
        have s2 : (s == 2) = false := by rw [← S.out, SV.out, beq_eq_false_iff_ne]; omega
        have HS2 := hideP hs
        clear hs
        go_wp2_with fail
        refine (peek_as b d 31 f ws _ _ _ XI S (by decide) _ L R.out).mono ?_; rintro e w2 ⟨rfl, hw⟩
        have A2 := hideP (HA.out.alike hw)
        have hk0 := A2.out.a2.hw i (by omega)
        have zk0 := A2.out.a2.zw i (by omega)
        clear hw
        go_wp2_with fail
        refine ⟨⟨i + 1, k + 1, by omega, (by have := K.out; unfold Hid; omega), by rw [Int.natCast_add]; rfl, (by have := A2.out.step (by have := KL.out; omega) XV.out; rw [K.out] at this; rw [K.out]; exact this), ?_⟩, by simp [intOf]; omega⟩
        intro j hj
        by_cases e : j = k
        · subst e; exact HS2.out
        · exact HN.out j (by omega)
    · have hk1 : k = 31 := by have := K.out; omega
      subst hk1
      have GB := hideP (bdW_no (ws := ws) (n := 31) (fun i hi => HN.out i hi))
      have GN : Hid (g = true) := by
        unfold Hid
        have := G.out
        rw [GB.out] at this
        cases g
        · exact absurd this (by decide)
        · rfl
      have R2 := hideP HA.out.a2.range
      go_wp2_with (first
        | (refine load_want (by rfl) 33 _ rfl (w.heap.size + 1) 0 rfl (wn (arK ws 31) 32) _ R2.out Tryd.underlying33 rfl (by rw [wn_len]; exact size33) ?_)
        | (refine wpList_arr _ w.heap.size w0 HA.out.a1 (by rfl) _ _ rfl (arK ws 31) _ rfl rfl rfl ?_; intro W' hA hT; have FW : Hid (FrB w.heap.size w W') := HA.out.fr.trans (FrB.toua hT.out (Nat.le_refl _)); have HL := hA.out.told; clear hA hT))
      refine bodyPost_ret (v := .tuple #[.agg (wn (arK ws 31) 32).toArray, .bool true]) (by simp [results, Tryd.results13, asAddr, HL]) rfl ⟨?_, FW.out⟩
      rw [arF_good GB.out, GN.out]
end Go.Proofs.YtgcpjlnncedcfaaDoor.Walks
