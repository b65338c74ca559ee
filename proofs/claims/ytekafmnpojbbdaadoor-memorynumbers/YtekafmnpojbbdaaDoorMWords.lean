/- Contracts of Words, the program's and the document's. -/
import Derived.Test.YtekafmnpojbbdaaDoorMNums
import Derived.Test.YtekafmnpojbbdaaDoorRowNum
import Derived.OwnWalk
namespace Go.Proofs.YtekafmnpojbbdaaDoor.Walks
open Go.ChangeShapes Go.WideShapes Go.ChangeAt Go.RowKit
set_option linter.unusedVariables false
/-- n words zs lie at A -/
structure ArrAt (A n : Nat) (zs : Nat → Nat) (w : World) : Prop where
  hw : ∀ i, i < n → w.cell? ⟨A, i, none⟩ = some (.int .u32 (zs i))
  zw : ∀ i, i < n → w.frozen? ⟨A, i, none⟩ = false
theorem ArrAt.put {A n : Nat} {zs : Nat → Nat} {w : World} (h : ArrAt A n zs w) (i v : Nat) (hi : i < n) : ArrAt A n (upd zs i v) (w.setCell ⟨A, i, none⟩ (.int .u32 (v : Int))) := by
  refine ⟨fun k hk => ?_, fun k hk => by simpa using h.zw k hk⟩
  by_cases e : k = i
  · subst e; rw [set_same (h.hw k hk), upd_at]
  · rw [set_other (fun x => e (by injection x with _ x; exact x.symm)), upd_off _ _ _ _ e]; exact h.hw k hk
theorem ArrAt.alike {A n : Nat} {zs : Nat → Nat} {w w' : World} (h : ArrAt A n zs w) (k : w'.Alike w) : ArrAt A n zs w' :=
  ⟨fun i hi => by rw [World.cell?_of_block (w := w) (by rw [k.1])]; exact h.hw i hi, fun i hi => by rw [World.frozen?_of_block (w := w) (by rw [k.1])]; exact h.zw i hi⟩
theorem ArrAt.congr {A n : Nat} {zs ys : Nat → Nat} {w : World} (h : ArrAt A n zs w) (e : ∀ i, i < n → zs i = ys i) : ArrAt A n ys w := ⟨fun i hi => by rw [← e i hi]; exact h.hw i hi, h.zw⟩
theorem FrB.set (B A o : Nat) (w : World) (v : Value) (h : B ≤ A) : FrB B w (w.setCell ⟨A, o, none⟩ v) := ⟨rfl, rfl, by simp [World.setCell], fun k hk => Below.heap_setCell _ _ _ _ (by show k ≠ A; omega)⟩
theorem info23 : (Tryd.prog.info? 23).map (fun i => (i.zero, i.size, i.bytes)) = some (some (.int .u32 0), 1, 4) := by kernel_rfl
theorem made23 (n k : Nat) (h : k < n) : (madeCells #[Value.int .u32 0] n)[k]? = some (.int .u32 0) := by simp [madeCells, h, Nat.mod_one]
theorem make23 (n : Nat) (hn : (n : Int) ≤ 2048) (w : World) :
    (Instr.makeSlice 26 (.int .i64 n) (.int .i64 n)).run Tryd.prog w = .ok (.slice (some ⟨w.heap.size, 0, none⟩) n n) (w.alloc (.cells (madeCells #[.int .u32 0] n) 23)) :=
  run_make_row' (P := Tryd.prog) 26 23 (.int .u32 0) 4 Tryd.underlying26 info23 rfl .i64 .i64 n (by omega) (by omega) w
theorem ArrAt.made (w : World) (n : Nat) (c : Array Value) (hc : ∀ k, k < n → c[k]? = some (.int .u32 0)) : ArrAt w.heap.size n (fun _ => 0) (w.alloc (.cells c 23)) :=
  ⟨fun i hi => by rw [World.cell?_alloc_at _ _ _ _ rfl, hc i hi]; rfl, fun i hi => by rw [World.frozen?_alloc_at _ _ _ _ rfl]⟩
/-- what Words tells of word i -/
def vw (ws : Nat → Nat) (i : Nat) : Nat := Num.mendW (ws i) % 4294967296
def vwK (ws : Nat → Nat) (k i : Nat) : Nat := if i < k then vw ws i else 0
theorem vwK_next (ws : Nat → Nat) (k x : Nat) (hx : x = vw ws k) (i : Nat) : upd (vwK ws k) k x i = vwK ws (k + 1) i := by
  by_cases e : i = k
  · subst e; rw [upd_at, hx]; unfold vwK; rw [if_pos (by omega)]
  · rw [upd_off _ _ _ _ e]; unfold vwK
    by_cases h : i < k
    · rw [if_pos h, if_pos (by omega)]
    · rw [if_neg h, if_neg (by omega)]
/-- what Words tells: all, or none and ErrBad -/
def Told (ws : Nat → Nat) (g : Bool) (e : Ending) (w' : World) : Prop :=
  if g = true then e = .returned (.tuple #[.slice none 0 0, .int .i64 25])
  else ∃ A cap, e = .returned (.tuple #[.slice (some ⟨A, 0, none⟩) 1024 cap, .int .i64 0]) ∧ A < w'.heap.size ∧ ∀ i, i < 1024 → w'.cell? ⟨A, i, none⟩ = some (.int .u32 (vw ws i : Nat))
set_option maxHeartbeats 2000000 in
theorem mwords_as (M b d f nx : Nat) (ws : Nat → Nat) (g : Bool) (G : Hid (bdW ws 1024 = g)) (w : World) (hL : Hid (Laid w)) (hM : Hid (MemAt M b d ws f nx w)) (hB : Hid (0 < w.heap.size ∧ M < w.heap.size ∧ b < w.heap.size ∧ d < w.heap.size)) :
    Calls Tryd.prog 12 #[.pointer (some ⟨M, 0, none⟩)] w fun e w' => Told ws g e w' ∧ FrB w.heap.size w w' := by
  obtain ⟨c, hc0, hcs⟩ : ∃ c, madeCells #[Value.int .u32 0] 1024 = c ∧ ∀ k, k < 1024 → c[k]? = some (.int .u32 0) := ⟨_, rfl, made23 1024⟩
  have H1 : Hid (ArrAt w.heap.size 1024 (vwK ws 0) (w.alloc (.cells c 23))) := (ArrAt.made w 1024 c hcs).congr (fun i _ => by unfold vwK; rw [if_neg (by omega)])
  have F1 : Hid (FrB w.heap.size w (w.alloc (.cells c 23))) := FrB.alloc w _
  have hmk : ∀ w : World, (Instr.makeSlice 26 (.int .i64 1024) (.int .i64 1024)).run Tryd.prog w = .ok (.slice (some ⟨w.heap.size, 0, none⟩) 1024 1024) (w.alloc (.cells c 23)) := fun w => by
    have := make23 1024 (by decide) w
    rw [hc0] at this
    exact this
  clear hc0 hcs
  have S1 : Hid ((w.alloc (.cells c 23)).heap.size = w.heap.size + 1) := by unfold Hid; simp
  go_enter Tryd.func12, Tryd.ntmps12
  go_wp2_with fail
  go_loopw [11] (fun t wr => ∃ k : Nat, (k : Int) ≤ 1024 ∧ t = .int .i64 k ∧ Hid (ArrAt w.heap.size 1024 (vwK ws k) wr) ∧ Hid (FrB w.heap.size w wr) ∧ Hid (wr.heap.size = w.heap.size + 1) ∧ Hid (∀ i, i < k → Num.mendS (ws i) ≠ 2)) (fun t _ => 1024 - (intOf t).toNat)
  case atStart => exact ⟨0, by decide, rfl, H1, F1, S1, fun i hi => absurd hi (Nat.not_lt_zero _)⟩
  case round =>
    obtain ⟨k, hk, rfl, HA, HF, HS, HN⟩ := hrel
    rename_i wr
    by_cases hlt : (k : Int) < 1024
    · have hr : wr.cell? ⟨M, 0, none⟩ = some (.pointer (some ⟨b, 0, none⟩)) := by rw [HF.out.cell _ _ hB.out.2.1]; exact hM.out.hr
      have R := hideP (hM.out.row.frb HF.out hB.out.2.2.1 hB.out.2.2.2)
      have L := hideP (HF.out.laid hL.out hB.out.1)
      obtain ⟨x, X⟩ : ∃ x : Nat, Hid (pkV 1024 ws (k : Int) = x) := ⟨_, rfl⟩
      have XV := hideP ((pkV_in (n := 1024) ws (i := (k : Int)) (k := k) rfl (by omega)).symm.trans X.out)
      have SV := hideP (pkS_in (n := 1024) ws (i := (k : Int)) (k := k) rfl (by omega))
      have XI : Hid (((pkV 1024 ws (k : Int) : Nat) : Int) = (x : Int)) := by unfold Hid; rw [X.out]
      by_cases hs : Num.mendS (ws k) = 2
      · have S : Hid (((pkS 1024 ws (k : Int) : Nat) : Int) = 2) := by unfold Hid; rw [SV.out, hs]; rfl
        have GY : Hid (g = true) := by unfold Hid; rw [← G.out]; exact bdW_yes hs (by omega)
        clear hs
        go_wp2_with fail
        refine (peek_as b d 1024 f ws _ _ _ XI S (by decide) _ L R.out).mono ?_; rintro e w1 ⟨rfl, hw⟩
        have F2 := hideP (HF.out.trans (FrB.alike hw))
        clear hw
        go_wp2_with fail
        go_ret2
        exact ⟨by unfold Told; rw [GY.out, if_pos rfl]; rfl, F2.out⟩
      · obtain ⟨s, S⟩ : ∃ s : Int, Hid (((pkS 1024 ws (k : Int) : Nat) : Int) = s) := ⟨_, rfl⟩
        have s2 : (s == 2) = false := by rw [← S.out, SV.out, beq_eq_false_iff_ne]; omega
        have HS2 := hideP hs
        clear hs
        go_wp2_with fail
        refine (peek_as b d 1024 f ws _ _ _ XI S (by decide) _ L R.out).mono ?_; rintro e w1 ⟨rfl, hw⟩
        have A2 := hideP (HA.out.alike hw)
        have F2 := hideP (HF.out.trans (FrB.alike hw))
        have S2 : Hid (w1.heap.size = w.heap.size + 1) := by unfold Hid; rw [hw.1]; exact HS.out
        have hk0 := A2.out.hw k (by omega)
        have zk0 := A2.out.zw k (by omega)
        clear hw
        go_wp2_with fail
        refine ⟨⟨k + 1, by omega, by rw [Int.natCast_add]; rfl, (A2.out.put k x (by omega)).congr (fun i _ => vwK_next ws k x XV.out.symm i), F2.out.trans (FrB.set _ _ _ _ _ (Nat.le_refl _)), ?_, ?_⟩, by simp [intOf]; omega⟩
        · unfold Hid; have := S2.out; simpa [World.setCell] using this
        · intro i hi
          by_cases e : i = k
          · subst e; exact HS2.out
          · exact HN.out i (by omega)
    · have hk1 : k = 1024 := by omega
      have GN : Hid (g = false) := by unfold Hid; rw [← G.out]; exact bdW_no (fun i hi => HN.out i (by omega))
      have HV : Hid (∀ i, i < 1024 → wr.cell? ⟨w.heap.size, i, none⟩ = some (.int .u32 (vw ws i : Nat))) := fun i hi => by
        rw [HA.out.hw i hi, hk1]; unfold vwK; rw [if_pos hi]
      clear hk1
      go_wp2_with fail
      go_ret2
      refine ⟨?_, HF.out⟩
      unfold Told
      rw [GN.out, if_neg (by decide)]
      exact ⟨_, _, rfl, by rw [HS.out]; omega, HV.out⟩
end Go.Proofs.YtekafmnpojbbdaaDoor.Walks
