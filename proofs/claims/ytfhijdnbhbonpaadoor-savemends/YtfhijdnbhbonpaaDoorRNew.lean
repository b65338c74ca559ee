/- Contracts of the document's own NewSave and Scrub. -/
import Derived.Test.YtfhijdnbhbonpaaDoorRPut
import Derived.Test.YtfhijdnbhbonpaaDoorSNew
namespace Go.Proofs.YtfhijdnbhbonpaaDoor.Walks
open Go.ChangeShapes Go.WideShapes Go.ChangeAt Go.RowKit
set_option linter.unusedVariables false
set_option maxHeartbeats 1000000 in
theorem rscrub_as (M b d f nx : Nat) (ws : Nat → Nat) (s : Int) (hx : (nx : Int) < 79) (S : Hid (((pkS 79 ws (nx : Int) : Nat) : Int) = s)) (hf : (f : Int) ≤ 4611686018427387903) (w : World) (hS : Hid (SAt M b d ws f nx w)) :
    Calls Tryd.prog 18 #[.pointer (some ⟨M, 0, none⟩)] w fun e w' => e = .returned (.int .i64 s) ∧ SNow M b d (gtW 79 ws nx) (gtF 79 ws f nx) (nxS nx) w w' := by
  have hr := hS.out.mem.hr
  have hx0 := hS.out.mem.hx
  have R := hideP hS.out.mem.row
  obtain ⟨x, X⟩ : ∃ x : Int, Hid (((pkV 79 ws (nx : Int) : Nat) : Int) = x) := ⟨_, rfl⟩
  go_enter Tryd.func18, Tryd.ntmps18
  go_wp2_with fail
  go_region_with (go_at_call 34; refine (refget_as b d 79 f ws _ x s X S (by decide) hf _ (by exact R.out.heap rfl)).mono ?_; rintro e w1 ⟨rfl, hw⟩)
  all_goals
    have H1 := hideP (hS.out.now hw.drew)
    clear hw
    have hr1 := H1.out.1.mem.hr
    have hx1 := H1.out.1.mem.hx
    have zx1 := H1.out.1.mem.zx
    go_wp2_with fail
    go_ret
    have q := MemAt.go79 H1.out.1 (nxS nx) (by unfold nxS; omega)
    have e : ((nxS nx : Nat) : Int) = ((nx : Int) + 1) % 79 := by unfold nxS; omega
    rw [e] at q
    exact ⟨rfl, H1.out.trans q⟩
theorem made26 (n k : Nat) (h : k < n) : (madeCells #[Value.int .u32 0] n)[k]? = some (.int .u32 0) := by simp [madeCells, h, Nat.mod_one]
theorem lie_zero (w : World) (c : Array Value) (p : Nat → Nat) (hc : ∀ k, k < 38 → c[k]? = some (.int .u32 0)) (hp : ∀ k, k < 38 → p k = 0) : Lie w.heap.size 0 38 p (w.alloc (.cells c 26)) := fun i hi => by
  rw [World.cell?_alloc_at _ _ _ _ rfl, Nat.zero_add, hc i hi, hp i hi]; rfl
theorem pnt_zero (k : Nat) (hk : k < 38) : pnt 0 w0 w0 0 k = 0 := by
  unfold pnt w0
  split
  · rfl
  · split
    · rfl
    · split
      · rfl
      · rw [if_pos (by omega)]
theorem make66 (c : Array Value) (hc : madeCells #[.int .u32 0] 38 = c) (w : World) :
    (Instr.makeSlice 66 (.int .i64 38) (.int .i64 38)).run Tryd.prog w = .ok (.slice (some ⟨w.heap.size, 0, none⟩) 38 38) (w.alloc (.cells c 26)) := by
  subst hc
  exact run_make_row' (P := Tryd.prog) 66 26 (.int .u32 0) 4 Tryd.underlying66 info23 rfl .i64 .i64 38 (by omega) (by omega) w
set_option maxRecDepth 100000 in
set_option maxHeartbeats 1000000 in
theorem rsnew_as (w : World) (hL : Hid (Laid w)) : Calls Tryd.prog 16 #[] w fun e w' => SMade w e w' := by
  obtain ⟨c, hc0, hcs⟩ : ∃ c, madeCells #[Value.int .u32 0] 38 = c ∧ ∀ k, k < 38 → c[k]? = some (.int .u32 0) := ⟨_, rfl, made26 38⟩
  have HC : Hid (∀ k, k < 38 → c[k]? = some (.int .u32 0)) := hcs
  have hmk := make66 c hc0
  clear hcs hc0
  have HP : Hid (∀ i, i < 39 → pnt 0 w0 w0 0 i < 4294967296) := fun i _ => pnt_lt2 (by decide) (w0_wd _) (w0_wd _) (by decide) i
  have HM : Hid (pnt 0 w0 w0 0 38 = mk (pnt 0 w0 w0 0 37)) := rfl
  go_enter Tryd.func16, Tryd.ntmps16
  go_wp2_with fail
  refine (refnew_ex 79 _).mono ?_; rintro e w1 ⟨b, d, rfl, hF⟩
  have S1 := hideP (hF.boxed 47 hL.out hL.out.pos hF.2.1.size)
  clear hF
  go_wp2_with fail
  have Z2 : Hid ((w1.alloc (.cells #[.pointer (some ⟨b, 0, none⟩), .int .i64 0] 47)).heap.size = w1.heap.size + 1) := by unfold Hid; simp
  generalize (w1.alloc (.cells #[.pointer (some ⟨b, 0, none⟩), .int .i64 0] 47)) = w2 at *
  have S2 := hideP (S1.out.now (S1.out.1.alloc (.cells c 26)))
  have L2 : Hid (Lie (w1.heap.size + 1) 0 38 (pnt 0 w0 w0 0) (w2.alloc (.cells c 26))) := by have := lie_zero w2 c (pnt 0 w0 w0 0) HC.out pnt_zero; rw [Z2.out] at this; exact this
  have A2 : Hid (w1.heap.size + 1 < (w2.alloc (.cells c 26)).heap.size ∧ w1.heap.size + 1 ≠ w1.heap.size ∧ w1.heap.size + 1 ≠ b ∧ w1.heap.size + 1 ≠ d) := by have := Z2.out; have := S1.out.1.hM; have := S1.out.1.hb; have := S1.out.1.hd; unfold Hid; simp; omega
  refine (rput_core _ b d 0 0 0 (w1.heap.size + 1) 0 38 _ (pnt 0 w0 w0 0) 0 (hideP rfl) (by decide) HP HM _ (hideP S2.out.1) A2 L2).mono ?_; rintro e w3 ⟨rfl, hN⟩
  have S3 : Hid (SNew w.heap.size w1.heap.size b d (nwK 1) 0 0 w w3) := S2.out.now hN
  clear hN S2 L2 A2
  go_wp2_with fail
  have S4 := hideP (S3.out.now (S3.out.1.alloc (.cells c 26)))
  have L4 := hideP (lie_zero w3 c (pnt 0 w0 w0 0) HC.out pnt_zero)
  have A4 : Hid (w3.heap.size < (w3.alloc (.cells c 26)).heap.size ∧ w3.heap.size ≠ w1.heap.size ∧ w3.heap.size ≠ b ∧ w3.heap.size ≠ d) := by have := S3.out.1.hM; have := S3.out.1.hb; have := S3.out.1.hd; unfold Hid; simp; omega
  refine (rput_core _ b d 0 0 1 w3.heap.size 0 38 _ (pnt 0 w0 w0 0) 1 (hideP rfl) (by decide) HP HM _ (hideP S4.out.1) A4 L4).mono ?_; rintro e w5 ⟨rfl, hN⟩
  have S5 : Hid (SNew w.heap.size w1.heap.size b d (nwK 2) 0 0 w w5) := S4.out.now hN
  clear hN S4 L4 A4
  go_wp2_with fail
  go_ret
  exact ⟨_, _, _, rfl, S5.out⟩
end Go.Proofs.YtfhijdnbhbonpaaDoor.Walks
