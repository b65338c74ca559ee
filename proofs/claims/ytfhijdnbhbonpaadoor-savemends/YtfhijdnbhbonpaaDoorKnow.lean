/- Contract of the laws' own 'known'. -/
import Derived.Test.YtfhijdnbhbonpaaDoorSv
namespace Go.Proofs.YtfhijdnbhbonpaaDoor.Walks
open Go.ChangeShapes Go.WideShapes Go.ChangeAt Go.RowKit
set_option linter.unusedVariables false
/-- one word of an array is stored -/
theorem wpList_cell {ops : Array Oper} {rest : List Oper} {op : Oper} {a : Act} {Q : Exit → Act → World → Prop} (W : World) (A n : Nat) (zs : Nat → Nat) (H : ArrAt A n zs W) (k : Nat) (hk : k < n) (v : Nat) (hgd : op.guard = none) (x y : Operand) (ho : op.op = .store 26 x y)
    (hx : a.eval x = .pointer (some ⟨A, k, none⟩)) (hy : a.eval y = .int .u32 (v : Int))
    (h : ∀ W', Hid (ArrAt A n (upd zs k v) W') → Hid (TouA A W W') → wpList Tryd.prog ops Q rest (a.put op.dst undef) W') : wpList Tryd.prog ops Q (op :: rest) a W := by
  have c := H.hw k hk
  have z := H.zw k hk
  have g := h _ (H.put k v hk) (TouA.set A k W _)
  refine wpList_plain hgd fun K hK => ?_
  unfold Oper.wp execOp
  simp only [ho, hx, hy]
  go_simp
  exact hK _ _ g
def pz : Nat → Nat := pnt 0 w0 w0 0
def r9 : Nat → Nat := upd w0 5 9
def c1 : Nat → Nat := upd w0 0 1
def p9 : Nat → Nat := pnt 4 r9 c1 (num 7)
abbrev lit9 : Array Value := #[.int .u32 0, .int .u32 0, .int .u32 0, .int .u32 0, .int .u32 0, .int .u32 9, .int .u32 0, .int .u32 0, .int .u32 0, .int .u32 0, .int .u32 0, .int .u32 0, .int .u32 0, .int .u32 0, .int .u32 0, .int .u32 0, .int .u32 0, .int .u32 0, .int .u32 0, .int .u32 0, .int .u32 0, .int .u32 0, .int .u32 0, .int .u32 0, .int .u32 0, .int .u32 0, .int .u32 0, .int .u32 0, .int .u32 0, .int .u32 0, .int .u32 0, .int .u32 0]
abbrev lit1 : Array Value := #[.int .u32 1, .int .u32 0, .int .u32 0, .int .u32 0, .int .u32 0]
theorem lit9_eq : lit9 = (wn r9 32).toArray := by rfl
theorem lit1_eq : lit1 = (wn c1 5).toArray := by rfl
theorem pz_lt (i : Nat) (h : i < 39) : pz i < 4294967296 := pnt_lt2 (by decide) (w0_wd _) (w0_wd _) (by decide) i
theorem r9_wd : Wd 32 r9 := by unfold Wd r9; decide
theorem c1_wd : Wd 5 c1 := by unfold Wd c1; decide
theorem p9_lt (i : Nat) (h : i < 39) : p9 i < 4294967296 := pnt_lt2 (by decide) r9_wd c1_wd (by decide) i
def K0 : (Nat → Nat) → Prop := Fine False allOk (hv 0 pz pz)
def K1 : (Nat → Nat) → Prop := Fine False allOk (hv 1 p9 pz)
def K2 (ws : Nat → Nat) : Prop := Fine True allOk (hv 1 p9 pz) ws ∧ Fine False (fun j => allOk j ∧ j ≠ 39) (hv 1 p9 pz) ws
theorem k_load0 : ∀ ws, K0 ws → TellL ws 0 (upd w0 0 0) w0 0 true ∧ K0 (ldW ws) := fun ws h => ⟨Fine.told_pnt h (by decide), Fine.ldW h⟩
theorem k_save : ∀ ws, K0 ws → K1 (svW ws (pnt 4 r9 c1 (num 7))) := fun ws h => Fine.save h (by decide) p9_lt
theorem k_flip : ∀ ws, K1 ws → K2 (flW 79 ws 1521) := fun ws h => ⟨Fine.flip1 h 1521 39 0 rfl (by decide) (by decide), Fine.flip_off h 1521 39 0 rfl (by decide) (by decide)⟩
theorem num7 : num 7 = 7 := by unfold num; omega
theorem k_load2 : ∀ ws, K2 ws → TellL ws 4 (upd r9 0 0) c1 7 true ∧ K2 (ldW ws) := fun ws h => ⟨by have := Fine.told_pnt (pc := 4) (rs := r9) (cs := c1) (z := num 7) (q := pz) (l := 1) h.1 (by decide); rw [num7] at this; exact this, Fine.ldW h.1, Fine.ldW h.2⟩
theorem in_out : inF 79 3081 = false := by unfold inF inB; decide
theorem k_out : ∀ ws, K2 ws → K2 (flW 79 ws 3081) := fun ws h => by rw [flW_out in_out]; exact h
theorem k_scrub : ∀ ws, K2 ws → ((pkS 79 ws ((0 : Nat) : Int) : Nat) : Int) = 0 ∧ True := fun ws h => ⟨by rw [(h.2.gets 0 (by decide) ⟨trivial, by decide⟩).2]; rfl, trivial⟩
set_option maxRecDepth 100000 in
set_option maxHeartbeats 2000000 in
theorem known (w : World) (hL : Hid (Laid w)) : Calls Tryd.prog 9 #[] w fun e w' => e = .returned (.bool true) ∧ FrB w.heap.size w w' := by
  have B0 := hideP hL.out.pos
  have g3 : Hid (inF 79 1521 = true) := by unfold Hid; decide +kernel
  have g4 : Hid (inF 79 3081 = false) := by unfold Hid; decide +kernel
  go_enter Tryd.func9, Tryd.ntmps9
  go_wp2_with fail
  refine (snew_as _ hL).mono ?_; rintro e w1 ⟨M, b, d, rfl, hF⟩
  have F1 := hideP (SOne.lay hF hF.2.1.size)
  generalize w1.heap.size = C at *
  clear hF
  go_wp2_with fail
  refine (v_bits M b d 0 0 _ _ (hideP F1.out.v)).mono ?_; rintro e w' ⟨rfl, rfl⟩
  go_wp2_with fail
  refine (v_load M b d 0 0 K0 K0 _ _ _ _ _ (hideP k_load0) (by decide) _ (hideP F1.out.v)).mono ?_; rintro e w2 ⟨rfl, hN⟩
  have F2 := hideP (F1.out.now hN)
  have T2 := hideP (Two.new w2 F2.out.cs)
  have F3 := hideP ((F2.out.alloc (.cells z32 27)).alloc (.cells z5 28))
  clear hN
  go_wp2_with (first
    | (refine wpList_arrG 27 32 size27 _ w2.heap.size w0 T2.out.a (by rfl) _ _ rfl (upd w0 0 0) _ rfl rfl rfl ?_; intro W3 hA hT; have T3 := hideP (T2.out.put3 hA.out hT.out); have F4 := hideP (F3.out.arr hT.out T2.out.lo); clear hA hT)
    | (refine wpList_arrG 28 5 size28 _ (w2.heap.size + 1) w0 T3.out.c (by rfl) _ _ rfl w0 _ rfl rfl rfl ?_; intro W4 hA hT; have F5 := hideP (F4.out.arr hT.out (Nat.le_succ_of_le T2.out.lo)); have Z6 := hideP (ArrAt.zero32 W4 27); have F6 := hideP (F5.out.alloc (.cells z32 27)); clear hA hT)
    | (refine wpList_cell _ W4.heap.size 32 w0 Z6.out 5 (by decide) 9 (by rfl) _ _ rfl rfl rfl ?_; intro W5 hA hT; have F7' := hideP (F6.out.arr hT.out F5.out.cs); have R6 : Hid (W5.rangeAt W4.heap.size 0 (wn r9 32)) := hA.out.range; clear hA hT)
    | (refine load_want (by rfl) 27 _ rfl W4.heap.size 0 rfl (wn r9 32) _ R6.out Tryd.underlying27 rfl (by rw [wn_len]; exact size27) ?_))
  refine (v_save M b d _ 0 4 K0 K1 r9 c1 7 _ lit1 rfl lit1_eq 4 rfl (hideP (by decide)) r9_wd c1_wd (hideP k_save) (by decide) _ (hideP F7'.out.v)).mono ?_; rintro e w5 ⟨rfl, hN⟩
  have F7 := hideP (F7'.out.now hN)
  clear hN
  go_wp2_with fail
  refine (v_flip M b d _ 0 K1 K2 1521 true g3 (hideP k_flip) _ (hideP F7.out.v)).mono ?_; rintro e w6 ⟨rfl, hN⟩
  have F8 := hideP (F7.out.now hN)
  clear hN
  go_wp2_with fail
  refine (v_load M b d _ 0 K2 K2 _ _ _ _ _ (hideP k_load2) (by decide) _ (hideP F8.out.v)).mono ?_; rintro e w7 ⟨rfl, hN⟩
  have F9 := hideP (F8.out.now hN)
  have T9 := hideP (Two.new w7 F9.out.cs)
  have F10 := hideP ((F9.out.alloc (.cells z32 27)).alloc (.cells z5 28))
  clear hN
  go_wp2_with (first
    | (refine wpList_arrG 27 32 size27 _ w7.heap.size w0 T9.out.a (by rfl) _ _ rfl (upd r9 0 0) _ rfl rfl rfl ?_; intro W8 hA hT; have T10 := hideP (T9.out.put3 hA.out hT.out); have F11 := hideP (F10.out.arr hT.out T9.out.lo); clear hA hT)
    | (refine wpList_arrG 28 5 size28 _ (w7.heap.size + 1) w0 T10.out.c (by rfl) _ _ rfl c1 _ rfl rfl rfl ?_; intro W9 hA hT; have F12 := hideP (F11.out.arr hT.out (Nat.le_succ_of_le T9.out.lo)); have T11 := hideP (T10.out.put5 hA.out hT.out); have x5 : W9.cell? ⟨w7.heap.size, 5, none⟩ = some (.int .u32 9) := T11.out.a.hw 5 (by decide); have x0 : W9.cell? ⟨w7.heap.size + 1, 0, none⟩ = some (.int .u32 1) := T11.out.c.hw 0 (by decide); clear hA hT))
  refine (v_flip M b d _ 0 K2 K2 3081 false g4 (hideP k_out) _ (hideP F12.out.v)).mono ?_; rintro e w8 ⟨rfl, hN⟩
  have F13 := hideP (F12.out.now hN)
  clear hN
  go_wp2_with fail
  refine (v_scrub M b d _ 0 K2 (fun _ => True) 0 (by decide) (hideP k_scrub) (by decide) _ (hideP F13.out.v)).mono ?_; rintro e w9 ⟨rfl, hN⟩
  have F14 := hideP (F13.out.now hN)
  clear hN
  go_wp2_with fail
  go_ret
  exact ⟨rfl, F14.out.fr⟩
end Go.Proofs.YtfhijdnbhbonpaaDoor.Walks
