/- RefAs: Contract of the document's own Decode, for any word; of the laws' own same. -/
import Derived.Test.YtpkbkbllhpdfiaaGreatB05
import Derived.Test.YtpkbkbllhpdfiaaGreatB02
namespace Go.Proofs.YtpkbkbllhpdfiaaGreat.Num
open Go.ChangeShapes Go.WideShapes Go.ChangeAt Go.RowKit
theorem and127 (v : Int) (v0 : 0 ≤ v) (v1 : v ≤ 4294967295) : bits .and .u32 v 127 = v % 128 := by
  obtain ⟨x, rfl⟩ := Int.eq_ofNat_of_zero_le v0
  rw [show (127 : Int) = ((127 : Nat) : Int) from rfl, u32_and_nat _ _ (by omega) (by decide), show 127 = 2 ^ 7 - 1 from rfl, Nat.and_two_pow_sub_one_eq_mod]
  simp
/-- the op o is of the format f -/
structure Is (o f : Int) : Prop where
  hf : fm o = f
  hz : (o == 0) = false
  hn : (o != 0) = true
theorem is8 (x : Int) (h0 : 0 ≤ x) (h7 : x ≤ 7) : x = 0 ∨ x = 1 ∨ x = 2 ∨ x = 3 ∨ x = 4 ∨ x = 5 ∨ x = 6 ∨ x = 7 := by omega
theorem isBranch (f3 : Int) (h0 : 0 ≤ f3) (h7 : f3 ≤ 7) : oBranch f3 = 0 ∨ Is (oBranch f3) 6 := by
  rcases is8 f3 h0 h7 with rfl | rfl | rfl | rfl | rfl | rfl | rfl | rfl <;> first | (exact .inl rfl) | (exact .inr ⟨rfl, rfl, rfl⟩)
theorem isLoad (f3 : Int) (h0 : 0 ≤ f3) (h7 : f3 ≤ 7) : oLoad f3 = 0 ∨ Is (oLoad f3) 3 := by
  rcases is8 f3 h0 h7 with rfl | rfl | rfl | rfl | rfl | rfl | rfl | rfl <;> first | (exact .inl rfl) | (exact .inr ⟨rfl, rfl, rfl⟩)
theorem isStore (f3 : Int) (h0 : 0 ≤ f3) (h7 : f3 ≤ 7) : oStore f3 = 0 ∨ Is (oStore f3) 5 := by
  rcases is8 f3 h0 h7 with rfl | rfl | rfl | rfl | rfl | rfl | rfl | rfl <;> first | (exact .inl rfl) | (exact .inr ⟨rfl, rfl, rfl⟩)
theorem isJalr (f3 : Int) (h0 : 0 ≤ f3) (h7 : f3 ≤ 7) : first 4 f3 = 0 ∨ Is (first 4 f3) 3 := by
  rcases is8 f3 h0 h7 with rfl | rfl | rfl | rfl | rfl | rfl | rfl | rfl <;> first | (exact .inl rfl) | (exact .inr ⟨rfl, rfl, rfl⟩)
theorem isFence (f3 : Int) (h0 : 0 ≤ f3) (h7 : f3 ≤ 7) : first 46 f3 = 0 ∨ Is (first 46 f3) 1 := by
  rcases is8 f3 h0 h7 with rfl | rfl | rfl | rfl | rfl | rfl | rfl | rfl <;> first | (exact .inl rfl) | (exact .inr ⟨rfl, rfl, rfl⟩)
theorem isPlain (f3 : Int) (h0 : 0 ≤ f3) (h7 : f3 ≤ 7) : oReg f3 0 = 0 ∨ Is (oReg f3 0) 2 := by
  rcases is8 f3 h0 h7 with rfl | rfl | rfl | rfl | rfl | rfl | rfl | rfl <;> first | (exact .inl rfl) | (exact .inr ⟨rfl, rfl, rfl⟩)
theorem isMul (f3 : Int) (h0 : 0 ≤ f3) (h7 : f3 ≤ 7) : oReg f3 1 = 0 ∨ Is (oReg f3 1) 2 := by
  rcases is8 f3 h0 h7 with rfl | rfl | rfl | rfl | rfl | rfl | rfl | rfl <;> first | (exact .inl rfl) | (exact .inr ⟨rfl, rfl, rfl⟩)
theorem isOther (f3 : Int) (h0 : 0 ≤ f3) (h7 : f3 ≤ 7) : oReg f3 32 = 0 ∨ Is (oReg f3 32) 2 := by
  rcases is8 f3 h0 h7 with rfl | rfl | rfl | rfl | rfl | rfl | rfl | rfl <;> first | (exact .inl rfl) | (exact .inr ⟨rfl, rfl, rfl⟩)
theorem isSys (f3 : Int) (h0 : 0 ≤ f3) (h7 : f3 ≤ 7) : oSysT f3 = 0 ∨ Is (oSysT f3) 9 ∨ Is (oSysT f3) 10 := by
  rcases is8 f3 h0 h7 with rfl | rfl | rfl | rfl | rfl | rfl | rfl | rfl <;> first | (exact .inl rfl) | (exact .inr (.inl ⟨rfl, rfl, rfl⟩)) | (exact .inr (.inr ⟨rfl, rfl, rfl⟩))
theorem isImm0 (f3 : Int) (h0 : 0 ≤ f3) (h7 : f3 ≤ 7) : oImm f3 0 = 0 ∨ Is (oImm f3 0) 3 ∨ Is (oImm f3 0) 4 := by
  rcases is8 f3 h0 h7 with rfl | rfl | rfl | rfl | rfl | rfl | rfl | rfl <;> first | (exact .inl rfl) | (exact .inr (.inl ⟨rfl, rfl, rfl⟩)) | (exact .inr (.inr ⟨rfl, rfl, rfl⟩))
theorem isImm32 (f3 : Int) (h0 : 0 ≤ f3) (h7 : f3 ≤ 7) : oImm f3 32 = 0 ∨ Is (oImm f3 32) 3 ∨ Is (oImm f3 32) 4 := by
  rcases is8 f3 h0 h7 with rfl | rfl | rfl | rfl | rfl | rfl | rfl | rfl <;> first | (exact .inl rfl) | (exact .inr (.inl ⟨rfl, rfl, rfl⟩)) | (exact .inr (.inr ⟨rfl, rfl, rfl⟩))
theorem isImm (f3 f7 : Int) (h0 : 0 ≤ f3) (h7 : f3 ≤ 7) : oImm f3 f7 = 0 ∨ Is (oImm f3 f7) 3 ∨ Is (oImm f3 f7) 4 := by
  by_cases a : f7 = 0
  · subst a; exact isImm0 f3 h0 h7
  by_cases b : f7 = 32
  · subst b; exact isImm32 f3 h0 h7
  rcases is8 f3 h0 h7 with rfl | rfl | rfl | rfl | rfl | rfl | rfl | rfl
  all_goals first
    | (exact .inr (.inl ⟨rfl, rfl, rfl⟩))
    | (left; show oShift f7 _ _ = 0; rw [oShift, if_neg a, if_neg b])
theorem sysPos (f3 : Int) (h0 : 0 ≤ f3) (h7 : f3 ≤ 7) (h : (oSysT f3 == 0) = false) : 0 < oSysT f3 := by
  rcases is8 f3 h0 h7 with rfl | rfl | rfl | rfl | rfl | rfl | rfl | rfl <;> first | decide | (exact absurd h (by decide))
theorem oSys_free (v f3 : Int) (a : v ≠ 115) (b : v ≠ 1048691) (c : v ≠ 807403635) : oSys v f3 = oSysT f3 := by
  unfold oSys oSysT oBare
  by_cases h : f3 = 0
  · subst h; rw [if_pos rfl, if_neg a, if_neg b, if_neg c]; rfl
  · rw [if_neg h]
end Go.Proofs.YtpkbkbllhpdfiaaGreat.Num
namespace Go.Proofs.YtpkbkbllhpdfiaaGreat.Walks
open Go.ChangeShapes Go.WideShapes Go.ChangeAt Go.RowKit
set_option linter.unusedVariables false
theorem rdecode_all (v : Int) (v0 : 0 ≤ v) (v1 : v ≤ 4294967295) (w : World) :
    Calls Tryz.prog 39 #[.int .u32 v] w fun e w' => e = .returned (.tuple #[.agg (cells (Num.op v) (Num.dD (Num.fm (Num.op v)) v) (Num.dA (Num.fm (Num.op v)) v) (Num.dB (Num.fm (Num.op v)) v) (Num.dN (Num.fm (Num.op v)) v)), .bool (Num.op v != 0)]) ∧ Fr w w' := by
  have x0 : 0 ≤ v / 128 % 32 := by omega
  have x1 : v / 128 % 32 ≤ 31 := by omega
  have y0 : 0 ≤ v / 32768 % 32 := by omega
  have y1 : v / 32768 % 32 ≤ 31 := by omega
  have z0 : 0 ≤ v / 1048576 % 32 := by omega
  have z1 : v / 1048576 % 32 ≤ 31 := by omega
  have h0 : 0 ≤ v / 4096 % 8 := by omega
  have h7 : v / 4096 % 8 ≤ 7 := by omega
  have m0 : 0 ≤ v / 1048576 % 4096 := by omega
  have m1 : v / 1048576 % 4096 ≤ 4095 := by omega
  have F := bt_12_3 v
  have X := bt_7_5 v
  have Y := bt_15_5 v
  have Z := bt_20_5 v
  have A := Num.and127 v v0 v1
  by_cases hc : v % 128 = 55
  · have e : Num.op v = 1 := by unfold Num.op Num.opc; rw [if_pos hc]
    rw [hc] at A
    rw [e]; exact rdec_lui v _ _ _ _ _ v0 v1 h0 h7 x0 x1 y0 y1 z0 z1 F X Y Z A rfl w
  have h55 := hc; clear hc
  by_cases hc : v % 128 = 23
  · have e : Num.op v = 2 := by unfold Num.op Num.opc; rw [if_neg h55]; rw [if_pos hc]
    rw [hc] at A
    rw [e]; exact rdec_auipc v _ _ _ _ _ v0 v1 h0 h7 x0 x1 y0 y1 z0 z1 F X Y Z A rfl w
  have h23 := hc; clear hc
  by_cases hc : v % 128 = 111
  · have e : Num.op v = 3 := by unfold Num.op Num.opc; rw [if_neg h55]; rw [if_neg h23]; rw [if_pos hc]
    rw [hc] at A
    rw [e]; exact rdec_jal v _ _ _ _ _ v0 v1 h0 h7 x0 x1 y0 y1 z0 z1 F X Y Z A rfl w
  have h111 := hc; clear hc
  by_cases hc : v % 128 = 103
  · have e : Num.op v = Num.first 4 (v / 4096 % 8) := by unfold Num.op Num.opc; rw [if_neg h55]; rw [if_neg h23]; rw [if_neg h111]; rw [if_pos hc]
    rw [hc] at A
    rw [e]
    have t := tabJalr _ h0 h7
    rcases Num.isJalr _ h0 h7 with z | i
    · rw [z] at t ⊢; exact rdec_jalr_no v _ _ _ _ _ v0 v1 h0 h7 x0 x1 y0 y1 z0 z1 F X Y Z A t rfl w
    · rw [i.hf, i.hn]; exact rdec_jalr_yes v _ _ _ _ _ _ v0 v1 h0 h7 x0 x1 y0 y1 z0 z1 F X Y Z A t rfl i.hz w
  have h103 := hc; clear hc
  by_cases hc : v % 128 = 99
  · have e : Num.op v = Num.oBranch (v / 4096 % 8) := by unfold Num.op Num.opc; rw [if_neg h55]; rw [if_neg h23]; rw [if_neg h111]; rw [if_neg h103]; rw [if_pos hc]
    rw [hc] at A
    rw [e]
    have t := tabBranch _ h0 h7
    rcases Num.isBranch _ h0 h7 with z | i
    · rw [z] at t ⊢; exact rdec_branch_no v _ _ _ _ _ v0 v1 h0 h7 x0 x1 y0 y1 z0 z1 F X Y Z A t rfl w
    · rw [i.hf, i.hn]; exact rdec_branch_yes v _ _ _ _ _ _ v0 v1 h0 h7 x0 x1 y0 y1 z0 z1 F X Y Z A t rfl i.hz w
  have h99 := hc; clear hc
  by_cases hc : v % 128 = 3
  · have e : Num.op v = Num.oLoad (v / 4096 % 8) := by unfold Num.op Num.opc; rw [if_neg h55]; rw [if_neg h23]; rw [if_neg h111]; rw [if_neg h103]; rw [if_neg h99]; rw [if_pos hc]
    rw [hc] at A
    rw [e]
    have t := tabLoad _ h0 h7
    rcases Num.isLoad _ h0 h7 with z | i
    · rw [z] at t ⊢; exact rdec_load_no v _ _ _ _ _ v0 v1 h0 h7 x0 x1 y0 y1 z0 z1 F X Y Z A t rfl w
    · rw [i.hf, i.hn]; exact rdec_load_yes v _ _ _ _ _ _ v0 v1 h0 h7 x0 x1 y0 y1 z0 z1 F X Y Z A t rfl i.hz w
  have h3 := hc; clear hc
  by_cases hc : v % 128 = 35
  · have e : Num.op v = Num.oStore (v / 4096 % 8) := by unfold Num.op Num.opc; rw [if_neg h55]; rw [if_neg h23]; rw [if_neg h111]; rw [if_neg h103]; rw [if_neg h99]; rw [if_neg h3]; rw [if_pos hc]
    rw [hc] at A
    rw [e]
    have t := tabStore _ h0 h7
    rcases Num.isStore _ h0 h7 with z | i
    · rw [z] at t ⊢; exact rdec_store_no v _ _ _ _ _ v0 v1 h0 h7 x0 x1 y0 y1 z0 z1 F X Y Z A t rfl w
    · rw [i.hf, i.hn]; exact rdec_store_yes v _ _ _ _ _ _ v0 v1 h0 h7 x0 x1 y0 y1 z0 z1 F X Y Z A t rfl i.hz w
  have h35 := hc; clear hc
  by_cases hc : v % 128 = 19
  · have e : Num.op v = Num.oImm (v / 4096 % 8) (v / 33554432 % 128) := by unfold Num.op Num.opc; rw [if_neg h55]; rw [if_neg h23]; rw [if_neg h111]; rw [if_neg h103]; rw [if_neg h99]; rw [if_neg h3]; rw [if_neg h35]; rw [if_pos hc]
    rw [hc] at A
    rw [e]
    rcases Num.isImm _ (v / 33554432 % 128) h0 h7 with z | i | i
    · rw [z]; exact rdec_imm_no v _ _ _ _ _ _ v0 v1 h0 h7 x0 x1 y0 y1 z0 z1 F X Y Z A rfl z rfl w
    · have q := rdec_imm_yes v _ _ _ _ _ _ _ v0 v1 h0 h7 x0 x1 y0 y1 z0 z1 F X Y Z A rfl rfl rfl i.hz w; rw [i.hf] at q; rw [i.hf, i.hn]; exact q
    · have q := rdec_imm_yes v _ _ _ _ _ _ _ v0 v1 h0 h7 x0 x1 y0 y1 z0 z1 F X Y Z A rfl rfl rfl i.hz w; rw [i.hf] at q; rw [i.hf, i.hn]; exact q
  have h19 := hc; clear hc
  by_cases hc : v % 128 = 51
  · have e : Num.op v = Num.oReg (v / 4096 % 8) (v / 33554432 % 128) := by unfold Num.op Num.opc; rw [if_neg h55]; rw [if_neg h23]; rw [if_neg h111]; rw [if_neg h103]; rw [if_neg h99]; rw [if_neg h3]; rw [if_neg h35]; rw [if_neg h19]; rw [if_pos hc]
    rw [hc] at A
    rw [e]
    have G := bt_25_7 v
    generalize v / 33554432 % 128 = f7 at *
    by_cases a : f7 = 0 ∨ f7 = 1 ∨ f7 = 32
    · have q : Num.oReg (v / 4096 % 8) f7 = 0 ∨ Num.Is (Num.oReg (v / 4096 % 8) f7) 2 := by
        rcases a with rfl | rfl | rfl
        · exact Num.isPlain _ h0 h7
        · exact Num.isMul _ h0 h7
        · exact Num.isOther _ h0 h7
      rcases q with z | i
      · rw [z]; exact rdec_reg_no v _ _ _ _ f7 v0 v1 h0 h7 x0 x1 y0 y1 z0 z1 F X Y Z A a G z w
      · rw [i.hf, i.hn]; exact rdec_reg_yes v _ _ _ _ f7 _ v0 v1 h0 h7 x0 x1 y0 y1 z0 z1 F X Y Z A a G rfl i.hz w
    · have p : f7 ≠ 0 ∧ f7 ≠ 1 ∧ f7 ≠ 32 := by omega
      rw [Num.oReg, if_neg p.1, if_neg p.2.1, if_neg p.2.2]
      exact rdec_reg_none v _ _ _ _ f7 v0 v1 h0 h7 x0 x1 y0 y1 z0 z1 F X Y Z A (by simp [p.1]) (by simp [p.2.2]) (by simp [p.2.1]) G w
  have h51 := hc; clear hc
  by_cases hc : v % 128 = 15
  · have e : Num.op v = Num.first 46 (v / 4096 % 8) := by unfold Num.op Num.opc; rw [if_neg h55]; rw [if_neg h23]; rw [if_neg h111]; rw [if_neg h103]; rw [if_neg h99]; rw [if_neg h3]; rw [if_neg h35]; rw [if_neg h19]; rw [if_neg h51]; rw [if_pos hc]
    rw [hc] at A
    rw [e]
    have t := tabFence _ h0 h7
    rcases Num.isFence _ h0 h7 with z | i
    · rw [z] at t ⊢; exact rdec_fence_no v _ _ _ _ v0 v1 h0 h7 x0 x1 y0 y1 z0 z1 F X Y Z A t w
    · rw [i.hf, i.hn]; exact rdec_fence_yes v _ _ _ _ _ v0 v1 h0 h7 x0 x1 y0 y1 z0 z1 F X Y Z A t i.hz w
  have h15 := hc; clear hc
  by_cases hc : v % 128 = 115
  · have e : Num.op v = Num.oSys v (v / 4096 % 8) := by unfold Num.op Num.opc; rw [if_neg h55]; rw [if_neg h23]; rw [if_neg h111]; rw [if_neg h103]; rw [if_neg h99]; rw [if_neg h3]; rw [if_neg h35]; rw [if_neg h19]; rw [if_neg h51]; rw [if_neg h15]; rw [if_pos hc]
    rw [hc] at A
    by_cases a : v = 115
    · subst a; exact rdec_sys_e _ _ _ _ v0 v1 h0 h7 x0 x1 y0 y1 z0 z1 F X Y Z A w
    by_cases b : v = 1048691
    · subst b; exact rdec_sys_b _ _ _ _ v0 v1 h0 h7 x0 x1 y0 y1 z0 z1 F X Y Z A w
    by_cases c : v = 807403635
    · subst c; exact rdec_sys_m _ _ _ _ v0 v1 h0 h7 x0 x1 y0 y1 z0 z1 F X Y Z A w
    rw [e, Num.oSys_free _ _ a b c]
    have t := tabSys _ h0 h7
    rcases Num.isSys _ h0 h7 with z | i | i
    · rw [z] at t ⊢; exact rdec_sys_no v _ _ _ _ _ _ v0 v1 h0 h7 x0 x1 y0 y1 z0 z1 F X Y Z A (by simp [a]) (by simp [b]) (by simp [c]) m0 m1 t (bt_20_12 v) rfl w
    · rw [i.hf, i.hn]; exact rdec_sys_yes v _ _ _ _ _ _ v0 v1 h0 h7 x0 x1 y0 y1 z0 z1 F X Y Z A (by simp [a]) (by simp [b]) (by simp [c]) m0 m1 t (bt_20_12 v) (decide_eq_true (Num.sysPos _ h0 h7 i.hz)) w
    · rw [i.hf, i.hn]; exact rdec_sys_yes v _ _ _ _ _ _ v0 v1 h0 h7 x0 x1 y0 y1 z0 z1 F X Y Z A (by simp [a]) (by simp [b]) (by simp [c]) m0 m1 t (bt_20_12 v) (decide_eq_true (Num.sysPos _ h0 h7 i.hz)) w
  have h115 := hc; clear hc
  have e : Num.op v = 0 := by unfold Num.op Num.opc; rw [if_neg h55]; rw [if_neg h23]; rw [if_neg h111]; rw [if_neg h103]; rw [if_neg h99]; rw [if_neg h3]; rw [if_neg h35]; rw [if_neg h19]; rw [if_neg h51]; rw [if_neg h15]; rw [if_neg h115]
  rw [e]
  exact rdec_none v _ _ _ _ _ v0 v1 h0 h7 x0 x1 y0 y1 z0 z1 F X Y Z A (by simp [h55]) (by simp [h23]) (by simp [h111]) (by simp [h103]) (by simp [h99]) (by simp [h3]) (by simp [h35]) (by simp [h19]) (by simp [h51]) (by simp [h15]) (by simp [h115]) w
theorem rdecode_as (v o d a b n : Int) (g : Bool) (D : Hid (Num.Dec v o d a b n g)) (v0 : 0 ≤ v) (v1 : v ≤ 4294967295) (w : World) :
    Calls Tryz.prog 39 #[.int .u32 v] w fun e w' => e = .returned (.tuple #[.agg (cells o d a b n), .bool g]) ∧ Fr w w' := by
  obtain ⟨ho, hd, ha, hb, hn, hg⟩ := D.out
  have := rdecode_all v v0 v1 w
  rw [ho, hd, ha, hb, hn, hg] at this
  exact this
end Go.Proofs.YtpkbkbllhpdfiaaGreat.Walks
