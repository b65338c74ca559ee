/- Contracts of New, the program's and the document's. -/
import Derived.Test.YtekafmnpojbbdaaDoorMNums
import Derived.Test.YtekafmnpojbbdaaDoorMendsNum
import Derived.Test.YtekafmnpojbbdaaDoorOpen
import Derived.Deep.RegionWith
import Derived.BigRegion
namespace Go.Proofs.YtekafmnpojbbdaaDoor.Walks
open Go.ChangeShapes Go.WideShapes Go.ChangeAt Go.RowKit
set_option linter.unusedVariables false
/-- the words of an image, k of them put -/
def imW (zs : Nat → Int) (k : Nat) : Nat → Nat := fun i => if i < k then Num.enc (zs i).toNat else 0
theorem imW_0 (zs : Nat → Int) (i : Nat) : w0 i = imW zs 0 i := by unfold imW w0; rw [if_neg (by omega)]
theorem imW_put (zs : Nat → Int) (k : Nat) (hk : k < 1024) (i : Nat) : ptW 1024 (imW zs k) (k : Int) (zs k).toNat i = imW zs (k + 1) i := by
  rw [ptW_in (n := 1024) _ _ rfl hk]
  by_cases e : i = k
  · subst e; rw [upd_at]; unfold imW; rw [if_pos (by omega)]
  · rw [upd_off _ _ _ _ e]; unfold imW
    by_cases h : i < k
    · rw [if_pos h, if_pos (by omega)]
    · rw [if_neg h, if_neg (by omega)]
theorem IntsIn.frb {k : IntKind} {w w' : World} {A : Option Addr} {len : Nat} {zs : Nat → Int} (h : IntsIn k w A len zs) (f : FrB w.heap.size w w') : IntsIn k w' A len zs := by
  intro j hj
  obtain ⟨b, o, e, hb, c, r⟩ := h j hj
  exact ⟨b, o, e, Nat.lt_of_lt_of_le hb f.size, by rw [f.cell _ _ hb]; exact c, r⟩
theorem Fresh.boxed {b d f B : Nat} {ws : Nat → Nat} {w v : World} (h : Fresh B b d 1024 ws f w v) (T : TypeId) (hB : B ≤ v.heap.size) :
    MFresh B v.heap.size b d ws f 0 w (v.alloc (.cells #[.pointer (some ⟨b, 0, none⟩), .int .i64 0] T)) := by
  obtain ⟨h1, h2, h3, h4, h5, h6⟩ := h
  have s : (v.alloc (.cells #[.pointer (some ⟨b, 0, none⟩), .int .i64 0] T)).heap.size = v.heap.size + 1 := by simp
  refine ⟨⟨?_, ?_, ?_, h1.frb (FrB.alloc v _) h5 h6, by omega, by omega, by decide⟩, h2.trans ((FrB.alloc v _).mono hB), ⟨hB, h3, h4⟩, by omega, by omega, by omega⟩
  · rw [World.cell?_alloc_at _ _ _ _ rfl]; rfl
  · rw [World.cell?_alloc_at _ _ _ _ rfl]; rfl
  · rw [World.frozen?_alloc_at _ _ _ _ rfl]
/-- what New tells of an image that fits: a new memory; the document's likewise -/
def MMade (w : World) (ws : Nat → Nat) (e : Ending) (w' : World) : Prop := ∃ M b d, e = .returned (.tuple #[.pointer (some ⟨M, 0, none⟩), .int .i64 0]) ∧ MFresh w.heap.size M b d ws 0 0 w w'
def RMade (w : World) (ws : Nat → Nat) (e : Ending) (w' : World) : Prop := ∃ M b d, e = .returned (.pointer (some ⟨M, 0, none⟩)) ∧ MFresh w.heap.size M b d ws 0 0 w w'
set_option maxHeartbeats 1000000 in
theorem mnew_long (A : Option Addr) (len cap : Nat) (hl : (1024 : Int) < len) (hx : (len : Int) ≤ 9223372036854775807) (w : World) :
    Calls Tryd.prog 10 #[.slice A len cap] w fun e w' => e = .returned (.tuple #[.pointer none, .int .i64 3]) ∧ w' = w := by
  go_enter Tryd.func10, Tryd.ntmps10
  go_wp2_with fail
  go_ret2
  exact ⟨rfl, rfl⟩
set_option maxHeartbeats 2000000 in
theorem mnew_ok (A : Option Addr) (len cap : Nat) (zs : Nat → Int) (hl : (len : Int) ≤ 1024) (w : World) (hL : Hid (Laid w)) (hA : Hid (IntsIn .u32 w A len zs)) :
    Calls Tryd.prog 10 #[.slice A len cap] w fun e w' => MMade w (imW zs len) e w' := by
  have B0 := hideP hL.out.pos
  go_enter Tryd.func10, Tryd.ntmps10
  go_wp2_with fail
  refine (new_n _ 1024 rfl (by decide) _ hL).mono ?_; rintro e w1 ⟨b, d, rfl, hF⟩
  have F1 : Hid (Fresh w.heap.size b d 1024 (imW zs 0) 0 w w1) := hF.congr (fun i _ => imW_0 zs i) rfl
  clear hF
  go_wp2_with fail
  go_loopw [13] (fun t wr => ∃ k : Nat, (k : Int) ≤ len ∧ t = .int .i64 k ∧ Hid (Fresh w.heap.size b d 1024 (imW zs k) 0 w wr)) (fun t _ => len - (intOf t).toNat)
  case atStart => exact ⟨0, by omega, rfl, F1⟩
  case round =>
    obtain ⟨k, hk, rfl, HF⟩ := hrel
    rename_i wr
    clear F1
    by_cases hlt : (k : Int) < len
    · obtain ⟨b0, o0, rfl, c0, hl0, hz⟩ := hA.out k (by omega)
      have hlk : wr.cell? ⟨b0, o0 + k, none⟩ = some (.int .u32 (zs k)) := by rw [HF.out.2.1.cell _ _ c0]; exact hl0
      have hzb := bounds_u32 hz
      have z0 := hideP hzb.1
      have z1 : Hid (zs k < 4294967296) := Int.lt_of_le_of_lt hzb.2 (by decide)
      have L := hideP (HF.out.laid hL.out B0.out)
      have KL : Hid (k < 1024) := by unfold Hid; omega
      clear hl0 c0 hz hzb
      go_wp2_with fail
      refine (put_as b d 1024 0 (imW zs k) _ _ _ (inB_yes (by omega) (by omega)) z0.out z1.out (by decide) _ L HF.out.1).mono ?_; rintro e w2 ⟨rfl, hF⟩
      have F2 := hideP (HF.out.now hF)
      clear hF
      go_wp2_with fail
      exact ⟨⟨k + 1, by omega, by rw [Int.natCast_add]; rfl, F2.out.congr (fun i _ => imW_put zs k KL.out i) rfl⟩, by simp [intOf]; omega⟩
    · have hkl : k = len := by omega
      subst hkl
      have HS := HF.out.2.1.size
      have HB := hideP (HF.out.boxed 60 HS)
      clear HS
      go_wp2_with fail
      go_ret2
      exact ⟨_, _, _, rfl, HB.out⟩
theorem refnew_n (i : Int) (n : Nat) (h : Hid ((n : Int) = i)) (hn : (n : Int) ≤ 2048) (w : World) : Calls Tryd.prog 34 #[.int .i64 i] w fun e w' => ∃ b d, e = .returned (.pointer (some ⟨b, 0, none⟩)) ∧ Fresh w.heap.size b d n w0 0 w w' := by
  have := refnew_ex i w
  have e : newN i = n := by have := h.out; unfold newN; omega
  rw [e] at this
  exact this
set_option maxHeartbeats 1000000 in
theorem rnew_long (A : Option Addr) (len cap : Nat) (hl : (1024 : Int) < len) (hx : (len : Int) ≤ 9223372036854775807) (w : World) :
    Calls Tryd.prog 17 #[.slice A len cap] w fun e w' => e = .returned (.pointer none) ∧ w' = w := by
  go_enter Tryd.func17, Tryd.ntmps17
  go_wp2_with fail
  go_ret
  exact ⟨rfl, rfl⟩
set_option maxHeartbeats 2000000 in
theorem rnew_ok (A : Option Addr) (len cap : Nat) (zs : Nat → Int) (hl : (len : Int) ≤ 1024) (w : World) (hA : Hid (IntsIn .u32 w A len zs)) :
    Calls Tryd.prog 17 #[.slice A len cap] w fun e w' => RMade w (imW zs len) e w' := by
  go_enter Tryd.func17, Tryd.ntmps17
  go_wp2_with fail
  refine (refnew_n _ 1024 rfl (by decide) _).mono ?_; rintro e w1 ⟨b, d, rfl, hF⟩
  have HB : Hid (MFresh w.heap.size w1.heap.size b d (imW zs 0) 0 0 w (w1.alloc (.cells #[.pointer (some ⟨b, 0, none⟩), .int .i64 0] 52))) := (Fresh.boxed (hF.congr (fun i _ => imW_0 zs i) rfl) 52 hF.2.1.size)
  clear hF
  go_wp2_with fail
  generalize w1.alloc (.cells #[.pointer (some ⟨b, 0, none⟩), .int .i64 0] 52) = w2 at *
  generalize w1.heap.size = M at *
  go_loopw [4] (fun t wr => ∃ k : Nat, (k : Int) ≤ len ∧ t = .int .i64 k ∧ Hid (MFresh w.heap.size M b d (imW zs k) 0 0 w wr)) (fun t _ => len - (intOf t).toNat)
  case atStart => exact ⟨0, by omega, rfl, HB⟩
  case round =>
    obtain ⟨k, hk, rfl, HF⟩ := hrel
    rename_i wr
    clear HB
    by_cases hlt : (k : Int) < len
    · obtain ⟨b0, o0, rfl, c0, hl0, hz⟩ := hA.out k (by omega)
      have hlk : wr.cell? ⟨b0, o0 + k, none⟩ = some (.int .u32 (zs k)) := by rw [HF.out.2.1.cell _ _ c0]; exact hl0
      have hr := HF.out.1.hr
      have hzb := bounds_u32 hz
      have z0 := hideP hzb.1
      have z1 : Hid (zs k < 4294967296) := Int.lt_of_le_of_lt hzb.2 (by decide)
      have KL : Hid (k < 1024) := by unfold Hid; omega
      clear hl0 c0 hz hzb
      go_wp2_with fail
      go_region_with (go_at_call 35; refine (refput_as b d 1024 0 (imW zs k) _ _ _ (inB_yes (by omega) (by omega)) z0.out z1.out (by decide) _ (by exact HF.out.1.row.heap rfl)).mono ?_; rintro e w3 ⟨rfl, hF⟩)
      all_goals
        have F2 := hideP (HF.out.now (HF.out.1.row_now hF.drew))
        clear hF
        go_wp2_with fail
        exact ⟨⟨k + 1, by omega, by rw [Int.natCast_add]; rfl, F2.out.congr (fun i _ => imW_put zs k KL.out i) rfl rfl⟩, by simp [intOf]; omega⟩
    · have hkl : k = len := by omega
      subst hkl
      go_wp2_with fail
      go_ret
      exact ⟨_, _, _, rfl, HF.out⟩
end Go.Proofs.YtekafmnpojbbdaaDoor.Walks
