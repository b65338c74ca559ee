/- Contracts of the document's own rows (dioscuriref1): New, Put, Get, Peek, Flip. -/
import Derived.Test.YtfhijdnbhbonpaaDoorRefMend
import Derived.Test.YtfhijdnbhbonpaaDoorMendsNum
namespace Go.Proofs.YtfhijdnbhbonpaaDoor.Walks
open Go.ChangeShapes Go.WideShapes Go.ChangeAt Go.RowKit
set_option linter.unusedVariables false
set_option maxHeartbeats 1000000 in
theorem refnew_over (i : Int) (n : Nat) (hn : (n : Int) ≤ 2048) (h : (i < 0 ∧ Hid (n = 0)) ∨ (0 ≤ i ∧ i ≤ 2048 ∧ Hid ((n : Int) = i)) ∨ (2048 < i ∧ Hid (n = 2048))) (w : World) :
    Calls Tryd.prog 32 #[.int .i64 i] w fun e w' => e = .returned (.pointer (some ⟨w.heap.size + 1, 0, none⟩)) ∧ NewW n w w' := by
  obtain ⟨c, hc0, hcs⟩ : ∃ c, madeCells #[Value.int .u64 0] n = c ∧ ∀ k, k < n → c[k]? = some (.int .u64 0) := ⟨_, rfl, made_get n⟩
  have HC : Hid (∀ k, k < n → c[k]? = some (.int .u64 0)) := hcs
  clear hcs
  have hmk0 := fun (i : Int) (h : (n : Int) = i) => make_as i n h hn
  rw [hc0] at hmk0
  have HMK := hideP hmk0
  clear hmk0 hc0
  rcases h with ⟨h0, h1⟩ | ⟨h0, h0', h1⟩ | ⟨h0, h1⟩
  · have hmk := HMK.out 0 (by have := h1.out; omega)
    clear HMK
    go_enter Tryd.func32, Tryd.ntmps32
    go_wp2_with fail
    go_ret
    exact ⟨rfl, NewW.mk w n c 73 HC.out⟩
  · have hmk := HMK.out i h1.out
    clear HMK
    go_enter Tryd.func32, Tryd.ntmps32
    go_wp2_with fail
    go_ret
    exact ⟨rfl, NewW.mk w n c 73 HC.out⟩
  · have hmk := HMK.out 2048 (by have := h1.out; omega)
    clear HMK
    go_enter Tryd.func32, Tryd.ntmps32
    go_wp2_with fail
    go_ret
    exact ⟨rfl, NewW.mk w n c 73 HC.out⟩
theorem refnew_ex (i : Int) (w : World) : Calls Tryd.prog 32 #[.int .i64 i] w fun e w' => ∃ b d, e = .returned (.pointer (some ⟨b, 0, none⟩)) ∧ Fresh w.heap.size b d (newN i) w0 0 w w' := by
  have := refnew_over i (newN i) (newN_le i) (by unfold Hid newN; omega) w
  exact this.mono fun e w' h => ⟨_, _, h.1, h.2.1, h.2.2.1, by omega, by omega, by rw [h.2.2.2]; omega, by rw [h.2.2.2]; omega⟩
set_option maxHeartbeats 1000000 in
theorem refget_low (b : Nat) (i : Int) (h : i < 0) (w : World) :
    Calls Tryd.prog 34 #[.pointer (some ⟨b, 0, none⟩), .int .i64 i] w fun e w' => e = .returned (.tuple #[.int .u32 0, .int .i64 2]) ∧ w'.Alike w := by
  go_enter Tryd.func34, Tryd.ntmps34
  go_wp2_with fail
  go_ret2
  exact ⟨rfl, rfl, rfl, rfl⟩
set_option maxHeartbeats 1000000 in
theorem refget_high (b d n : Nat) (i : Int) (h0 : 0 ≤ i) (h : (n : Int) ≤ i) (w : World) (hs : w.cell? ⟨b, 0, none⟩ = some (.slice (some ⟨d, 0, none⟩) n n)) :
    Calls Tryd.prog 34 #[.pointer (some ⟨b, 0, none⟩), .int .i64 i] w fun e w' => e = .returned (.tuple #[.int .u32 0, .int .i64 2]) ∧ w'.Alike w := by
  go_enter Tryd.func34, Tryd.ntmps34
  go_wp2_with fail
  go_ret2
  exact ⟨rfl, rfl, rfl, rfl⟩
set_option maxHeartbeats 1000000 in
theorem refget_plain (b d n k : Nat) (x s v y : Int) (hk : (k : Int) < n) (hn : (n : Int) ≤ 2048) (v0 : 0 ≤ v) (v1 : v < 549755813888) (Y : Hid (((Num.mendW v.toNat : Nat) : Int) = y)) (YX : Hid (y % 4294967296 = x)) (S : Hid (((Num.mendS v.toNat : Nat) : Int) = s)) (h1 : (s == 1) = false)
    (w : World) (hs : w.cell? ⟨b, 0, none⟩ = some (.slice (some ⟨d, 0, none⟩) n n)) (hw : w.cell? ⟨d, k, none⟩ = some (.int .u64 v)) :
    Calls Tryd.prog 34 #[.pointer (some ⟨b, 0, none⟩), .int .i64 (k : Int)] w fun e w' => e = .returned (.tuple #[.int .u32 x, .int .i64 s]) ∧ w'.Alike w := by
  go_enter Tryd.func34, Tryd.ntmps34
  go_wp2_with fail
  refine (refmend_as _ _ _ v0 (by omega) Y S _).mono ?_; rintro e w1 ⟨rfl, rfl⟩
  go_wp2_with fail
  go_ret2
  exact ⟨by rw [← YX.out]; rfl, rfl, rfl, rfl⟩
set_option maxHeartbeats 1000000 in
theorem refget_fix (b d n f k : Nat) (x v y : Int) (hbd : b ≠ d) (hk : (k : Int) < n) (hn : (n : Int) ≤ 2048) (hfl : (f : Int) ≤ 4611686018427387903) (v0 : 0 ≤ v) (v1 : v < 549755813888) (Y : Hid (((Num.mendW v.toNat : Nat) : Int) = y)) (YX : Hid (y % 4294967296 = x)) (S : Hid (((Num.mendS v.toNat : Nat) : Int) = 1))
    (w : World) (hs : w.cell? ⟨b, 0, none⟩ = some (.slice (some ⟨d, 0, none⟩) n n)) (hw : w.cell? ⟨d, k, none⟩ = some (.int .u64 v)) (hf : w.cell? ⟨b, 1, none⟩ = some (.int .i64 f)) (z1 : w.frozen? ⟨b, 1, none⟩ = false) (zk : w.frozen? ⟨d, k, none⟩ = false) :
    Calls Tryd.prog 34 #[.pointer (some ⟨b, 0, none⟩), .int .i64 (k : Int)] w fun e w' => e = .returned (.tuple #[.int .u32 x, .int .i64 1]) ∧ w'.Alike ((w.setCell ⟨d, k, none⟩ (.int .u64 y)).setCell ⟨b, 1, none⟩ (.int .i64 ((f : Int) + 1))) := by
  go_enter Tryd.func34, Tryd.ntmps34
  go_wp2_with fail
  refine (refmend_as _ _ _ v0 (by omega) Y S _).mono ?_; rintro e w1 ⟨rfl, rfl⟩
  go_wp2_with fail
  go_ret2
  exact ⟨by rw [← YX.out]; rfl, rfl, rfl, rfl⟩
set_option maxHeartbeats 1000000 in
theorem refput_low (b : Nat) (i v : Int) (h : i < 0) (w : World) :
    Calls Tryd.prog 36 #[.pointer (some ⟨b, 0, none⟩), .int .i64 i, .int .u32 v] w fun e w' => e = .returned (.bool false) ∧ w'.Alike w := by
  go_enter Tryd.func36, Tryd.ntmps36
  go_wp2_with fail
  go_ret
  exact ⟨rfl, rfl, rfl, rfl⟩
set_option maxHeartbeats 1000000 in
theorem refput_high (b d n : Nat) (i v : Int) (h0 : 0 ≤ i) (h : (n : Int) ≤ i) (w : World) (hs : w.cell? ⟨b, 0, none⟩ = some (.slice (some ⟨d, 0, none⟩) n n)) :
    Calls Tryd.prog 36 #[.pointer (some ⟨b, 0, none⟩), .int .i64 i, .int .u32 v] w fun e w' => e = .returned (.bool false) ∧ w'.Alike w := by
  go_enter Tryd.func36, Tryd.ntmps36
  go_wp2_with fail
  go_ret
  exact ⟨rfl, rfl, rfl, rfl⟩
set_option maxHeartbeats 1000000 in
theorem refput_in (b d n k : Nat) (v c x : Int) (hk : (k : Int) < n) (hn : (n : Int) ≤ 2048) (v0 : 0 ≤ v) (v1 : v < 4294967296) (C : Hid (((Num.enc v.toNat : Nat) : Int) = c))
    (w : World) (hs : w.cell? ⟨b, 0, none⟩ = some (.slice (some ⟨d, 0, none⟩) n n)) (hw : w.cell? ⟨d, k, none⟩ = some (.int .u64 x)) (zk : w.frozen? ⟨d, k, none⟩ = false) :
    Calls Tryd.prog 36 #[.pointer (some ⟨b, 0, none⟩), .int .i64 (k : Int), .int .u32 v] w fun e w' => e = .returned (.bool true) ∧ w'.Alike (w.setCell ⟨d, k, none⟩ (.int .u64 c)) := by
  go_enter Tryd.func36, Tryd.ntmps36
  go_wp2_with fail
  go_region_with (go_at_call 44; refine (refencode_as _ _ v0 v1 C _).mono ?_; rintro e w' ⟨rfl, rfl⟩)
  all_goals
    go_wp2_with fail
    go_ret
    exact ⟨rfl, rfl, rfl, rfl⟩
set_option maxHeartbeats 1000000 in
theorem refflip_low (b : Nat) (i : Int) (h : i < 0) (w : World) :
    Calls Tryd.prog 19 #[.pointer (some ⟨b, 0, none⟩), .int .i64 i] w fun e w' => e = .returned (.bool false) ∧ w'.Alike w := by
  go_enter Tryd.func19, Tryd.ntmps19
  go_wp2_with fail
  go_ret
  exact ⟨rfl, rfl, rfl, rfl⟩
set_option maxHeartbeats 1000000 in
theorem refflip_high (b d n : Nat) (i : Int) (h0 : 0 ≤ i) (h1 : 39 * (n : Int) ≤ i) (hn : (n : Int) ≤ 2048) (w : World) (hs : w.cell? ⟨b, 0, none⟩ = some (.slice (some ⟨d, 0, none⟩) n n)) :
    Calls Tryd.prog 19 #[.pointer (some ⟨b, 0, none⟩), .int .i64 i] w fun e w' => e = .returned (.bool false) ∧ w'.Alike w := by
  go_enter Tryd.func19, Tryd.ntmps19
  go_wp2_with fail
  go_ret
  exact ⟨rfl, rfl, rfl, rfl⟩
set_option maxHeartbeats 2000000 in
theorem refflip_in (b d n k o : Nat) (i x y : Int) (h0 : 0 ≤ i) (h1 : i < 39 * (n : Int)) (hn : (n : Int) ≤ 2048) (hq : i / 39 = (k : Int)) (hr : i % 39 = (o : Int)) (hk : (k : Int) < n) (ho : (o : Int) < 39)
    (Y : Hid (bits .xor .u64 x (IntKind.u64.wrap (2 ^ o)) = y))
    (w : World) (hs : w.cell? ⟨b, 0, none⟩ = some (.slice (some ⟨d, 0, none⟩) n n)) (hw : w.cell? ⟨d, k, none⟩ = some (.int .u64 x)) (zk : w.frozen? ⟨d, k, none⟩ = false) :
    Calls Tryd.prog 19 #[.pointer (some ⟨b, 0, none⟩), .int .i64 i] w fun e w' => e = .returned (.bool true) ∧ w'.Alike (w.setCell ⟨d, k, none⟩ (.int .u64 y)) := by
  go_enter Tryd.func19, Tryd.ntmps19
  go_wp2_with fail
  go_region
  all_goals
    go_wp2_with fail
    go_ret
    rw [← Y.out]
    exact ⟨rfl, rfl, rfl, rfl⟩
end Go.Proofs.YtfhijdnbhbonpaaDoor.Walks
