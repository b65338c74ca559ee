/- Contracts of a row's Put and Flip. -/
import Derived.Test.YtfhijdnbhbonpaaDoorRowGet
import Derived.Deep.RegionWith
import Derived.BigRegion
namespace Go.Proofs.YtfhijdnbhbonpaaDoor.Walks
open Go.ChangeShapes Go.WideShapes Go.ChangeAt Go.RowKit
set_option linter.unusedVariables false
set_option maxHeartbeats 1000000 in
theorem put_out (b d n : Nat) (i v : Int) (G : Hid (inB n i = false)) (hn : (n : Int) ≤ 2048) (w : World) (hs : w.cell? ⟨b, 0, none⟩ = some (.slice (some ⟨d, 0, none⟩) n n)) :
    Calls Tryd.prog 26 #[.pointer (some ⟨b, 0, none⟩), .int .i64 i, .int .u32 v] w fun e w' => e = .returned (.bool false) ∧ w'.Alike w := by
  go_enter Tryd.func26, Tryd.ntmps26
  go_wp2_with fail
  refine (has_as b d n _ false G hn _ hs).mono ?_; rintro e w' ⟨rfl, rfl⟩
  go_wp2_with fail
  go_ret
  exact ⟨rfl, rfl, rfl, rfl⟩
set_option maxHeartbeats 1000000 in
theorem put_in (b d n k : Nat) (v c x : Int) (hk : (k : Int) < n) (hn : (n : Int) ≤ 2048) (v0 : 0 ≤ v) (v1 : v < 4294967296) (C : Hid (((Num.enc v.toNat : Nat) : Int) = c))
    (w : World) (hL : Hid (Laid w)) (hs : w.cell? ⟨b, 0, none⟩ = some (.slice (some ⟨d, 0, none⟩) n n)) (hw : w.cell? ⟨d, k, none⟩ = some (.int .u64 x)) (zk : w.frozen? ⟨d, k, none⟩ = false) :
    Calls Tryd.prog 26 #[.pointer (some ⟨b, 0, none⟩), .int .i64 (k : Int), .int .u32 v] w fun e w' => e = .returned (.bool true) ∧ w'.Alike (w.setCell ⟨d, k, none⟩ (.int .u64 c)) := by
  go_enter Tryd.func26, Tryd.ntmps26
  go_wp2_with fail
  refine (has_as b d n _ true (inB_yes (by omega) hk) hn _ hs).mono ?_; rintro e w' ⟨rfl, rfl⟩
  go_wp2_with fail
  go_region_with (go_at_call 38; refine (encode_as _ _ v0 v1 C _ (by exact Laid.alike hL.out ⟨rfl, rfl, rfl⟩)).mono ?_; rintro e w' ⟨rfl, rfl⟩)
  all_goals
    go_wp2_with fail
    go_ret
    exact ⟨rfl, rfl, rfl, rfl⟩
set_option maxHeartbeats 1000000 in
theorem flip_low (b : Nat) (i : Int) (h : i < 0) (w : World) :
    Calls Tryd.prog 27 #[.pointer (some ⟨b, 0, none⟩), .int .i64 i] w fun e w' => e = .returned (.bool false) ∧ w'.Alike w := by
  go_enter Tryd.func27, Tryd.ntmps27
  go_wp2_with fail
  go_ret
  exact ⟨rfl, rfl, rfl, rfl⟩
set_option maxHeartbeats 1000000 in
theorem flip_high (b d n : Nat) (i : Int) (h0 : 0 ≤ i) (h1 : (n : Int) * 39 ≤ i) (hn : (n : Int) ≤ 2048) (w : World) (hs : w.cell? ⟨b, 0, none⟩ = some (.slice (some ⟨d, 0, none⟩) n n)) :
    Calls Tryd.prog 27 #[.pointer (some ⟨b, 0, none⟩), .int .i64 i] w fun e w' => e = .returned (.bool false) ∧ w'.Alike w := by
  go_enter Tryd.func27, Tryd.ntmps27
  go_wp2_with fail
  refine (bits_as b d n hn _ hs).mono ?_; rintro e w' ⟨rfl, rfl⟩
  go_wp2_with fail
  go_ret
  exact ⟨rfl, rfl, rfl, rfl⟩
set_option maxHeartbeats 1000000 in
theorem flip_in (b d n k o : Nat) (i x y : Int) (h0 : 0 ≤ i) (h1 : i < (n : Int) * 39) (hn : (n : Int) ≤ 2048) (hq : i / 39 = (k : Int)) (hr : i % 39 = (o : Int)) (hk : (k : Int) < n) (ho : (o : Int) < 39)
    (Y : Hid (bits .xor .u64 x (IntKind.u64.wrap (2 ^ o)) = y))
    (w : World) (hs : w.cell? ⟨b, 0, none⟩ = some (.slice (some ⟨d, 0, none⟩) n n)) (hw : w.cell? ⟨d, k, none⟩ = some (.int .u64 x)) (zk : w.frozen? ⟨d, k, none⟩ = false) :
    Calls Tryd.prog 27 #[.pointer (some ⟨b, 0, none⟩), .int .i64 i] w fun e w' => e = .returned (.bool true) ∧ w'.Alike (w.setCell ⟨d, k, none⟩ (.int .u64 y)) := by
  go_enter Tryd.func27, Tryd.ntmps27
  go_wp2_with fail
  refine (bits_as b d n hn _ hs).mono ?_; rintro e w' ⟨rfl, rfl⟩
  go_wp2_with fail
  go_region
  all_goals
    go_wp2_with fail
    go_ret
    rw [← Y.out]
    exact ⟨rfl, rfl, rfl, rfl⟩
end Go.Proofs.YtfhijdnbhbonpaaDoor.Walks
