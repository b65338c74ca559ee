/- What a row of code words is in memory, and the contracts of its readers: has, Len, Bits, Fixes. -/
import Derived.Test.YtfhijdnbhbonpaaDoorMend
import Derived.Below
namespace Go.Proofs.YtfhijdnbhbonpaaDoor.Walks
open Go.ChangeShapes Go.WideShapes Go.ChangeAt Go.RowKit
set_option linter.unusedVariables false
/-- a row lies at block b, its n words at block d -/
structure RowAt (b d n : Nat) (ws : Nat → Nat) (f : Nat) (w : World) : Prop where
  hs : w.cell? ⟨b, 0, none⟩ = some (.slice (some ⟨d, 0, none⟩) n n)
  hf : w.cell? ⟨b, 1, none⟩ = some (.int .i64 f)
  hw : ∀ i, i < n → w.cell? ⟨d, i, none⟩ = some (.int .u64 (ws i))
  z1 : w.frozen? ⟨b, 1, none⟩ = false
  zw : ∀ i, i < n → w.frozen? ⟨d, i, none⟩ = false
  ne : b ≠ d
  lt : ∀ i, i < n → ws i < 549755813888
/-- nothing but the blocks b and d has turned -/
structure Touch (b d : Nat) (w w' : World) : Prop where
  os : w'.os = w.os
  output : w'.output = w.output
  size : w'.heap.size = w.heap.size
  block : ∀ k, k ≠ b → k ≠ d → w'.heap[k]? = w.heap[k]?
theorem Touch.of_alike {b d : Nat} {w w' : World} (h : w'.Alike w) : Touch b d w w' := ⟨h.2.1, h.2.2, by rw [h.1], fun _ _ _ => by rw [h.1]⟩
theorem Touch.trans {b d : Nat} {u v w : World} (h : Touch b d u v) (k : Touch b d v w) : Touch b d u w :=
  ⟨k.os.trans h.os, k.output.trans h.output, k.size.trans h.size, fun i h1 h2 => (k.block i h1 h2).trans (h.block i h1 h2)⟩
theorem Touch.cell {b d : Nat} {w w' : World} (h : Touch b d w w') (k o : Nat) (h1 : k ≠ b) (h2 : k ≠ d) : w'.cell? ⟨k, o, none⟩ = w.cell? ⟨k, o, none⟩ := World.cell?_of_block (w := w) (h.block k h1 h2)
theorem Touch.frozen {b d : Nat} {w w' : World} (h : Touch b d w w') (k o : Nat) (h1 : k ≠ b) (h2 : k ≠ d) : w'.frozen? ⟨k, o, none⟩ = w.frozen? ⟨k, o, none⟩ := World.frozen?_of_block (w := w) (h.block k h1 h2)
theorem Touch.laid {b d : Nat} {w w' : World} (h : Touch b d w w') (hL : Laid w) (h1 : 0 ≠ b) (h2 : 0 ≠ d) : Laid w' := by
  obtain ⟨t, fr, hg⟩ := hL
  exact ⟨t, fr, by rw [h.block 0 h1 h2]; exact hg⟩
theorem RowAt.heap {b d n f : Nat} {ws : Nat → Nat} {w w' : World} (h : RowAt b d n ws f w) (hh : w'.heap = w.heap) : RowAt b d n ws f w' := by
  have c : ∀ k o, w'.cell? ⟨k, o, none⟩ = w.cell? ⟨k, o, none⟩ := fun k o => World.cell?_of_block (w := w) (by rw [hh])
  have z : ∀ k o, w'.frozen? ⟨k, o, none⟩ = w.frozen? ⟨k, o, none⟩ := fun k o => World.frozen?_of_block (w := w) (by rw [hh])
  exact ⟨by rw [c]; exact h.hs, by rw [c]; exact h.hf, fun i hi => by rw [c]; exact h.hw i hi, by rw [z]; exact h.z1, fun i hi => by rw [z]; exact h.zw i hi, h.ne, h.lt⟩
theorem RowAt.far {b d n f b' d' : Nat} {ws : Nat → Nat} {w w' : World} (h : RowAt b d n ws f w) (ht : Touch b' d' w w') (h1 : b ≠ b') (h2 : b ≠ d') (h3 : d ≠ b') (h4 : d ≠ d') : RowAt b d n ws f w' :=
  ⟨by rw [ht.cell _ _ h1 h2]; exact h.hs, by rw [ht.cell _ _ h1 h2]; exact h.hf, fun i hi => by rw [ht.cell _ _ h3 h4]; exact h.hw i hi,
    by rw [ht.frozen _ _ h1 h2]; exact h.z1, fun i hi => by rw [ht.frozen _ _ h3 h4]; exact h.zw i hi, h.ne, h.lt⟩
/-- is there a word i? -/
def inB (n : Nat) (i : Int) : Bool := decide (0 ≤ i) && decide (i < n)
theorem inB_yes {n : Nat} {i : Int} (h0 : 0 ≤ i) (h1 : i < n) : inB n i = true := by simp [inB, h0, h1]
theorem inB_low {n : Nat} {i : Int} (h0 : i < 0) : inB n i = false := by simp [inB]; omega
theorem inB_high {n : Nat} {i : Int} (h0 : (n : Int) ≤ i) : inB n i = false := by simp [inB]; omega
set_option maxHeartbeats 400000 in
theorem has_as (b d n : Nat) (i : Int) (g : Bool) (G : Hid (inB n i = g)) (hn : (n : Int) ≤ 2048) (w : World) (hs : w.cell? ⟨b, 0, none⟩ = some (.slice (some ⟨d, 0, none⟩) n n)) :
    Calls Tryd.prog 41 #[.pointer (some ⟨b, 0, none⟩), .int .i64 i] w fun e w' => e = .returned (.bool g) ∧ w' = w := by
  rw [← G.out]
  by_cases h0 : i < 0
  · rw [inB_low h0]
    go_enter Tryd.func41, Tryd.ntmps41
    go_wp2
    go_ret
    exact ⟨rfl, rfl⟩
  · by_cases h1 : i < n
    · rw [inB_yes (by omega) h1]
      go_enter Tryd.func41, Tryd.ntmps41
      go_wp2
      go_ret
      exact ⟨rfl, rfl⟩
    · rw [inB_high (by omega)]
      go_enter Tryd.func41, Tryd.ntmps41
      go_wp2
      go_ret
      exact ⟨rfl, rfl⟩
set_option maxHeartbeats 400000 in
theorem bits_as (b d n : Nat) (hn : (n : Int) ≤ 2048) (w : World) (hs : w.cell? ⟨b, 0, none⟩ = some (.slice (some ⟨d, 0, none⟩) n n)) :
    Calls Tryd.prog 37 #[.pointer (some ⟨b, 0, none⟩)] w fun e w' => e = .returned (.int .i64 (n * 39)) ∧ w' = w := by
  go_enter Tryd.func37, Tryd.ntmps37
  go_wp2
  go_ret
  exact ⟨rfl, rfl⟩
end Go.Proofs.YtfhijdnbhbonpaaDoor.Walks
