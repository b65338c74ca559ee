/- Contract of word.New. -/
import Derived.Test.YtfhijdnbhbonpaaDoorRowSet
import Derived.Deep.OwnRows
namespace Go.Proofs.YtfhijdnbhbonpaaDoor.Walks
open Go.ChangeShapes Go.WideShapes Go.ChangeAt Go.RowKit
set_option linter.unusedVariables false
/-- below block B nothing has turned -/
structure FrB (B : Nat) (w w' : World) : Prop where
  os : w'.os = w.os
  output : w'.output = w.output
  size : w.heap.size ≤ w'.heap.size
  block : ∀ k, k < B → w'.heap[k]? = w.heap[k]?
theorem FrB.refl (B : Nat) (w : World) : FrB B w w := ⟨rfl, rfl, Nat.le_refl _, fun _ _ => rfl⟩
theorem FrB.trans {B : Nat} {u v w : World} (h : FrB B u v) (k : FrB B v w) : FrB B u w :=
  ⟨k.os.trans h.os, k.output.trans h.output, Nat.le_trans h.size k.size, fun i hi => (k.block i hi).trans (h.block i hi)⟩
theorem FrB.mono {B B' : Nat} {w w' : World} (h : FrB B w w') (hB : B' ≤ B) : FrB B' w w' := ⟨h.os, h.output, h.size, fun k hk => h.block k (by omega)⟩
theorem FrB.alike {B : Nat} {w w' : World} (h : w'.Alike w) : FrB B w w' := ⟨h.2.1, h.2.2, by rw [h.1]; exact Nat.le_refl _, fun _ _ => by rw [h.1]⟩
theorem FrB.touch {B b d : Nat} {w w' : World} (h : Touch b d w w') (hb : B ≤ b) (hd : B ≤ d) : FrB B w w' := ⟨h.os, h.output, by rw [h.size]; exact Nat.le_refl _, fun k hk => h.block k (by omega) (by omega)⟩
theorem FrB.alloc (w : World) (o : Obj) : FrB w.heap.size w (w.alloc o) := ⟨rfl, rfl, by simp, fun k hk => Below.heap_alloc _ _ _ hk⟩
theorem FrB.cell {B : Nat} {w w' : World} (h : FrB B w w') (k o : Nat) (hk : k < B) : w'.cell? ⟨k, o, none⟩ = w.cell? ⟨k, o, none⟩ := World.cell?_of_block (w := w) (h.block k hk)
theorem FrB.frozen {B : Nat} {w w' : World} (h : FrB B w w') (k o : Nat) (hk : k < B) : w'.frozen? ⟨k, o, none⟩ = w.frozen? ⟨k, o, none⟩ := World.frozen?_of_block (w := w) (h.block k hk)
theorem Laid.pos {w : World} (h : Laid w) : 0 < w.heap.size := by
  obtain ⟨t, fr, hg⟩ := h
  by_cases e : 0 < w.heap.size
  · exact e
  · rw [Array.getElem?_eq_none (by omega)] at hg; cases hg
theorem FrB.laid {B : Nat} {w w' : World} (h : FrB B w w') (hL : Laid w) (hB : 0 < B) : Laid w' := by
  obtain ⟨t, fr, hg⟩ := hL
  exact ⟨t, fr, by rw [h.block 0 hB]; exact hg⟩
theorem RowAt.frb {b d n f B : Nat} {ws : Nat → Nat} {w w' : World} (h : RowAt b d n ws f w) (ht : FrB B w w') (h1 : b < B) (h2 : d < B) : RowAt b d n ws f w' :=
  ⟨by rw [ht.cell _ _ h1]; exact h.hs, by rw [ht.cell _ _ h1]; exact h.hf, fun i hi => by rw [ht.cell _ _ h2]; exact h.hw i hi,
    by rw [ht.frozen _ _ h1]; exact h.z1, fun i hi => by rw [ht.frozen _ _ h2]; exact h.zw i hi, h.ne, h.lt⟩
theorem info47 : (Tryd.prog.info? 74).map (fun i => (i.zero, i.size, i.bytes)) = some (some (.int .u64 0), 1, 8) := by kernel_rfl
theorem hideP {p : Prop} (h : p) : Hid p := h
/-- how many words New(i) makes -/
def newN (i : Int) : Nat := (min (max i 0) 2048).toNat
theorem newN_le (i : Int) : (newN i : Int) ≤ 2048 := by unfold newN; omega
theorem made_get (n k : Nat) (h : k < n) : (madeCells #[Value.int .u64 0] n)[k]? = some (.int .u64 0) := by simp [madeCells, h, Nat.mod_one]
theorem make_as (i : Int) (n : Nat) (h : (n : Int) = i) (hn : (n : Int) ≤ 2048) (w : World) :
    (Instr.makeSlice 71 (.int .i64 i) (.int .i64 i)).run Tryd.prog w = .ok (.slice (some ⟨w.heap.size, 0, none⟩) n n) (w.alloc (.cells (madeCells #[.int .u64 0] n) 74)) := by
  subst h
  exact run_make_row' (P := Tryd.prog) 71 74 (.int .u64 0) 8 Tryd.underlying71 info47 rfl .i64 .i64 n (by omega) (by omega) w
theorem set_zero (c : Array Value) (k : Nat) (v : Value) (h : c[k]? = some v) : c.setIfInBounds k v = c := by
  apply Array.ext_getElem?
  intro j
  rw [Array.getElem?_setIfInBounds]
  by_cases e : k = j
  · subst e
    rw [if_pos rfl, h]
    have : k < c.size := by
      by_cases x : k < c.size
      · exact x
      · rw [Array.getElem?_eq_none (by omega)] at h; cases h
    rw [if_pos this]
  · rw [if_neg e]
theorem RowAt.made (w : World) (n : Nat) (c : Array Value) (T : TypeId) (hc : ∀ k, k < n → c[k]? = some (.int .u64 0)) :
    RowAt (w.heap.size + 1) w.heap.size n (fun _ => 0) 0 ((w.alloc (.cells c 74)).alloc (.cells #[.slice (some ⟨w.heap.size, 0, none⟩) n n, .int .i64 0] T)) := by
  have s : (w.alloc (.cells c 74)).heap.size = w.heap.size + 1 := by simp
  refine ⟨?_, ?_, fun i hi => ?_, ?_, fun i hi => ?_, by omega, fun i hi => by decide⟩
  · rw [World.cell?_alloc_at _ _ _ _ s.symm]; rfl
  · rw [World.cell?_alloc_at _ _ _ _ s.symm]; rfl
  · rw [World.cell?_alloc_past _ _ _ (by rw [s]; omega), World.cell?_alloc_at _ _ _ _ rfl, hc i hi]; rfl
  · rw [World.frozen?_alloc_at _ _ _ _ s.symm]
  · rw [World.frozen?_alloc_past _ _ _ (by rw [s]; omega), World.frozen?_alloc_at _ _ _ _ rfl]
/-- what New's world is -/
def NewW (n : Nat) (w w' : World) : Prop := RowAt (w.heap.size + 1) w.heap.size n (fun _ => 0) 0 w' ∧ FrB w.heap.size w w' ∧ w'.heap.size = w.heap.size + 2
theorem NewW.mk (w : World) (n : Nat) (c : Array Value) (T : TypeId) (hc : ∀ k, k < n → c[k]? = some (.int .u64 0)) :
    NewW n w ((w.alloc (.cells c 74)).alloc (.cells #[.slice (some ⟨w.heap.size, 0, none⟩) n n, .int .i64 0] T)) :=
  ⟨RowAt.made w n c T hc, (FrB.alloc w _).trans ((FrB.alloc _ _).mono (by simp)), by simp⟩
set_option maxHeartbeats 1000000 in
theorem new_over (i : Int) (n : Nat) (hn : (n : Int) ≤ 2048) (h : (i < 0 ∧ Hid (n = 0)) ∨ (0 ≤ i ∧ i ≤ 2048 ∧ Hid ((n : Int) = i)) ∨ (2048 < i ∧ Hid (n = 2048))) (w : World) (hL : Hid (Laid w)) :
    Calls Tryd.prog 22 #[.int .i64 i] w fun e w' => e = .returned (.pointer (some ⟨w.heap.size + 1, 0, none⟩)) ∧ NewW n w w' := by
  obtain ⟨c, hc0, hcs⟩ : ∃ c, madeCells #[Value.int .u64 0] n = c ∧ ∀ k, k < n → c[k]? = some (.int .u64 0) := ⟨_, rfl, made_get n⟩
  have HC : Hid (∀ k, k < n → c[k]? = some (.int .u64 0)) := hcs
  have e0 : Hid (((Num.enc (0 : Int).toNat : Nat) : Int) = 0) := by unfold Hid; decide +kernel
  have hL1 : Hid (Laid (w.alloc (.cells c 74))) := (FrB.alloc w _).laid hL.out hL.out.pos
  clear hcs
  have hmk0 := fun (i : Int) (h : (n : Int) = i) => make_as i n h hn
  rw [hc0] at hmk0
  have HMK := hideP hmk0
  clear hmk0 hc0
  have hz : ∀ k : Nat, (k : Int) < n → c.setIfInBounds k (.int .u64 0) = c := fun k hk => set_zero c k _ (HC.out k (by omega))
  have HZ := hideP hz
  clear hz
  rcases h with ⟨h0, h1⟩ | ⟨h0, h0', h1⟩ | ⟨h0, h1⟩
  · have hmk := HMK.out 0 (by have := h1.out; omega)
    clear HMK
    go_enter Tryd.func22, Tryd.ntmps22
    go_wp2_with fail
    go_loopw [11] (fun t wr => ∃ k : Nat, (k : Int) ≤ n ∧ t = .int .i64 k ∧ wr = w.alloc (.cells c 74)) (fun t _ => n - (intOf t).toNat)
    case atStart => exact ⟨0, by omega, rfl, rfl⟩
    case round =>
      obtain ⟨k, hk, rfl, rfl⟩ := hrel
      by_cases hlt : (k : Int) < n
      · have hck := HC.out k (by omega)
        have hse := HZ.out k hlt
        go_wp2_with fail
        refine (encode_as _ _ (by decide) (by decide) e0 _ hL1).mono ?_; rintro e w' ⟨rfl, rfl⟩
        go_wp2_with fail
        exact ⟨⟨k + 1, by omega, by rw [Int.natCast_add]; rfl, by first | trivial | rfl⟩, by simp [intOf]; omega⟩
      · go_wp2_with fail
        go_ret
        exact ⟨rfl, NewW.mk w n c 78 HC.out⟩
  · have hmk := HMK.out i h1.out
    clear HMK
    go_enter Tryd.func22, Tryd.ntmps22
    go_wp2_with fail
    go_loopw [11] (fun t wr => ∃ k : Nat, (k : Int) ≤ n ∧ t = .int .i64 k ∧ wr = w.alloc (.cells c 74)) (fun t _ => n - (intOf t).toNat)
    case atStart => exact ⟨0, by omega, rfl, rfl⟩
    case round =>
      obtain ⟨k, hk, rfl, rfl⟩ := hrel
      by_cases hlt : (k : Int) < n
      · have hck := HC.out k (by omega)
        have hse := HZ.out k hlt
        go_wp2_with fail
        refine (encode_as _ _ (by decide) (by decide) e0 _ hL1).mono ?_; rintro e w' ⟨rfl, rfl⟩
        go_wp2_with fail
        exact ⟨⟨k + 1, by omega, by rw [Int.natCast_add]; rfl, by first | trivial | rfl⟩, by simp [intOf]; omega⟩
      · go_wp2_with fail
        go_ret
        exact ⟨rfl, NewW.mk w n c 78 HC.out⟩
  · have hmk := HMK.out 2048 (by have := h1.out; omega)
    clear HMK
    go_enter Tryd.func22, Tryd.ntmps22
    go_wp2_with fail
    go_loopw [11] (fun t wr => ∃ k : Nat, (k : Int) ≤ n ∧ t = .int .i64 k ∧ wr = w.alloc (.cells c 74)) (fun t _ => n - (intOf t).toNat)
    case atStart => exact ⟨0, by omega, rfl, rfl⟩
    case round =>
      obtain ⟨k, hk, rfl, rfl⟩ := hrel
      by_cases hlt : (k : Int) < n
      · have hck := HC.out k (by omega)
        have hse := HZ.out k hlt
        go_wp2_with fail
        refine (encode_as _ _ (by decide) (by decide) e0 _ hL1).mono ?_; rintro e w' ⟨rfl, rfl⟩
        go_wp2_with fail
        exact ⟨⟨k + 1, by omega, by rw [Int.natCast_add]; rfl, by first | trivial | rfl⟩, by simp [intOf]; omega⟩
      · go_wp2_with fail
        go_ret
        exact ⟨rfl, NewW.mk w n c 78 HC.out⟩
theorem new_as (i : Int) (w : World) (hL : Hid (Laid w)) : Calls Tryd.prog 22 #[.int .i64 i] w fun e w' => e = .returned (.pointer (some ⟨w.heap.size + 1, 0, none⟩)) ∧ NewW (newN i) w w' := by
  refine new_over i (newN i) (newN_le i) ?_ w hL
  unfold Hid newN
  omega
end Go.Proofs.YtfhijdnbhbonpaaDoor.Walks
