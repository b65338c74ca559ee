/- The contracts of a row's methods in one form each: what is told, what the row is behind the call, that nothing else has turned. -/
import Derived.Test.YtfhijdnbhbonpaaDoorRowNew
namespace Go.Proofs.YtfhijdnbhbonpaaDoor.Num
theorem mendW_lt (w : Nat) : mendW w < 549755813888 := by
  unfold mendW
  have h : w % 549755813888 < 549755813888 := Nat.mod_lt _ (by decide)
  split
  · exact h
  · split
    · rename_i b hb
      exact xor39 h (bit_lt b (plc_some hb).1)
    · exact h
theorem mendS_le (w : Nat) : mendS w ≤ 2 := by
  unfold mendS
  split
  · decide
  · split <;> decide
end Go.Proofs.YtfhijdnbhbonpaaDoor.Num
namespace Go.Proofs.YtfhijdnbhbonpaaDoor.Walks
open Go.ChangeShapes Go.WideShapes Go.ChangeAt Go.RowKit
set_option linter.unusedVariables false
/-- the words behind Put(i, v), Flip(i) -/
def ptW (n : Nat) (ws : Nat → Nat) (i : Int) (v : Nat) : Nat → Nat := if inB n i then upd ws i.toNat (Num.enc v) else ws
def inF (n : Nat) (i : Int) : Bool := inB (n * 39) i
def flW (n : Nat) (ws : Nat → Nat) (i : Int) : Nat → Nat := if inF n i then upd ws (i / 39).toNat (ws (i / 39).toNat ^^^ 2 ^ (i % 39).toNat) else ws
theorem inB_cases (n : Nat) (i : Int) : (inB n i = false ∧ (i < 0 ∨ (n : Int) ≤ i)) ∨ (inB n i = true ∧ ∃ k : Nat, i = (k : Int) ∧ k < n) := by
  by_cases h0 : i < 0
  · exact Or.inl ⟨inB_low h0, Or.inl h0⟩
  · by_cases h1 : i < n
    · exact Or.inr ⟨inB_yes (by omega) h1, i.toNat, by omega, by omega⟩
    · exact Or.inl ⟨inB_high (by omega), Or.inr (by omega)⟩
/-- a row that was told of is as it says, and nothing else has turned -/
def Now (b d n : Nat) (ws : Nat → Nat) (f : Nat) (w w' : World) : Prop := RowAt b d n ws f w' ∧ Touch b d w w'
theorem Now.alike {b d n f : Nat} {ws : Nat → Nat} {w w' : World} (h : RowAt b d n ws f w) (ha : w'.Alike w) : Now b d n ws f w w' := ⟨h.heap ha.1, Touch.of_alike ha⟩
theorem Now.of {b d n f : Nat} {ws : Nat → Nat} {w v w' : World} (h : RowAt b d n ws f v) (t : Touch b d w v) (ha : w'.Alike v) : Now b d n ws f w w' := ⟨h.heap ha.1, t.trans (Touch.of_alike ha)⟩
theorem get_as (b d n f : Nat) (ws : Nat → Nat) (i x s : Int) (X : Hid (((pkV n ws i : Nat) : Int) = x)) (S : Hid (((pkS n ws i : Nat) : Int) = s)) (hn : (n : Int) ≤ 2048) (hf : (f : Int) < 4611686018427387904) (w : World) (hL : Hid (Laid w)) (hR : Hid (RowAt b d n ws f w)) :
    Calls Tryd.prog 40 #[.pointer (some ⟨b, 0, none⟩), .int .i64 i] w fun e w' => e = .returned (.tuple #[.int .u32 x, .int .i64 s]) ∧ Now b d n (gtW n ws i) (gtF n ws f i) w w' := by
  have R := hR.out
  have X := X.out
  have S := S.out
  unfold pkV at X
  unfold pkS at S
  unfold gtW gtF
  rcases inB_cases n i with ⟨g, _⟩ | ⟨g, k, rfl, hk⟩
  · rw [g] at X S ⊢
    subst X S
    exact (get_out b d n i g hn w R.hs).mono fun e w' h => ⟨h.1, Now.alike R h.2⟩
  · rw [g] at X S ⊢
    rw [if_pos rfl, Int.toNat_natCast] at X S
    rw [Int.toNat_natCast]
    have l := R.lt k hk
    rw [Bool.true_and]
    have MX : Hid (((Num.mendW (ws k) : Nat) : Int) % 4294967296 = x) := by
      unfold Hid
      rw [← X]
      generalize Num.mendW (ws k) = y
      omega
    have MW : Hid (((Num.mendW (((ws k : Nat) : Int)).toNat : Nat) : Int) = (Num.mendW (ws k) : Nat)) := by unfold Hid; rw [Int.toNat_natCast]
    by_cases h1 : Num.mendS (ws k) = 1
    · rw [h1] at S
      rw [if_pos (by rw [h1]; rfl), if_pos (by rw [h1]; rfl)]
      subst S
      refine (get_fix b d n f k x (ws k : Nat) (Num.mendW (ws k) : Nat) R.ne (by omega) hn hf (by omega) (by omega) MW MX (by unfold Hid; rw [Int.toNat_natCast, h1]; rfl) w hL R.hs (R.hw k hk) R.hf R.z1 (R.zw k hk)).mono ?_
      rintro e w' ⟨rfl, ha⟩
      exact ⟨rfl, Now.of ((R.put k _ hk (Num.mendW_lt _)).fix (f + 1)) ((Touch.set_d b d w k _).trans (Touch.set_b b d _ 1 _)) ha⟩
    · have h2 : ¬ ((Num.mendS (ws k) == 1) = true) := by simpa using h1
      rw [if_neg h2, if_neg h2]
      refine (get_plain b d n k x s (ws k : Nat) (Num.mendW (ws k) : Nat) (by omega) hn (by omega) (by omega) MW MX (by unfold Hid; rw [Int.toNat_natCast]; exact S) (by rw [← S, beq_eq_false_iff_ne]; omega) w hL R.hs (R.hw k hk)).mono ?_
      rintro e w' ⟨rfl, ha⟩
      exact ⟨rfl, Now.alike R ha⟩
theorem put_as (b d n f : Nat) (ws : Nat → Nat) (i v : Int) (g : Bool) (G : Hid (inB n i = g)) (v0 : 0 ≤ v) (v1 : v < 4294967296) (hn : (n : Int) ≤ 2048) (w : World) (hL : Hid (Laid w)) (hR : Hid (RowAt b d n ws f w)) :
    Calls Tryd.prog 26 #[.pointer (some ⟨b, 0, none⟩), .int .i64 i, .int .u32 v] w fun e w' => e = .returned (.bool g) ∧ Now b d n (ptW n ws i v.toNat) f w w' := by
  have R := hR.out
  have G := G.out
  unfold ptW
  rcases inB_cases n i with ⟨h, _⟩ | ⟨h, k, rfl, hk⟩
  · rw [h] at G ⊢
    subst G
    exact (put_out b d n i v h hn w R.hs).mono fun e w' h => ⟨h.1, Now.alike R h.2⟩
  · rw [h] at G ⊢
    subst G
    rw [if_pos rfl, Int.toNat_natCast]
    refine (put_in b d n k v _ (ws k : Nat) (by omega) hn v0 v1 rfl w hL R.hs (R.hw k hk) (R.zw k hk)).mono ?_
    rintro e w' ⟨rfl, ha⟩
    exact ⟨rfl, Now.of (R.put k _ hk (Num.enc_lt _ (by omega))) (Touch.set_d b d w k _) ha⟩
theorem flip_as (b d n f : Nat) (ws : Nat → Nat) (i : Int) (g : Bool) (G : Hid (inF n i = g)) (hn : (n : Int) ≤ 2048) (w : World) (hR : Hid (RowAt b d n ws f w)) :
    Calls Tryd.prog 27 #[.pointer (some ⟨b, 0, none⟩), .int .i64 i] w fun e w' => e = .returned (.bool g) ∧ Now b d n (flW n ws i) f w w' := by
  have R := hR.out
  have G := G.out
  unfold flW
  unfold inF at G ⊢
  rcases inB_cases (n * 39) i with ⟨h, h'⟩ | ⟨h, k, rfl, hk⟩
  · rw [h] at G ⊢
    subst G
    rcases h' with h' | h'
    · exact (flip_low b i h' w).mono fun e w' h => ⟨h.1, Now.alike R h.2⟩
    · exact (flip_high b d n i (by omega) (by omega) hn w R.hs).mono fun e w' h => ⟨h.1, Now.alike R h.2⟩
  · rw [h] at G ⊢
    subst G
    have q : k / 39 < n := by omega
    have o : k % 39 < 39 := Nat.mod_lt _ (by decide)
    have e1 : ((k : Int) / 39).toNat = k / 39 := by omega
    have e2 : ((k : Int) % 39).toNat = k % 39 := by omega
    have l := R.lt _ q
    rw [if_pos rfl, e1, e2]
    refine (flip_in b d n (k / 39) (k % 39) k (ws (k / 39) : Nat) _ (by omega) (by omega) hn (by omega) (by omega) (by omega) (by omega) (xor_bit _ _ l o) w R.hs (R.hw _ q) (R.zw _ q)).mono ?_
    rintro e w' ⟨rfl, ha⟩
    exact ⟨rfl, Now.of (R.put _ _ q (Num.xor39 l (Num.bit_lt _ o))) (Touch.set_d b d w _ _) ha⟩
end Go.Proofs.YtfhijdnbhbonpaaDoor.Walks
