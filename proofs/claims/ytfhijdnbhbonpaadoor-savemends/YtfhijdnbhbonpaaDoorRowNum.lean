/- Plain facts on rows of words: what is told of a word that there is. -/
import Derived.Test.YtfhijdnbhbonpaaDoorShut
namespace Go.Proofs.YtfhijdnbhbonpaaDoor.Walks
open Go.RowKit
theorem pkV_in {n : Nat} (ws : Nat → Nat) {i : Int} {k : Nat} (hi : i = k) (h : k < n) : pkV n ws i = Num.mendW (ws k) % 4294967296 := by
  subst hi; unfold pkV; rw [inB_yes (by omega) (by omega), if_pos rfl, Int.toNat_natCast]
theorem pkS_in {n : Nat} (ws : Nat → Nat) {i : Int} {k : Nat} (hi : i = k) (h : k < n) : pkS n ws i = Num.mendS (ws k) := by
  subst hi; unfold pkS; rw [inB_yes (by omega) (by omega), if_pos rfl, Int.toNat_natCast]
theorem gtF_in {n : Nat} (ws : Nat → Nat) (f : Nat) {i : Int} {k : Nat} (hi : i = k) (h : k < n) : gtF n ws f i = if Num.mendS (ws k) = 1 then f + 1 else f := by
  subst hi; unfold gtF; rw [inB_yes (by omega) (by omega), Bool.true_and, Int.toNat_natCast]
  by_cases e : Num.mendS (ws k) = 1
  · rw [if_pos e, if_pos (by rw [e]; rfl)]
  · rw [if_neg e, if_neg (by simpa using e)]
theorem gtW_in {n : Nat} (ws : Nat → Nat) {i : Int} {k : Nat} (hi : i = k) (h : k < n) : gtW n ws i = if Num.mendS (ws k) = 1 then upd ws k (Num.mendW (ws k)) else ws := by
  subst hi; unfold gtW; rw [inB_yes (by omega) (by omega), Bool.true_and, Int.toNat_natCast]
  by_cases e : Num.mendS (ws k) = 1
  · rw [if_pos e, if_pos (by rw [e]; rfl)]
  · rw [if_neg e, if_neg (by simpa using e)]
theorem ptW_in {n : Nat} (ws : Nat → Nat) {i : Int} {k : Nat} (v : Nat) (hi : i = k) (h : k < n) : ptW n ws i v = upd ws k (Num.enc v) := by
  subst hi; unfold ptW; rw [inB_yes (by omega) (by omega), if_pos rfl, Int.toNat_natCast]
theorem inF_in {n : Nat} {i : Int} {k q : Nat} (hi : i = ((39 * k + q : Nat) : Int)) (hk : k < n) (hq : q < 39) : inF n i = true := by
  subst hi; exact inB_yes (by omega) (by omega)
theorem flW_in {n : Nat} (ws : Nat → Nat) {i : Int} {k q : Nat} (hi : i = ((39 * k + q : Nat) : Int)) (hk : k < n) (hq : q < 39) : flW n ws i = upd ws k (ws k ^^^ 2 ^ q) := by
  have g := inF_in hi hk hq
  subst hi
  unfold flW
  rw [g, if_pos rfl, show (((39 * k + q : Nat) : Int) / 39).toNat = k by omega, show (((39 * k + q : Nat) : Int) % 39).toNat = q by omega]
theorem mend_enc (v : Nat) (hv : v < 4294967296) : Num.mendW (Num.enc v) % 4294967296 = v ∧ Num.mendS (Num.enc v) = 0 := by
  have mg := Num.mend_good _ (Num.enc_lt v hv) (Num.syn_enc v hv)
  exact ⟨by rw [mg.1, Num.enc_mod v hv], mg.2⟩
theorem mend_0 : Num.mendW 0 % 4294967296 = 0 ∧ Num.mendS 0 = 0 := by decide +kernel
end Go.Proofs.YtfhijdnbhbonpaaDoor.Walks
