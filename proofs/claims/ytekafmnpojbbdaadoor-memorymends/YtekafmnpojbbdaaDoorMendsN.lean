/- Numbers of MemoryMends: an image's words, with one bit turned in the first of them. -/
import Derived.Test.YtekafmnpojbbdaaDoorScz
import Derived.Test.YtekafmnpojbbdaaDoorMNew
import Derived.Test.YtekafmnpojbbdaaDoorMWords
namespace Go.Proofs.YtekafmnpojbbdaaDoor.Walks
open Go.RowKit
theorem and63b (a : Int) : ∃ k : Nat, bits .and .i64 a 63 = (k : Int) ∧ k < 64 := by
  have h : (BitVec.ofInt 64 a &&& BitVec.ofInt 64 63).toNat ≤ 63 := by
    rw [BitVec.toNat_and]; exact Nat.and_le_right
  refine ⟨(BitVec.ofInt 64 a &&& BitVec.ofInt 64 63).toNat, ?_, by omega⟩
  show IntKind.i64.wrap ((BitVec.ofInt 64 a &&& BitVec.ofInt 64 63).toNat : Int) = _
  rw [IntKind.wrap_i64]
  omega
/-- the number of word i of an image -/
def zo (zs : Nat → Int) (len i : Nat) : Nat := if i < len then (zs i).toNat else 0
theorem imW_zo (zs : Nat → Int) (len i : Nat) : imW zs len i = Num.enc (zo zs len i) := by
  unfold imW zo
  by_cases h : i < len
  · rw [if_pos h, if_pos h]
  · rw [if_neg h, if_neg h]; decide +kernel
/-- which bit is turned in word i -/
def tq (bl : Nat → Int) (i : Nat) : Nat := (bits .and .i64 (bl i) 63).toNat % 39
theorem tq_lt (bl : Nat → Int) (i : Nat) : tq bl i < 39 := Nat.mod_lt _ (by decide)
section
variable (Z : Nat → Nat) (bl : Nat → Int)
def mkW (k : Nat) : Nat → Nat := fun i => if i < k then Num.enc (Z i) ^^^ 2 ^ tq bl i else Num.enc (Z i)
theorem mk_0 (i : Nat) : mkW Z bl 0 i = Num.enc (Z i) := by unfold mkW; rw [if_neg (by omega)]
theorem mk_flip (k : Nat) (hk : k < 1024) (x : Int) (hx : x = ((39 * k + tq bl k : Nat) : Int)) (i : Nat) : flW 1024 (mkW Z bl k) x i = mkW Z bl (k + 1) i := by
  rw [flW_in (n := 1024) _ hx hk (tq_lt bl k)]
  by_cases e : i = k
  · subst e; rw [upd_at]; unfold mkW; rw [if_neg (by omega), if_pos (by omega)]
  · rw [upd_off _ _ _ _ e]; unfold mkW
    by_cases h : i < k
    · rw [if_pos h, if_pos (by omega)]
    · rw [if_neg h, if_neg (by omega)]
theorem mk_mend (hz : ∀ i, Z i < 4294967296) (k i : Nat) : Num.mendS (mkW Z bl k i) = (if i < k then 1 else 0) ∧ Num.mendW (mkW Z bl k i) = Num.enc (Z i) := by
  unfold mkW
  by_cases h : i < k
  · rw [if_pos h, if_pos h]
    have := Num.mend_one (Z i) (tq bl i) (hz i) (tq_lt bl i)
    exact ⟨this.2, this.1⟩
  · rw [if_neg h, if_neg h]
    have := Num.mend_good _ (Num.enc_lt _ (hz i)) (Num.syn_enc _ (hz i))
    exact ⟨this.2, this.1⟩
theorem mk_bd (hz : ∀ i, Z i < 4294967296) (k : Nat) : bdW (mkW Z bl k) 1024 = false := bdW_no fun i _ => by
  rw [(mk_mend Z bl hz k i).1]
  split <;> decide
theorem mk_cn (hz : ∀ i, Z i < 4294967296) (k : Nat) (hk : k ≤ 1024) : cn (mkW Z bl k) 1024 = k := by
  rw [cn_tail (mkW Z bl k) k 1024 hk (fun i h _ => by rw [(mk_mend Z bl hz k i).1, if_neg (by omega)]; decide)]
  exact cn_all _ k (fun i hi => by rw [(mk_mend Z bl hz k i).1, if_pos hi])
theorem mk_vw (hz : ∀ i, Z i < 4294967296) (k i : Nat) : vw (mkW Z bl k) i = Z i := by
  unfold vw
  rw [(mk_mend Z bl hz k i).2, Num.enc_mod _ (hz i)]
theorem mk_sc (hz : ∀ i, Z i < 4294967296) (k i : Nat) (hi : i < 1024) : scW (mkW Z bl k) 0 1024 i = mkW Z bl 0 i := by
  rw [(scz (mkW Z bl k) 1024 (Nat.le_refl _)).1 i, if_pos hi, mk_0]
  unfold cw
  rw [(mk_mend Z bl hz k i).1]
  by_cases h : i < k
  · rw [if_pos h, if_pos rfl]; exact (mk_mend Z bl hz k i).2
  · rw [if_neg h, if_neg (by decide)]; unfold mkW; rw [if_neg h]
theorem mk_scV (hz : ∀ i, Z i < 4294967296) (k : Nat) (hk : k ≤ 1024) : scV (mkW Z bl k) 0 1024 = k := by
  unfold scV
  rw [(scz (mkW Z bl k) 1024 (Nat.le_refl _)).2.2.1, mk_bd Z bl hz k, (scz (mkW Z bl k) 1024 (Nat.le_refl _)).2.1, mk_cn Z bl hz k hk]
  rfl
theorem mk_scE (hz : ∀ i, Z i < 4294967296) (k : Nat) : scE (mkW Z bl k) 0 1024 = 0 := by
  unfold scE
  rw [(scz (mkW Z bl k) 1024 (Nat.le_refl _)).2.2.1, mk_bd Z bl hz k]
  rfl
theorem mk_scF (hz : ∀ i, Z i < 4294967296) (k f : Nat) (hk : k ≤ 1024) : scF (mkW Z bl k) f 0 1024 = f + k := by
  rw [(scz (mkW Z bl k) 1024 (Nat.le_refl _)).2.2.2, mk_cn Z bl hz k hk]
end
theorem zo_lt (zs : Nat → Int) (len : Nat) (h : ∀ i, i < len → (zs i).toNat < 4294967296) (i : Nat) : zo zs len i < 4294967296 := by
  unfold zo
  by_cases e : i < len
  · rw [if_pos e]; exact h i e
  · rw [if_neg e]; decide
end Go.Proofs.YtekafmnpojbbdaaDoor.Walks
