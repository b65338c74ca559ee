/- Numbers of MemoryStores: words that are stored whole, and one bit turned among them. -/
import Derived.Test.YtekafmnpojbbdaaDoorScz
import Derived.Test.YtekafmnpojbbdaaDoorMStore
namespace Go.Proofs.YtekafmnpojbbdaaDoor.Walks
open Go.RowKit
/-- words as they are stored -/
def eW (V : Nat → Nat) : Nat → Nat := fun i => Num.enc (V i)
section
variable (V : Nat → Nat) (hv : ∀ i, V i < 4294967296)
theorem eW_mend (hv : ∀ i, V i < 4294967296) (i : Nat) : Num.mendW (eW V i) = eW V i ∧ Num.mendS (eW V i) = 0 := Num.mend_good _ (Num.enc_lt _ (hv i)) (Num.syn_enc _ (hv i))
theorem eW_get (hv : ∀ i, V i < 4294967296) (k f : Nat) (hk : k < 1024) : pkS 1024 (eW V) (k : Int) = 0 ∧ pkV 1024 (eW V) (k : Int) = V k ∧ gtW 1024 (eW V) (k : Int) = eW V ∧ gtF 1024 (eW V) f (k : Int) = f := by
  have m := eW_mend V hv k
  refine ⟨?_, ?_, ?_, ?_⟩
  · rw [pkS_in (n := 1024) _ rfl hk, m.2]
  · rw [pkV_in (n := 1024) _ rfl hk, m.1]; exact Num.enc_mod _ (hv k)
  · rw [gtW_in (n := 1024) _ rfl hk, m.2, if_neg (by decide)]
  · rw [gtF_in (n := 1024) _ _ rfl hk, m.2, if_neg (by decide)]
theorem mgm15 (o d : Int) (d0 : 0 ≤ d) (d1 : d ≤ 4294967295) : Al.Num.mgm o d 15 = d := by
  have e : Al.Num.mgm o d 15 = d % 256 + 256 * (d / 256 % 256) + 65536 * (d / 65536 % 256) + 16777216 * (d / 16777216 % 256) := rfl
  rw [e]
  omega
theorem st_E (hv : ∀ i, V i < 4294967296) (k : Nat) (hk : k < 1024) : stE (eW V) (4 * (k : Int)) 15 = 0 := by
  unfold stE stB
  rw [rfs_in k hk, if_pos rfl, quarter, (eW_get V hv k 0 hk).1]
  rfl
theorem st_F (hv : ∀ i, V i < 4294967296) (k f : Nat) (hk : k < 1024) : ldF (eW V) f (4 * (k : Int)) = f := by
  unfold ldF
  rw [rfs_in k hk, if_pos rfl, quarter, (eW_get V hv k f hk).2.2.2]
theorem st_W (hv : ∀ i, V i < 4294967296) (k : Nat) (hk : k < 1024) (d : Nat) (hd : d < 4294967296) (i : Nat) : stW (eW V) (4 * (k : Int)) (d : Int) 15 i = eW (upd V k d) i := by
  unfold stW stB
  rw [rfs_in k hk, if_pos rfl, quarter, (eW_get V hv k 0 hk).1, if_neg (by decide), (eW_get V hv k 0 hk).2.2.1, mgm15 _ _ (by omega) (by omega), Int.toNat_natCast, ptW_in (n := 1024) _ _ rfl hk]
  unfold eW
  by_cases e : i = k
  · subst e; rw [upd_at, upd_at]
  · rw [upd_off _ _ _ _ e, upd_off _ _ _ _ e]
theorem ld_all (hv : ∀ i, V i < 4294967296) (k : Nat) (hk : k < 1024) : ldV (eW V) (4 * (k : Int)) = V k ∧ ldE (eW V) (4 * (k : Int)) = 0 ∧ ldW (eW V) (4 * (k : Int)) = eW V := by
  unfold ldV ldE ldW
  rw [rfs_in k hk, if_pos rfl, if_pos rfl, if_pos rfl, quarter, (eW_get V hv k 0 hk).1, (eW_get V hv k 0 hk).2.1, (eW_get V hv k 0 hk).2.2.1]
  exact ⟨rfl, rfl, rfl⟩
/-- one bit turned in word p -/
def tW (p q : Nat) : Nat → Nat := upd (eW V) p (eW V p ^^^ 2 ^ q)
theorem tW_flip (p q : Nat) (hp : p < 1024) (hq : q < 39) (x : Int) (hx : x = ((39 * p + q : Nat) : Int)) : flW 1024 (eW V) x = tW V p q := flW_in (n := 1024) _ hx hp hq
theorem tW_mend (hv : ∀ i, V i < 4294967296) (p q : Nat) (hq : q < 39) (i : Nat) : Num.mendS (tW V p q i) = (if i = p then 1 else 0) ∧ Num.mendW (tW V p q i) = eW V i := by
  unfold tW
  by_cases e : i = p
  · subst e
    rw [upd_at, if_pos rfl]
    have := Num.mend_one (V i) q (hv i) hq
    exact ⟨this.2, this.1⟩
  · rw [upd_off _ _ _ _ e, if_neg e]
    exact ⟨(eW_mend V hv i).2, (eW_mend V hv i).1⟩
theorem tW_bd (hv : ∀ i, V i < 4294967296) (p q : Nat) (hq : q < 39) : bdW (tW V p q) 1024 = false := bdW_no fun i _ => by
  rw [(tW_mend V hv p q hq i).1]
  split <;> decide
theorem tW_scE (hv : ∀ i, V i < 4294967296) (p q : Nat) (hq : q < 39) : scE (tW V p q) 0 1024 = 0 := by
  unfold scE
  rw [(scz (tW V p q) 1024 (Nat.le_refl _)).2.2.1, tW_bd V hv p q hq]
  rfl
theorem tW_sc (hv : ∀ i, V i < 4294967296) (p q : Nat) (hq : q < 39) (i : Nat) (hi : i < 1024) : scW (tW V p q) 0 1024 i = eW V i := by
  rw [(scz (tW V p q) 1024 (Nat.le_refl _)).1 i, if_pos hi]
  unfold cw
  rw [(tW_mend V hv p q hq i).1]
  by_cases h : i = p
  · rw [if_pos h, if_pos rfl]; exact (tW_mend V hv p q hq i).2
  · rw [if_neg h, if_neg (by decide)]; unfold tW; rw [upd_off _ _ _ _ h]
theorem cn_le (ws : Nat → Nat) : ∀ n, cn ws n ≤ n
  | 0 => Nat.le_refl _
  | n + 1 => by have := cn_le ws n; simp only [cn]; split <;> omega
theorem tW_scF (p q f : Nat) : scF (tW V p q) f 0 1024 ≤ f + 1024 := scF_le _ _ _ _
theorem upd_lt (hv : ∀ i, V i < 4294967296) (k d : Nat) (hd : d < 4294967296) (i : Nat) : upd V k d i < 4294967296 := by
  by_cases e : i = k
  · subst e; rw [upd_at]; exact hd
  · rw [upd_off _ _ _ _ e]; exact hv i
end
end Go.Proofs.YtekafmnpojbbdaaDoor.Walks
