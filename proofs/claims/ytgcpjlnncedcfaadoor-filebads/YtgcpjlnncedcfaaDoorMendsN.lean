/- Plain facts for FileMends: the words while bits are turned, and while they are scrubbed. -/
import Derived.Test.YtgcpjlnncedcfaaDoorFNums
namespace Go.Proofs.YtgcpjlnncedcfaaDoor.Walks
open Go.RowKit
theorem enc_0 : Num.enc 0 = 0 := by decide +kernel
/-- what registers 1 to k are, the others 0 -/
def arG (v : Nat → Nat) (k i : Nat) : Nat := if 1 ≤ i ∧ i ≤ k then v (i - 1) else 0
theorem arG_0 (v : Nat → Nat) (i : Nat) : w0 i = arG v 0 i := by unfold arG w0; rw [if_neg (by omega)]
theorem arG_next (v : Nat → Nat) (k i : Nat) : upd (arG v k) (k + 1) (v k) i = arG v (k + 1) i := by
  by_cases e : i = k + 1
  · subst e; rw [upd_at]; unfold arG; rw [if_pos (by omega)]; rfl
  · rw [upd_off _ _ _ _ e]; unfold arG
    by_cases h : 1 ≤ i ∧ i ≤ k
    · rw [if_pos h, if_pos (by omega)]
    · rw [if_neg h, if_neg (by omega)]
theorem arG_same (v : Nat → Nat) (k : Nat) (h : v k = 0) (i : Nat) : arG v k i = arG v (k + 1) i := by
  by_cases e : i = k + 1
  · subst e; unfold arG; rw [if_neg (by omega), if_pos (by omega)]; exact h.symm
  · unfold arG
    by_cases h : 1 ≤ i ∧ i ≤ k
    · rw [if_pos h, if_pos (by omega)]
    · rw [if_neg h, if_neg (by omega)]
section
variable (zl : Nat → Nat) (bl : Nat → Int) (n m : Nat)
/-- what register i + 1 is, and which bit of it is turned -/
def vl (i : Nat) : Nat := if i < n then zl i else 0
def qb (i : Nat) : Nat := (bits .and .i64 (bl i) 63).toNat % 39
theorem qb_lt (i : Nat) : qb bl i < 39 := Nat.mod_lt _ (by decide)
def fwM (i : Nat) : Nat := if i < m then Num.enc (vl zl n i) ^^^ 2 ^ qb bl i else Num.enc (vl zl n i)
def wsM (k j : Nat) : Nat := if j < k then fwM zl bl n m j else 0
/-- behind t Scrubs -/
def wsS (t j : Nat) : Nat := if j < t then Num.enc (vl zl n j) else fwM zl bl n m j
theorem vl_lt (hz : ∀ j, j < n → zl j < 4294967296) (i : Nat) : vl zl n i < 4294967296 := by
  unfold vl
  split
  · exact hz i (by assumption)
  · decide
theorem vl_in (k : Nat) (h : k < n) : vl zl n k = zl k := by unfold vl; rw [if_pos h]
theorem vl_out (k : Nat) (h : ¬ k < n) : vl zl n k = 0 := by unfold vl; rw [if_neg h]
theorem wsM_0 (j : Nat) : w0 j = wsM zl bl n m 0 j := by unfold wsM w0; rw [if_neg (by omega)]
theorem wsM_at (k : Nat) : wsM zl bl n m k k = 0 := by unfold wsM; rw [if_neg (by omega)]
theorem wsM_off (k j : Nat) (e : j ≠ k) : wsM zl bl n m k j = wsM zl bl n m (k + 1) j := by
  unfold wsM
  by_cases e2 : j < k
  · rw [if_pos e2, if_pos (by omega)]
  · rw [if_neg e2, if_neg (by omega)]
theorem wsM_new (k : Nat) : wsM zl bl n m (k + 1) k = fwM zl bl n m k := by unfold wsM; rw [if_pos (by omega)]
/-- put alone -/
theorem wsM_put (k : Nat) (hk : k < 31) (hn : k < n) (hm : ¬ k < m) (j : Nat) : ptW 31 (wsM zl bl n m k) (k : Int) (zl k) j = wsM zl bl n m (k + 1) j := by
  rw [ptW_in (n := 31) _ _ rfl hk]
  by_cases e : j = k
  · subst e
    rw [upd_at, wsM_new]; unfold fwM; rw [if_neg hm, vl_in zl n j hn]
  · rw [upd_off _ _ _ _ e]; exact wsM_off zl bl n m k j e
/-- put, and a bit turned -/
theorem wsM_both (k : Nat) (hk : k < 31) (hn : k < n) (hm : k < m) (i : Int) (hi : i = ((39 * k + qb bl k : Nat) : Int)) (j : Nat) : flW 31 (ptW 31 (wsM zl bl n m k) (k : Int) (zl k)) i j = wsM zl bl n m (k + 1) j := by
  rw [flW_in (n := 31) _ hi hk (qb_lt bl k), ptW_in (n := 31) _ _ rfl hk]
  by_cases e : j = k
  · subst e
    rw [upd_at, upd_at, wsM_new]; unfold fwM; rw [if_pos hm, vl_in zl n j hn]
  · rw [upd_off _ _ _ _ e, upd_off _ _ _ _ e]; exact wsM_off zl bl n m k j e
/-- a bit turned alone -/
theorem wsM_flip (k : Nat) (hk : k < 31) (hn : ¬ k < n) (hm : k < m) (i : Int) (hi : i = ((39 * k + qb bl k : Nat) : Int)) (j : Nat) : flW 31 (wsM zl bl n m k) i j = wsM zl bl n m (k + 1) j := by
  rw [flW_in (n := 31) _ hi hk (qb_lt bl k)]
  by_cases e : j = k
  · subst e
    rw [upd_at, wsM_at, wsM_new]; unfold fwM; rw [if_pos hm, vl_out zl n j hn, enc_0]
  · rw [upd_off _ _ _ _ e]; exact wsM_off zl bl n m k j e
/-- nothing -/
theorem wsM_none (k : Nat) (hn : ¬ k < n) (hm : ¬ k < m) (j : Nat) : wsM zl bl n m k j = wsM zl bl n m (k + 1) j := by
  by_cases e : j = k
  · subst e
    rw [wsM_at, wsM_new]; unfold fwM; rw [if_neg hm, vl_out zl n j hn, enc_0]
  · exact wsM_off zl bl n m k j e
variable (hz : ∀ j, j < n → zl j < 4294967296)
include hz
theorem good_enc (i : Nat) : Num.mendW (Num.enc (vl zl n i)) = Num.enc (vl zl n i) ∧ Num.mendS (Num.enc (vl zl n i)) = 0 := by
  have h := vl_lt zl n hz i
  have := Num.mend_good _ (Num.enc_lt _ h) (Num.syn_enc _ h)
  exact ⟨this.1, this.2⟩
theorem fwM_mend (i : Nat) : Num.mendW (fwM zl bl n m i) = Num.enc (vl zl n i) ∧ Num.mendS (fwM zl bl n m i) = if i < m then 1 else 0 := by
  unfold fwM
  by_cases h : i < m
  · rw [if_pos h, if_pos h]
    have := Num.mend_one (vl zl n i) (qb bl i) (vl_lt zl n hz i) (qb_lt bl i)
    exact ⟨this.1, this.2⟩
  · rw [if_neg h, if_neg h]
    exact good_enc zl n hz i
theorem wsM_bd : bdW (wsM zl bl n m 31) 31 = false := bdW_no fun i hi => by
  unfold wsM
  rw [if_pos hi, (fwM_mend zl bl n m hz i).2]
  split <;> decide
theorem wsM_arF : arF (wsM zl bl n m 31) = arG (vl zl n) 31 := by
  rw [arF_good (wsM_bd zl bl n m hz)]
  funext i
  unfold arK arG
  by_cases h : 1 ≤ i ∧ i ≤ 31
  · rw [if_pos h, if_pos h]
    unfold vw wsM
    rw [if_pos (by omega), (fwM_mend zl bl n m hz (i - 1)).1, Num.enc_mod _ (vl_lt zl n hz (i - 1))]
  · rw [if_neg h, if_neg h]
omit hz in
theorem wsS_0 (j : Nat) (h : j < 31) : wsM zl bl n m 31 j = wsS zl bl n m 0 j := by unfold wsM wsS; rw [if_pos h, if_neg (by omega)]
/-- what the Scrub tells behind t of them -/
theorem wsS_told (t p : Nat) (hp : p < 31) (h : t = p ∨ t = p + 31) : pkS 31 (wsS zl bl n m t) (p : Int) = if t < 31 ∧ t < m then 1 else 0 := by
  rw [pkS_in (n := 31) _ rfl hp]
  unfold wsS
  rcases h with h | h
  · subst h
    rw [if_neg (by omega), (fwM_mend zl bl n m hz t).2]
    by_cases e : t < m
    · rw [if_pos e, if_pos ⟨hp, e⟩]
    · rw [if_neg e, if_neg (fun x => e x.2)]
  · subst h
    rw [if_pos (by omega), (good_enc zl n hz p).2, if_neg (by omega)]
theorem wsS_next (t p : Nat) (hp : p < 31) (h : t = p ∨ t = p + 31) (j : Nat) (hj : j < 31) : gtW 31 (wsS zl bl n m t) (p : Int) j = wsS zl bl n m (t + 1) j := by
  rw [gtW_in (n := 31) _ rfl hp]
  rcases h with h | h
  · subst h
    have f := fwM_mend zl bl n m hz t
    have e0 : wsS zl bl n m t t = fwM zl bl n m t := by unfold wsS; rw [if_neg (by omega)]
    have off : j ≠ t → wsS zl bl n m t j = wsS zl bl n m (t + 1) j := fun e => by
      unfold wsS
      by_cases e2 : j < t
      · rw [if_pos e2, if_pos (by omega)]
      · rw [if_neg e2, if_neg (by omega)]
    have new : wsS zl bl n m (t + 1) t = Num.enc (vl zl n t) := by unfold wsS; rw [if_pos (by omega)]
    rw [e0, f.1, f.2]
    by_cases e : t < m
    · rw [if_pos e, if_pos rfl]
      by_cases ej : j = t
      · subst ej; rw [upd_at, new]
      · rw [upd_off _ _ _ _ ej]; exact off ej
    · rw [if_neg e, if_neg (by decide)]
      by_cases ej : j = t
      · subst ej; rw [new, e0]; unfold fwM; rw [if_neg e]
      · exact off ej
  · subst h
    have e0 : wsS zl bl n m (p + 31) p = Num.enc (vl zl n p) := by unfold wsS; rw [if_pos (by omega)]
    rw [e0, (good_enc zl n hz p).2, if_neg (by decide)]
    unfold wsS
    rw [if_pos (by omega), if_pos (by omega)]
end
end Go.Proofs.YtgcpjlnncedcfaaDoor.Walks
