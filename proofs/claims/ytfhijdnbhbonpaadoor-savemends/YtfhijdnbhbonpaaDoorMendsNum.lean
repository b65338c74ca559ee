/- Plain facts for WordMends: the words while bits are turned, and while they are got. -/
import Derived.Test.YtfhijdnbhbonpaaDoorRowNum
namespace Go.Proofs.YtfhijdnbhbonpaaDoor.Walks
open Go.RowKit
theorem RowAt.congr {b d n f : Nat} {ws ws' : Nat → Nat} {w : World} (h : RowAt b d n ws f w) (e : ∀ i, i < n → ws i = ws' i) : RowAt b d n ws' f w :=
  ⟨h.hs, h.hf, fun i hi => by rw [← e i hi]; exact h.hw i hi, h.z1, h.zw, h.ne, fun i hi => by rw [← e i hi]; exact h.lt i hi⟩
theorem Fresh.congr {B b d n f f' : Nat} {ws ws' : Nat → Nat} {w w' : World} (h : Fresh B b d n ws f w w') (e : ∀ i, i < n → ws i = ws' i) (ef : f = f') : Fresh B b d n ws' f' w w' := by
  subst ef
  exact ⟨h.1.congr e, h.2⟩
theorem new_n (i : Int) (n : Nat) (h : Hid ((n : Int) = i)) (hn : (n : Int) ≤ 2048) (w : World) (hL : Hid (Laid w)) : Calls Tryd.prog 22 #[.int .i64 i] w fun e w' => ∃ b d, e = .returned (.pointer (some ⟨b, 0, none⟩)) ∧ Fresh w.heap.size b d n w0 0 w w' := by
  have := new_ex i w hL
  have e : newN i = n := by have := h.out; unfold newN; omega
  rw [e] at this
  exact this
section
variable (zl : Nat → Nat) (bl : Nat → Int) (m : Nat)
/-- is a bit of word k turned, and which -/
def fl (k : Nat) : Bool := decide (k < m) && (bits .and .i64 (bl k) 1 == 1)
def qf (k : Nat) : Nat := (bits .and .i64 (bl k / 2) 63).toNat % 39
def fw (k : Nat) : Nat := if fl bl m k then Num.enc (zl k) ^^^ 2 ^ qf bl k else Num.enc (zl k)
def wsK (k : Nat) : Nat → Nat := fun j => if j < k then fw zl bl m j else 0
def tn : Nat → Nat
  | 0 => 0
  | k + 1 => tn k + if fl bl m k then 1 else 0
def gW (k j : Nat) : Nat → Nat := fun i => if k = 0 ∧ j ≤ i then fw zl bl m i else Num.enc (zl i)
def gF (n k j : Nat) : Nat := if k = 0 then tn bl m j else tn bl m n
theorem tn_le : ∀ k, tn bl m k ≤ k
  | 0 => Nat.le_refl _
  | k + 1 => by have := tn_le k; simp only [tn]; split <;> omega
theorem qf_lt (k : Nat) : qf bl k < 39 := Nat.mod_lt _ (by decide)
theorem wsK_put (n k : Nat) (hk : k < n) (h : fl bl m k = false) (j : Nat) : ptW n (wsK zl bl m k) (k : Int) (zl k) j = wsK zl bl m (k + 1) j := by
  rw [ptW_in (n := n) _ _ rfl hk]
  by_cases e : j = k
  · subst e
    rw [upd_at]
    simp [wsK, fw, h]
  · rw [upd_off _ _ _ _ e]
    unfold wsK
    by_cases e2 : j < k
    · rw [if_pos e2, if_pos (by omega)]
    · rw [if_neg e2, if_neg (by omega)]
theorem wsK_flip (n k : Nat) (hk : k < n) (h : fl bl m k = true) (i : Int) (hi : i = ((39 * k + qf bl k : Nat) : Int)) (j : Nat) : flW n (ptW n (wsK zl bl m k) (k : Int) (zl k)) i j = wsK zl bl m (k + 1) j := by
  rw [flW_in (n := n) _ hi hk (qf_lt bl k), ptW_in (n := n) _ _ rfl hk]
  by_cases e : j = k
  · subst e
    rw [upd_at, upd_at]
    simp [wsK, fw, h]
  · rw [upd_off _ _ _ _ e, upd_off _ _ _ _ e]
    unfold wsK
    by_cases e2 : j < k
    · rw [if_pos e2, if_pos (by omega)]
    · rw [if_neg e2, if_neg (by omega)]
theorem gW_start (n j : Nat) (h : j < n) : wsK zl bl m n j = gW zl bl m 0 0 j := by
  unfold wsK gW
  rw [if_pos h, if_pos ⟨rfl, Nat.zero_le _⟩]
theorem fw_mend (k : Nat) (hz : zl k < 4294967296) : Num.mendW (fw zl bl m k) = Num.enc (zl k) ∧ Num.mendS (fw zl bl m k) = if fl bl m k then 1 else 0 := by
  unfold fw
  cases h : fl bl m k
  · have := Num.mend_good _ (Num.enc_lt _ hz) (Num.syn_enc _ hz)
    exact ⟨this.1, this.2⟩
  · have := Num.mend_one (zl k) (qf bl k) hz (qf_lt bl k)
    exact ⟨this.1, this.2⟩
/-- the status that Get tells -/
def gS (k j : Nat) : Nat := if k = 0 then (if fl bl m j then 1 else 0) else 0
theorem gS_le (k j : Nat) : gS bl m k j ≤ 1 := by unfold gS; split <;> (try split) <;> decide
theorem gW_at (k j : Nat) (hz : zl j < 4294967296) : Num.mendW (gW zl bl m k j j) = Num.enc (zl j) ∧ Num.mendS (gW zl bl m k j j) = gS bl m k j := by
  unfold gW gS
  by_cases h : k = 0
  · rw [if_pos ⟨h, Nat.le_refl _⟩, if_pos h]
    exact fw_mend zl bl m j hz
  · rw [if_neg (fun e => h e.1), if_neg h]
    have := Num.mend_good _ (Num.enc_lt _ hz) (Num.syn_enc _ hz)
    exact ⟨this.1, this.2⟩
theorem gW_told (n k j : Nat) (hj : j < n) (hz : zl j < 4294967296) : pkV n (gW zl bl m k j) (j : Int) = zl j ∧ pkS n (gW zl bl m k j) (j : Int) = gS bl m k j := by
  have h := gW_at zl bl m k j hz
  rw [pkV_in (n := n) _ rfl hj, pkS_in (n := n) _ rfl hj, h.1, h.2, Num.enc_mod _ hz]
  exact ⟨rfl, rfl⟩
theorem gW_next (n k j : Nat) (hj : j < n) (hz : zl j < 4294967296) (i : Nat) : gtW n (gW zl bl m k j) (j : Int) i = gW zl bl m k (j + 1) i := by
  have h := gW_at zl bl m k j hz
  have nx : ∀ i, i ≠ j → gW zl bl m k j i = gW zl bl m k (j + 1) i := by
    intro i hi
    unfold gW
    by_cases e : k = 0 ∧ j ≤ i
    · rw [if_pos e, if_pos ⟨e.1, by omega⟩]
    · rw [if_neg e, if_neg (fun x => e ⟨x.1, by omega⟩)]
  have nj : gW zl bl m k (j + 1) j = Num.enc (zl j) := by unfold gW; rw [if_neg (fun x => by omega)]
  rw [gtW_in (n := n) _ rfl hj, h.2, h.1]
  by_cases e : gS bl m k j = 1
  · rw [if_pos e]
    by_cases ei : i = j
    · subst ei; rw [upd_at, nj]
    · rw [upd_off _ _ _ _ ei]; exact nx i ei
  · rw [if_neg e]
    by_cases ei : i = j
    · subst ei
      rw [nj]
      unfold gS at e
      unfold gW
      by_cases e0 : k = 0
      · rw [if_pos ⟨e0, Nat.le_refl _⟩]
        rw [if_pos e0] at e
        unfold fw
        cases hf : fl bl m i
        · rfl
        · rw [hf] at e; exact absurd rfl e
      · rw [if_neg (fun x => e0 x.1)]
    · exact nx i ei
theorem gF_next (n k j : Nat) (hj : j < n) (hz : zl j < 4294967296) : gtF n (gW zl bl m k j) (gF bl m n k j) (j : Int) = gF bl m n k (j + 1) := by
  have h := gW_at zl bl m k j hz
  rw [gtF_in (n := n) _ _ rfl hj, h.2]
  unfold gF gS
  by_cases e : k = 0
  · rw [if_pos e, if_pos e, if_pos e]
    simp only [tn]
    cases fl bl m j <;> simp
  · rw [if_neg e, if_neg e, if_neg e, if_neg (by decide)]
theorem gW_turn (n k j : Nat) (h : j < n) : gW zl bl m k n j = gW zl bl m (k + 1) 0 j := by
  unfold gW
  rw [if_neg (fun x => by omega), if_neg (fun x => by omega)]
theorem gF_turn (n k : Nat) : gF bl m n k n = gF bl m n (k + 1) 0 := by
  unfold gF
  rw [if_neg (by omega : ¬ k + 1 = 0)]
  split <;> rfl
theorem gF_le (n k j : Nat) (hj : j ≤ n) : gF bl m n k j ≤ n := by
  unfold gF
  have a := tn_le bl m j
  have b := tn_le bl m n
  split <;> omega
end
end Go.Proofs.YtfhijdnbhbonpaaDoor.Walks
