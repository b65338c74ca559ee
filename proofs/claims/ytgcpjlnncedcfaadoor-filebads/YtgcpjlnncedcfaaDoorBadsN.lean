/- Plain facts for FileBads: registers of which one alone is not 0. -/
import Derived.Test.YtgcpjlnncedcfaaDoorMendsN
namespace Go.Proofs.YtgcpjlnncedcfaaDoor.Walks
open Go.RowKit
/-- word c is E, the others are 0 -/
def u1 (c E : Nat) : Nat → Nat := upd w0 c E
theorem u1_at (c E : Nat) : u1 c E c = E := upd_at _ _ _
theorem u1_off (c E i : Nat) (h : i ≠ c) : u1 c E i = 0 := upd_off _ _ _ _ h
theorem u1_again (c E F : Nat) : upd (u1 c E) c F = u1 c F := by
  funext i
  by_cases e : i = c
  · subst e; rw [upd_at, u1_at]
  · rw [upd_off _ _ _ _ e, u1_off _ _ _ e, u1_off _ _ _ e]
theorem u1_put0 {c : Nat} (hc : c < 31) (v : Nat) : ptW 31 w0 (c : Int) v = u1 c (Num.enc v) := ptW_in (n := 31) _ _ rfl hc
theorem u1_put {c : Nat} (E : Nat) (hc : c < 31) (v : Nat) : ptW 31 (u1 c E) (c : Int) v = u1 c (Num.enc v) := by rw [ptW_in (n := 31) _ _ rfl hc, u1_again]
theorem u1_flip {c x : Nat} (E : Nat) (hc : c < 31) (hx : x < 39) (i : Int) (hi : i = ((39 * c + x : Nat) : Int)) : flW 31 (u1 c E) i = u1 c (E ^^^ 2 ^ x) := by rw [flW_in (n := 31) _ hi hc hx, u1_again, u1_at]
theorem u1_told {c : Nat} (E : Nat) (hc : c < 31) (h : Num.mendS E ≠ 1) (f : Nat) : pkV 31 (u1 c E) (c : Int) = Num.mendW E % 4294967296 ∧ pkS 31 (u1 c E) (c : Int) = Num.mendS E ∧ gtW 31 (u1 c E) (c : Int) = u1 c E ∧ gtF 31 (u1 c E) f (c : Int) = f := by
  rw [pkV_in (n := 31) _ rfl hc, pkS_in (n := 31) _ rfl hc, gtW_in (n := 31) _ rfl hc, gtF_in (n := 31) _ _ rfl hc, u1_at, if_neg h, if_neg h]
  exact ⟨rfl, rfl, rfl, rfl⟩
theorem u1_far {c p : Nat} (E : Nat) (hp : p < 31) (hcp : p ≠ c) (f : Nat) : pkV 31 (u1 c E) (p : Int) = 0 ∧ pkS 31 (u1 c E) (p : Int) = 0 ∧ gtW 31 (u1 c E) (p : Int) = u1 c E ∧ gtF 31 (u1 c E) f (p : Int) = f := by
  rw [pkV_in (n := 31) _ rfl hp, pkS_in (n := 31) _ rfl hp, gtW_in (n := 31) _ rfl hp, gtF_in (n := 31) _ _ rfl hp, u1_off _ _ _ hcp, mend_0.2, if_neg (by decide), if_neg (by decide)]
  exact ⟨mend_0.1, rfl, rfl, rfl⟩
theorem u1_bad {c : Nat} (E : Nat) (hc : c < 31) (h : Num.mendS E = 2) : bdW (u1 c E) 31 = true := bdW_yes (k := c) (by rw [u1_at]; exact h) hc
theorem u1_good {c : Nat} (E : Nat) (h : Num.mendS E = 0) : bdW (u1 c E) 31 = false := bdW_no fun i hi => by
  by_cases e : i = c
  · subst e; rw [u1_at, h]; decide
  · rw [u1_off _ _ _ e, mend_0.2]; decide
theorem u1_all {c v : Nat} (hc : c < 31) (hv : v < 4294967296) : arF (u1 c (Num.enc v)) (c + 1) = v := by
  have g := mend_enc v hv
  rw [arF_good (u1_good _ g.2)]
  unfold arK
  rw [if_pos (by omega)]
  unfold vw
  rw [show c + 1 - 1 = c by omega, u1_at]
  exact g.1
theorem two_same (n x : Nat) : Num.enc n ^^^ 2 ^ x ^^^ 2 ^ x = Num.enc n := by rw [Nat.xor_assoc, Nat.xor_self, Nat.xor_zero]
end Go.Proofs.YtgcpjlnncedcfaaDoor.Walks
