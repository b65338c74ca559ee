/- Contract of the document's Number: a number in decimal digits; of its reg. -/
import Derived.Test.YtlnliiihcajboaaDoorLib
import Derived.Test.YtlnliiihcajboaaDoorMem
import Derived.Laws.Runes
import Derived.Laws.Concat
import Derived.Lib.ItoaLen
import Derived.Lib.ItoaMem
namespace Go.Proofs.YtlnliiihcajboaaDoor.Num
open Go.ChangeShapes Go.WideShapes Go.ChangeAt Go.RowKit
theorem enc_digit (u : Nat) (h : u < 10) : Utf8.encode (48 + (u : Int)) = ⟨#[UInt8.ofNat (48 + u)]⟩ := by
  have : u = 0 ∨ u = 1 ∨ u = 2 ∨ u = 3 ∨ u = 4 ∨ u = 5 ∨ u = 6 ∨ u = 7 ∨ u = 8 ∨ u = 9 := by omega
  rcases this with rfl | rfl | rfl | rfl | rfl | rfl | rfl | rfl | rfl | rfl <;> rfl
/-- the bytes of a text -/
def bs (l : List UInt8) : ByteArray := ⟨l.toArray⟩
theorem bs_add (a b : List UInt8) (ha : (a.length : Int) ≤ 1000) (hb : (b.length : Int) ≤ 1000) : ∀ W : World, (Op.stringOp .add (bs a) (bs b)).run Tryd.prog W = .ok (.string (bs (a ++ b))) W := fun W => run_string_add_lists W a b (by omega) (by omega)
theorem dec_len (u : Nat) (h : u ≤ 4294967295) : ((Lib.decDigits u).length : Int) ≤ 1000 := by
  have := Lib.itoa_length_le (u : Int) (by omega) (by omega)
  rw [Lib.itoa_nonneg] at this
  omega
theorem itoa_len (n : Int) (n0 : -2147483648 ≤ n) (n1 : n ≤ 4294967295) : ((Lib.itoa n).length : Int) ≤ 100 := by
  have := Lib.itoa_length_le n (by omega) (by omega)
  omega
end Go.Proofs.YtlnliiihcajboaaDoor.Num
namespace Go.Proofs.YtlnliiihcajboaaDoor.Walks
open Go.ChangeShapes Go.WideShapes Go.ChangeAt Go.RowKit
set_option linter.unusedVariables false
set_option maxHeartbeats 1000000 in
theorem number_small (n : Int) (n0 : 0 ≤ n) (n1 : n ≤ 9) (s : ByteArray) (S : Utf8.encode (48 + n) = s) (w : World) :
    Calls Tryd.prog 36 #[.int .i64 n] w fun e w' => e = .returned (.string s) ∧ w' = w := by
  go_enter Tryd.func36, Tryd.ntmps36
  go_wp2_with fail
  go_ret
  exact ⟨rfl, rfl⟩
set_option maxHeartbeats 1000000 in
theorem number_big (n : Int) (n0 : 10 ≤ n) (n1 : n ≤ 4294967295) (s t r : ByteArray) (A : ∀ W : World, (Op.stringOp .add s t).run Tryd.prog W = .ok (.string r) W) (S : Utf8.encode (48 + n % 10) = t) (ih : ∀ w, Calls Tryd.prog 36 #[.int .i64 (n / 10)] w fun e w' => e = .returned (.string s) ∧ w' = w) (w : World) :
    Calls Tryd.prog 36 #[.int .i64 n] w fun e w' => e = .returned (.string r) ∧ w' = w := by
  go_enter Tryd.func36, Tryd.ntmps36
  go_wp2_with fail
  refine (ih _).mono ?_; rintro e w' ⟨rfl, rfl⟩
  go_wp2_with fail
  go_ret
  exact ⟨rfl, rfl⟩
set_option maxHeartbeats 1000000 in
theorem number_neg (n : Int) (n0 : n < 0) (n1 : -2147483648 ≤ n) (s r : ByteArray) (A : ∀ W : World, (Op.stringOp .add ⟨#[45]⟩ s).run Tryd.prog W = .ok (.string r) W) (ih : ∀ w, Calls Tryd.prog 36 #[.int .i64 (-n)] w fun e w' => e = .returned (.string s) ∧ w' = w) (w : World) :
    Calls Tryd.prog 36 #[.int .i64 n] w fun e w' => e = .returned (.string r) ∧ w' = w := by
  go_enter Tryd.func36, Tryd.ntmps36
  go_wp2_with fail
  refine (ih _).mono ?_; rintro e w' ⟨rfl, rfl⟩
  go_wp2_with fail
  go_ret
  exact ⟨rfl, rfl⟩
theorem number_nat (k : Nat) : ∀ (u : Nat) (w : World), u ≤ k → u ≤ 4294967295 → Calls Tryd.prog 36 #[.int .i64 (u : Int)] w fun e w' => e = .returned (.string (Num.bs (Lib.decDigits u))) ∧ w' = w := by
  induction k with
  | zero =>
    intro u w hk hu
    have z : u = 0 := by omega
    subst z
    refine number_small _ (by omega) (by omega) _ ?_ w
    rw [Num.enc_digit 0 (by decide), Lib.decDigits]; rfl
  | succ k ih =>
    intro u w hk hu
    by_cases h : u < 10
    · refine number_small _ (by omega) (by omega) _ ?_ w
      rw [Num.enc_digit u h, Lib.decDigits, dif_pos h]; rfl
    · have q := number_big (u : Int) (by omega) (by omega) (Num.bs (Lib.decDigits (u / 10))) (Num.bs [UInt8.ofNat (48 + u % 10)]) _ (Num.bs_add _ _ (Num.dec_len _ (by omega)) (by simp)) (Num.enc_digit (u % 10) (by omega)) (fun w => ih (u / 10) w (by omega) (by omega)) w
      rw [Lib.decDigits, dif_neg h]
      exact q
theorem number_as (n : Int) (n0 : -2147483648 ≤ n) (n1 : n ≤ 4294967295) (w : World) : Calls Tryd.prog 36 #[.int .i64 n] w fun e w' => e = .returned (.string (Num.bs (Lib.itoa n))) ∧ w' = w := by
  by_cases h : n < 0
  · have q := number_neg n h n0 (Num.bs (Lib.decDigits n.natAbs)) _ (Num.bs_add [45] _ (by simp) (Num.dec_len _ (by omega))) (fun w => by
      have := number_nat n.natAbs n.natAbs w (Nat.le_refl _) (by omega)
      rw [show ((n.natAbs : Nat) : Int) = -n by omega] at this
      exact this) w
    rw [Lib.itoa, if_pos h]
    exact q
  · have := number_nat n.toNat n.toNat w (Nat.le_refl _) (by omega)
    rw [show ((n.toNat : Nat) : Int) = n by omega] at this
    rw [Lib.itoa, if_neg h]
    exact this
set_option maxHeartbeats 1000000 in
theorem reg_core (n : Int) (s r : ByteArray) (A : ∀ W : World, (Op.stringOp .add ⟨#[32, 120]⟩ s).run Tryd.prog W = .ok (.string r) W) (ih : ∀ w, Calls Tryd.prog 36 #[.int .i64 n] w fun e w' => e = .returned (.string s) ∧ w' = w) (w : World) :
    Calls Tryd.prog 35 #[.int .i64 n] w fun e w' => e = .returned (.string r) ∧ w' = w := by
  go_enter Tryd.func35, Tryd.ntmps35
  go_wp2_with fail
  refine (ih _).mono ?_; rintro e w' ⟨rfl, rfl⟩
  go_wp2_with fail
  go_ret
  exact ⟨rfl, rfl⟩
theorem reg_as (n : Int) (n0 : -2147483648 ≤ n) (n1 : n ≤ 4294967295) (w : World) : Calls Tryd.prog 35 #[.int .i64 n] w fun e w' => e = .returned (.string (Num.bs ([32, 120] ++ Lib.itoa n))) ∧ w' = w := by
  exact reg_core n _ _ (Num.bs_add [32, 120] _ (by simp) (by have := Num.itoa_len n n0 n1; omega)) (fun w => number_as n n0 n1 w) w
end Go.Proofs.YtlnliiihcajboaaDoor.Walks
