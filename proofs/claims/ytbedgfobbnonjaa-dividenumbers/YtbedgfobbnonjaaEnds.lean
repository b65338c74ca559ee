/- Numbers: what a unit of op, a, b holds behind its steps; at the end it tells what op makes of a and b. -/
import Derived.Test.YtbedgfobbnonjaaResult
namespace Go.Proofs.Ytbedgfobbnonjaa.Num
open Go.ChangeShapes Go.WideShapes Go.ChangeAt Go.RowKit
set_option linter.unusedVariables false
/-- is the first number below 0, is the second one -/
def mA (op a : Int) : Bool := sA op && (a / 2147483648 == 1)
def mB (op b : Int) : Bool := sB op && (b / 2147483648 == 1)
/-- the numbers without their signs -/
def px (op a : Int) : Nat := (tn a (mA op a)).toNat
def py (op b : Int) : Nat := (tn b (mB op b)).toNat
/-- the pair behind k steps -/
def pr (op a b : Int) (k : Nat) : Nat := rds (decide (op ≤ 41)) (py op b) (4 * k) (px op a)
def sg (op a b : Int) : Bool := ng op (mA op a) (mB op b) b
theorem tn_in (a : Int) (m : Bool) (h0 : 0 ≤ a) (h1 : a ≤ 4294967295) : 0 ≤ tn a m ∧ tn a m ≤ 4294967295 := by
  unfold tn; split <;> omega
theorem px_is (op a : Int) (h0 : 0 ≤ a) (h1 : a ≤ 4294967295) : ((px op a : Nat) : Int) = tn a (mA op a) := by
  have := tn_in a (mA op a) h0 h1
  unfold px; omega
theorem py_is (op b : Int) (h0 : 0 ≤ b) (h1 : b ≤ 4294967295) : ((py op b : Nat) : Int) = tn b (mB op b) := by
  have := tn_in b (mB op b) h0 h1
  unfold py; omega
theorem px_lt (op a : Int) (h0 : 0 ≤ a) (h1 : a ≤ 4294967295) : px op a < 4294967296 := by
  have := tn_in a (mA op a) h0 h1
  unfold px; omega
theorem py_lt (op b : Int) (h0 : 0 ≤ b) (h1 : b ≤ 4294967295) : py op b < 4294967296 := by
  have := tn_in b (mB op b) h0 h1
  unfold py; omega
/-- a number with its sign: turned, and whether -/
theorem sign_is (a : Int) (h0 : 0 ≤ a) (h1 : a ≤ 4294967295) : (a / 2147483648 == 1) = decide (wrap32 a < 0) ∧ tn a (decide (wrap32 a < 0)) = ((wrap32 a).natAbs : Int) := by
  by_cases c : a < 2147483648
  · have w : wrap32 a = a := by unfold wrap32; omega
    have d : decide (wrap32 a < 0) = false := by rw [decide_eq_false_iff_not]; omega
    rw [d, w, tn, if_neg (by decide)]
    exact ⟨by rw [beq_eq_false_iff_ne]; omega, by omega⟩
  · have w : wrap32 a = a - 4294967296 := by unfold wrap32; omega
    have d : decide (wrap32 a < 0) = true := by rw [decide_eq_true_iff]; omega
    rw [d, w, tn, if_pos rfl]
    exact ⟨by rw [beq_iff_eq]; omega, by omega⟩
theorem tdiv_abs (x y : Int) : x.tdiv y = if (decide (x < 0) != decide (y < 0)) = true then -((x.natAbs / y.natAbs : Nat) : Int) else ((x.natAbs / y.natAbs : Nat) : Int) := by
  rcases Int.lt_or_le x 0 with hx | hx <;> rcases Int.lt_or_le y 0 with hy | hy
  · rw [if_neg (by rw [decide_eq_true hx, decide_eq_true hy]; decide)]
    obtain ⟨m, rfl⟩ : ∃ m : Nat, x = -(m : Int) := ⟨x.natAbs, by omega⟩
    obtain ⟨n, rfl⟩ : ∃ n : Nat, y = -(n : Int) := ⟨y.natAbs, by omega⟩
    rw [Int.neg_tdiv, Int.tdiv_neg, Int.neg_neg, Int.natAbs_neg, Int.natAbs_neg, Int.natAbs_natCast, Int.natAbs_natCast, Int.ofNat_tdiv]
  · rw [if_pos (by rw [decide_eq_true hx, decide_eq_false (by omega)]; decide)]
    obtain ⟨m, rfl⟩ : ∃ m : Nat, x = -(m : Int) := ⟨x.natAbs, by omega⟩
    obtain ⟨n, rfl⟩ : ∃ n : Nat, y = (n : Int) := ⟨y.natAbs, by omega⟩
    rw [Int.neg_tdiv, Int.natAbs_neg, Int.natAbs_natCast, Int.natAbs_natCast, Int.ofNat_tdiv]
  · rw [if_pos (by rw [decide_eq_false (by omega : ¬ x < 0), decide_eq_true hy]; decide)]
    obtain ⟨m, rfl⟩ : ∃ m : Nat, x = (m : Int) := ⟨x.natAbs, by omega⟩
    obtain ⟨n, rfl⟩ : ∃ n : Nat, y = -(n : Int) := ⟨y.natAbs, by omega⟩
    rw [Int.tdiv_neg, Int.natAbs_neg, Int.natAbs_natCast, Int.natAbs_natCast, Int.ofNat_tdiv]
  · rw [if_neg (by rw [decide_eq_false (by omega : ¬ x < 0), decide_eq_false (by omega : ¬ y < 0)]; decide)]
    obtain ⟨m, rfl⟩ : ∃ m : Nat, x = (m : Int) := ⟨x.natAbs, by omega⟩
    obtain ⟨n, rfl⟩ : ∃ n : Nat, y = (n : Int) := ⟨y.natAbs, by omega⟩
    rw [Int.natAbs_natCast, Int.natAbs_natCast, Int.ofNat_tdiv]
theorem tmod_abs (x y : Int) : x.tmod y = if decide (x < 0) = true then -((x.natAbs % y.natAbs : Nat) : Int) else ((x.natAbs % y.natAbs : Nat) : Int) := by
  have e : x.tmod y = x.tmod (y.natAbs : Int) := by
    rcases Int.lt_or_le y 0 with hy | hy
    · rw [show y = -(y.natAbs : Int) by omega, Int.tmod_neg, Int.natAbs_neg, Int.natAbs_natCast]
    · rw [show (y.natAbs : Int) = y by omega]
  rw [e]
  rcases Int.lt_or_le x 0 with hx | hx
  · rw [if_pos (decide_eq_true hx)]
    obtain ⟨m, rfl⟩ : ∃ m : Nat, x = -(m : Int) := ⟨x.natAbs, by omega⟩
    rw [Int.neg_tmod, Int.natAbs_neg, Int.natAbs_natCast, Int.ofNat_tmod]
  · rw [if_neg (by rw [decide_eq_true_iff]; omega)]
    obtain ⟨m, rfl⟩ : ∃ m : Nat, x = (m : Int) := ⟨x.natAbs, by omega⟩
    rw [Int.natAbs_natCast, Int.ofNat_tmod]
theorem mul_abs (x y : Int) : x * y = if (decide (x < 0) != decide (y < 0)) = true then -((x.natAbs * y.natAbs : Nat) : Int) else ((x.natAbs * y.natAbs : Nat) : Int) := by
  rcases Int.lt_or_le x 0 with hx | hx <;> rcases Int.lt_or_le y 0 with hy | hy
  · rw [if_neg (by rw [decide_eq_true hx, decide_eq_true hy]; decide)]
    obtain ⟨m, rfl⟩ : ∃ m : Nat, x = -(m : Int) := ⟨x.natAbs, by omega⟩
    obtain ⟨n, rfl⟩ : ∃ n : Nat, y = -(n : Int) := ⟨y.natAbs, by omega⟩
    rw [Int.neg_mul_neg, Int.natAbs_neg, Int.natAbs_neg, Int.natAbs_natCast, Int.natAbs_natCast, Int.natCast_mul]
  · rw [if_pos (by rw [decide_eq_true hx, decide_eq_false (by omega)]; decide)]
    obtain ⟨m, rfl⟩ : ∃ m : Nat, x = -(m : Int) := ⟨x.natAbs, by omega⟩
    obtain ⟨n, rfl⟩ : ∃ n : Nat, y = (n : Int) := ⟨y.natAbs, by omega⟩
    rw [Int.neg_mul, Int.natAbs_neg, Int.natAbs_natCast, Int.natAbs_natCast, Int.natCast_mul]
  · rw [if_pos (by rw [decide_eq_false (by omega : ¬ x < 0), decide_eq_true hy]; decide)]
    obtain ⟨m, rfl⟩ : ∃ m : Nat, x = (m : Int) := ⟨x.natAbs, by omega⟩
    obtain ⟨n, rfl⟩ : ∃ n : Nat, y = -(n : Int) := ⟨y.natAbs, by omega⟩
    rw [Int.mul_neg, Int.natAbs_neg, Int.natAbs_natCast, Int.natAbs_natCast, Int.natCast_mul]
  · rw [if_neg (by rw [decide_eq_false (by omega : ¬ x < 0), decide_eq_false (by omega : ¬ y < 0)]; decide)]
    obtain ⟨m, rfl⟩ : ∃ m : Nat, x = (m : Int) := ⟨x.natAbs, by omega⟩
    obtain ⟨n, rfl⟩ : ∃ n : Nat, y = (n : Int) := ⟨y.natAbs, by omega⟩
    rw [Int.natAbs_natCast, Int.natAbs_natCast, Int.natCast_mul]
theorem wrap_is (n : Int) : IntKind.u64.wrap n = n % 18446744073709551616 := rfl
/-- numbers without a sign -/
theorem plainA (op a : Int) (h : sA op = false) (h0 : 0 ≤ a) : mA op a = false ∧ px op a = a.toNat := by
  have e : mA op a = false := by unfold mA; rw [h]; rfl
  exact ⟨e, by unfold px; rw [e]; rfl⟩
theorem plainB (op b : Int) (h : sB op = false) (h0 : 0 ≤ b) : mB op b = false ∧ py op b = b.toNat := by
  have e : mB op b = false := by unfold mB; rw [h]; rfl
  exact ⟨e, by unfold py; rw [e]; rfl⟩
theorem signA (op a : Int) (h : sA op = true) (h0 : 0 ≤ a) (h1 : a ≤ 4294967295) : mA op a = decide (wrap32 a < 0) ∧ px op a = (wrap32 a).natAbs := by
  have s := sign_is a h0 h1
  have e : mA op a = decide (wrap32 a < 0) := by unfold mA; rw [h, s.1]; rfl
  exact ⟨e, by unfold px; rw [e, s.2]; rfl⟩
theorem signB (op b : Int) (h : sB op = true) (h0 : 0 ≤ b) (h1 : b ≤ 4294967295) : mB op b = decide (wrap32 b < 0) ∧ py op b = (wrap32 b).natAbs := by
  have s := sign_is b h0 h1
  have e : mB op b = decide (wrap32 b < 0) := by unfold mB; rw [h, s.1]; rfl
  exact ⟨e, by unfold py; rw [e, s.2]; rfl⟩
theorem pr_mul (op a b : Int) (h : op ≤ 41) (a0 : 0 ≤ a) (a1 : a ≤ 4294967295) : pr op a b 8 = px op a * py op b := by
  unfold pr
  rw [decide_eq_true h]
  exact mul_end _ _ (px_lt op a a0 a1)
theorem pr_div (op a b : Int) (h : 41 < op) (a0 : 0 ≤ a) (a1 : a ≤ 4294967295) (hy : py op b ≠ 0) : pr op a b 8 = px op a % py op b * 4294967296 + px op a / py op b := by
  unfold pr
  rw [decide_eq_false (by omega)]
  exact div_end _ _ (px_lt op a a0 a1) (by omega)
theorem pr_div0 (op a b : Int) (h : 41 < op) (a0 : 0 ≤ a) (a1 : a ≤ 4294967295) (hy : py op b = 0) : pr op a b 8 = px op a * 4294967296 + 4294967295 := by
  unfold pr
  rw [decide_eq_false (by omega), hy]
  exact div_end0 _ (px_lt op a a0 a1)
theorem rs_lo (op p : Int) (g : Bool) (h : op = 38 ∨ op = 42 ∨ op = 43) : rs op p g = tn (p % 4294967296) g := by unfold rs; rw [if_pos h]
theorem rs_hi (op p : Int) (g : Bool) (h : op = 44 ∨ op = 45) : rs op p g = tn (p / 4294967296 % 4294967296) g := by unfold rs; rw [if_neg (by omega), if_pos h]
theorem end38 (a b : Int) (a0 : 0 ≤ a) (a1 : a ≤ 4294967295) (b0 : 0 ≤ b) (b1 : b ≤ 4294967295) : rs 38 (pr 38 a b 8 : Nat) (sg 38 a b) = ad 38 a b := by
  obtain ⟨e1, e2⟩ := plainA 38 a rfl a0
  obtain ⟨e3, e4⟩ := plainB 38 b rfl b0
  rw [pr_mul 38 a b (by decide) a0 a1, e2, e4, sg, e1, e3]
  show ((a.toNat * b.toNat : Nat) : Int) % 4294967296 = a * b % 4294967296
  rw [Int.natCast_mul, Int.toNat_of_nonneg a0, Int.toNat_of_nonneg b0]
theorem end41 (a b : Int) (a0 : 0 ≤ a) (a1 : a ≤ 4294967295) (b0 : 0 ≤ b) (b1 : b ≤ 4294967295) : rs 41 (pr 41 a b 8 : Nat) (sg 41 a b) = ad 41 a b := by
  obtain ⟨e1, e2⟩ := plainA 41 a rfl a0
  obtain ⟨e3, e4⟩ := plainB 41 b rfl b0
  rw [pr_mul 41 a b (by decide) a0 a1, e2, e4, sg, e1, e3]
  show ((a.toNat * b.toNat : Nat) : Int) / 4294967296 % 4294967296 = a * b / 4294967296 % 4294967296
  rw [Int.natCast_mul, Int.toNat_of_nonneg a0, Int.toNat_of_nonneg b0]
theorem high_is (p : Nat) (g : Bool) : (if g = true then IntKind.u64.wrap (-(p : Int)) else (p : Int)) / 4294967296 % 4294967296 = (if g = true then -(p : Int) else (p : Int)) / 4294967296 % 4294967296 := by
  cases g
  · rfl
  · rw [if_pos rfl, if_pos rfl, wrap_is]; omega
theorem end39 (a b : Int) (a0 : 0 ≤ a) (a1 : a ≤ 4294967295) (b0 : 0 ≤ b) (b1 : b ≤ 4294967295) : rs 39 (pr 39 a b 8 : Nat) (sg 39 a b) = ad 39 a b := by
  obtain ⟨e1, e2⟩ := signA 39 a rfl a0 a1
  obtain ⟨e3, e4⟩ := signB 39 b rfl b0 b1
  rw [pr_mul 39 a b (by decide) a0 a1, e2, e4, sg, e1, e3]
  show (if (decide (wrap32 a < 0) != decide (wrap32 b < 0)) = true then IntKind.u64.wrap (-(((wrap32 a).natAbs * (wrap32 b).natAbs : Nat) : Int)) else (((wrap32 a).natAbs * (wrap32 b).natAbs : Nat) : Int)) / 4294967296 % 4294967296 = wrap32 a * wrap32 b / 4294967296 % 4294967296
  rw [high_is, ← mul_abs]
theorem end40 (a b : Int) (a0 : 0 ≤ a) (a1 : a ≤ 4294967295) (b0 : 0 ≤ b) (b1 : b ≤ 4294967295) : rs 40 (pr 40 a b 8 : Nat) (sg 40 a b) = ad 40 a b := by
  obtain ⟨e1, e2⟩ := signA 40 a rfl a0 a1
  obtain ⟨e3, e4⟩ := plainB 40 b rfl b0
  have f : (false : Bool) = decide (b < 0) := by rw [decide_eq_false (by omega)]
  have n : b.toNat = b.natAbs := by omega
  rw [pr_mul 40 a b (by decide) a0 a1, e2, e4, sg, e1, e3, f, n]
  show (if (decide (wrap32 a < 0) != decide (b < 0)) = true then IntKind.u64.wrap (-(((wrap32 a).natAbs * b.natAbs : Nat) : Int)) else (((wrap32 a).natAbs * b.natAbs : Nat) : Int)) / 4294967296 % 4294967296 = wrap32 a * b / 4294967296 % 4294967296
  rw [high_is, ← mul_abs]
theorem low_of (r q : Nat) (hq : q < 4294967296) : ((r * 4294967296 + q : Nat) : Int) % 4294967296 = (q : Int) := by omega
theorem top_of (r q : Nat) (hr : r < 4294967296) (hq : q < 4294967296) : ((r * 4294967296 + q : Nat) : Int) / 4294967296 % 4294967296 = (r : Int) := by omega
theorem abs_lt (a : Int) : (wrap32 a).natAbs < 4294967296 := by have := w32_in a; omega
theorem tn_if (n : Nat) (g : Bool) (h : n < 4294967296) : tn (n : Int) g = (if g = true then -(n : Int) else (n : Int)) % 4294967296 := by
  unfold tn; cases g
  · rw [if_neg (by decide), if_neg (by decide)]; omega
  · rfl
theorem end42 (a b : Int) (a0 : 0 ≤ a) (a1 : a ≤ 4294967295) (b0 : 0 ≤ b) (b1 : b ≤ 4294967295) : rs 42 (pr 42 a b 8 : Nat) (sg 42 a b) = ad 42 a b := by
  obtain ⟨e1, e2⟩ := signA 42 a rfl a0 a1
  obtain ⟨e3, e4⟩ := signB 42 b rfl b0 b1
  have la := abs_lt a
  by_cases z : b = 0
  · subst z
    have g : sg 42 a 0 = false := by unfold sg ng; rw [if_neg (by decide), if_pos ⟨rfl, rfl⟩]
    have v : ad 42 a 0 = 4294967295 := by rw [show ad 42 a 0 = dv a 0 from rfl, dv, if_pos rfl]
    rw [pr_div0 42 a 0 (by decide) a0 a1 (by rw [e4]; decide +kernel), g, v, rs_lo 42 _ _ (by decide), low_of _ _ (by decide)]
    decide +kernel
  · have y0 := w32_zero b b0 b1 z
    have d := Nat.lt_of_le_of_lt (Nat.div_le_self (wrap32 a).natAbs (wrap32 b).natAbs) la
    rw [pr_div 42 a b (by decide) a0 a1 (by rw [e4]; omega), e2, e4, sg, e1, e3, show ad 42 a b = dv a b from rfl, dv, if_neg z]
    have g : ng 42 (decide (wrap32 a < 0)) (decide (wrap32 b < 0)) b = (decide (wrap32 a < 0) != decide (wrap32 b < 0)) := by unfold ng; rw [if_neg (by decide), if_neg (fun x => z x.2)]
    rw [g]
    rw [rs_lo 42 _ _ (by decide), low_of _ _ d, tn_if _ _ d, ← tdiv_abs]
theorem end43 (a b : Int) (a0 : 0 ≤ a) (a1 : a ≤ 4294967295) (b0 : 0 ≤ b) (b1 : b ≤ 4294967295) : rs 43 (pr 43 a b 8 : Nat) (sg 43 a b) = ad 43 a b := by
  obtain ⟨e1, e2⟩ := plainA 43 a rfl a0
  obtain ⟨e3, e4⟩ := plainB 43 b rfl b0
  by_cases z : b = 0
  · subst z
    rw [pr_div0 43 a 0 (by decide) a0 a1 (by rw [e4]; decide), sg, e1, e3]
    show ((px 43 a * 4294967296 + 4294967295 : Nat) : Int) % 4294967296 = 4294967295
    rw [low_of _ _ (by decide)]
    rfl
  · have d := Nat.lt_of_le_of_lt (Nat.div_le_self a.toNat b.toNat) (by omega : a.toNat < 4294967296)
    rw [pr_div 43 a b (by decide) a0 a1 (by rw [e4]; omega), e2, e4, sg, e1, e3, show ad 43 a b = du a b from rfl, du, if_neg z]
    show ((a.toNat % b.toNat * 4294967296 + a.toNat / b.toNat : Nat) : Int) % 4294967296 = _
    rw [low_of _ _ d, Int.natCast_ediv, Int.toNat_of_nonneg a0, Int.toNat_of_nonneg b0]
theorem end44 (a b : Int) (a0 : 0 ≤ a) (a1 : a ≤ 4294967295) (b0 : 0 ≤ b) (b1 : b ≤ 4294967295) : rs 44 (pr 44 a b 8 : Nat) (sg 44 a b) = ad 44 a b := by
  obtain ⟨e1, e2⟩ := signA 44 a rfl a0 a1
  obtain ⟨e3, e4⟩ := signB 44 b rfl b0 b1
  have la := abs_lt a
  by_cases z : b = 0
  · subst z
    rw [pr_div0 44 a 0 (by decide) a0 a1 (by rw [e4]; decide +kernel), e2, sg, e1, e3]
    have g : ng 44 (decide (wrap32 a < 0)) (decide (wrap32 0 < 0)) 0 = decide (wrap32 a < 0) := by unfold ng; rw [if_pos rfl]
    have v : ad 44 a 0 = a := by rw [show ad 44 a 0 = rm a 0 from rfl, rm, if_pos rfl]
    rw [g, v, rs_hi 44 _ _ (by decide), top_of _ _ la (by decide), tn_if _ _ la]
    unfold wrap32
    split <;> rename_i h <;> rw [decide_eq_true_iff] at h <;> omega
  · have y0 := w32_zero b b0 b1 z
    have m := Nat.lt_of_le_of_lt (Nat.mod_le (wrap32 a).natAbs (wrap32 b).natAbs) la
    have d := Nat.lt_of_le_of_lt (Nat.div_le_self (wrap32 a).natAbs (wrap32 b).natAbs) la
    rw [pr_div 44 a b (by decide) a0 a1 (by rw [e4]; omega), e2, e4, sg, e1, e3, show ad 44 a b = rm a b from rfl, rm, if_neg z]
    have g : ng 44 (decide (wrap32 a < 0)) (decide (wrap32 b < 0)) b = decide (wrap32 a < 0) := by unfold ng; rw [if_pos rfl]
    rw [g, rs_hi 44 _ _ (by decide), top_of _ _ m d, tn_if _ _ m, ← tmod_abs]
theorem end45 (a b : Int) (a0 : 0 ≤ a) (a1 : a ≤ 4294967295) (b0 : 0 ≤ b) (b1 : b ≤ 4294967295) : rs 45 (pr 45 a b 8 : Nat) (sg 45 a b) = ad 45 a b := by
  obtain ⟨e1, e2⟩ := plainA 45 a rfl a0
  obtain ⟨e3, e4⟩ := plainB 45 b rfl b0
  have la : a.toNat < 4294967296 := by omega
  by_cases z : b = 0
  · subst z
    rw [pr_div0 45 a 0 (by decide) a0 a1 (by rw [e4]; decide), e2, sg, e1, e3]
    show ((a.toNat * 4294967296 + 4294967295 : Nat) : Int) / 4294967296 % 4294967296 = a
    rw [top_of _ _ la (by decide), Int.toNat_of_nonneg a0]
  · have m := Nat.lt_of_le_of_lt (Nat.mod_le a.toNat b.toNat) la
    have d := Nat.lt_of_le_of_lt (Nat.div_le_self a.toNat b.toNat) la
    rw [pr_div 45 a b (by decide) a0 a1 (by rw [e4]; omega), e2, e4, sg, e1, e3, show ad 45 a b = ru a b from rfl, ru, if_neg z]
    show ((a.toNat % b.toNat * 4294967296 + a.toNat / b.toNat : Nat) : Int) / 4294967296 % 4294967296 = _
    rw [top_of _ _ m d, Int.natCast_emod, Int.toNat_of_nonneg a0, Int.toNat_of_nonneg b0]
theorem ends (op a b : Int) (h0 : 38 ≤ op) (h1 : op ≤ 45) (a0 : 0 ≤ a) (a1 : a ≤ 4294967295) (b0 : 0 ≤ b) (b1 : b ≤ 4294967295) : rs op (pr op a b 8 : Nat) (sg op a b) = ad op a b := by
  have : op = 38 ∨ op = 39 ∨ op = 40 ∨ op = 41 ∨ op = 42 ∨ op = 43 ∨ op = 44 ∨ op = 45 := by omega
  rcases this with rfl | rfl | rfl | rfl | rfl | rfl | rfl | rfl
  · exact end38 a b a0 a1 b0 b1
  · exact end39 a b a0 a1 b0 b1
  · exact end40 a b a0 a1 b0 b1
  · exact end41 a b a0 a1 b0 b1
  · exact end42 a b a0 a1 b0 b1
  · exact end43 a b a0 a1 b0 b1
  · exact end44 a b a0 a1 b0 b1
  · exact end45 a b a0 a1 b0 b1
end Go.Proofs.Ytbedgfobbnonjaa.Num
