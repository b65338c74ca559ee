/- Nums: Numbers: runs of bits and numbers with a sign, as remainders. Basic: Contracts of the program's and the document's own Bits and Sign. Fmt: Numbers: formats of ops; contracts of the program's formatOf and the document's Format. Judge: Contracts of Reads, Writes, Slow: the program's and the document's own; of the laws' own judged. RefBits: Contract of the document's own Bits (a loop, bit by bit). ImmNums: Numbers: the five immediates. Imms: Contracts of the program's five immediates. Oper: Numbers: an instruction's parts; contract of the program's withOperands. Ops: Contracts of the program's small functions that choose an op: no memory, numbers alone. Dec: Numbers: what a word is decoded as; contract of the program's Decode. UNums: Numbers: what an op makes of two numbers of 32 bits, and which branches are taken. VNums: Numbers: sizes, places, what is loaded and stored, bytes of a word put together. TNums: Numbers: sizes, places, what is loaded and stored, bytes of a word put together. TBasic: Contracts of the program's small functions, and of the document's own Size and Fits. TFits: Contracts of Fits, the program's and the document's. TCause: Causes: contracts of the program's and of the document's Inside, Device, Fetch, Access. TIndex: Index, the program's and the document's; the document's Access. St: What a machine is, as plain numbers; what a step makes of it. UBasic: Contracts of the program's small functions, and of the document's own bit. UDoA: The program's Do, op by op. UDoR: The document's own Do, op by op. UTk: Taken, the program's and the document's. UDo: Contracts of Do and Taken, the program's and the document's own: for any op. VBasic: Contracts of the program's small functions, and of the document's own Size and Fits. VFits: Contracts of Fits, the program's and the document's. VLoad: The program's Load, op by op, place by place. Judged: Contract of the laws' own judged: it returns true. VBytes: Numbers: bytes of a word picked by masks. -/
import Derived.Test.YtpkbkbllhpdfiaaGreatRows
import Derived.WalkKit
import Derived.ProofKit
import Derived.OpenShut
import Derived.WalkSpells
import Derived.Test.YtpkbkbllhpdfiaaGreatB01
import Derived.LoopN
namespace Go.Proofs.YtpkbkbllhpdfiaaGreat.Num
open Go.ChangeShapes Go.WideShapes Go.ChangeAt Go.RowKit
/-- the number v's remainder behind h bits and its sign: from -h up to h, h not among them -/
def sg (h v : Int) : Int := (v + h) % (2 * h) - h
/-- n bits of v from bit a on -/
def bt (v a n : Int) : Int := if 0 ≤ a ∧ a ≤ 31 ∧ 1 ≤ n ∧ n ≤ 32 then v / 2 ^ a.toNat % 2 ^ n.toNat else 0
/-- the lowest n bits of v, with a sign -/
def sn (v n : Int) : Int := if 1 ≤ n ∧ n ≤ 32 then sg (2 ^ (n.toNat - 1)) v else 0
theorem shift_mod (x : Int) (r n : Nat) (h : r + n = 32) : x * 2 ^ r % 4294967296 = x % 2 ^ n * 2 ^ r := by
  have e : (4294967296 : Int) = 2 ^ r * 2 ^ n := by rw [← Int.pow_add, h]; rfl
  rw [e, Int.mul_comm x, Int.mul_emod_mul_of_pos _ _ (Int.pow_pos (by decide)), Int.mul_comm]
theorem up_down (x : Int) (r n : Nat) (h : r + n = 32) : x * 2 ^ r % 4294967296 / 2 ^ r = x % 2 ^ n := by
  rw [shift_mod x r n h, Int.mul_ediv_cancel _ (Int.ne_of_gt (Int.pow_pos (by decide)))]
theorem wrap32_as (x : Int) : wrap32 x = (x + 2147483648) % 4294967296 - 2147483648 := by
  unfold wrap32; omega
theorem sign_up_down (x : Int) (r n : Nat) (h : r + (n + 1) = 32) : wrap32 (x * 2 ^ r % 4294967296) / 2 ^ r = sg (2 ^ n) x := by
  have e : (2147483648 : Int) = 2 ^ n * 2 ^ r := by rw [← Int.pow_add, show n + r = 31 by omega]; rfl
  have p : (2 : Int) ^ r ≠ 0 := Int.ne_of_gt (Int.pow_pos (by decide))
  have q : (x * 2 ^ r % 4294967296 + 2147483648) % 4294967296 = (x + 2 ^ n) * 2 ^ r % 4294967296 := by
    rw [Int.add_mul, ← e, Int.emod_add_emod]
  rw [wrap32_as, q, shift_mod _ r (n + 1) h, e, ← Int.sub_mul, Int.mul_ediv_cancel _ p, sg, Int.pow_succ, Int.mul_comm 2]
theorem bt_as (v a n : Int) (a0 : 0 ≤ a) (a1 : a ≤ 31) (n0 : 1 ≤ n) (n1 : n ≤ 32) : v / 2 ^ a.toNat * 2 ^ (32 - n).toNat % 4294967296 / 2 ^ (32 - n).toNat = bt v a n := by
  rw [up_down _ _ n.toNat (by omega), bt, if_pos ⟨a0, a1, n0, n1⟩]
theorem bt_off (v a n : Int) (h : a < 0 ∨ 31 < a ∨ n < 1 ∨ 32 < n) : bt v a n = 0 := by
  rw [bt, if_neg (by omega)]
theorem sn_as (v n : Int) (n0 : 1 ≤ n) (n1 : n ≤ 32) : wrap32 (v * 2 ^ (32 - n).toNat % 4294967296) / 2 ^ (32 - n).toNat = sn v n := by
  rw [sign_up_down _ _ (n.toNat - 1) (by omega), sn, if_pos ⟨n0, n1⟩]
theorem sn_off (v n : Int) (h : n < 1 ∨ 32 < n) : sn v n = 0 := by
  rw [sn, if_neg (by omega)]
/-- one bit more -/
theorem join_bit (x i : Nat) : x % 2 ^ i ||| x / 2 ^ i % 2 * 2 ^ i = x % 2 ^ (i + 1) := by
  rw [Nat.or_comm, nat_join i _ _ (Nat.mul_mod_left _ _) (Nat.mod_lt _ (Nat.two_pow_pos i)), Nat.pow_succ, Nat.mod_mul]
  rw [Nat.mul_comm, Nat.add_comm]
/-- behind the word's last bit there is no other one -/
theorem mod_end (v a k n : Nat) (hv : v < 4294967296) (h : a + k = 32) (hn : k ≤ n) : v / 2 ^ a % 2 ^ k = v / 2 ^ a % 2 ^ n := by
  have l : v / 2 ^ a < 2 ^ k := by
    rw [Nat.div_lt_iff_lt_mul (Nat.two_pow_pos a), ← Nat.pow_add, Nat.add_comm, h]; exact hv
  rw [Nat.mod_eq_of_lt l, Nat.mod_eq_of_lt (Nat.lt_of_lt_of_le l (Nat.pow_le_pow_right (by decide) hn))]
end Go.Proofs.YtpkbkbllhpdfiaaGreat.Num
namespace Go.Proofs.YtpkbkbllhpdfiaaGreat.Walks
open Go.ChangeShapes Go.WideShapes Go.ChangeAt Go.RowKit
theorem ret_int {k : IntKind} {a b : Int} (h : a = b) : Ending.returned (.int k a) = .returned (.int k b) := by rw [h]
set_option maxHeartbeats 1000000 in
theorem bits_in (v a n : Int) (a0 : 0 ≤ a) (a1 : a ≤ 31) (n0 : 1 ≤ n) (n1 : n ≤ 32) (w : World) :
    Calls Tryz.prog 78 #[.int .u32 v, .int .i64 a, .int .i64 n] w fun e w' => e = .returned (.int .u32 (Num.bt v a n)) ∧ w' = w := by
  go_enter Tryz.func78, Tryz.ntmps78
  go_wp2
  go_ret
  exact ⟨ret_int (Num.bt_as v a n a0 a1 n0 n1), rfl⟩
set_option maxHeartbeats 1000000 in
theorem bits_off (v a n : Int) (h : a < 0 ∨ 31 < a ∨ n < 1 ∨ 32 < n) (w : World) :
    Calls Tryz.prog 78 #[.int .u32 v, .int .i64 a, .int .i64 n] w fun e w' => e = .returned (.int .u32 0) ∧ w' = w := by
  go_enter Tryz.func78, Tryz.ntmps78
  go_wp2
  all_goals first
    | (exfalso; omega)
    | (go_ret; exact ⟨rfl, rfl⟩)
theorem bits_as (v a n c : Int) (H : Hid (Num.bt v a n = c)) (w : World) :
    Calls Tryz.prog 78 #[.int .u32 v, .int .i64 a, .int .i64 n] w fun e w' => e = .returned (.int .u32 c) ∧ w' = w := by
  rw [← H.out]
  by_cases h : 0 ≤ a ∧ a ≤ 31 ∧ 1 ≤ n ∧ n ≤ 32
  · exact bits_in v a n h.1 h.2.1 h.2.2.1 h.2.2.2 w
  · have h' : a < 0 ∨ 31 < a ∨ n < 1 ∨ 32 < n := by omega
    rw [Num.bt_off v a n h']
    exact bits_off v a n h' w
set_option maxHeartbeats 1000000 in
theorem sign_in (v n : Int) (n0 : 1 ≤ n) (n1 : n ≤ 32) (w : World) :
    Calls Tryz.prog 125 #[.int .u32 v, .int .i64 n] w fun e w' => e = .returned (.int .i32 (Num.sn v n)) ∧ w' = w := by
  go_enter Tryz.func125, Tryz.ntmps125
  go_wp2
  go_ret
  exact ⟨ret_int (Num.sn_as v n n0 n1), rfl⟩
set_option maxHeartbeats 1000000 in
theorem sign_off (v n : Int) (h : n < 1 ∨ 32 < n) (w : World) :
    Calls Tryz.prog 125 #[.int .u32 v, .int .i64 n] w fun e w' => e = .returned (.int .i32 0) ∧ w' = w := by
  go_enter Tryz.func125, Tryz.ntmps125
  go_wp2
  all_goals first
    | (exfalso; omega)
    | (go_ret; exact ⟨rfl, rfl⟩)
theorem sign_as (v n c : Int) (H : Hid (Num.sn v n = c)) (w : World) :
    Calls Tryz.prog 125 #[.int .u32 v, .int .i64 n] w fun e w' => e = .returned (.int .i32 c) ∧ w' = w := by
  rw [← H.out]
  by_cases h : 1 ≤ n ∧ n ≤ 32
  · exact sign_in v n h.1 h.2 w
  · have h' : n < 1 ∨ 32 < n := by omega
    rw [Num.sn_off v n h']
    exact sign_off v n h' w
set_option maxHeartbeats 1000000 in
theorem rsign_in (v n : Int) (n0 : 1 ≤ n) (n1 : n ≤ 32) (w : World) :
    Calls Tryz.prog 111 #[.int .u32 v, .int .i64 n] w fun e w' => e = .returned (.int .i32 (Num.sn v n)) ∧ w' = w := by
  go_enter Tryz.func111, Tryz.ntmps111
  go_wp2
  go_ret
  exact ⟨ret_int (Num.sn_as v n n0 n1), rfl⟩
set_option maxHeartbeats 1000000 in
theorem rsign_off (v n : Int) (h : n < 1 ∨ 32 < n) (w : World) :
    Calls Tryz.prog 111 #[.int .u32 v, .int .i64 n] w fun e w' => e = .returned (.int .i32 0) ∧ w' = w := by
  go_enter Tryz.func111, Tryz.ntmps111
  go_wp2
  all_goals first
    | (exfalso; omega)
    | (go_ret; exact ⟨rfl, rfl⟩)
theorem rsign_as (v n c : Int) (H : Hid (Num.sn v n = c)) (w : World) :
    Calls Tryz.prog 111 #[.int .u32 v, .int .i64 n] w fun e w' => e = .returned (.int .i32 c) ∧ w' = w := by
  rw [← H.out]
  by_cases h : 1 ≤ n ∧ n ≤ 32
  · exact rsign_in v n h.1 h.2 w
  · have h' : n < 1 ∨ 32 < n := by omega
    rw [Num.sn_off v n h']
    exact rsign_off v n h' w
end Go.Proofs.YtpkbkbllhpdfiaaGreat.Walks
namespace Go.Proofs.YtpkbkbllhpdfiaaGreat.Num
/-- which format an op has: the program's own numbers of formats -/
def fm (o : Int) : Int :=
  if o < 1 ∨ 55 < o then 0 else if o ≤ 2 then 7 else if o = 3 then 8 else if o = 4 then 3 else if o ≤ 10 then 6 else if o ≤ 15 then 3
  else if o ≤ 18 then 5 else if o ≤ 24 then 3 else if o ≤ 27 then 4 else if o ≤ 45 then 2 else if o ≤ 49 then 1 else if o ≤ 52 then 9 else 10
/-- the document's letter of a format -/
def lt (f : Int) : Int := if f = 7 then 85 else if f = 8 then 74 else if f = 3 then 73 else if f = 6 then 66 else if f = 5 then 83 else if f = 4 then 72 else if f = 2 then 82 else if f = 9 then 67 else if f = 10 then 67 else if f = 1 then 78 else 0
theorem fm_parts (o : Int) : (o < 1 ∧ fm o = 0) ∨ (1 ≤ o ∧ o ≤ 2 ∧ fm o = 7) ∨ (o = 3 ∧ fm o = 8) ∨ (o = 4 ∧ fm o = 3) ∨ (5 ≤ o ∧ o ≤ 10 ∧ fm o = 6) ∨ (11 ≤ o ∧ o ≤ 15 ∧ fm o = 3) ∨ (16 ≤ o ∧ o ≤ 18 ∧ fm o = 5) ∨ (19 ≤ o ∧ o ≤ 24 ∧ fm o = 3) ∨ (25 ≤ o ∧ o ≤ 27 ∧ fm o = 4) ∨ (28 ≤ o ∧ o ≤ 45 ∧ fm o = 2) ∨ (46 ≤ o ∧ o ≤ 49 ∧ fm o = 1) ∨ (50 ≤ o ∧ o ≤ 52 ∧ fm o = 9) ∨ (53 ≤ o ∧ o ≤ 55 ∧ fm o = 10) ∨ (55 < o ∧ fm o = 0) := by
  have p : (o < 1) ∨ (1 ≤ o ∧ o ≤ 2) ∨ (o = 3) ∨ (o = 4) ∨ (5 ≤ o ∧ o ≤ 10) ∨ (11 ≤ o ∧ o ≤ 15) ∨ (16 ≤ o ∧ o ≤ 18) ∨ (19 ≤ o ∧ o ≤ 24) ∨ (25 ≤ o ∧ o ≤ 27) ∨ (28 ≤ o ∧ o ≤ 45) ∨ (46 ≤ o ∧ o ≤ 49) ∨ (50 ≤ o ∧ o ≤ 52) ∨ (53 ≤ o ∧ o ≤ 55) ∨ (55 < o) := by omega
  rcases p with h | h | h | h | h | h | h | h | h | h | h | h | h | h
  · refine .inl (⟨h, ?_⟩)
    unfold fm; repeat (first | rw [if_pos (by omega)] | rw [if_neg (by omega)])
  · refine .inr (.inl (⟨h.1, h.2, ?_⟩))
    unfold fm; repeat (first | rw [if_pos (by omega)] | rw [if_neg (by omega)])
  · refine .inr (.inr (.inl (⟨h, ?_⟩)))
    unfold fm; repeat (first | rw [if_pos (by omega)] | rw [if_neg (by omega)])
  · refine .inr (.inr (.inr (.inl (⟨h, ?_⟩))))
    unfold fm; repeat (first | rw [if_pos (by omega)] | rw [if_neg (by omega)])
  · refine .inr (.inr (.inr (.inr (.inl (⟨h.1, h.2, ?_⟩)))))
    unfold fm; repeat (first | rw [if_pos (by omega)] | rw [if_neg (by omega)])
  · refine .inr (.inr (.inr (.inr (.inr (.inl (⟨h.1, h.2, ?_⟩))))))
    unfold fm; repeat (first | rw [if_pos (by omega)] | rw [if_neg (by omega)])
  · refine .inr (.inr (.inr (.inr (.inr (.inr (.inl (⟨h.1, h.2, ?_⟩)))))))
    unfold fm; repeat (first | rw [if_pos (by omega)] | rw [if_neg (by omega)])
  · refine .inr (.inr (.inr (.inr (.inr (.inr (.inr (.inl (⟨h.1, h.2, ?_⟩))))))))
    unfold fm; repeat (first | rw [if_pos (by omega)] | rw [if_neg (by omega)])
  · refine .inr (.inr (.inr (.inr (.inr (.inr (.inr (.inr (.inl (⟨h.1, h.2, ?_⟩)))))))))
    unfold fm; repeat (first | rw [if_pos (by omega)] | rw [if_neg (by omega)])
  · refine .inr (.inr (.inr (.inr (.inr (.inr (.inr (.inr (.inr (.inl (⟨h.1, h.2, ?_⟩))))))))))
    unfold fm; repeat (first | rw [if_pos (by omega)] | rw [if_neg (by omega)])
  · refine .inr (.inr (.inr (.inr (.inr (.inr (.inr (.inr (.inr (.inr (.inl (⟨h.1, h.2, ?_⟩)))))))))))
    unfold fm; repeat (first | rw [if_pos (by omega)] | rw [if_neg (by omega)])
  · refine .inr (.inr (.inr (.inr (.inr (.inr (.inr (.inr (.inr (.inr (.inr (.inl (⟨h.1, h.2, ?_⟩))))))))))))
    unfold fm; repeat (first | rw [if_pos (by omega)] | rw [if_neg (by omega)])
  · refine .inr (.inr (.inr (.inr (.inr (.inr (.inr (.inr (.inr (.inr (.inr (.inr (.inl (⟨h.1, h.2, ?_⟩)))))))))))))
    unfold fm; repeat (first | rw [if_pos (by omega)] | rw [if_neg (by omega)])
  · refine .inr (.inr (.inr (.inr (.inr (.inr (.inr (.inr (.inr (.inr (.inr (.inr (.inr ((⟨h, ?_⟩))))))))))))))
    unfold fm; repeat (first | rw [if_pos (by omega)] | rw [if_neg (by omega)])
end Go.Proofs.YtpkbkbllhpdfiaaGreat.Num
namespace Go.Proofs.YtpkbkbllhpdfiaaGreat.Walks
open Go.ChangeShapes Go.WideShapes Go.ChangeAt Go.RowKit
set_option maxHeartbeats 4000000 in
theorem format_all (o : Int) (w : World) :
    Calls Tryz.prog 86 #[.int .i64 o] w fun e w' => e = .returned (.int .i64 (Num.fm o)) ∧ w' = w := by
  rcases Num.fm_parts o with ⟨h0, h⟩ | ⟨h0, h1, h⟩ | ⟨rfl, h⟩ | ⟨rfl, h⟩ | ⟨h0, h1, h⟩ | ⟨h0, h1, h⟩ | ⟨h0, h1, h⟩ | ⟨h0, h1, h⟩ | ⟨h0, h1, h⟩ | ⟨h0, h1, h⟩ | ⟨h0, h1, h⟩ | ⟨h0, h1, h⟩ | ⟨h0, h1, h⟩ | ⟨h0, h⟩
  all_goals (rw [h]; clear h; go_enter Tryz.func86, Tryz.ntmps86; go_wp2; go_ret; exact ⟨rfl, rfl⟩)
theorem format_as (o f : Int) (H : Hid (Num.fm o = f)) (w : World) :
    Calls Tryz.prog 86 #[.int .i64 o] w fun e w' => e = .returned (.int .i64 f) ∧ w' = w := by
  rw [← H.out]; exact format_all o w
set_option maxHeartbeats 4000000 in
theorem rformat_all (o : Int) (w : World) :
    Calls Tryz.prog 44 #[.int .i64 o] w fun e w' => e = .returned (.int .u8 (Num.lt (Num.fm o))) ∧ w' = w := by
  rcases Num.fm_parts o with ⟨h0, h⟩ | ⟨h0, h1, h⟩ | ⟨rfl, h⟩ | ⟨rfl, h⟩ | ⟨h0, h1, h⟩ | ⟨h0, h1, h⟩ | ⟨h0, h1, h⟩ | ⟨h0, h1, h⟩ | ⟨h0, h1, h⟩ | ⟨h0, h1, h⟩ | ⟨h0, h1, h⟩ | ⟨h0, h1, h⟩ | ⟨h0, h1, h⟩ | ⟨h0, h⟩
  all_goals (rw [h]; clear h; go_enter Tryz.func44, Tryz.ntmps44; go_wp2)
  all_goals first
    | (exfalso; simp only [beq_iff_eq, beq_eq_false_iff_ne, ne_eq] at *; omega)
    | (go_ret; exact ⟨rfl, rfl⟩)
theorem rformat_as (o f : Int) (H : Hid (Num.lt (Num.fm o) = f)) (w : World) :
    Calls Tryz.prog 44 #[.int .i64 o] w fun e w' => e = .returned (.int .u8 f) ∧ w' = w := by
  rw [← H.out]; exact rformat_all o w
end Go.Proofs.YtpkbkbllhpdfiaaGreat.Walks
namespace Go.Proofs.YtpkbkbllhpdfiaaGreat.Num
def r1 (f : Int) : Bool := f = 2 || f = 5 || f = 6 || f = 3 || f = 4 || f = 9
def r2 (f : Int) : Bool := f = 2 || f = 5 || f = 6
def wf (f : Int) : Bool := !(f = 0 || f = 1 || f = 5 || f = 6)
def wr (f d : Int) : Bool := wf f && d != 0
def sl (o : Int) : Int := if o < 38 then 0 else if o ≤ 41 then 1 else if o ≤ 45 then 2 else 0
theorem fm_is (o : Int) : fm o = 0 ∨ fm o = 1 ∨ fm o = 2 ∨ fm o = 3 ∨ fm o = 4 ∨ fm o = 5 ∨ fm o = 6 ∨ fm o = 7 ∨ fm o = 8 ∨ (fm o = 9 ∧ o ≤ 52) ∨ (fm o = 10 ∧ 52 < o) := by
  have := fm_parts o
  omega
theorem sl_parts (o : Int) : (o < 38 ∧ sl o = 0) ∨ (o = 38 ∧ sl o = 1) ∨ (o = 39 ∧ sl o = 1) ∨ (o = 40 ∧ sl o = 1) ∨ (o = 41 ∧ sl o = 1) ∨ (o = 42 ∧ sl o = 2) ∨ (o = 43 ∧ sl o = 2) ∨ (o = 44 ∧ sl o = 2) ∨ (o = 45 ∧ sl o = 2) ∨ (45 < o ∧ sl o = 0) := by
  unfold sl
  omega
end Go.Proofs.YtpkbkbllhpdfiaaGreat.Num
namespace Go.Proofs.YtpkbkbllhpdfiaaGreat.Walks
open Go.ChangeShapes Go.WideShapes Go.ChangeAt Go.RowKit
set_option linter.unusedVariables false
theorem hideP {p : Prop} (h : p) : Hid p := h
abbrev cells (o d a b n : Int) : Array Value := #[.int .i64 o, .int .i64 d, .int .i64 a, .int .i64 b, .int .i32 n]
end Go.Proofs.YtpkbkbllhpdfiaaGreat.Walks
namespace Go.Proofs.YtpkbkbllhpdfiaaGreat.Walks
open Go.ChangeShapes Go.WideShapes Go.ChangeAt Go.RowKit
set_option maxHeartbeats 1000000 in
theorem rbits_off (v a n : Int) (h : a < 0 ∨ 31 < a ∨ n < 1 ∨ 32 < n) (w : World) :
    Calls Tryz.prog 59 #[.int .u32 v, .int .i64 a, .int .i64 n] w fun e w' => e = .returned (.int .u32 0) ∧ w' = w := by
  go_enter Tryz.func59, Tryz.ntmps59
  go_wp2
  all_goals first
    | (exfalso; omega)
    | (go_ret; exact ⟨rfl, rfl⟩)
theorem one_more (v a k c : Nat) (hv : v < 4294967296) (hak : a + k < 32) (HC : v / 2 ^ a % 2 ^ k = c) :
    bits .or .u32 (c : Int) (bits .and .u32 ((v : Int) / 2 ^ (a + k)) 1 * 2 ^ k % 4294967296) = ((v / 2 ^ a % 2 ^ (k + 1) : Nat) : Int) := by
  have e : ((v : Int) / 2 ^ (a + k)) = ((v / 2 ^ (a + k) : Nat) : Int) := by simp
  have l : v / 2 ^ (a + k) ≤ v := Nat.div_le_self _ _
  have d : v / 2 ^ (a + k) = v / 2 ^ a / 2 ^ k := by rw [Nat.pow_add, Nat.div_div_eq_div_mul]
  have m : v / 2 ^ (a + k) % 2 < 2 := Nat.mod_lt _ (by decide)
  have p : 2 ^ k ≤ 2 ^ 31 := Nat.pow_le_pow_right (by decide) (by omega)
  have q : v / 2 ^ (a + k) % 2 * 2 ^ k < 4294967296 := by
    generalize 2 ^ k = y at p ⊢
    rcases Nat.mod_two_eq_zero_or_one (v / 2 ^ (a + k)) with h | h
    · rw [h]; omega
    · rw [h]; omega
  have z : c < 4294967296 := by
    have : c ≤ v := by rw [← HC]; exact Nat.le_trans (Nat.mod_le _ _) (Nat.div_le_self _ _)
    omega
  have g : ((v / 2 ^ (a + k) % 2 : Nat) : Int) * 2 ^ k % 4294967296 = ((v / 2 ^ (a + k) % 2 * 2 ^ k : Nat) : Int) := by
    have : ((v / 2 ^ (a + k) % 2 : Nat) : Int) * 2 ^ k = ((v / 2 ^ (a + k) % 2 * 2 ^ k : Nat) : Int) := by simp
    rw [this]
    generalize v / 2 ^ (a + k) % 2 * 2 ^ k = y at q ⊢
    omega
  rw [e, show (1 : Int) = ((1 : Nat) : Int) from rfl, u32_and_nat _ _ (by omega) (by decide), Nat.and_one_is_mod, g, u32_or_nat _ _ z q, d, ← HC, Num.join_bit]
set_option maxHeartbeats 1000000 in
theorem rbits_in (v a n R : Nat) (hv : Hid (v < 4294967296)) (a1 : (a : Int) ≤ 31) (n0 : 1 ≤ (n : Int)) (n1 : (n : Int) ≤ 32) (HR : Hid (v / 2 ^ a % 2 ^ n = R)) (w : World) :
    Calls Tryz.prog 59 #[.int .u32 (v : Int), .int .i64 (a : Int), .int .i64 (n : Int)] w fun e w' => e = .returned (.int .u32 (R : Int)) ∧ w' = w := by
  go_enter Tryz.func59, Tryz.ntmps59
  go_wp2
  go_loop [7, 8] (fun s i => ∃ k c : Nat, (k : Int) ≤ n ∧ (a : Int) + k ≤ 32 ∧ Hid (v / 2 ^ a % 2 ^ k = c) ∧ i = .int .i64 k ∧ s = .int .u32 (c : Nat)) (fun _ i => 32 - (intOf i).toNat)
  case atStart => exact ⟨0, 0, by omega, by omega, by unfold Hid; rw [Nat.pow_zero, Nat.mod_one], rfl, rfl⟩
  case round =>
    obtain ⟨k, c, hk, hak, HC, rfl, rfl⟩ := hrel
    by_cases hlt : (k : Int) < n
    · by_cases hat : (a : Int) + k < 32
      · go_wp2_with fail
        refine ⟨⟨k + 1, v / 2 ^ a % 2 ^ (k + 1), by omega, by omega, rfl, by rw [Int.natCast_add]; rfl, ?_⟩, by simp [intOf]; omega⟩
        rw [one_more v a k c hv.out (by omega) HC.out]
      · go_wp2_with fail
        go_ret
        refine ⟨ret_int ?_, rfl⟩
        rw [← HC.out, ← HR.out, Num.mod_end v a k n hv.out (by omega) (by omega)]
    · go_wp2_with fail
      go_ret
      refine ⟨ret_int ?_, rfl⟩
      rw [← HC.out, ← HR.out, show k = n by omega]
theorem rbits_as (v a n c : Int) (h0 : 0 ≤ v) (h1 : v ≤ 4294967295) (H : Hid (Num.bt v a n = c)) (w : World) :
    Calls Tryz.prog 59 #[.int .u32 v, .int .i64 a, .int .i64 n] w fun e w' => e = .returned (.int .u32 c) ∧ w' = w := by
  rw [← H.out]
  by_cases h : 0 ≤ a ∧ a ≤ 31 ∧ 1 ≤ n ∧ n ≤ 32
  · rw [Num.bt, if_pos h]
    obtain ⟨a0, a1, n0, n1⟩ := h
    obtain ⟨x, rfl⟩ := Int.eq_ofNat_of_zero_le h0
    obtain ⟨y, rfl⟩ := Int.eq_ofNat_of_zero_le a0
    obtain ⟨z, rfl⟩ := Int.eq_ofNat_of_zero_le (show 0 ≤ n by omega)
    have := rbits_in x y z _ (by unfold Hid; omega) a1 n0 n1 rfl w
    have e : (x : Int) / 2 ^ (y : Int).toNat % 2 ^ (z : Int).toNat = ((x / 2 ^ y % 2 ^ z : Nat) : Int) := by simp
    rw [e]
    exact this
  · have h' : a < 0 ∨ 31 < a ∨ n < 1 ∨ 32 < n := by omega
    rw [Num.bt_off v a n h']
    exact rbits_off v a n h' w
end Go.Proofs.YtpkbkbllhpdfiaaGreat.Walks
namespace Go.Proofs.YtpkbkbllhpdfiaaGreat.Num
open Go.ChangeShapes Go.WideShapes Go.ChangeAt Go.RowKit
def iI (v : Int) : Int := sg 2048 (v / 1048576 % 4096)
def iS (v : Int) : Int := sg 2048 (v / 33554432 % 128 * 32 + v / 128 % 32)
def iB (v : Int) : Int := sg 4096 (v / 2147483648 % 2 * 4096 + v / 128 % 2 * 2048 + v / 33554432 % 64 * 32 + v / 256 % 16 * 2)
def iU (v : Int) : Int := sg 2147483648 (v / 4096 % 1048576 * 4096)
def iJ (v : Int) : Int := sg 1048576 (v / 2147483648 % 2 * 1048576 + v / 4096 % 256 * 4096 + v / 1048576 % 2 * 2048 + v / 2097152 % 1024 * 2)
theorem bt_lit (v a n p q : Int) (a0 : 0 ≤ a) (a1 : a ≤ 31) (n0 : 1 ≤ n) (n1 : n ≤ 32) (hp : (2 : Int) ^ a.toNat = p) (hq : (2 : Int) ^ n.toNat = q) : bt v a n = v / p % q := by
  rw [bt, if_pos ⟨a0, a1, n0, n1⟩, hp, hq]
theorem sn_lit (v n h : Int) (n0 : 1 ≤ n) (n1 : n ≤ 32) (hh : (2 : Int) ^ (n.toNat - 1) = h) : sn v n = sg h v := by
  rw [sn, if_pos ⟨n0, n1⟩, hh]
/-- two numbers with no bit in common, put together -/
theorem or_join (i : Nat) (p x y : Int) (hp : ((2 ^ i : Nat) : Int) = p) (x0 : 0 ≤ x) (x1 : x < 4294967296) (y0 : 0 ≤ y) (y1 : y < 4294967296) (hx : x % p = 0) (hy : y < p) : bits .or .u32 x y = x + y := by
  subst hp
  obtain ⟨a, rfl⟩ := Int.eq_ofNat_of_zero_le x0
  obtain ⟨b, rfl⟩ := Int.eq_ofNat_of_zero_le y0
  rw [u32_or_nat _ _ (by omega) (by omega), nat_join i a b (by omega) (by omega), Int.natCast_add]
end Go.Proofs.YtpkbkbllhpdfiaaGreat.Num
namespace Go.Proofs.YtpkbkbllhpdfiaaGreat.Walks
open Go.ChangeShapes Go.WideShapes Go.ChangeAt Go.RowKit
set_option linter.unusedVariables false
set_option maxHeartbeats 1000000 in
theorem immI_core (v x0  c : Int) (l0 : 0 ≤ x0) (u0 : x0 ≤ 4095) (X0 : Hid (Num.bt v 20 12 = x0)) (C : Hid (Num.sn (x0) 12 = c)) (w : World) :
    Calls Tryz.prog 87 #[.int .u32 v] w fun e w' => e = .returned (.int .i32 c) ∧ w' = w := by
  go_enter Tryz.func87, Tryz.ntmps87
  go_wp2_with fail
  refine (bits_as _ _ _ _ X0 _).mono ?_; rintro e w' ⟨rfl, rfl⟩
  go_wp2_with fail
  refine (sign_as _ _ _ C _).mono ?_; rintro e w' ⟨rfl, rfl⟩
  go_wp2_with fail
  go_ret
  exact ⟨rfl, rfl⟩
theorem immI_as (v c : Int) (h0 : 0 ≤ v) (h1 : v ≤ 4294967295) (H : Hid (Num.iI v = c)) (w : World) :
    Calls Tryz.prog 87 #[.int .u32 v] w fun e w' => e = .returned (.int .i32 c) ∧ w' = w := by
  refine immI_core v (v / 1048576 % 4096)  c 
    (by omega) (by omega) (Num.bt_lit v 20 12 1048576 4096 (by decide) (by decide) (by decide) (by decide) (by decide) (by decide))
    ?_ w
  rw [Num.sn_lit _ 12 2048 (by decide) (by decide) (by decide)]; exact H
set_option maxHeartbeats 1000000 in
theorem immS_core (v x0 x1 s1 c : Int) (l0 : 0 ≤ x0) (u0 : x0 ≤ 127) (X0 : Hid (Num.bt v 25 7 = x0)) (l1 : 0 ≤ x1) (u1 : x1 ≤ 31) (X1 : Hid (Num.bt v 7 5 = x1)) (O1 : bits .or .u32 (x0 * 32) (x1) = s1) (lo1 : 0 ≤ s1) (uo1 : s1 ≤ 4294967295) (C : Hid (Num.sn (s1) 12 = c)) (w : World) :
    Calls Tryz.prog 88 #[.int .u32 v] w fun e w' => e = .returned (.int .i32 c) ∧ w' = w := by
  go_enter Tryz.func88, Tryz.ntmps88
  go_wp2_with fail
  refine (bits_as _ _ _ _ X0 _).mono ?_; rintro e w' ⟨rfl, rfl⟩
  go_wp2_with fail
  refine (bits_as _ _ _ _ X1 _).mono ?_; rintro e w' ⟨rfl, rfl⟩
  go_wp2_with fail
  refine (sign_as _ _ _ C _).mono ?_; rintro e w' ⟨rfl, rfl⟩
  go_wp2_with fail
  go_ret
  exact ⟨rfl, rfl⟩
theorem immS_as (v c : Int) (h0 : 0 ≤ v) (h1 : v ≤ 4294967295) (H : Hid (Num.iS v = c)) (w : World) :
    Calls Tryz.prog 88 #[.int .u32 v] w fun e w' => e = .returned (.int .i32 c) ∧ w' = w := by
  refine immS_core v (v / 33554432 % 128) (v / 128 % 32) ((v / 33554432 % 128) * 32 + (v / 128 % 32)) c 
    (by omega) (by omega) (Num.bt_lit v 25 7 33554432 128 (by decide) (by decide) (by decide) (by decide) (by decide) (by decide))
    (by omega) (by omega) (Num.bt_lit v 7 5 128 32 (by decide) (by decide) (by decide) (by decide) (by decide) (by decide))
    (Num.or_join 5 32 _ _ (by decide) (by omega) (by omega) (by omega) (by omega) (by omega) (by omega)) (by omega) (by omega)
    ?_ w
  rw [Num.sn_lit _ 12 2048 (by decide) (by decide) (by decide)]; exact H
set_option maxHeartbeats 1000000 in
theorem immB_core (v x0 x1 x2 x3 s1 s2 s3 c : Int) (l0 : 0 ≤ x0) (u0 : x0 ≤ 1) (X0 : Hid (Num.bt v 31 1 = x0)) (l1 : 0 ≤ x1) (u1 : x1 ≤ 1) (X1 : Hid (Num.bt v 7 1 = x1)) (l2 : 0 ≤ x2) (u2 : x2 ≤ 63) (X2 : Hid (Num.bt v 25 6 = x2)) (l3 : 0 ≤ x3) (u3 : x3 ≤ 15) (X3 : Hid (Num.bt v 8 4 = x3)) (O1 : bits .or .u32 (x0 * 4096) (x1 * 2048) = s1) (lo1 : 0 ≤ s1) (uo1 : s1 ≤ 4294967295) (O2 : bits .or .u32 (s1) (x2 * 32) = s2) (lo2 : 0 ≤ s2) (uo2 : s2 ≤ 4294967295) (O3 : bits .or .u32 (s2) (x3 * 2) = s3) (lo3 : 0 ≤ s3) (uo3 : s3 ≤ 4294967295) (C : Hid (Num.sn (s3) 13 = c)) (w : World) :
    Calls Tryz.prog 89 #[.int .u32 v] w fun e w' => e = .returned (.int .i32 c) ∧ w' = w := by
  go_enter Tryz.func89, Tryz.ntmps89
  go_wp2_with fail
  refine (bits_as _ _ _ _ X0 _).mono ?_; rintro e w' ⟨rfl, rfl⟩
  go_wp2_with fail
  refine (bits_as _ _ _ _ X1 _).mono ?_; rintro e w' ⟨rfl, rfl⟩
  go_wp2_with fail
  refine (bits_as _ _ _ _ X2 _).mono ?_; rintro e w' ⟨rfl, rfl⟩
  go_wp2_with fail
  refine (bits_as _ _ _ _ X3 _).mono ?_; rintro e w' ⟨rfl, rfl⟩
  go_wp2_with fail
  refine (sign_as _ _ _ C _).mono ?_; rintro e w' ⟨rfl, rfl⟩
  go_wp2_with fail
  go_ret
  exact ⟨rfl, rfl⟩
theorem immB_as (v c : Int) (h0 : 0 ≤ v) (h1 : v ≤ 4294967295) (H : Hid (Num.iB v = c)) (w : World) :
    Calls Tryz.prog 89 #[.int .u32 v] w fun e w' => e = .returned (.int .i32 c) ∧ w' = w := by
  refine immB_core v (v / 2147483648 % 2) (v / 128 % 2) (v / 33554432 % 64) (v / 256 % 16) ((v / 2147483648 % 2) * 4096 + (v / 128 % 2) * 2048) ((v / 2147483648 % 2) * 4096 + (v / 128 % 2) * 2048 + (v / 33554432 % 64) * 32) ((v / 2147483648 % 2) * 4096 + (v / 128 % 2) * 2048 + (v / 33554432 % 64) * 32 + (v / 256 % 16) * 2) c 
    (by omega) (by omega) (Num.bt_lit v 31 1 2147483648 2 (by decide) (by decide) (by decide) (by decide) (by decide) (by decide))
    (by omega) (by omega) (Num.bt_lit v 7 1 128 2 (by decide) (by decide) (by decide) (by decide) (by decide) (by decide))
    (by omega) (by omega) (Num.bt_lit v 25 6 33554432 64 (by decide) (by decide) (by decide) (by decide) (by decide) (by decide))
    (by omega) (by omega) (Num.bt_lit v 8 4 256 16 (by decide) (by decide) (by decide) (by decide) (by decide) (by decide))
    (Num.or_join 12 4096 _ _ (by decide) (by omega) (by omega) (by omega) (by omega) (by omega) (by omega)) (by omega) (by omega)
    (Num.or_join 11 2048 _ _ (by decide) (by omega) (by omega) (by omega) (by omega) (by omega) (by omega)) (by omega) (by omega)
    (Num.or_join 5 32 _ _ (by decide) (by omega) (by omega) (by omega) (by omega) (by omega) (by omega)) (by omega) (by omega)
    ?_ w
  rw [Num.sn_lit _ 13 4096 (by decide) (by decide) (by decide)]; exact H
set_option maxHeartbeats 1000000 in
theorem immU_core (v x0  c : Int) (l0 : 0 ≤ x0) (u0 : x0 ≤ 1048575) (X0 : Hid (Num.bt v 12 20 = x0)) (C : Hid (Num.sn (x0 * 4096) 32 = c)) (w : World) :
    Calls Tryz.prog 90 #[.int .u32 v] w fun e w' => e = .returned (.int .i32 c) ∧ w' = w := by
  go_enter Tryz.func90, Tryz.ntmps90
  go_wp2_with fail
  refine (bits_as _ _ _ _ X0 _).mono ?_; rintro e w' ⟨rfl, rfl⟩
  go_wp2_with fail
  refine (sign_as _ _ _ C _).mono ?_; rintro e w' ⟨rfl, rfl⟩
  go_wp2_with fail
  go_ret
  exact ⟨rfl, rfl⟩
theorem immU_as (v c : Int) (h0 : 0 ≤ v) (h1 : v ≤ 4294967295) (H : Hid (Num.iU v = c)) (w : World) :
    Calls Tryz.prog 90 #[.int .u32 v] w fun e w' => e = .returned (.int .i32 c) ∧ w' = w := by
  refine immU_core v (v / 4096 % 1048576)  c 
    (by omega) (by omega) (Num.bt_lit v 12 20 4096 1048576 (by decide) (by decide) (by decide) (by decide) (by decide) (by decide))
    ?_ w
  rw [Num.sn_lit _ 32 2147483648 (by decide) (by decide) (by decide)]; exact H
set_option maxHeartbeats 1000000 in
theorem immJ_core (v x0 x1 x2 x3 s1 s2 s3 c : Int) (l0 : 0 ≤ x0) (u0 : x0 ≤ 1) (X0 : Hid (Num.bt v 31 1 = x0)) (l1 : 0 ≤ x1) (u1 : x1 ≤ 255) (X1 : Hid (Num.bt v 12 8 = x1)) (l2 : 0 ≤ x2) (u2 : x2 ≤ 1) (X2 : Hid (Num.bt v 20 1 = x2)) (l3 : 0 ≤ x3) (u3 : x3 ≤ 1023) (X3 : Hid (Num.bt v 21 10 = x3)) (O1 : bits .or .u32 (x0 * 1048576) (x1 * 4096) = s1) (lo1 : 0 ≤ s1) (uo1 : s1 ≤ 4294967295) (O2 : bits .or .u32 (s1) (x2 * 2048) = s2) (lo2 : 0 ≤ s2) (uo2 : s2 ≤ 4294967295) (O3 : bits .or .u32 (s2) (x3 * 2) = s3) (lo3 : 0 ≤ s3) (uo3 : s3 ≤ 4294967295) (C : Hid (Num.sn (s3) 21 = c)) (w : World) :
    Calls Tryz.prog 91 #[.int .u32 v] w fun e w' => e = .returned (.int .i32 c) ∧ w' = w := by
  go_enter Tryz.func91, Tryz.ntmps91
  go_wp2_with fail
  refine (bits_as _ _ _ _ X0 _).mono ?_; rintro e w' ⟨rfl, rfl⟩
  go_wp2_with fail
  refine (bits_as _ _ _ _ X1 _).mono ?_; rintro e w' ⟨rfl, rfl⟩
  go_wp2_with fail
  refine (bits_as _ _ _ _ X2 _).mono ?_; rintro e w' ⟨rfl, rfl⟩
  go_wp2_with fail
  refine (bits_as _ _ _ _ X3 _).mono ?_; rintro e w' ⟨rfl, rfl⟩
  go_wp2_with fail
  refine (sign_as _ _ _ C _).mono ?_; rintro e w' ⟨rfl, rfl⟩
  go_wp2_with fail
  go_ret
  exact ⟨rfl, rfl⟩
theorem immJ_as (v c : Int) (h0 : 0 ≤ v) (h1 : v ≤ 4294967295) (H : Hid (Num.iJ v = c)) (w : World) :
    Calls Tryz.prog 91 #[.int .u32 v] w fun e w' => e = .returned (.int .i32 c) ∧ w' = w := by
  refine immJ_core v (v / 2147483648 % 2) (v / 4096 % 256) (v / 1048576 % 2) (v / 2097152 % 1024) ((v / 2147483648 % 2) * 1048576 + (v / 4096 % 256) * 4096) ((v / 2147483648 % 2) * 1048576 + (v / 4096 % 256) * 4096 + (v / 1048576 % 2) * 2048) ((v / 2147483648 % 2) * 1048576 + (v / 4096 % 256) * 4096 + (v / 1048576 % 2) * 2048 + (v / 2097152 % 1024) * 2) c 
    (by omega) (by omega) (Num.bt_lit v 31 1 2147483648 2 (by decide) (by decide) (by decide) (by decide) (by decide) (by decide))
    (by omega) (by omega) (Num.bt_lit v 12 8 4096 256 (by decide) (by decide) (by decide) (by decide) (by decide) (by decide))
    (by omega) (by omega) (Num.bt_lit v 20 1 1048576 2 (by decide) (by decide) (by decide) (by decide) (by decide) (by decide))
    (by omega) (by omega) (Num.bt_lit v 21 10 2097152 1024 (by decide) (by decide) (by decide) (by decide) (by decide) (by decide))
    (Num.or_join 20 1048576 _ _ (by decide) (by omega) (by omega) (by omega) (by omega) (by omega) (by omega)) (by omega) (by omega)
    (Num.or_join 12 4096 _ _ (by decide) (by omega) (by omega) (by omega) (by omega) (by omega) (by omega)) (by omega) (by omega)
    (Num.or_join 11 2048 _ _ (by decide) (by omega) (by omega) (by omega) (by omega) (by omega) (by omega)) (by omega) (by omega)
    ?_ w
  rw [Num.sn_lit _ 21 1048576 (by decide) (by decide) (by decide)]; exact H
end Go.Proofs.YtpkbkbllhpdfiaaGreat.Walks
namespace Go.Proofs.YtpkbkbllhpdfiaaGreat.Num
def dD (f v : Int) : Int := if f = 2 ∨ f = 3 ∨ f = 4 ∨ f = 7 ∨ f = 8 ∨ f = 9 ∨ f = 10 then v / 128 % 32 else 0
def dA (f v : Int) : Int := if f = 2 ∨ f = 3 ∨ f = 4 ∨ f = 5 ∨ f = 6 ∨ f = 9 ∨ f = 10 then v / 32768 % 32 else 0
def dB (f v : Int) : Int := if f = 2 ∨ f = 5 ∨ f = 6 then v / 1048576 % 32 else 0
def dN (f v : Int) : Int := if f = 3 then iI v else if f = 4 then v / 1048576 % 32 else if f = 5 then iS v else if f = 6 then iB v else if f = 7 then iU v else if f = 8 then iJ v else if f = 9 ∨ f = 10 then v / 1048576 % 4096 else 0
end Go.Proofs.YtpkbkbllhpdfiaaGreat.Num
namespace Go.Proofs.YtpkbkbllhpdfiaaGreat.Walks
open Go.ChangeShapes Go.WideShapes Go.ChangeAt Go.RowKit
set_option linter.unusedVariables false
set_option maxHeartbeats 2000000 in
theorem oper0 (o v x y z : Int) (v0 : Hid (0 ≤ v)) (v1 : Hid (v ≤ 4294967295)) (x0 : 0 ≤ x) (x1 : x ≤ 31) (y0 : 0 ≤ y) (y1 : y ≤ 31) (z0 : 0 ≤ z) (z1 : z ≤ 31) (F : Hid (Num.fm o = 0)) (X : Hid (Num.bt v 7 5 = x)) (Y : Hid (Num.bt v 15 5 = y)) (Z : Hid (Num.bt v 20 5 = z)) (w : World) :
    Calls Tryz.prog 49 #[.int .i64 o, .int .u32 v] w fun e w' => e = .returned (.agg (cells o 0 0 0 0)) ∧ w' = w.alloc (.cells (cells o 0 0 0 0) 62) := by
  go_enter Tryz.func49, Tryz.ntmps49
  go_wp2_with fail
  refine (bits_as _ _ _ _ X _).mono ?_; rintro e w' ⟨rfl, rfl⟩
  go_wp2_with fail
  refine (bits_as _ _ _ _ Y _).mono ?_; rintro e w' ⟨rfl, rfl⟩
  go_wp2_with fail
  refine (bits_as _ _ _ _ Z _).mono ?_; rintro e w' ⟨rfl, rfl⟩
  go_wp2_with fail
  refine (format_as _ _ F _).mono ?_; rintro e w' ⟨rfl, rfl⟩
  go_wp2_with fail
  refine bodyPost_ret (v := .agg (cells o 0 0 0 0)) (by simp [results, Tryz.results49, go_sem]) rfl ⟨rfl, rfl⟩
set_option maxHeartbeats 2000000 in
theorem oper1 (o v x y z : Int) (v0 : Hid (0 ≤ v)) (v1 : Hid (v ≤ 4294967295)) (x0 : 0 ≤ x) (x1 : x ≤ 31) (y0 : 0 ≤ y) (y1 : y ≤ 31) (z0 : 0 ≤ z) (z1 : z ≤ 31) (F : Hid (Num.fm o = 1)) (X : Hid (Num.bt v 7 5 = x)) (Y : Hid (Num.bt v 15 5 = y)) (Z : Hid (Num.bt v 20 5 = z)) (w : World) :
    Calls Tryz.prog 49 #[.int .i64 o, .int .u32 v] w fun e w' => e = .returned (.agg (cells o 0 0 0 0)) ∧ w' = w.alloc (.cells (cells o 0 0 0 0) 62) := by
  go_enter Tryz.func49, Tryz.ntmps49
  go_wp2_with fail
  refine (bits_as _ _ _ _ X _).mono ?_; rintro e w' ⟨rfl, rfl⟩
  go_wp2_with fail
  refine (bits_as _ _ _ _ Y _).mono ?_; rintro e w' ⟨rfl, rfl⟩
  go_wp2_with fail
  refine (bits_as _ _ _ _ Z _).mono ?_; rintro e w' ⟨rfl, rfl⟩
  go_wp2_with fail
  refine (format_as _ _ F _).mono ?_; rintro e w' ⟨rfl, rfl⟩
  go_wp2_with fail
  refine bodyPost_ret (v := .agg (cells o 0 0 0 0)) (by simp [results, Tryz.results49, go_sem]) rfl ⟨rfl, rfl⟩
set_option maxHeartbeats 2000000 in
theorem oper2 (o v x y z : Int) (v0 : Hid (0 ≤ v)) (v1 : Hid (v ≤ 4294967295)) (x0 : 0 ≤ x) (x1 : x ≤ 31) (y0 : 0 ≤ y) (y1 : y ≤ 31) (z0 : 0 ≤ z) (z1 : z ≤ 31) (F : Hid (Num.fm o = 2)) (X : Hid (Num.bt v 7 5 = x)) (Y : Hid (Num.bt v 15 5 = y)) (Z : Hid (Num.bt v 20 5 = z)) (w : World) :
    Calls Tryz.prog 49 #[.int .i64 o, .int .u32 v] w fun e w' => e = .returned (.agg (cells o x y z 0)) ∧ w' = w.alloc (.cells (cells o x y z 0) 62) := by
  go_enter Tryz.func49, Tryz.ntmps49
  go_wp2_with fail
  refine (bits_as _ _ _ _ X _).mono ?_; rintro e w' ⟨rfl, rfl⟩
  go_wp2_with fail
  refine (bits_as _ _ _ _ Y _).mono ?_; rintro e w' ⟨rfl, rfl⟩
  go_wp2_with fail
  refine (bits_as _ _ _ _ Z _).mono ?_; rintro e w' ⟨rfl, rfl⟩
  go_wp2_with fail
  refine (format_as _ _ F _).mono ?_; rintro e w' ⟨rfl, rfl⟩
  go_wp2_with fail
  refine bodyPost_ret (v := .agg (cells o x y z 0)) (by simp [results, Tryz.results49, go_sem]) rfl ⟨rfl, rfl⟩
set_option maxHeartbeats 2000000 in
theorem oper3 (o v x y z : Int) (n : Int) (I : Hid (Num.iI v = n)) (v0 : Hid (0 ≤ v)) (v1 : Hid (v ≤ 4294967295)) (x0 : 0 ≤ x) (x1 : x ≤ 31) (y0 : 0 ≤ y) (y1 : y ≤ 31) (z0 : 0 ≤ z) (z1 : z ≤ 31) (F : Hid (Num.fm o = 3)) (X : Hid (Num.bt v 7 5 = x)) (Y : Hid (Num.bt v 15 5 = y)) (Z : Hid (Num.bt v 20 5 = z)) (w : World) :
    Calls Tryz.prog 49 #[.int .i64 o, .int .u32 v] w fun e w' => e = .returned (.agg (cells o x y 0 n)) ∧ w' = w.alloc (.cells (cells o x y 0 n) 62) := by
  go_enter Tryz.func49, Tryz.ntmps49
  go_wp2_with fail
  refine (bits_as _ _ _ _ X _).mono ?_; rintro e w' ⟨rfl, rfl⟩
  go_wp2_with fail
  refine (bits_as _ _ _ _ Y _).mono ?_; rintro e w' ⟨rfl, rfl⟩
  go_wp2_with fail
  refine (bits_as _ _ _ _ Z _).mono ?_; rintro e w' ⟨rfl, rfl⟩
  go_wp2_with fail
  refine (format_as _ _ F _).mono ?_; rintro e w' ⟨rfl, rfl⟩
  go_wp2_with fail
  refine (immI_as _ _ v0.out v1.out I _).mono ?_; rintro e w' ⟨rfl, rfl⟩
  go_wp2_with fail
  refine bodyPost_ret (v := .agg (cells o x y 0 n)) (by simp [results, Tryz.results49, go_sem]) rfl ⟨rfl, rfl⟩
set_option maxHeartbeats 2000000 in
theorem oper4 (o v x y z : Int) (v0 : Hid (0 ≤ v)) (v1 : Hid (v ≤ 4294967295)) (x0 : 0 ≤ x) (x1 : x ≤ 31) (y0 : 0 ≤ y) (y1 : y ≤ 31) (z0 : 0 ≤ z) (z1 : z ≤ 31) (F : Hid (Num.fm o = 4)) (X : Hid (Num.bt v 7 5 = x)) (Y : Hid (Num.bt v 15 5 = y)) (Z : Hid (Num.bt v 20 5 = z)) (w : World) :
    Calls Tryz.prog 49 #[.int .i64 o, .int .u32 v] w fun e w' => e = .returned (.agg (cells o x y 0 z)) ∧ w' = w.alloc (.cells (cells o x y 0 z) 62) := by
  go_enter Tryz.func49, Tryz.ntmps49
  go_wp2_with fail
  refine (bits_as _ _ _ _ X _).mono ?_; rintro e w' ⟨rfl, rfl⟩
  go_wp2_with fail
  refine (bits_as _ _ _ _ Y _).mono ?_; rintro e w' ⟨rfl, rfl⟩
  go_wp2_with fail
  refine (bits_as _ _ _ _ Z _).mono ?_; rintro e w' ⟨rfl, rfl⟩
  go_wp2_with fail
  refine (format_as _ _ F _).mono ?_; rintro e w' ⟨rfl, rfl⟩
  go_wp2_with fail
  refine bodyPost_ret (v := .agg (cells o x y 0 z)) (by simp [results, Tryz.results49, go_sem]) rfl ⟨rfl, rfl⟩
set_option maxHeartbeats 2000000 in
theorem oper5 (o v x y z : Int) (n : Int) (I : Hid (Num.iS v = n)) (v0 : Hid (0 ≤ v)) (v1 : Hid (v ≤ 4294967295)) (x0 : 0 ≤ x) (x1 : x ≤ 31) (y0 : 0 ≤ y) (y1 : y ≤ 31) (z0 : 0 ≤ z) (z1 : z ≤ 31) (F : Hid (Num.fm o = 5)) (X : Hid (Num.bt v 7 5 = x)) (Y : Hid (Num.bt v 15 5 = y)) (Z : Hid (Num.bt v 20 5 = z)) (w : World) :
    Calls Tryz.prog 49 #[.int .i64 o, .int .u32 v] w fun e w' => e = .returned (.agg (cells o 0 y z n)) ∧ w' = w.alloc (.cells (cells o 0 y z n) 62) := by
  go_enter Tryz.func49, Tryz.ntmps49
  go_wp2_with fail
  refine (bits_as _ _ _ _ X _).mono ?_; rintro e w' ⟨rfl, rfl⟩
  go_wp2_with fail
  refine (bits_as _ _ _ _ Y _).mono ?_; rintro e w' ⟨rfl, rfl⟩
  go_wp2_with fail
  refine (bits_as _ _ _ _ Z _).mono ?_; rintro e w' ⟨rfl, rfl⟩
  go_wp2_with fail
  refine (format_as _ _ F _).mono ?_; rintro e w' ⟨rfl, rfl⟩
  go_wp2_with fail
  refine (immS_as _ _ v0.out v1.out I _).mono ?_; rintro e w' ⟨rfl, rfl⟩
  go_wp2_with fail
  refine bodyPost_ret (v := .agg (cells o 0 y z n)) (by simp [results, Tryz.results49, go_sem]) rfl ⟨rfl, rfl⟩
set_option maxHeartbeats 2000000 in
theorem oper6 (o v x y z : Int) (n : Int) (I : Hid (Num.iB v = n)) (v0 : Hid (0 ≤ v)) (v1 : Hid (v ≤ 4294967295)) (x0 : 0 ≤ x) (x1 : x ≤ 31) (y0 : 0 ≤ y) (y1 : y ≤ 31) (z0 : 0 ≤ z) (z1 : z ≤ 31) (F : Hid (Num.fm o = 6)) (X : Hid (Num.bt v 7 5 = x)) (Y : Hid (Num.bt v 15 5 = y)) (Z : Hid (Num.bt v 20 5 = z)) (w : World) :
    Calls Tryz.prog 49 #[.int .i64 o, .int .u32 v] w fun e w' => e = .returned (.agg (cells o 0 y z n)) ∧ w' = w.alloc (.cells (cells o 0 y z n) 62) := by
  go_enter Tryz.func49, Tryz.ntmps49
  go_wp2_with fail
  refine (bits_as _ _ _ _ X _).mono ?_; rintro e w' ⟨rfl, rfl⟩
  go_wp2_with fail
  refine (bits_as _ _ _ _ Y _).mono ?_; rintro e w' ⟨rfl, rfl⟩
  go_wp2_with fail
  refine (bits_as _ _ _ _ Z _).mono ?_; rintro e w' ⟨rfl, rfl⟩
  go_wp2_with fail
  refine (format_as _ _ F _).mono ?_; rintro e w' ⟨rfl, rfl⟩
  go_wp2_with fail
  refine (immB_as _ _ v0.out v1.out I _).mono ?_; rintro e w' ⟨rfl, rfl⟩
  go_wp2_with fail
  refine bodyPost_ret (v := .agg (cells o 0 y z n)) (by simp [results, Tryz.results49, go_sem]) rfl ⟨rfl, rfl⟩
set_option maxHeartbeats 2000000 in
theorem oper7 (o v x y z : Int) (n : Int) (I : Hid (Num.iU v = n)) (v0 : Hid (0 ≤ v)) (v1 : Hid (v ≤ 4294967295)) (x0 : 0 ≤ x) (x1 : x ≤ 31) (y0 : 0 ≤ y) (y1 : y ≤ 31) (z0 : 0 ≤ z) (z1 : z ≤ 31) (F : Hid (Num.fm o = 7)) (X : Hid (Num.bt v 7 5 = x)) (Y : Hid (Num.bt v 15 5 = y)) (Z : Hid (Num.bt v 20 5 = z)) (w : World) :
    Calls Tryz.prog 49 #[.int .i64 o, .int .u32 v] w fun e w' => e = .returned (.agg (cells o x 0 0 n)) ∧ w' = w.alloc (.cells (cells o x 0 0 n) 62) := by
  go_enter Tryz.func49, Tryz.ntmps49
  go_wp2_with fail
  refine (bits_as _ _ _ _ X _).mono ?_; rintro e w' ⟨rfl, rfl⟩
  go_wp2_with fail
  refine (bits_as _ _ _ _ Y _).mono ?_; rintro e w' ⟨rfl, rfl⟩
  go_wp2_with fail
  refine (bits_as _ _ _ _ Z _).mono ?_; rintro e w' ⟨rfl, rfl⟩
  go_wp2_with fail
  refine (format_as _ _ F _).mono ?_; rintro e w' ⟨rfl, rfl⟩
  go_wp2_with fail
  refine (immU_as _ _ v0.out v1.out I _).mono ?_; rintro e w' ⟨rfl, rfl⟩
  go_wp2_with fail
  refine bodyPost_ret (v := .agg (cells o x 0 0 n)) (by simp [results, Tryz.results49, go_sem]) rfl ⟨rfl, rfl⟩
set_option maxHeartbeats 2000000 in
theorem oper8 (o v x y z : Int) (n : Int) (I : Hid (Num.iJ v = n)) (v0 : Hid (0 ≤ v)) (v1 : Hid (v ≤ 4294967295)) (x0 : 0 ≤ x) (x1 : x ≤ 31) (y0 : 0 ≤ y) (y1 : y ≤ 31) (z0 : 0 ≤ z) (z1 : z ≤ 31) (F : Hid (Num.fm o = 8)) (X : Hid (Num.bt v 7 5 = x)) (Y : Hid (Num.bt v 15 5 = y)) (Z : Hid (Num.bt v 20 5 = z)) (w : World) :
    Calls Tryz.prog 49 #[.int .i64 o, .int .u32 v] w fun e w' => e = .returned (.agg (cells o x 0 0 n)) ∧ w' = w.alloc (.cells (cells o x 0 0 n) 62) := by
  go_enter Tryz.func49, Tryz.ntmps49
  go_wp2_with fail
  refine (bits_as _ _ _ _ X _).mono ?_; rintro e w' ⟨rfl, rfl⟩
  go_wp2_with fail
  refine (bits_as _ _ _ _ Y _).mono ?_; rintro e w' ⟨rfl, rfl⟩
  go_wp2_with fail
  refine (bits_as _ _ _ _ Z _).mono ?_; rintro e w' ⟨rfl, rfl⟩
  go_wp2_with fail
  refine (format_as _ _ F _).mono ?_; rintro e w' ⟨rfl, rfl⟩
  go_wp2_with fail
  refine (immJ_as _ _ v0.out v1.out I _).mono ?_; rintro e w' ⟨rfl, rfl⟩
  go_wp2_with fail
  refine bodyPost_ret (v := .agg (cells o x 0 0 n)) (by simp [results, Tryz.results49, go_sem]) rfl ⟨rfl, rfl⟩
set_option maxHeartbeats 2000000 in
theorem oper9 (o v x y z : Int) (n : Int) (I : Hid (Num.bt v 20 12 = n)) (n0 : 0 ≤ n) (n1 : n ≤ 4095) (v0 : Hid (0 ≤ v)) (v1 : Hid (v ≤ 4294967295)) (x0 : 0 ≤ x) (x1 : x ≤ 31) (y0 : 0 ≤ y) (y1 : y ≤ 31) (z0 : 0 ≤ z) (z1 : z ≤ 31) (F : Hid (Num.fm o = 9)) (X : Hid (Num.bt v 7 5 = x)) (Y : Hid (Num.bt v 15 5 = y)) (Z : Hid (Num.bt v 20 5 = z)) (w : World) :
    Calls Tryz.prog 49 #[.int .i64 o, .int .u32 v] w fun e w' => e = .returned (.agg (cells o x y 0 n)) ∧ w' = w.alloc (.cells (cells o x y 0 n) 62) := by
  go_enter Tryz.func49, Tryz.ntmps49
  go_wp2_with fail
  refine (bits_as _ _ _ _ X _).mono ?_; rintro e w' ⟨rfl, rfl⟩
  go_wp2_with fail
  refine (bits_as _ _ _ _ Y _).mono ?_; rintro e w' ⟨rfl, rfl⟩
  go_wp2_with fail
  refine (bits_as _ _ _ _ Z _).mono ?_; rintro e w' ⟨rfl, rfl⟩
  go_wp2_with fail
  refine (format_as _ _ F _).mono ?_; rintro e w' ⟨rfl, rfl⟩
  go_wp2_with fail
  refine (bits_as _ _ _ _ I _).mono ?_; rintro e w' ⟨rfl, rfl⟩
  go_wp2_with fail
  refine bodyPost_ret (v := .agg (cells o x y 0 n)) (by simp [results, Tryz.results49, go_sem]) rfl ⟨rfl, rfl⟩
set_option maxHeartbeats 2000000 in
theorem oper10 (o v x y z : Int) (n : Int) (I : Hid (Num.bt v 20 12 = n)) (n0 : 0 ≤ n) (n1 : n ≤ 4095) (v0 : Hid (0 ≤ v)) (v1 : Hid (v ≤ 4294967295)) (x0 : 0 ≤ x) (x1 : x ≤ 31) (y0 : 0 ≤ y) (y1 : y ≤ 31) (z0 : 0 ≤ z) (z1 : z ≤ 31) (F : Hid (Num.fm o = 10)) (X : Hid (Num.bt v 7 5 = x)) (Y : Hid (Num.bt v 15 5 = y)) (Z : Hid (Num.bt v 20 5 = z)) (w : World) :
    Calls Tryz.prog 49 #[.int .i64 o, .int .u32 v] w fun e w' => e = .returned (.agg (cells o x y 0 n)) ∧ w' = w.alloc (.cells (cells o x y 0 n) 62) := by
  go_enter Tryz.func49, Tryz.ntmps49
  go_wp2_with fail
  refine (bits_as _ _ _ _ X _).mono ?_; rintro e w' ⟨rfl, rfl⟩
  go_wp2_with fail
  refine (bits_as _ _ _ _ Y _).mono ?_; rintro e w' ⟨rfl, rfl⟩
  go_wp2_with fail
  refine (bits_as _ _ _ _ Z _).mono ?_; rintro e w' ⟨rfl, rfl⟩
  go_wp2_with fail
  refine (format_as _ _ F _).mono ?_; rintro e w' ⟨rfl, rfl⟩
  go_wp2_with fail
  refine (bits_as _ _ _ _ I _).mono ?_; rintro e w' ⟨rfl, rfl⟩
  go_wp2_with fail
  refine bodyPost_ret (v := .agg (cells o x y 0 n)) (by simp [results, Tryz.results49, go_sem]) rfl ⟨rfl, rfl⟩
end Go.Proofs.YtpkbkbllhpdfiaaGreat.Walks
namespace Go.Proofs.YtpkbkbllhpdfiaaGreat.Num
def first (o f3 : Int) : Int := if f3 = 0 then o else 0
def oBranch (f3 : Int) : Int := if f3 = 0 then 5 else if f3 = 1 then 6 else if f3 = 4 then 7 else if f3 = 5 then 8 else if f3 = 6 then 9 else if f3 = 7 then 10 else 0
def oLoad (f3 : Int) : Int := if f3 = 0 then 11 else if f3 = 1 then 12 else if f3 = 2 then 13 else if f3 = 4 then 14 else if f3 = 5 then 15 else 0
def oStore (f3 : Int) : Int := if f3 = 0 then 16 else if f3 = 1 then 17 else if f3 = 2 then 18 else 0
def oShift (f7 a b : Int) : Int := if f7 = 0 then a else if f7 = 32 then b else 0
def oImm (f3 f7 : Int) : Int := if f3 = 0 then 19 else if f3 = 1 then oShift f7 25 0 else if f3 = 2 then 20 else if f3 = 3 then 21 else if f3 = 4 then 22 else if f3 = 5 then oShift f7 26 27 else if f3 = 6 then 23 else 24
def oPlain (f3 : Int) : Int := if f3 = 0 then 28 else if f3 = 1 then 30 else if f3 = 2 then 31 else if f3 = 3 then 32 else if f3 = 4 then 33 else if f3 = 5 then 34 else if f3 = 6 then 36 else 37
def oMul (f3 : Int) : Int := if f3 = 0 then 38 else if f3 = 1 then 39 else if f3 = 2 then 40 else if f3 = 3 then 41 else if f3 = 4 then 42 else if f3 = 5 then 43 else if f3 = 6 then 44 else 45
def oOther (f3 : Int) : Int := if f3 = 0 then 29 else if f3 = 5 then 35 else 0
def oReg (f3 f7 : Int) : Int := if f7 = 0 then oPlain f3 else if f7 = 1 then oMul f3 else if f7 = 32 then oOther f3 else 0
def oBare (v : Int) : Int := if v = 115 then 47 else if v = 1048691 then 48 else if v = 807403635 then 49 else 0
def oSys (v f3 : Int) : Int := if f3 = 0 then oBare v else if f3 = 1 then 50 else if f3 = 2 then 51 else if f3 = 3 then 52 else if f3 = 5 then 53 else if f3 = 6 then 54 else if f3 = 7 then 55 else 0
/-- the op of a word: v the word, c, f3, f7 its opcode, funct3, funct7 -/
def opc (v c f3 f7 : Int) : Int :=
  if c = 55 then 1 else if c = 23 then 2 else if c = 111 then 3 else if c = 103 then first 4 f3 else if c = 99 then oBranch f3 else if c = 3 then oLoad f3 else if c = 35 then oStore f3
  else if c = 19 then oImm f3 f7 else if c = 51 then oReg f3 f7 else if c = 15 then first 46 f3 else if c = 115 then oSys v f3 else 0
end Go.Proofs.YtpkbkbllhpdfiaaGreat.Num
namespace Go.Proofs.YtpkbkbllhpdfiaaGreat.Walks
open Go.ChangeShapes Go.WideShapes Go.ChangeAt Go.RowKit
set_option linter.unusedVariables false
set_option maxHeartbeats 2000000 in
theorem first_all (o f3 : Int) (w : World) :
    Calls Tryz.prog 79 #[.int .i64 o, .int .u32 f3] w fun e w' => e = .returned (.int .i64 (Num.first o f3)) ∧ w' = w := by
  by_cases h : f3 = 0
  · subst h
    go_enter Tryz.func79, Tryz.ntmps79
    go_wp2_with fail
    go_ret
    exact ⟨rfl, rfl⟩
  · rw [Num.first, if_neg h]
    replace h : (f3 != 0) = true := by simp [h]
    go_enter Tryz.func79, Tryz.ntmps79
    go_wp2_with fail
    go_ret
    exact ⟨rfl, rfl⟩
set_option maxHeartbeats 2000000 in
theorem branch_all (f3 : Int) (w : World) :
    Calls Tryz.prog 80 #[.int .u32 f3] w fun e w' => e = .returned (.int .i64 (Num.oBranch f3)) ∧ w' = w := by
  by_cases h0 : f3 = 0
  · subst h0
    go_enter Tryz.func80, Tryz.ntmps80
    go_wp2_with fail
    go_ret
    exact ⟨rfl, rfl⟩
  by_cases h1 : f3 = 1
  · subst h1
    go_enter Tryz.func80, Tryz.ntmps80
    go_wp2_with fail
    go_ret
    exact ⟨rfl, rfl⟩
  by_cases h4 : f3 = 4
  · subst h4
    go_enter Tryz.func80, Tryz.ntmps80
    go_wp2_with fail
    go_ret
    exact ⟨rfl, rfl⟩
  by_cases h5 : f3 = 5
  · subst h5
    go_enter Tryz.func80, Tryz.ntmps80
    go_wp2_with fail
    go_ret
    exact ⟨rfl, rfl⟩
  by_cases h6 : f3 = 6
  · subst h6
    go_enter Tryz.func80, Tryz.ntmps80
    go_wp2_with fail
    go_ret
    exact ⟨rfl, rfl⟩
  by_cases h7 : f3 = 7
  · subst h7
    go_enter Tryz.func80, Tryz.ntmps80
    go_wp2_with fail
    go_ret
    exact ⟨rfl, rfl⟩
  have v : Num.oBranch f3 = 0 := by unfold Num.oBranch; rw [if_neg h0]; rw [if_neg h1]; rw [if_neg h4]; rw [if_neg h5]; rw [if_neg h6]; rw [if_neg h7]
  rw [v]; clear v
  replace h0 : (f3 == 0) = false := by simp [h0]
  replace h1 : (f3 == 1) = false := by simp [h1]
  replace h4 : (f3 == 4) = false := by simp [h4]
  replace h5 : (f3 == 5) = false := by simp [h5]
  replace h6 : (f3 == 6) = false := by simp [h6]
  replace h7 : (f3 == 7) = false := by simp [h7]
  go_enter Tryz.func80, Tryz.ntmps80
  go_wp2_with fail
  go_ret
  exact ⟨rfl, rfl⟩
set_option maxHeartbeats 2000000 in
theorem load_all (f3 : Int) (w : World) :
    Calls Tryz.prog 81 #[.int .u32 f3] w fun e w' => e = .returned (.int .i64 (Num.oLoad f3)) ∧ w' = w := by
  by_cases h0 : f3 = 0
  · subst h0
    go_enter Tryz.func81, Tryz.ntmps81
    go_wp2_with fail
    go_ret
    exact ⟨rfl, rfl⟩
  by_cases h1 : f3 = 1
  · subst h1
    go_enter Tryz.func81, Tryz.ntmps81
    go_wp2_with fail
    go_ret
    exact ⟨rfl, rfl⟩
  by_cases h2 : f3 = 2
  · subst h2
    go_enter Tryz.func81, Tryz.ntmps81
    go_wp2_with fail
    go_ret
    exact ⟨rfl, rfl⟩
  by_cases h4 : f3 = 4
  · subst h4
    go_enter Tryz.func81, Tryz.ntmps81
    go_wp2_with fail
    go_ret
    exact ⟨rfl, rfl⟩
  by_cases h5 : f3 = 5
  · subst h5
    go_enter Tryz.func81, Tryz.ntmps81
    go_wp2_with fail
    go_ret
    exact ⟨rfl, rfl⟩
  have v : Num.oLoad f3 = 0 := by unfold Num.oLoad; rw [if_neg h0]; rw [if_neg h1]; rw [if_neg h2]; rw [if_neg h4]; rw [if_neg h5]
  rw [v]; clear v
  replace h0 : (f3 == 0) = false := by simp [h0]
  replace h1 : (f3 == 1) = false := by simp [h1]
  replace h2 : (f3 == 2) = false := by simp [h2]
  replace h4 : (f3 == 4) = false := by simp [h4]
  replace h5 : (f3 == 5) = false := by simp [h5]
  go_enter Tryz.func81, Tryz.ntmps81
  go_wp2_with fail
  go_ret
  exact ⟨rfl, rfl⟩
set_option maxHeartbeats 2000000 in
theorem store_all (f3 : Int) (w : World) :
    Calls Tryz.prog 82 #[.int .u32 f3] w fun e w' => e = .returned (.int .i64 (Num.oStore f3)) ∧ w' = w := by
  by_cases h0 : f3 = 0
  · subst h0
    go_enter Tryz.func82, Tryz.ntmps82
    go_wp2_with fail
    go_ret
    exact ⟨rfl, rfl⟩
  by_cases h1 : f3 = 1
  · subst h1
    go_enter Tryz.func82, Tryz.ntmps82
    go_wp2_with fail
    go_ret
    exact ⟨rfl, rfl⟩
  by_cases h2 : f3 = 2
  · subst h2
    go_enter Tryz.func82, Tryz.ntmps82
    go_wp2_with fail
    go_ret
    exact ⟨rfl, rfl⟩
  have v : Num.oStore f3 = 0 := by unfold Num.oStore; rw [if_neg h0]; rw [if_neg h1]; rw [if_neg h2]
  rw [v]; clear v
  replace h0 : (f3 == 0) = false := by simp [h0]
  replace h1 : (f3 == 1) = false := by simp [h1]
  replace h2 : (f3 == 2) = false := by simp [h2]
  go_enter Tryz.func82, Tryz.ntmps82
  go_wp2_with fail
  go_ret
  exact ⟨rfl, rfl⟩
set_option maxHeartbeats 2000000 in
theorem shift_all (f7 a b : Int) (w : World) :
    Calls Tryz.prog 120 #[.int .u32 f7, .int .i64 a, .int .i64 b] w fun e w' => e = .returned (.int .i64 (Num.oShift f7 a b)) ∧ w' = w := by
  by_cases h0 : f7 = 0
  · subst h0
    go_enter Tryz.func120, Tryz.ntmps120
    go_wp2_with fail
    go_ret
    exact ⟨rfl, rfl⟩
  by_cases h32 : f7 = 32
  · subst h32
    go_enter Tryz.func120, Tryz.ntmps120
    go_wp2_with fail
    go_ret
    exact ⟨rfl, rfl⟩
  have v : Num.oShift f7 a b = 0 := by unfold Num.oShift; rw [if_neg h0]; rw [if_neg h32]
  rw [v]; clear v
  replace h0 : (f7 == 0) = false := by simp [h0]
  replace h32 : (f7 == 32) = false := by simp [h32]
  go_enter Tryz.func120, Tryz.ntmps120
  go_wp2_with fail
  go_ret
  exact ⟨rfl, rfl⟩
set_option maxHeartbeats 2000000 in
theorem imm_all (f3 f7 : Int) (w : World) :
    Calls Tryz.prog 83 #[.int .u32 f3, .int .u32 f7] w fun e w' => e = .returned (.int .i64 (Num.oImm f3 f7)) ∧ w' = w := by
  by_cases h0 : f3 = 0
  · subst h0
    go_enter Tryz.func83, Tryz.ntmps83
    go_wp2_with fail
    go_ret
    exact ⟨rfl, rfl⟩
  by_cases h1 : f3 = 1
  · subst h1
    go_enter Tryz.func83, Tryz.ntmps83
    go_wp2_with fail
    refine (shift_all _ _ _ _).mono ?_; rintro e w' ⟨rfl, rfl⟩
    go_wp2_with fail
    go_ret
    exact ⟨rfl, rfl⟩
  by_cases h2 : f3 = 2
  · subst h2
    go_enter Tryz.func83, Tryz.ntmps83
    go_wp2_with fail
    go_ret
    exact ⟨rfl, rfl⟩
  by_cases h3 : f3 = 3
  · subst h3
    go_enter Tryz.func83, Tryz.ntmps83
    go_wp2_with fail
    go_ret
    exact ⟨rfl, rfl⟩
  by_cases h4 : f3 = 4
  · subst h4
    go_enter Tryz.func83, Tryz.ntmps83
    go_wp2_with fail
    go_ret
    exact ⟨rfl, rfl⟩
  by_cases h5 : f3 = 5
  · subst h5
    go_enter Tryz.func83, Tryz.ntmps83
    go_wp2_with fail
    refine (shift_all _ _ _ _).mono ?_; rintro e w' ⟨rfl, rfl⟩
    go_wp2_with fail
    go_ret
    exact ⟨rfl, rfl⟩
  by_cases h6 : f3 = 6
  · subst h6
    go_enter Tryz.func83, Tryz.ntmps83
    go_wp2_with fail
    go_ret
    exact ⟨rfl, rfl⟩
  have v : Num.oImm f3 f7 = 24 := by unfold Num.oImm; rw [if_neg h0]; rw [if_neg h1]; rw [if_neg h2]; rw [if_neg h3]; rw [if_neg h4]; rw [if_neg h5]; rw [if_neg h6]
  rw [v]; clear v
  replace h0 : (f3 == 0) = false := by simp [h0]
  replace h1 : (f3 == 1) = false := by simp [h1]
  replace h2 : (f3 == 2) = false := by simp [h2]
  replace h3 : (f3 == 3) = false := by simp [h3]
  replace h4 : (f3 == 4) = false := by simp [h4]
  replace h5 : (f3 == 5) = false := by simp [h5]
  replace h6 : (f3 == 6) = false := by simp [h6]
  go_enter Tryz.func83, Tryz.ntmps83
  go_wp2_with fail
  go_ret
  exact ⟨rfl, rfl⟩
set_option maxHeartbeats 2000000 in
theorem plain_all (f3 : Int) (w : World) :
    Calls Tryz.prog 121 #[.int .u32 f3] w fun e w' => e = .returned (.int .i64 (Num.oPlain f3)) ∧ w' = w := by
  by_cases h0 : f3 = 0
  · subst h0
    go_enter Tryz.func121, Tryz.ntmps121
    go_wp2_with fail
    go_ret
    exact ⟨rfl, rfl⟩
  by_cases h1 : f3 = 1
  · subst h1
    go_enter Tryz.func121, Tryz.ntmps121
    go_wp2_with fail
    go_ret
    exact ⟨rfl, rfl⟩
  by_cases h2 : f3 = 2
  · subst h2
    go_enter Tryz.func121, Tryz.ntmps121
    go_wp2_with fail
    go_ret
    exact ⟨rfl, rfl⟩
  by_cases h3 : f3 = 3
  · subst h3
    go_enter Tryz.func121, Tryz.ntmps121
    go_wp2_with fail
    go_ret
    exact ⟨rfl, rfl⟩
  by_cases h4 : f3 = 4
  · subst h4
    go_enter Tryz.func121, Tryz.ntmps121
    go_wp2_with fail
    go_ret
    exact ⟨rfl, rfl⟩
  by_cases h5 : f3 = 5
  · subst h5
    go_enter Tryz.func121, Tryz.ntmps121
    go_wp2_with fail
    go_ret
    exact ⟨rfl, rfl⟩
  by_cases h6 : f3 = 6
  · subst h6
    go_enter Tryz.func121, Tryz.ntmps121
    go_wp2_with fail
    go_ret
    exact ⟨rfl, rfl⟩
  have v : Num.oPlain f3 = 37 := by unfold Num.oPlain; rw [if_neg h0]; rw [if_neg h1]; rw [if_neg h2]; rw [if_neg h3]; rw [if_neg h4]; rw [if_neg h5]; rw [if_neg h6]
  rw [v]; clear v
  replace h0 : (f3 == 0) = false := by simp [h0]
  replace h1 : (f3 == 1) = false := by simp [h1]
  replace h2 : (f3 == 2) = false := by simp [h2]
  replace h3 : (f3 == 3) = false := by simp [h3]
  replace h4 : (f3 == 4) = false := by simp [h4]
  replace h5 : (f3 == 5) = false := by simp [h5]
  replace h6 : (f3 == 6) = false := by simp [h6]
  go_enter Tryz.func121, Tryz.ntmps121
  go_wp2_with fail
  go_ret
  exact ⟨rfl, rfl⟩
set_option maxHeartbeats 2000000 in
theorem mul_all (f3 : Int) (w : World) :
    Calls Tryz.prog 122 #[.int .u32 f3] w fun e w' => e = .returned (.int .i64 (Num.oMul f3)) ∧ w' = w := by
  by_cases h0 : f3 = 0
  · subst h0
    go_enter Tryz.func122, Tryz.ntmps122
    go_wp2_with fail
    go_ret
    exact ⟨rfl, rfl⟩
  by_cases h1 : f3 = 1
  · subst h1
    go_enter Tryz.func122, Tryz.ntmps122
    go_wp2_with fail
    go_ret
    exact ⟨rfl, rfl⟩
  by_cases h2 : f3 = 2
  · subst h2
    go_enter Tryz.func122, Tryz.ntmps122
    go_wp2_with fail
    go_ret
    exact ⟨rfl, rfl⟩
  by_cases h3 : f3 = 3
  · subst h3
    go_enter Tryz.func122, Tryz.ntmps122
    go_wp2_with fail
    go_ret
    exact ⟨rfl, rfl⟩
  by_cases h4 : f3 = 4
  · subst h4
    go_enter Tryz.func122, Tryz.ntmps122
    go_wp2_with fail
    go_ret
    exact ⟨rfl, rfl⟩
  by_cases h5 : f3 = 5
  · subst h5
    go_enter Tryz.func122, Tryz.ntmps122
    go_wp2_with fail
    go_ret
    exact ⟨rfl, rfl⟩
  by_cases h6 : f3 = 6
  · subst h6
    go_enter Tryz.func122, Tryz.ntmps122
    go_wp2_with fail
    go_ret
    exact ⟨rfl, rfl⟩
  have v : Num.oMul f3 = 45 := by unfold Num.oMul; rw [if_neg h0]; rw [if_neg h1]; rw [if_neg h2]; rw [if_neg h3]; rw [if_neg h4]; rw [if_neg h5]; rw [if_neg h6]
  rw [v]; clear v
  replace h0 : (f3 == 0) = false := by simp [h0]
  replace h1 : (f3 == 1) = false := by simp [h1]
  replace h2 : (f3 == 2) = false := by simp [h2]
  replace h3 : (f3 == 3) = false := by simp [h3]
  replace h4 : (f3 == 4) = false := by simp [h4]
  replace h5 : (f3 == 5) = false := by simp [h5]
  replace h6 : (f3 == 6) = false := by simp [h6]
  go_enter Tryz.func122, Tryz.ntmps122
  go_wp2_with fail
  go_ret
  exact ⟨rfl, rfl⟩
set_option maxHeartbeats 2000000 in
theorem other_all (f3 : Int) (w : World) :
    Calls Tryz.prog 123 #[.int .u32 f3] w fun e w' => e = .returned (.int .i64 (Num.oOther f3)) ∧ w' = w := by
  by_cases h0 : f3 = 0
  · subst h0
    go_enter Tryz.func123, Tryz.ntmps123
    go_wp2_with fail
    go_ret
    exact ⟨rfl, rfl⟩
  by_cases h5 : f3 = 5
  · subst h5
    go_enter Tryz.func123, Tryz.ntmps123
    go_wp2_with fail
    go_ret
    exact ⟨rfl, rfl⟩
  have v : Num.oOther f3 = 0 := by unfold Num.oOther; rw [if_neg h0]; rw [if_neg h5]
  rw [v]; clear v
  replace h0 : (f3 == 0) = false := by simp [h0]
  replace h5 : (f3 == 5) = false := by simp [h5]
  go_enter Tryz.func123, Tryz.ntmps123
  go_wp2_with fail
  go_ret
  exact ⟨rfl, rfl⟩
set_option maxHeartbeats 2000000 in
theorem reg_all (f3 f7 : Int) (w : World) :
    Calls Tryz.prog 84 #[.int .u32 f3, .int .u32 f7] w fun e w' => e = .returned (.int .i64 (Num.oReg f3 f7)) ∧ w' = w := by
  by_cases h0 : f7 = 0
  · subst h0
    go_enter Tryz.func84, Tryz.ntmps84
    go_wp2_with fail
    refine (plain_all _ _).mono ?_; rintro e w' ⟨rfl, rfl⟩
    go_wp2_with fail
    go_ret
    exact ⟨rfl, rfl⟩
  by_cases h1 : f7 = 1
  · subst h1
    go_enter Tryz.func84, Tryz.ntmps84
    go_wp2_with fail
    refine (mul_all _ _).mono ?_; rintro e w' ⟨rfl, rfl⟩
    go_wp2_with fail
    go_ret
    exact ⟨rfl, rfl⟩
  by_cases h32 : f7 = 32
  · subst h32
    go_enter Tryz.func84, Tryz.ntmps84
    go_wp2_with fail
    refine (other_all _ _).mono ?_; rintro e w' ⟨rfl, rfl⟩
    go_wp2_with fail
    go_ret
    exact ⟨rfl, rfl⟩
  have v : Num.oReg f3 f7 = 0 := by unfold Num.oReg; rw [if_neg h0]; rw [if_neg h1]; rw [if_neg h32]
  rw [v]; clear v
  replace h0 : (f7 == 0) = false := by simp [h0]
  replace h1 : (f7 == 1) = false := by simp [h1]
  replace h32 : (f7 == 32) = false := by simp [h32]
  go_enter Tryz.func84, Tryz.ntmps84
  go_wp2_with fail
  go_ret
  exact ⟨rfl, rfl⟩
set_option maxHeartbeats 2000000 in
theorem bare_all (v : Int) (w : World) :
    Calls Tryz.prog 124 #[.int .u32 v] w fun e w' => e = .returned (.int .i64 (Num.oBare v)) ∧ w' = w := by
  by_cases h115 : v = 115
  · subst h115
    go_enter Tryz.func124, Tryz.ntmps124
    go_wp2_with fail
    go_ret
    exact ⟨rfl, rfl⟩
  by_cases h1048691 : v = 1048691
  · subst h1048691
    go_enter Tryz.func124, Tryz.ntmps124
    go_wp2_with fail
    go_ret
    exact ⟨rfl, rfl⟩
  by_cases h807403635 : v = 807403635
  · subst h807403635
    go_enter Tryz.func124, Tryz.ntmps124
    go_wp2_with fail
    go_ret
    exact ⟨rfl, rfl⟩
  have v : Num.oBare v = 0 := by unfold Num.oBare; rw [if_neg h115]; rw [if_neg h1048691]; rw [if_neg h807403635]
  rw [v]; clear v
  replace h115 : (v == 115) = false := by simp [h115]
  replace h1048691 : (v == 1048691) = false := by simp [h1048691]
  replace h807403635 : (v == 807403635) = false := by simp [h807403635]
  go_enter Tryz.func124, Tryz.ntmps124
  go_wp2_with fail
  go_ret
  exact ⟨rfl, rfl⟩
set_option maxHeartbeats 2000000 in
theorem sys_all (v f3 : Int) (w : World) :
    Calls Tryz.prog 85 #[.int .u32 v, .int .u32 f3] w fun e w' => e = .returned (.int .i64 (Num.oSys v f3)) ∧ w' = w := by
  by_cases h0 : f3 = 0
  · subst h0
    go_enter Tryz.func85, Tryz.ntmps85
    go_wp2_with fail
    refine (bare_all _ _).mono ?_; rintro e w' ⟨rfl, rfl⟩
    go_wp2_with fail
    go_ret
    exact ⟨rfl, rfl⟩
  by_cases h1 : f3 = 1
  · subst h1
    go_enter Tryz.func85, Tryz.ntmps85
    go_wp2_with fail
    go_ret
    exact ⟨rfl, rfl⟩
  by_cases h2 : f3 = 2
  · subst h2
    go_enter Tryz.func85, Tryz.ntmps85
    go_wp2_with fail
    go_ret
    exact ⟨rfl, rfl⟩
  by_cases h3 : f3 = 3
  · subst h3
    go_enter Tryz.func85, Tryz.ntmps85
    go_wp2_with fail
    go_ret
    exact ⟨rfl, rfl⟩
  by_cases h5 : f3 = 5
  · subst h5
    go_enter Tryz.func85, Tryz.ntmps85
    go_wp2_with fail
    go_ret
    exact ⟨rfl, rfl⟩
  by_cases h6 : f3 = 6
  · subst h6
    go_enter Tryz.func85, Tryz.ntmps85
    go_wp2_with fail
    go_ret
    exact ⟨rfl, rfl⟩
  by_cases h7 : f3 = 7
  · subst h7
    go_enter Tryz.func85, Tryz.ntmps85
    go_wp2_with fail
    go_ret
    exact ⟨rfl, rfl⟩
  have v : Num.oSys v f3 = 0 := by unfold Num.oSys; rw [if_neg h0]; rw [if_neg h1]; rw [if_neg h2]; rw [if_neg h3]; rw [if_neg h5]; rw [if_neg h6]; rw [if_neg h7]
  rw [v]; clear v
  replace h0 : (f3 == 0) = false := by simp [h0]
  replace h1 : (f3 == 1) = false := by simp [h1]
  replace h2 : (f3 == 2) = false := by simp [h2]
  replace h3 : (f3 == 3) = false := by simp [h3]
  replace h5 : (f3 == 5) = false := by simp [h5]
  replace h6 : (f3 == 6) = false := by simp [h6]
  replace h7 : (f3 == 7) = false := by simp [h7]
  go_enter Tryz.func85, Tryz.ntmps85
  go_wp2_with fail
  go_ret
  exact ⟨rfl, rfl⟩
set_option maxHeartbeats 4000000 in
theorem op_core (v c f3 f7 : Int) (C : Hid (Num.bt v 0 7 = c)) (F : Hid (Num.bt v 12 3 = f3)) (G : Hid (Num.bt v 25 7 = f7)) (w : World) :
    Calls Tryz.prog 48 #[.int .u32 v] w fun e w' => e = .returned (.int .i64 (Num.opc v c f3 f7)) ∧ w' = w := by
  by_cases h55 : c = 55
  · subst h55
    go_enter Tryz.func48, Tryz.ntmps48
    go_wp2_with fail
    refine (bits_as _ _ _ _ F _).mono ?_; rintro e w' ⟨rfl, rfl⟩
    go_wp2_with fail
    refine (bits_as _ _ _ _ G _).mono ?_; rintro e w' ⟨rfl, rfl⟩
    go_wp2_with fail
    refine (bits_as _ _ _ _ C _).mono ?_; rintro e w' ⟨rfl, rfl⟩
    go_wp2_with fail
    go_ret
    exact ⟨rfl, rfl⟩
  by_cases h23 : c = 23
  · subst h23
    go_enter Tryz.func48, Tryz.ntmps48
    go_wp2_with fail
    refine (bits_as _ _ _ _ F _).mono ?_; rintro e w' ⟨rfl, rfl⟩
    go_wp2_with fail
    refine (bits_as _ _ _ _ G _).mono ?_; rintro e w' ⟨rfl, rfl⟩
    go_wp2_with fail
    refine (bits_as _ _ _ _ C _).mono ?_; rintro e w' ⟨rfl, rfl⟩
    go_wp2_with fail
    go_ret
    exact ⟨rfl, rfl⟩
  by_cases h111 : c = 111
  · subst h111
    go_enter Tryz.func48, Tryz.ntmps48
    go_wp2_with fail
    refine (bits_as _ _ _ _ F _).mono ?_; rintro e w' ⟨rfl, rfl⟩
    go_wp2_with fail
    refine (bits_as _ _ _ _ G _).mono ?_; rintro e w' ⟨rfl, rfl⟩
    go_wp2_with fail
    refine (bits_as _ _ _ _ C _).mono ?_; rintro e w' ⟨rfl, rfl⟩
    go_wp2_with fail
    go_ret
    exact ⟨rfl, rfl⟩
  by_cases h103 : c = 103
  · subst h103
    go_enter Tryz.func48, Tryz.ntmps48
    go_wp2_with fail
    refine (bits_as _ _ _ _ F _).mono ?_; rintro e w' ⟨rfl, rfl⟩
    go_wp2_with fail
    refine (bits_as _ _ _ _ G _).mono ?_; rintro e w' ⟨rfl, rfl⟩
    go_wp2_with fail
    refine (bits_as _ _ _ _ C _).mono ?_; rintro e w' ⟨rfl, rfl⟩
    go_wp2_with fail
    refine (first_all _ _ _).mono ?_; rintro e w' ⟨rfl, rfl⟩
    go_wp2_with fail
    go_ret
    exact ⟨rfl, rfl⟩
  by_cases h99 : c = 99
  · subst h99
    go_enter Tryz.func48, Tryz.ntmps48
    go_wp2_with fail
    refine (bits_as _ _ _ _ F _).mono ?_; rintro e w' ⟨rfl, rfl⟩
    go_wp2_with fail
    refine (bits_as _ _ _ _ G _).mono ?_; rintro e w' ⟨rfl, rfl⟩
    go_wp2_with fail
    refine (bits_as _ _ _ _ C _).mono ?_; rintro e w' ⟨rfl, rfl⟩
    go_wp2_with fail
    refine (branch_all _ _).mono ?_; rintro e w' ⟨rfl, rfl⟩
    go_wp2_with fail
    go_ret
    exact ⟨rfl, rfl⟩
  by_cases h3 : c = 3
  · subst h3
    go_enter Tryz.func48, Tryz.ntmps48
    go_wp2_with fail
    refine (bits_as _ _ _ _ F _).mono ?_; rintro e w' ⟨rfl, rfl⟩
    go_wp2_with fail
    refine (bits_as _ _ _ _ G _).mono ?_; rintro e w' ⟨rfl, rfl⟩
    go_wp2_with fail
    refine (bits_as _ _ _ _ C _).mono ?_; rintro e w' ⟨rfl, rfl⟩
    go_wp2_with fail
    refine (load_all _ _).mono ?_; rintro e w' ⟨rfl, rfl⟩
    go_wp2_with fail
    go_ret
    exact ⟨rfl, rfl⟩
  by_cases h35 : c = 35
  · subst h35
    go_enter Tryz.func48, Tryz.ntmps48
    go_wp2_with fail
    refine (bits_as _ _ _ _ F _).mono ?_; rintro e w' ⟨rfl, rfl⟩
    go_wp2_with fail
    refine (bits_as _ _ _ _ G _).mono ?_; rintro e w' ⟨rfl, rfl⟩
    go_wp2_with fail
    refine (bits_as _ _ _ _ C _).mono ?_; rintro e w' ⟨rfl, rfl⟩
    go_wp2_with fail
    refine (store_all _ _).mono ?_; rintro e w' ⟨rfl, rfl⟩
    go_wp2_with fail
    go_ret
    exact ⟨rfl, rfl⟩
  by_cases h19 : c = 19
  · subst h19
    go_enter Tryz.func48, Tryz.ntmps48
    go_wp2_with fail
    refine (bits_as _ _ _ _ F _).mono ?_; rintro e w' ⟨rfl, rfl⟩
    go_wp2_with fail
    refine (bits_as _ _ _ _ G _).mono ?_; rintro e w' ⟨rfl, rfl⟩
    go_wp2_with fail
    refine (bits_as _ _ _ _ C _).mono ?_; rintro e w' ⟨rfl, rfl⟩
    go_wp2_with fail
    refine (imm_all _ _ _).mono ?_; rintro e w' ⟨rfl, rfl⟩
    go_wp2_with fail
    go_ret
    exact ⟨rfl, rfl⟩
  by_cases h51 : c = 51
  · subst h51
    go_enter Tryz.func48, Tryz.ntmps48
    go_wp2_with fail
    refine (bits_as _ _ _ _ F _).mono ?_; rintro e w' ⟨rfl, rfl⟩
    go_wp2_with fail
    refine (bits_as _ _ _ _ G _).mono ?_; rintro e w' ⟨rfl, rfl⟩
    go_wp2_with fail
    refine (bits_as _ _ _ _ C _).mono ?_; rintro e w' ⟨rfl, rfl⟩
    go_wp2_with fail
    refine (reg_all _ _ _).mono ?_; rintro e w' ⟨rfl, rfl⟩
    go_wp2_with fail
    go_ret
    exact ⟨rfl, rfl⟩
  by_cases h15 : c = 15
  · subst h15
    go_enter Tryz.func48, Tryz.ntmps48
    go_wp2_with fail
    refine (bits_as _ _ _ _ F _).mono ?_; rintro e w' ⟨rfl, rfl⟩
    go_wp2_with fail
    refine (bits_as _ _ _ _ G _).mono ?_; rintro e w' ⟨rfl, rfl⟩
    go_wp2_with fail
    refine (bits_as _ _ _ _ C _).mono ?_; rintro e w' ⟨rfl, rfl⟩
    go_wp2_with fail
    refine (first_all _ _ _).mono ?_; rintro e w' ⟨rfl, rfl⟩
    go_wp2_with fail
    go_ret
    exact ⟨rfl, rfl⟩
  by_cases h115 : c = 115
  · subst h115
    go_enter Tryz.func48, Tryz.ntmps48
    go_wp2_with fail
    refine (bits_as _ _ _ _ F _).mono ?_; rintro e w' ⟨rfl, rfl⟩
    go_wp2_with fail
    refine (bits_as _ _ _ _ G _).mono ?_; rintro e w' ⟨rfl, rfl⟩
    go_wp2_with fail
    refine (bits_as _ _ _ _ C _).mono ?_; rintro e w' ⟨rfl, rfl⟩
    go_wp2_with fail
    refine (sys_all _ _ _).mono ?_; rintro e w' ⟨rfl, rfl⟩
    go_wp2_with fail
    go_ret
    exact ⟨rfl, rfl⟩
  have x : Num.opc v c f3 f7 = 0 := by unfold Num.opc; rw [if_neg h55]; rw [if_neg h23]; rw [if_neg h111]; rw [if_neg h103]; rw [if_neg h99]; rw [if_neg h3]; rw [if_neg h35]; rw [if_neg h19]; rw [if_neg h51]; rw [if_neg h15]; rw [if_neg h115]
  rw [x]; clear x
  replace h55 : (c == 55) = false := by simp [h55]
  replace h23 : (c == 23) = false := by simp [h23]
  replace h111 : (c == 111) = false := by simp [h111]
  replace h103 : (c == 103) = false := by simp [h103]
  replace h99 : (c == 99) = false := by simp [h99]
  replace h3 : (c == 3) = false := by simp [h3]
  replace h35 : (c == 35) = false := by simp [h35]
  replace h19 : (c == 19) = false := by simp [h19]
  replace h51 : (c == 51) = false := by simp [h51]
  replace h15 : (c == 15) = false := by simp [h15]
  replace h115 : (c == 115) = false := by simp [h115]
  go_enter Tryz.func48, Tryz.ntmps48
  go_wp2_with fail
  refine (bits_as _ _ _ _ F _).mono ?_; rintro e w' ⟨rfl, rfl⟩
  go_wp2_with fail
  refine (bits_as _ _ _ _ G _).mono ?_; rintro e w' ⟨rfl, rfl⟩
  go_wp2_with fail
  refine (bits_as _ _ _ _ C _).mono ?_; rintro e w' ⟨rfl, rfl⟩
  go_wp2_with fail
  go_ret
  exact ⟨rfl, rfl⟩
end Go.Proofs.YtpkbkbllhpdfiaaGreat.Walks
namespace Go.Proofs.YtpkbkbllhpdfiaaGreat.Num
def op (v : Int) : Int := opc v (v % 128) (v / 4096 % 8) (v / 33554432 % 128)
/-- the word v is decoded as o d a b n; g: it is an instruction -/
structure Dec (v o d a b n : Int) (g : Bool) : Prop where
  ho : op v = o
  hd : dD (fm o) v = d
  ha : dA (fm o) v = a
  hb : dB (fm o) v = b
  hn : dN (fm o) v = n
  hg : (o != 0) = g
theorem Dec.ex (v : Int) : ∃ o d a b n g, Dec v o d a b n g := ⟨_, _, _, _, _, _, rfl, rfl, rfl, rfl, rfl, rfl⟩
end Go.Proofs.YtpkbkbllhpdfiaaGreat.Num
namespace Go.Proofs.YtpkbkbllhpdfiaaGreat.Walks
open Go.ChangeShapes Go.WideShapes Go.ChangeAt Go.RowKit
set_option linter.unusedVariables false
theorem bt_7_5 (v : Int) : Num.bt v 7 5 = v / 128 % 32 := Num.bt_lit v 7 5 128 32 (by decide) (by decide) (by decide) (by decide) (by decide) (by decide)
theorem bt_15_5 (v : Int) : Num.bt v 15 5 = v / 32768 % 32 := Num.bt_lit v 15 5 32768 32 (by decide) (by decide) (by decide) (by decide) (by decide) (by decide)
theorem bt_20_5 (v : Int) : Num.bt v 20 5 = v / 1048576 % 32 := Num.bt_lit v 20 5 1048576 32 (by decide) (by decide) (by decide) (by decide) (by decide) (by decide)
theorem bt_20_12 (v : Int) : Num.bt v 20 12 = v / 1048576 % 4096 := Num.bt_lit v 20 12 1048576 4096 (by decide) (by decide) (by decide) (by decide) (by decide) (by decide)
theorem bt_12_3 (v : Int) : Num.bt v 12 3 = v / 4096 % 8 := Num.bt_lit v 12 3 4096 8 (by decide) (by decide) (by decide) (by decide) (by decide) (by decide)
theorem bt_25_7 (v : Int) : Num.bt v 25 7 = v / 33554432 % 128 := Num.bt_lit v 25 7 33554432 128 (by decide) (by decide) (by decide) (by decide) (by decide) (by decide)
theorem bt_0_7 (v : Int) : Num.bt v 0 7 = v % 128 := by
  rw [Num.bt_lit v 0 7 1 128 (by decide) (by decide) (by decide) (by decide) (by decide) (by decide), Int.ediv_one]
theorem op_as (v o : Int) (H : Hid (Num.op v = o)) (w : World) : Calls Tryz.prog 48 #[.int .u32 v] w fun e w' => e = .returned (.int .i64 o) ∧ w' = w := by
  rw [← H.out]; exact op_core v _ _ _ (bt_0_7 v) (bt_12_3 v) (bt_25_7 v) w
theorem oper_all (o v : Int) (v0 : 0 ≤ v) (v1 : v ≤ 4294967295) (w : World) :
    Calls Tryz.prog 49 #[.int .i64 o, .int .u32 v] w fun e w' => e = .returned (.agg (cells o (Num.dD (Num.fm o) v) (Num.dA (Num.fm o) v) (Num.dB (Num.fm o) v) (Num.dN (Num.fm o) v))) ∧ w' = w.alloc (.cells (cells o (Num.dD (Num.fm o) v) (Num.dA (Num.fm o) v) (Num.dB (Num.fm o) v) (Num.dN (Num.fm o) v)) 62) := by
  have x0 : 0 ≤ v / 128 % 32 := by omega
  have x1 : v / 128 % 32 ≤ 31 := by omega
  have y0 : 0 ≤ v / 32768 % 32 := by omega
  have y1 : v / 32768 % 32 ≤ 31 := by omega
  have z0 : 0 ≤ v / 1048576 % 32 := by omega
  have z1 : v / 1048576 % 32 ≤ 31 := by omega
  rcases Num.fm_is o with h | h | h | h | h | h | h | h | h | ⟨h, hb⟩ | ⟨h, hb⟩
  all_goals (have F := hideP h; rw [h]; clear h)
  · exact oper0 o v _ _ _ v0 v1 x0 x1 y0 y1 z0 z1 F (bt_7_5 v) (bt_15_5 v) (bt_20_5 v) w
  · exact oper1 o v _ _ _ v0 v1 x0 x1 y0 y1 z0 z1 F (bt_7_5 v) (bt_15_5 v) (bt_20_5 v) w
  · exact oper2 o v _ _ _ v0 v1 x0 x1 y0 y1 z0 z1 F (bt_7_5 v) (bt_15_5 v) (bt_20_5 v) w
  · exact oper3 o v _ _ _ _ rfl v0 v1 x0 x1 y0 y1 z0 z1 F (bt_7_5 v) (bt_15_5 v) (bt_20_5 v) w
  · exact oper4 o v _ _ _ v0 v1 x0 x1 y0 y1 z0 z1 F (bt_7_5 v) (bt_15_5 v) (bt_20_5 v) w
  · exact oper5 o v _ _ _ _ rfl v0 v1 x0 x1 y0 y1 z0 z1 F (bt_7_5 v) (bt_15_5 v) (bt_20_5 v) w
  · exact oper6 o v _ _ _ _ rfl v0 v1 x0 x1 y0 y1 z0 z1 F (bt_7_5 v) (bt_15_5 v) (bt_20_5 v) w
  · exact oper7 o v _ _ _ _ rfl v0 v1 x0 x1 y0 y1 z0 z1 F (bt_7_5 v) (bt_15_5 v) (bt_20_5 v) w
  · exact oper8 o v _ _ _ _ rfl v0 v1 x0 x1 y0 y1 z0 z1 F (bt_7_5 v) (bt_15_5 v) (bt_20_5 v) w
  · exact oper9 o v _ _ _ _ (bt_20_12 v) (by omega) (by omega) v0 v1 x0 x1 y0 y1 z0 z1 F (bt_7_5 v) (bt_15_5 v) (bt_20_5 v) w
  · exact oper10 o v _ _ _ _ (bt_20_12 v) (by omega) (by omega) v0 v1 x0 x1 y0 y1 z0 z1 F (bt_7_5 v) (bt_15_5 v) (bt_20_5 v) w
theorem oper_as (v o d a b n : Int) (g : Bool) (D : Hid (Num.Dec v o d a b n g)) (v0 : 0 ≤ v) (v1 : v ≤ 4294967295) (w : World) :
    Calls Tryz.prog 49 #[.int .i64 o, .int .u32 v] w fun e w' => e = .returned (.agg (cells o d a b n)) ∧ w' = w.alloc (.cells (cells o d a b n) 62) := by
  have := oper_all o v v0 v1 w
  rw [D.out.hd, D.out.ha, D.out.hb, D.out.hn] at this
  exact this
set_option maxHeartbeats 2000000 in
theorem decode_no (v : Int) (O : Hid (Num.op v = 0)) (w : World) :
    Calls Tryz.prog 34 #[.int .u32 v] w fun e w' => e = .returned (.tuple #[.agg (cells 0 0 0 0 0), .bool false]) ∧ Fr w w' := by
  go_enter Tryz.func34, Tryz.ntmps34
  go_wp2_with fail
  refine (op_as _ _ O _).mono ?_; rintro e w' ⟨rfl, rfl⟩
  go_wp2_with fail
  refine bodyPost_ret (v := .tuple #[.agg (cells 0 0 0 0 0), .bool false]) (by simp [results, Tryz.results34, go_sem]) rfl ⟨rfl, ?_⟩
  exact (Fr.refl _).alloc _
set_option maxHeartbeats 2000000 in
theorem decode_yes (v o d a b n : Int) (D : Hid (Num.Dec v o d a b n true)) (hz : (o == 0) = false) (v0 : Hid (0 ≤ v)) (v1 : Hid (v ≤ 4294967295)) (w : World) :
    Calls Tryz.prog 34 #[.int .u32 v] w fun e w' => e = .returned (.tuple #[.agg (cells o d a b n), .bool true]) ∧ Fr w w' := by
  go_enter Tryz.func34, Tryz.ntmps34
  go_wp2_with fail
  refine (op_as _ _ D.out.ho _).mono ?_; rintro e w' ⟨rfl, rfl⟩
  go_wp2_with fail
  refine (oper_as v o d a b n true D v0.out v1.out _).mono ?_; rintro e w1 ⟨rfl, rfl⟩
  go_wp2_with fail
  refine bodyPost_ret (v := .tuple #[.agg (cells o d a b n), .bool true]) (by simp [results, Tryz.results34, go_sem]) rfl ⟨rfl, ?_⟩
  exact ((Fr.refl _).alloc _).alloc _
theorem decode_as (v o d a b n : Int) (g : Bool) (D : Hid (Num.Dec v o d a b n g)) (v0 : 0 ≤ v) (v1 : v ≤ 4294967295) (w : World) :
    Calls Tryz.prog 34 #[.int .u32 v] w fun e w' => e = .returned (.tuple #[.agg (cells o d a b n), .bool g]) ∧ Fr w w' := by
  cases g
  · obtain ⟨ho, hd, ha, hb, hn, hg⟩ := D.out
    have z : o = 0 := by simpa using hg
    subst z
    have x := decode_no v ho w
    rw [← hd, ← ha, ← hb, ← hn]
    exact x
  · exact decode_yes v o d a b n D (by have := D.out.hg; simpa using this) v0 v1 w
end Go.Proofs.YtpkbkbllhpdfiaaGreat.Walks
namespace Go.Proofs.YtpkbkbllhpdfiaaGreat.U.Num
open Go.ChangeShapes Go.WideShapes Go.ChangeAt Go.RowKit
def one (c : Bool) : Int := if c then 1 else 0
def dv (a b : Int) : Int := if b = 0 then 4294967295 else (wrap32 a).tdiv (wrap32 b) % 4294967296
def du (a b : Int) : Int := if b = 0 then 4294967295 else a / b
def rm (a b : Int) : Int := if b = 0 then a else (wrap32 a).tmod (wrap32 b) % 4294967296
def ru (a b : Int) : Int := if b = 0 then a else a % b
/-- what op makes of a and b -/
def ad (op a b : Int) : Int :=
  if op = 28 then (a + b) % 4294967296 else if op = 19 then (a + b) % 4294967296 else if op = 29 then (a - b) % 4294967296
  else if op = 30 then a * 2 ^ (b % 32).toNat % 4294967296 else if op = 25 then a * 2 ^ (b % 32).toNat % 4294967296
  else if op = 31 then one (decide (wrap32 a < wrap32 b)) else if op = 20 then one (decide (wrap32 a < wrap32 b))
  else if op = 32 then one (decide (a < b)) else if op = 21 then one (decide (a < b))
  else if op = 33 then bits .xor .u32 a b else if op = 22 then bits .xor .u32 a b
  else if op = 34 then a / 2 ^ (b % 32).toNat else if op = 26 then a / 2 ^ (b % 32).toNat
  else if op = 35 then wrap32 a / 2 ^ (b % 32).toNat % 4294967296 else if op = 27 then wrap32 a / 2 ^ (b % 32).toNat % 4294967296
  else if op = 36 then bits .or .u32 a b else if op = 23 then bits .or .u32 a b
  else if op = 37 then bits .and .u32 a b else if op = 24 then bits .and .u32 a b
  else if op = 38 then a * b % 4294967296 else if op = 39 then wrap32 a * wrap32 b / 4294967296 % 4294967296
  else if op = 40 then wrap32 a * b / 4294967296 % 4294967296 else if op = 41 then a * b / 4294967296 % 4294967296
  else if op = 42 then dv a b else if op = 43 then du a b else if op = 44 then rm a b else if op = 45 then ru a b else 0
/-- is the branch op taken on a and b -/
def tk (op a b : Int) : Bool :=
  if op = 5 then a == b else if op = 6 then a != b else if op = 7 then decide (wrap32 a < wrap32 b) else if op = 8 then !decide (wrap32 a < wrap32 b)
  else if op = 9 then decide (a < b) else if op = 10 then !decide (a < b) else false
theorem low5 (b : Int) (h0 : 0 ≤ b) (h1 : b ≤ 4294967295) : bits .and .u32 b 31 = b % 32 := by
  obtain ⟨x, rfl⟩ := Int.eq_ofNat_of_zero_le h0
  rw [show (31 : Int) = ((31 : Nat) : Int) from rfl, u32_and_nat _ _ (by omega) (by decide), show (31 : Nat) = 2 ^ 5 - 1 from rfl, Nat.and_two_pow_sub_one_eq_mod]
  simp
theorem w32_in (a : Int) : -2147483648 ≤ wrap32 a ∧ wrap32 a ≤ 2147483647 := by unfold wrap32; omega
theorem w64_w32 (a : Int) : wrap64 (wrap32 a) = wrap32 a := by unfold wrap64 wrap32; omega
theorem w32_zero (b : Int) (h0 : 0 ≤ b) (h1 : b ≤ 4294967295) (h : b ≠ 0) : wrap32 b ≠ 0 := by unfold wrap32; omega
theorem w64_of {n : Int} (h : -9223372036854775808 ≤ n ∧ n ≤ 9223372036854775807) : wrap64 n = n := by unfold wrap64; omega
/-- a product of two numbers of 32 bits with their signs -/
theorem mul_in (x y : Int) (x0 : -2147483648 ≤ x) (x1 : x ≤ 2147483647) (y0 : -2147483648 ≤ y) (y1 : y ≤ 4294967295) :
    -9223372036854775808 ≤ x * y ∧ x * y ≤ 9223372036854775807 := by
  have h : (x * y).natAbs ≤ 2147483648 * 4294967295 := by
    rw [Int.natAbs_mul]
    exact Nat.mul_le_mul (by omega) (by omega)
  omega
theorem tdiv_in (x y : Int) (x0 : -2147483648 ≤ x) (x1 : x ≤ 2147483647) : -2147483648 ≤ x.tdiv y ∧ x.tdiv y ≤ 2147483648 := by
  have h : (x.tdiv y).natAbs ≤ x.natAbs := by rw [Int.natAbs_tdiv]; exact Nat.div_le_self _ _
  omega
theorem tmod_in (x y : Int) (x0 : -2147483648 ≤ x) (x1 : x ≤ 2147483647) : -2147483648 ≤ x.tmod y ∧ x.tmod y ≤ 2147483648 := by
  have h : (x.tmod y).natAbs ≤ x.natAbs := by rw [Int.natAbs_tmod]; exact Nat.mod_le _ _
  omega
theorem udiv_in (a b : Int) (a0 : 0 ≤ a) (a1 : a ≤ 4294967295) (b0 : 0 ≤ b) : 0 ≤ a / b ∧ a / b ≤ 4294967295 := by
  obtain ⟨x, rfl⟩ := Int.eq_ofNat_of_zero_le a0
  obtain ⟨y, rfl⟩ := Int.eq_ofNat_of_zero_le b0
  have h : x / y ≤ x := Nat.div_le_self _ _
  rw [show (x : Int) / (y : Int) = ((x / y : Nat) : Int) by simp]
  generalize x / y = z at h ⊢
  omega
end Go.Proofs.YtpkbkbllhpdfiaaGreat.U.Num
namespace Go.Proofs.YtpkbkbllhpdfiaaGreat.V.Num
open Go.ChangeShapes Go.WideShapes Go.ChangeAt Go.RowKit
/-- how many bytes -/
def sz (op : Int) : Int := if op = 11 then 1 else if op = 14 then 1 else if op = 16 then 1 else if op = 12 then 2 else if op = 15 then 2 else if op = 17 then 2 else if op = 13 then 4 else if op = 18 then 4 else 0
/-- does it fit at place p of its word -/
def ft (op p : Int) : Bool := if op = 11 then true else if op = 14 then true else if op = 16 then true else if op = 12 then p % 2 == 0 else if op = 15 then p % 2 == 0 else if op = 17 then p % 2 == 0 else if op = 13 then p == 0 else if op = 18 then p == 0 else false
def isl (op : Int) : Bool := if op = 11 then true else if op = 12 then true else if op = 13 then true else if op = 14 then true else if op = 15 then true else false
def iss (op : Int) : Bool := if op = 16 then true else if op = 17 then true else if op = 18 then true else false
/-- a word moved down by p bytes -/
def mv (p x : Int) : Int := if p = 0 then x else if p = 1 then x / 256 else if p = 2 then x / 65536 else x / 16777216
/-- 256 ^ p -/
def pw (p : Int) : Int := if p = 0 then 1 else if p = 1 then 256 else if p = 2 then 65536 else 16777216
def s8 (x : Int) : Int := (x + 128) % 256 - 128
def s16 (x : Int) : Int := (x + 32768) % 65536 - 32768
/-- what op loads at place p of the word x -/
def ld (op p x : Int) : Int :=
  if op = 11 then s8 (mv p x) % 4294967296 else if op = 12 then (if p % 2 = 0 then s16 (mv p x) % 4294967296 else 0) else if op = 13 then (if p = 0 then x else 0)
  else if op = 14 then mv p x % 256 else if op = 15 then (if p % 2 = 0 then mv p x % 65536 else 0) else 0
/-- what op stores of n at place p, and the bytes of the word that it covers -/
def st (op p n : Int) : Int := if op = 16 then n % 256 * pw p else if op = 17 then (if p % 2 = 0 then n % 65536 * pw p else 0) else if op = 18 then (if p = 0 then n else 0) else 0
def sm (op p : Int) : Int :=
  if op = 16 then (if p = 0 then 1 else if p = 1 then 2 else if p = 2 then 4 else 8) else if op = 17 then (if p = 0 then 3 else if p = 2 then 12 else 0) else if op = 18 then (if p = 0 then 15 else 0) else 0
def pk (c : Bool) (d o : Int) : Int := if c then d else o
/-- a word whose bytes are d's where c tells so, o's else -/
def mg (c0 c1 c2 c3 : Bool) (o d : Int) : Int := pk c0 (d % 256) (o % 256) + 256 * pk c1 (d / 256 % 256) (o / 256 % 256) + 65536 * pk c2 (d / 65536 % 256) (o / 65536 % 256) + 16777216 * pk c3 (d / 16777216 % 256) (o / 16777216 % 256)
/-- the same by a mask's lowest four bits -/
def mgm (o d m : Int) : Int := mg (m % 2 == 1) (m / 2 % 2 == 1) (m / 4 % 2 == 1) (m / 8 % 2 == 1) o d
theorem quarter (a : Int) : a % 4 = 0 ∨ a % 4 = 1 ∨ a % 4 = 2 ∨ a % 4 = 3 := by omega
theorem tmod4 (a : Int) (h : 0 ≤ a) : a.tmod 4 = a % 4 := Int.tmod_eq_emod_of_nonneg h
theorem tmod2 (a : Int) (h : 0 ≤ a) : a.tmod 2 = a % 2 := Int.tmod_eq_emod_of_nonneg h
theorem tmod1 (a : Int) (h : 0 ≤ a) : a.tmod 1 = 0 := by rw [Int.tmod_eq_emod_of_nonneg h]; omega
/-- the lowest byte, the lowest half, by shifts up and down -/
theorem low8 (n : Int) : n * 16777216 % 4294967296 / 16777216 = n % 256 := by omega
theorem low16 (n : Int) : n * 65536 % 4294967296 / 65536 = n % 65536 := by omega
theorem sg8 (n : Int) : wrap32 (n * 16777216 % 4294967296) / 16777216 = s8 n := by unfold wrap32 s8; omega
theorem sg16 (n : Int) : wrap32 (n * 65536 % 4294967296) / 65536 = s16 n := by unfold wrap32 s16; omega
theorem and8 (x : Int) (h0 : 0 ≤ x) (h1 : x ≤ 4294967295) : bits .and .u32 x 255 = x % 256 := by
  obtain ⟨n, rfl⟩ := Int.eq_ofNat_of_zero_le h0
  rw [show (255 : Int) = ((255 : Nat) : Int) from rfl, u32_and_nat _ _ (by omega) (by decide), show (255 : Nat) = 2 ^ 8 - 1 from rfl, Nat.and_two_pow_sub_one_eq_mod]
  simp
theorem and16 (x : Int) (h0 : 0 ≤ x) (h1 : x ≤ 4294967295) : bits .and .u32 x 65535 = x % 65536 := by
  obtain ⟨n, rfl⟩ := Int.eq_ofNat_of_zero_le h0
  rw [show (65535 : Int) = ((65535 : Nat) : Int) from rfl, u32_and_nat _ _ (by omega) (by decide), show (65535 : Nat) = 2 ^ 16 - 1 from rfl, Nat.and_two_pow_sub_one_eq_mod]
  simp
theorem and3 (x : Int) (h0 : 0 ≤ x) (h1 : x ≤ 4294967295) : bits .and .u32 x 3 = x % 4 := by
  obtain ⟨n, rfl⟩ := Int.eq_ofNat_of_zero_le h0
  rw [show (3 : Int) = ((3 : Nat) : Int) from rfl, u32_and_nat _ _ (by omega) (by decide), show (3 : Nat) = 2 ^ 2 - 1 from rfl, Nat.and_two_pow_sub_one_eq_mod]
  simp
end Go.Proofs.YtpkbkbllhpdfiaaGreat.V.Num
namespace Go.Proofs.YtpkbkbllhpdfiaaGreat.T.Num
open Go.ChangeShapes Go.WideShapes Go.ChangeAt Go.RowKit
/-- how many bytes -/
def sz (op : Int) : Int := if op = 11 then 1 else if op = 14 then 1 else if op = 16 then 1 else if op = 12 then 2 else if op = 15 then 2 else if op = 17 then 2 else if op = 13 then 4 else if op = 18 then 4 else 0
/-- does it fit at place p of its word -/
def ft (op p : Int) : Bool := if op = 11 then true else if op = 14 then true else if op = 16 then true else if op = 12 then p % 2 == 0 else if op = 15 then p % 2 == 0 else if op = 17 then p % 2 == 0 else if op = 13 then p == 0 else if op = 18 then p == 0 else false
def isl (op : Int) : Bool := if op = 11 then true else if op = 12 then true else if op = 13 then true else if op = 14 then true else if op = 15 then true else false
def iss (op : Int) : Bool := if op = 16 then true else if op = 17 then true else if op = 18 then true else false
/-- a word moved down by p bytes -/
def mv (p x : Int) : Int := if p = 0 then x else if p = 1 then x / 256 else if p = 2 then x / 65536 else x / 16777216
/-- 256 ^ p -/
def pw (p : Int) : Int := if p = 0 then 1 else if p = 1 then 256 else if p = 2 then 65536 else 16777216
def s8 (x : Int) : Int := (x + 128) % 256 - 128
def s16 (x : Int) : Int := (x + 32768) % 65536 - 32768
/-- what op loads at place p of the word x -/
def ld (op p x : Int) : Int :=
  if op = 11 then s8 (mv p x) % 4294967296 else if op = 12 then (if p % 2 = 0 then s16 (mv p x) % 4294967296 else 0) else if op = 13 then (if p = 0 then x else 0)
  else if op = 14 then mv p x % 256 else if op = 15 then (if p % 2 = 0 then mv p x % 65536 else 0) else 0
/-- what op stores of n at place p, and the bytes of the word that it covers -/
def st (op p n : Int) : Int := if op = 16 then n % 256 * pw p else if op = 17 then (if p % 2 = 0 then n % 65536 * pw p else 0) else if op = 18 then (if p = 0 then n else 0) else 0
def sm (op p : Int) : Int :=
  if op = 16 then (if p = 0 then 1 else if p = 1 then 2 else if p = 2 then 4 else 8) else if op = 17 then (if p = 0 then 3 else if p = 2 then 12 else 0) else if op = 18 then (if p = 0 then 15 else 0) else 0
def pk (c : Bool) (d o : Int) : Int := if c then d else o
/-- a word whose bytes are d's where c tells so, o's else -/
def mg (c0 c1 c2 c3 : Bool) (o d : Int) : Int := pk c0 (d % 256) (o % 256) + 256 * pk c1 (d / 256 % 256) (o / 256 % 256) + 65536 * pk c2 (d / 65536 % 256) (o / 65536 % 256) + 16777216 * pk c3 (d / 16777216 % 256) (o / 16777216 % 256)
/-- the same by a mask's lowest four bits -/
def mgm (o d m : Int) : Int := mg (m % 2 == 1) (m / 2 % 2 == 1) (m / 4 % 2 == 1) (m / 8 % 2 == 1) o d
theorem quarter (a : Int) : a % 4 = 0 ∨ a % 4 = 1 ∨ a % 4 = 2 ∨ a % 4 = 3 := by omega
theorem tmod4 (a : Int) (h : 0 ≤ a) : a.tmod 4 = a % 4 := Int.tmod_eq_emod_of_nonneg h
theorem tmod2 (a : Int) (h : 0 ≤ a) : a.tmod 2 = a % 2 := Int.tmod_eq_emod_of_nonneg h
theorem tmod1 (a : Int) (h : 0 ≤ a) : a.tmod 1 = 0 := by rw [Int.tmod_eq_emod_of_nonneg h]; omega
/-- the lowest byte, the lowest half, by shifts up and down -/
theorem low8 (n : Int) : n * 16777216 % 4294967296 / 16777216 = n % 256 := by omega
theorem low16 (n : Int) : n * 65536 % 4294967296 / 65536 = n % 65536 := by omega
theorem sg8 (n : Int) : wrap32 (n * 16777216 % 4294967296) / 16777216 = s8 n := by unfold wrap32 s8; omega
theorem sg16 (n : Int) : wrap32 (n * 65536 % 4294967296) / 65536 = s16 n := by unfold wrap32 s16; omega
theorem and8 (x : Int) (h0 : 0 ≤ x) (h1 : x ≤ 4294967295) : bits .and .u32 x 255 = x % 256 := by
  obtain ⟨n, rfl⟩ := Int.eq_ofNat_of_zero_le h0
  rw [show (255 : Int) = ((255 : Nat) : Int) from rfl, u32_and_nat _ _ (by omega) (by decide), show (255 : Nat) = 2 ^ 8 - 1 from rfl, Nat.and_two_pow_sub_one_eq_mod]
  simp
theorem and16 (x : Int) (h0 : 0 ≤ x) (h1 : x ≤ 4294967295) : bits .and .u32 x 65535 = x % 65536 := by
  obtain ⟨n, rfl⟩ := Int.eq_ofNat_of_zero_le h0
  rw [show (65535 : Int) = ((65535 : Nat) : Int) from rfl, u32_and_nat _ _ (by omega) (by decide), show (65535 : Nat) = 2 ^ 16 - 1 from rfl, Nat.and_two_pow_sub_one_eq_mod]
  simp
theorem and3 (x : Int) (h0 : 0 ≤ x) (h1 : x ≤ 4294967295) : bits .and .u32 x 3 = x % 4 := by
  obtain ⟨n, rfl⟩ := Int.eq_ofNat_of_zero_le h0
  rw [show (3 : Int) = ((3 : Nat) : Int) from rfl, u32_and_nat _ _ (by omega) (by decide), show (3 : Nat) = 2 ^ 2 - 1 from rfl, Nat.and_two_pow_sub_one_eq_mod]
  simp
end Go.Proofs.YtpkbkbllhpdfiaaGreat.T.Num
namespace Go.Proofs.YtpkbkbllhpdfiaaGreat.T.Walks
open Go.ChangeShapes Go.WideShapes Go.ChangeAt Go.RowKit
set_option linter.unusedVariables false
theorem ret_int {k : IntKind} {a b : Int} (h : a = b) : Ending.returned (.int k a) = .returned (.int k b) := by rw [h]
theorem ret_bool {a b : Bool} (h : a = b) : Ending.returned (.bool a) = .returned (.bool b) := by rw [h]
theorem size11 (w : World) : Calls Tryz.prog 135 #[.int .i64 11] w fun e w' => e = .returned (.int .i64 1) ∧ w' = w := by
  go_enter Tryz.func135, Tryz.ntmps135
  go_wp2_with fail
  go_ret
  exact ⟨rfl, rfl⟩
theorem size14 (w : World) : Calls Tryz.prog 135 #[.int .i64 14] w fun e w' => e = .returned (.int .i64 1) ∧ w' = w := by
  go_enter Tryz.func135, Tryz.ntmps135
  go_wp2_with fail
  go_ret
  exact ⟨rfl, rfl⟩
theorem size16 (w : World) : Calls Tryz.prog 135 #[.int .i64 16] w fun e w' => e = .returned (.int .i64 1) ∧ w' = w := by
  go_enter Tryz.func135, Tryz.ntmps135
  go_wp2_with fail
  go_ret
  exact ⟨rfl, rfl⟩
theorem size12 (w : World) : Calls Tryz.prog 135 #[.int .i64 12] w fun e w' => e = .returned (.int .i64 2) ∧ w' = w := by
  go_enter Tryz.func135, Tryz.ntmps135
  go_wp2_with fail
  go_ret
  exact ⟨rfl, rfl⟩
theorem size15 (w : World) : Calls Tryz.prog 135 #[.int .i64 15] w fun e w' => e = .returned (.int .i64 2) ∧ w' = w := by
  go_enter Tryz.func135, Tryz.ntmps135
  go_wp2_with fail
  go_ret
  exact ⟨rfl, rfl⟩
theorem size17 (w : World) : Calls Tryz.prog 135 #[.int .i64 17] w fun e w' => e = .returned (.int .i64 2) ∧ w' = w := by
  go_enter Tryz.func135, Tryz.ntmps135
  go_wp2_with fail
  go_ret
  exact ⟨rfl, rfl⟩
theorem size13 (w : World) : Calls Tryz.prog 135 #[.int .i64 13] w fun e w' => e = .returned (.int .i64 4) ∧ w' = w := by
  go_enter Tryz.func135, Tryz.ntmps135
  go_wp2_with fail
  go_ret
  exact ⟨rfl, rfl⟩
theorem size18 (w : World) : Calls Tryz.prog 135 #[.int .i64 18] w fun e w' => e = .returned (.int .i64 4) ∧ w' = w := by
  go_enter Tryz.func135, Tryz.ntmps135
  go_wp2_with fail
  go_ret
  exact ⟨rfl, rfl⟩
theorem sizeNo (op : Int) (h11 : (op == 11) = false) (h14 : (op == 14) = false) (h16 : (op == 16) = false) (h12 : (op == 12) = false) (h15 : (op == 15) = false) (h17 : (op == 17) = false) (h13 : (op == 13) = false) (h18 : (op == 18) = false) (w : World) : Calls Tryz.prog 135 #[.int .i64 op] w fun e w' => e = .returned (.int .i64 0) ∧ w' = w := by
  go_enter Tryz.func135, Tryz.ntmps135
  go_wp2_with fail
  go_ret
  exact ⟨rfl, rfl⟩
theorem size_as (op : Int) (c : Int) (C : Hid (Num.sz op = c)) (w : World) : Calls Tryz.prog 135 #[.int .i64 op] w fun e w' => e = .returned (.int .i64 c) ∧ w' = w := by
  obtain rfl : Num.sz op = c := C
  by_cases h11 : op = 11
  · subst h11; exact size11 w
  by_cases h14 : op = 14
  · subst h14; exact size14 w
  by_cases h16 : op = 16
  · subst h16; exact size16 w
  by_cases h12 : op = 12
  · subst h12; exact size12 w
  by_cases h15 : op = 15
  · subst h15; exact size15 w
  by_cases h17 : op = 17
  · subst h17; exact size17 w
  by_cases h13 : op = 13
  · subst h13; exact size13 w
  by_cases h18 : op = 18
  · subst h18; exact size18 w
  have z : Num.sz op = 0 := by unfold Num.sz; simp only [h11, h14, h16, h12, h15, h17, h13, h18, if_false]
  rw [z]
  exact sizeNo op (by simp [h11]) (by simp [h14]) (by simp [h16]) (by simp [h12]) (by simp [h15]) (by simp [h17]) (by simp [h13]) (by simp [h18]) w
theorem rsize11 (w : World) : Calls Tryz.prog 70 #[.int .i64 11] w fun e w' => e = .returned (.int .i64 1) ∧ w' = w := by
  go_enter Tryz.func70, Tryz.ntmps70
  go_wp2_with fail
  go_ret
  exact ⟨rfl, rfl⟩
theorem rsize14 (w : World) : Calls Tryz.prog 70 #[.int .i64 14] w fun e w' => e = .returned (.int .i64 1) ∧ w' = w := by
  go_enter Tryz.func70, Tryz.ntmps70
  go_wp2_with fail
  go_ret
  exact ⟨rfl, rfl⟩
theorem rsize16 (w : World) : Calls Tryz.prog 70 #[.int .i64 16] w fun e w' => e = .returned (.int .i64 1) ∧ w' = w := by
  go_enter Tryz.func70, Tryz.ntmps70
  go_wp2_with fail
  go_ret
  exact ⟨rfl, rfl⟩
theorem rsize12 (w : World) : Calls Tryz.prog 70 #[.int .i64 12] w fun e w' => e = .returned (.int .i64 2) ∧ w' = w := by
  go_enter Tryz.func70, Tryz.ntmps70
  go_wp2_with fail
  go_ret
  exact ⟨rfl, rfl⟩
theorem rsize15 (w : World) : Calls Tryz.prog 70 #[.int .i64 15] w fun e w' => e = .returned (.int .i64 2) ∧ w' = w := by
  go_enter Tryz.func70, Tryz.ntmps70
  go_wp2_with fail
  go_ret
  exact ⟨rfl, rfl⟩
theorem rsize17 (w : World) : Calls Tryz.prog 70 #[.int .i64 17] w fun e w' => e = .returned (.int .i64 2) ∧ w' = w := by
  go_enter Tryz.func70, Tryz.ntmps70
  go_wp2_with fail
  go_ret
  exact ⟨rfl, rfl⟩
theorem rsize13 (w : World) : Calls Tryz.prog 70 #[.int .i64 13] w fun e w' => e = .returned (.int .i64 4) ∧ w' = w := by
  go_enter Tryz.func70, Tryz.ntmps70
  go_wp2_with fail
  go_ret
  exact ⟨rfl, rfl⟩
theorem rsize18 (w : World) : Calls Tryz.prog 70 #[.int .i64 18] w fun e w' => e = .returned (.int .i64 4) ∧ w' = w := by
  go_enter Tryz.func70, Tryz.ntmps70
  go_wp2_with fail
  go_ret
  exact ⟨rfl, rfl⟩
theorem rsizeNo (op : Int) (h11 : (op == 11) = false) (h14 : (op == 14) = false) (h16 : (op == 16) = false) (h12 : (op == 12) = false) (h15 : (op == 15) = false) (h17 : (op == 17) = false) (h13 : (op == 13) = false) (h18 : (op == 18) = false) (w : World) : Calls Tryz.prog 70 #[.int .i64 op] w fun e w' => e = .returned (.int .i64 0) ∧ w' = w := by
  go_enter Tryz.func70, Tryz.ntmps70
  go_wp2_with fail
  go_ret
  exact ⟨rfl, rfl⟩
theorem rsize_as (op : Int) (c : Int) (C : Hid (Num.sz op = c)) (w : World) : Calls Tryz.prog 70 #[.int .i64 op] w fun e w' => e = .returned (.int .i64 c) ∧ w' = w := by
  obtain rfl : Num.sz op = c := C
  by_cases h11 : op = 11
  · subst h11; exact rsize11 w
  by_cases h14 : op = 14
  · subst h14; exact rsize14 w
  by_cases h16 : op = 16
  · subst h16; exact rsize16 w
  by_cases h12 : op = 12
  · subst h12; exact rsize12 w
  by_cases h15 : op = 15
  · subst h15; exact rsize15 w
  by_cases h17 : op = 17
  · subst h17; exact rsize17 w
  by_cases h13 : op = 13
  · subst h13; exact rsize13 w
  by_cases h18 : op = 18
  · subst h18; exact rsize18 w
  have z : Num.sz op = 0 := by unfold Num.sz; simp only [h11, h14, h16, h12, h15, h17, h13, h18, if_false]
  rw [z]
  exact rsizeNo op (by simp [h11]) (by simp [h14]) (by simp [h16]) (by simp [h12]) (by simp [h15]) (by simp [h17]) (by simp [h13]) (by simp [h18]) w
theorem loads11 (w : World) : Calls Tryz.prog 126 #[.int .i64 11] w fun e w' => e = .returned (.bool true) ∧ w' = w := by
  go_enter Tryz.func126, Tryz.ntmps126
  go_wp2_with fail
  go_ret
  exact ⟨rfl, rfl⟩
theorem loads12 (w : World) : Calls Tryz.prog 126 #[.int .i64 12] w fun e w' => e = .returned (.bool true) ∧ w' = w := by
  go_enter Tryz.func126, Tryz.ntmps126
  go_wp2_with fail
  go_ret
  exact ⟨rfl, rfl⟩
theorem loads13 (w : World) : Calls Tryz.prog 126 #[.int .i64 13] w fun e w' => e = .returned (.bool true) ∧ w' = w := by
  go_enter Tryz.func126, Tryz.ntmps126
  go_wp2_with fail
  go_ret
  exact ⟨rfl, rfl⟩
theorem loads14 (w : World) : Calls Tryz.prog 126 #[.int .i64 14] w fun e w' => e = .returned (.bool true) ∧ w' = w := by
  go_enter Tryz.func126, Tryz.ntmps126
  go_wp2_with fail
  go_ret
  exact ⟨rfl, rfl⟩
theorem loads15 (w : World) : Calls Tryz.prog 126 #[.int .i64 15] w fun e w' => e = .returned (.bool true) ∧ w' = w := by
  go_enter Tryz.func126, Tryz.ntmps126
  go_wp2_with fail
  go_ret
  exact ⟨rfl, rfl⟩
theorem loadsNo (op : Int) (h11 : (op == 11) = false) (h12 : (op == 12) = false) (h13 : (op == 13) = false) (h14 : (op == 14) = false) (h15 : (op == 15) = false) (w : World) : Calls Tryz.prog 126 #[.int .i64 op] w fun e w' => e = .returned (.bool false) ∧ w' = w := by
  go_enter Tryz.func126, Tryz.ntmps126
  go_wp2_with fail
  go_ret
  exact ⟨rfl, rfl⟩
theorem loads_as (op : Int) (c : Bool) (C : Hid (Num.isl op = c)) (w : World) : Calls Tryz.prog 126 #[.int .i64 op] w fun e w' => e = .returned (.bool c) ∧ w' = w := by
  obtain rfl : Num.isl op = c := C
  by_cases h11 : op = 11
  · subst h11; exact loads11 w
  by_cases h12 : op = 12
  · subst h12; exact loads12 w
  by_cases h13 : op = 13
  · subst h13; exact loads13 w
  by_cases h14 : op = 14
  · subst h14; exact loads14 w
  by_cases h15 : op = 15
  · subst h15; exact loads15 w
  have z : Num.isl op = false := by unfold Num.isl; simp only [h11, h12, h13, h14, h15, if_false]
  rw [z]
  exact loadsNo op (by simp [h11]) (by simp [h12]) (by simp [h13]) (by simp [h14]) (by simp [h15]) w
theorem stores16 (w : World) : Calls Tryz.prog 128 #[.int .i64 16] w fun e w' => e = .returned (.bool true) ∧ w' = w := by
  go_enter Tryz.func128, Tryz.ntmps128
  go_wp2_with fail
  go_ret
  exact ⟨rfl, rfl⟩
theorem stores17 (w : World) : Calls Tryz.prog 128 #[.int .i64 17] w fun e w' => e = .returned (.bool true) ∧ w' = w := by
  go_enter Tryz.func128, Tryz.ntmps128
  go_wp2_with fail
  go_ret
  exact ⟨rfl, rfl⟩
theorem stores18 (w : World) : Calls Tryz.prog 128 #[.int .i64 18] w fun e w' => e = .returned (.bool true) ∧ w' = w := by
  go_enter Tryz.func128, Tryz.ntmps128
  go_wp2_with fail
  go_ret
  exact ⟨rfl, rfl⟩
theorem storesNo (op : Int) (h16 : (op == 16) = false) (h17 : (op == 17) = false) (h18 : (op == 18) = false) (w : World) : Calls Tryz.prog 128 #[.int .i64 op] w fun e w' => e = .returned (.bool false) ∧ w' = w := by
  go_enter Tryz.func128, Tryz.ntmps128
  go_wp2_with fail
  go_ret
  exact ⟨rfl, rfl⟩
theorem stores_as (op : Int) (c : Bool) (C : Hid (Num.iss op = c)) (w : World) : Calls Tryz.prog 128 #[.int .i64 op] w fun e w' => e = .returned (.bool c) ∧ w' = w := by
  obtain rfl : Num.iss op = c := C
  by_cases h16 : op = 16
  · subst h16; exact stores16 w
  by_cases h17 : op = 17
  · subst h17; exact stores17 w
  by_cases h18 : op = 18
  · subst h18; exact stores18 w
  have z : Num.iss op = false := by unfold Num.iss; simp only [h16, h17, h18, if_false]
  rw [z]
  exact storesNo op (by simp [h16]) (by simp [h17]) (by simp [h18]) w
end Go.Proofs.YtpkbkbllhpdfiaaGreat.T.Walks
namespace Go.Proofs.YtpkbkbllhpdfiaaGreat.T.Walks
open Go.ChangeShapes Go.WideShapes Go.ChangeAt Go.RowKit
set_option linter.unusedVariables false
theorem fits11 (a q : Int) (P : a % 1 = q) (Q : a.tmod 1 = q) (g : Bool) (G : (q == 0) = g) (w : World) : Calls Tryz.prog 131 #[.int .i64 11, .int .u32 a] w fun e w' => e = .returned (.bool g) ∧ w' = w := by
  have S : Hid (Num.sz 11 = 1) := rfl
  go_enter Tryz.func131, Tryz.ntmps131
  go_wp2_with fail
  refine (size_as _ _ S _).mono ?_; rintro e w ⟨rfl, rfl⟩
  go_wp2_with fail
  go_ret
  exact ⟨rfl, rfl⟩
theorem fits14 (a q : Int) (P : a % 1 = q) (Q : a.tmod 1 = q) (g : Bool) (G : (q == 0) = g) (w : World) : Calls Tryz.prog 131 #[.int .i64 14, .int .u32 a] w fun e w' => e = .returned (.bool g) ∧ w' = w := by
  have S : Hid (Num.sz 14 = 1) := rfl
  go_enter Tryz.func131, Tryz.ntmps131
  go_wp2_with fail
  refine (size_as _ _ S _).mono ?_; rintro e w ⟨rfl, rfl⟩
  go_wp2_with fail
  go_ret
  exact ⟨rfl, rfl⟩
theorem fits16 (a q : Int) (P : a % 1 = q) (Q : a.tmod 1 = q) (g : Bool) (G : (q == 0) = g) (w : World) : Calls Tryz.prog 131 #[.int .i64 16, .int .u32 a] w fun e w' => e = .returned (.bool g) ∧ w' = w := by
  have S : Hid (Num.sz 16 = 1) := rfl
  go_enter Tryz.func131, Tryz.ntmps131
  go_wp2_with fail
  refine (size_as _ _ S _).mono ?_; rintro e w ⟨rfl, rfl⟩
  go_wp2_with fail
  go_ret
  exact ⟨rfl, rfl⟩
theorem fits12 (a q : Int) (P : a % 2 = q) (Q : a.tmod 2 = q) (g : Bool) (G : (q == 0) = g) (w : World) : Calls Tryz.prog 131 #[.int .i64 12, .int .u32 a] w fun e w' => e = .returned (.bool g) ∧ w' = w := by
  have S : Hid (Num.sz 12 = 2) := rfl
  go_enter Tryz.func131, Tryz.ntmps131
  go_wp2_with fail
  refine (size_as _ _ S _).mono ?_; rintro e w ⟨rfl, rfl⟩
  go_wp2_with fail
  go_ret
  exact ⟨rfl, rfl⟩
theorem fits15 (a q : Int) (P : a % 2 = q) (Q : a.tmod 2 = q) (g : Bool) (G : (q == 0) = g) (w : World) : Calls Tryz.prog 131 #[.int .i64 15, .int .u32 a] w fun e w' => e = .returned (.bool g) ∧ w' = w := by
  have S : Hid (Num.sz 15 = 2) := rfl
  go_enter Tryz.func131, Tryz.ntmps131
  go_wp2_with fail
  refine (size_as _ _ S _).mono ?_; rintro e w ⟨rfl, rfl⟩
  go_wp2_with fail
  go_ret
  exact ⟨rfl, rfl⟩
theorem fits17 (a q : Int) (P : a % 2 = q) (Q : a.tmod 2 = q) (g : Bool) (G : (q == 0) = g) (w : World) : Calls Tryz.prog 131 #[.int .i64 17, .int .u32 a] w fun e w' => e = .returned (.bool g) ∧ w' = w := by
  have S : Hid (Num.sz 17 = 2) := rfl
  go_enter Tryz.func131, Tryz.ntmps131
  go_wp2_with fail
  refine (size_as _ _ S _).mono ?_; rintro e w ⟨rfl, rfl⟩
  go_wp2_with fail
  go_ret
  exact ⟨rfl, rfl⟩
theorem fits13 (a q : Int) (P : a % 4 = q) (Q : a.tmod 4 = q) (g : Bool) (G : (q == 0) = g) (w : World) : Calls Tryz.prog 131 #[.int .i64 13, .int .u32 a] w fun e w' => e = .returned (.bool g) ∧ w' = w := by
  have S : Hid (Num.sz 13 = 4) := rfl
  go_enter Tryz.func131, Tryz.ntmps131
  go_wp2_with fail
  refine (size_as _ _ S _).mono ?_; rintro e w ⟨rfl, rfl⟩
  go_wp2_with fail
  go_ret
  exact ⟨rfl, rfl⟩
theorem fits18 (a q : Int) (P : a % 4 = q) (Q : a.tmod 4 = q) (g : Bool) (G : (q == 0) = g) (w : World) : Calls Tryz.prog 131 #[.int .i64 18, .int .u32 a] w fun e w' => e = .returned (.bool g) ∧ w' = w := by
  have S : Hid (Num.sz 18 = 4) := rfl
  go_enter Tryz.func131, Tryz.ntmps131
  go_wp2_with fail
  refine (size_as _ _ S _).mono ?_; rintro e w ⟨rfl, rfl⟩
  go_wp2_with fail
  go_ret
  exact ⟨rfl, rfl⟩
theorem fitsNo (op a : Int) (S : Hid (Num.sz op = 0)) (w : World) : Calls Tryz.prog 131 #[.int .i64 op, .int .u32 a] w fun e w' => e = .returned (.bool false) ∧ w' = w := by
  go_enter Tryz.func131, Tryz.ntmps131
  go_wp2_with fail
  refine (size_as _ _ S _).mono ?_; rintro e w ⟨rfl, rfl⟩
  go_wp2_with fail
  go_ret
  exact ⟨rfl, rfl⟩
theorem fits_as (op a p : Int) (g : Bool) (a0 : 0 ≤ a) (P : Hid (a % 4 = p)) (G : Hid (Num.ft op p = g)) (w : World) : Calls Tryz.prog 131 #[.int .i64 op, .int .u32 a] w fun e w' => e = .returned (.bool g) ∧ w' = w := by
  obtain rfl : a % 4 = p := P
  obtain rfl : Num.ft op (a % 4) = g := G
  by_cases h11 : op = 11
  · subst h11; exact fits11 a 0 (by omega) (Num.tmod1 a a0) true rfl w
  by_cases h14 : op = 14
  · subst h14; exact fits14 a 0 (by omega) (Num.tmod1 a a0) true rfl w
  by_cases h16 : op = 16
  · subst h16; exact fits16 a 0 (by omega) (Num.tmod1 a a0) true rfl w
  by_cases h12 : op = 12
  · subst h12; exact fits12 a (a % 4 % 2) (by omega) ((Num.tmod2 a a0).trans (by omega)) _ rfl w
  by_cases h15 : op = 15
  · subst h15; exact fits15 a (a % 4 % 2) (by omega) ((Num.tmod2 a a0).trans (by omega)) _ rfl w
  by_cases h17 : op = 17
  · subst h17; exact fits17 a (a % 4 % 2) (by omega) ((Num.tmod2 a a0).trans (by omega)) _ rfl w
  by_cases h13 : op = 13
  · subst h13; exact fits13 a (a % 4) rfl (Num.tmod4 a a0) _ rfl w
  by_cases h18 : op = 18
  · subst h18; exact fits18 a (a % 4) rfl (Num.tmod4 a a0) _ rfl w
  have z : Num.ft op (a % 4) = false := by unfold Num.ft; simp only [h11, h14, h16, h12, h15, h17, h13, h18, if_false]
  rw [z]
  exact fitsNo op a (show Num.sz op = 0 by unfold Num.sz; simp only [h11, h14, h16, h12, h15, h17, h13, h18, if_false]) w
theorem rfits11 (a q : Int) (P : a % 1 = q) (Q : a.tmod 1 = q) (g : Bool) (G : (q == 0) = g) (w : World) : Calls Tryz.prog 139 #[.int .i64 11, .int .u32 a] w fun e w' => e = .returned (.bool g) ∧ w' = w := by
  have S : Hid (Num.sz 11 = 1) := rfl
  go_enter Tryz.func139, Tryz.ntmps139
  go_wp2_with fail
  refine (rsize_as _ _ S _).mono ?_; rintro e w ⟨rfl, rfl⟩
  go_wp2_with fail
  refine (rsize_as _ _ S _).mono ?_; rintro e w ⟨rfl, rfl⟩
  go_wp2_with fail
  go_ret
  exact ⟨rfl, rfl⟩
theorem rfits14 (a q : Int) (P : a % 1 = q) (Q : a.tmod 1 = q) (g : Bool) (G : (q == 0) = g) (w : World) : Calls Tryz.prog 139 #[.int .i64 14, .int .u32 a] w fun e w' => e = .returned (.bool g) ∧ w' = w := by
  have S : Hid (Num.sz 14 = 1) := rfl
  go_enter Tryz.func139, Tryz.ntmps139
  go_wp2_with fail
  refine (rsize_as _ _ S _).mono ?_; rintro e w ⟨rfl, rfl⟩
  go_wp2_with fail
  refine (rsize_as _ _ S _).mono ?_; rintro e w ⟨rfl, rfl⟩
  go_wp2_with fail
  go_ret
  exact ⟨rfl, rfl⟩
theorem rfits16 (a q : Int) (P : a % 1 = q) (Q : a.tmod 1 = q) (g : Bool) (G : (q == 0) = g) (w : World) : Calls Tryz.prog 139 #[.int .i64 16, .int .u32 a] w fun e w' => e = .returned (.bool g) ∧ w' = w := by
  have S : Hid (Num.sz 16 = 1) := rfl
  go_enter Tryz.func139, Tryz.ntmps139
  go_wp2_with fail
  refine (rsize_as _ _ S _).mono ?_; rintro e w ⟨rfl, rfl⟩
  go_wp2_with fail
  refine (rsize_as _ _ S _).mono ?_; rintro e w ⟨rfl, rfl⟩
  go_wp2_with fail
  go_ret
  exact ⟨rfl, rfl⟩
theorem rfits12 (a q : Int) (P : a % 2 = q) (Q : a.tmod 2 = q) (g : Bool) (G : (q == 0) = g) (w : World) : Calls Tryz.prog 139 #[.int .i64 12, .int .u32 a] w fun e w' => e = .returned (.bool g) ∧ w' = w := by
  have S : Hid (Num.sz 12 = 2) := rfl
  go_enter Tryz.func139, Tryz.ntmps139
  go_wp2_with fail
  refine (rsize_as _ _ S _).mono ?_; rintro e w ⟨rfl, rfl⟩
  go_wp2_with fail
  refine (rsize_as _ _ S _).mono ?_; rintro e w ⟨rfl, rfl⟩
  go_wp2_with fail
  go_ret
  exact ⟨rfl, rfl⟩
theorem rfits15 (a q : Int) (P : a % 2 = q) (Q : a.tmod 2 = q) (g : Bool) (G : (q == 0) = g) (w : World) : Calls Tryz.prog 139 #[.int .i64 15, .int .u32 a] w fun e w' => e = .returned (.bool g) ∧ w' = w := by
  have S : Hid (Num.sz 15 = 2) := rfl
  go_enter Tryz.func139, Tryz.ntmps139
  go_wp2_with fail
  refine (rsize_as _ _ S _).mono ?_; rintro e w ⟨rfl, rfl⟩
  go_wp2_with fail
  refine (rsize_as _ _ S _).mono ?_; rintro e w ⟨rfl, rfl⟩
  go_wp2_with fail
  go_ret
  exact ⟨rfl, rfl⟩
theorem rfits17 (a q : Int) (P : a % 2 = q) (Q : a.tmod 2 = q) (g : Bool) (G : (q == 0) = g) (w : World) : Calls Tryz.prog 139 #[.int .i64 17, .int .u32 a] w fun e w' => e = .returned (.bool g) ∧ w' = w := by
  have S : Hid (Num.sz 17 = 2) := rfl
  go_enter Tryz.func139, Tryz.ntmps139
  go_wp2_with fail
  refine (rsize_as _ _ S _).mono ?_; rintro e w ⟨rfl, rfl⟩
  go_wp2_with fail
  refine (rsize_as _ _ S _).mono ?_; rintro e w ⟨rfl, rfl⟩
  go_wp2_with fail
  go_ret
  exact ⟨rfl, rfl⟩
theorem rfits13 (a q : Int) (P : a % 4 = q) (Q : a.tmod 4 = q) (g : Bool) (G : (q == 0) = g) (w : World) : Calls Tryz.prog 139 #[.int .i64 13, .int .u32 a] w fun e w' => e = .returned (.bool g) ∧ w' = w := by
  have S : Hid (Num.sz 13 = 4) := rfl
  go_enter Tryz.func139, Tryz.ntmps139
  go_wp2_with fail
  refine (rsize_as _ _ S _).mono ?_; rintro e w ⟨rfl, rfl⟩
  go_wp2_with fail
  refine (rsize_as _ _ S _).mono ?_; rintro e w ⟨rfl, rfl⟩
  go_wp2_with fail
  go_ret
  exact ⟨rfl, rfl⟩
theorem rfits18 (a q : Int) (P : a % 4 = q) (Q : a.tmod 4 = q) (g : Bool) (G : (q == 0) = g) (w : World) : Calls Tryz.prog 139 #[.int .i64 18, .int .u32 a] w fun e w' => e = .returned (.bool g) ∧ w' = w := by
  have S : Hid (Num.sz 18 = 4) := rfl
  go_enter Tryz.func139, Tryz.ntmps139
  go_wp2_with fail
  refine (rsize_as _ _ S _).mono ?_; rintro e w ⟨rfl, rfl⟩
  go_wp2_with fail
  refine (rsize_as _ _ S _).mono ?_; rintro e w ⟨rfl, rfl⟩
  go_wp2_with fail
  go_ret
  exact ⟨rfl, rfl⟩
theorem rfitsNo (op a : Int) (S : Hid (Num.sz op = 0)) (w : World) : Calls Tryz.prog 139 #[.int .i64 op, .int .u32 a] w fun e w' => e = .returned (.bool false) ∧ w' = w := by
  go_enter Tryz.func139, Tryz.ntmps139
  go_wp2_with fail
  refine (rsize_as _ _ S _).mono ?_; rintro e w ⟨rfl, rfl⟩
  go_wp2_with fail
  go_ret
  exact ⟨rfl, rfl⟩
theorem rfits_as (op a p : Int) (g : Bool) (a0 : 0 ≤ a) (P : Hid (a % 4 = p)) (G : Hid (Num.ft op p = g)) (w : World) : Calls Tryz.prog 139 #[.int .i64 op, .int .u32 a] w fun e w' => e = .returned (.bool g) ∧ w' = w := by
  obtain rfl : a % 4 = p := P
  obtain rfl : Num.ft op (a % 4) = g := G
  by_cases h11 : op = 11
  · subst h11; exact rfits11 a 0 (by omega) (Num.tmod1 a a0) true rfl w
  by_cases h14 : op = 14
  · subst h14; exact rfits14 a 0 (by omega) (Num.tmod1 a a0) true rfl w
  by_cases h16 : op = 16
  · subst h16; exact rfits16 a 0 (by omega) (Num.tmod1 a a0) true rfl w
  by_cases h12 : op = 12
  · subst h12; exact rfits12 a (a % 4 % 2) (by omega) ((Num.tmod2 a a0).trans (by omega)) _ rfl w
  by_cases h15 : op = 15
  · subst h15; exact rfits15 a (a % 4 % 2) (by omega) ((Num.tmod2 a a0).trans (by omega)) _ rfl w
  by_cases h17 : op = 17
  · subst h17; exact rfits17 a (a % 4 % 2) (by omega) ((Num.tmod2 a a0).trans (by omega)) _ rfl w
  by_cases h13 : op = 13
  · subst h13; exact rfits13 a (a % 4) rfl (Num.tmod4 a a0) _ rfl w
  by_cases h18 : op = 18
  · subst h18; exact rfits18 a (a % 4) rfl (Num.tmod4 a a0) _ rfl w
  have z : Num.ft op (a % 4) = false := by unfold Num.ft; simp only [h11, h14, h16, h12, h15, h17, h13, h18, if_false]
  rw [z]
  exact rfitsNo op a (show Num.sz op = 0 by unfold Num.sz; simp only [h11, h14, h16, h12, h15, h17, h13, h18, if_false]) w
end Go.Proofs.YtpkbkbllhpdfiaaGreat.T.Walks
namespace Go.Proofs.YtpkbkbllhpdfiaaGreat.T.Num
/-- inside memory -/
def ins (a : Int) : Bool := decide (a < 4096)
/-- one of the two devices -/
def dev (a : Int) : Bool := if (a == 268435456) = true then true else (a == 268435460)
/-- the cause of a fetch, and whether there is one; z: a multiple of 4, i: inside -/
def fc (z i : Bool) : Int := match z, i with | true, false => 1 | _, _ => 0
def fb (z i : Bool) : Bool := match z, i with | true, true => false | _, _ => true
/-- the cause of an access; l: a load, s: a store, k: a store of a word, g: it fits, i: inside, d: a device -/
def ac (l s k g i d : Bool) : Int := if l = true then (if g = true then (if i = true then 0 else 5) else 4) else if s = true then (if g = true then (if i = true then 0 else if k = true then (if d = true then 0 else 7) else 7) else 6) else 0
def ab (l s k g i d : Bool) : Bool := if l = true then (if g = true then !i else true) else if s = true then (if g = true then (if i = true then false else if k = true then !d else true) else true) else false
end Go.Proofs.YtpkbkbllhpdfiaaGreat.T.Num
namespace Go.Proofs.YtpkbkbllhpdfiaaGreat.T.Walks
open Go.ChangeShapes Go.WideShapes Go.ChangeAt Go.RowKit
set_option linter.unusedVariables false
abbrev two (a : Int) (b : Bool) : Ending := .returned (.tuple #[.int .i64 a, .bool b])

theorem inside_as (a : Int) (i : Bool) (I : Hid (Num.ins a = i)) (w : World) : Calls Tryz.prog 46 #[.int .u32 a] w fun e w' => e = .returned (.bool i) ∧ w' = w := by
  obtain rfl : Num.ins a = i := I
  go_enter Tryz.func46, Tryz.ntmps46
  go_wp2_with fail
  go_ret
  exact ⟨rfl, rfl⟩
theorem device_in (a : Int) (c d : Bool) (C : (a == 268435456) = c) (D : (a == 268435460) = d) (w : World) : Calls Tryz.prog 142 #[.int .u32 a] w fun e w' => e = .returned (.bool (if c = true then true else d)) ∧ w' = w := by
  cases c <;> cases d
  all_goals
    go_enter Tryz.func142, Tryz.ntmps142
    go_wp2_with fail
    go_ret
    exact ⟨rfl, rfl⟩
theorem device_as (a : Int) (d : Bool) (D : Hid (Num.dev a = d)) (w : World) : Calls Tryz.prog 142 #[.int .u32 a] w fun e w' => e = .returned (.bool d) ∧ w' = w := by
  obtain rfl : Num.dev a = d := D
  exact device_in a _ _ rfl rfl w
theorem fetch_in (a q : Int) (z i : Bool) (P : a % 4 = q) (Q : a.tmod 4 = q) (Z : (q == 0) = z) (I : Hid (Num.ins a = i)) (w : World) : Calls Tryz.prog 32 #[.int .u32 a] w fun e w' => e = two (Num.fc z i) (Num.fb z i) ∧ w' = w := by
  cases z
  · go_enter Tryz.func32, Tryz.ntmps32
    go_wp2_with fail
    go_ret2
    exact ⟨rfl, rfl⟩
  · cases i
    all_goals
      go_enter Tryz.func32, Tryz.ntmps32
      go_wp2_with fail
      refine (inside_as _ _ I _).mono ?_; rintro e w ⟨rfl, rfl⟩
      go_wp2_with fail
      go_ret2
      exact ⟨rfl, rfl⟩
theorem fetch_as (a : Int) (a0 : 0 ≤ a) (z i : Bool) (c : Int) (b : Bool) (Z : Hid ((a % 4 == 0) = z)) (I : Hid (Num.ins a = i)) (C : Hid (Num.fc z i = c)) (B : Hid (Num.fb z i = b)) (w : World) : Calls Tryz.prog 32 #[.int .u32 a] w fun e w' => e = two c b ∧ w' = w := by
  obtain rfl : Num.fc z i = c := C
  obtain rfl : Num.fb z i = b := B
  exact fetch_in a _ z i rfl (Num.tmod4 a a0) Z I w
theorem rinside_as (a : Int) (i : Bool) (I : Hid (Num.ins a = i)) (w : World) : Calls Tryz.prog 58 #[.int .u32 a] w fun e w' => e = .returned (.bool i) ∧ w' = w := by
  obtain rfl : Num.ins a = i := I
  go_enter Tryz.func58, Tryz.ntmps58
  go_wp2_with fail
  go_ret
  exact ⟨rfl, rfl⟩
theorem rdevice_in (a : Int) (c d : Bool) (C : (a == 268435456) = c) (D : (a == 268435460) = d) (w : World) : Calls Tryz.prog 140 #[.int .u32 a] w fun e w' => e = .returned (.bool (if c = true then true else d)) ∧ w' = w := by
  cases c <;> cases d
  all_goals
    go_enter Tryz.func140, Tryz.ntmps140
    go_wp2_with fail
    go_ret
    exact ⟨rfl, rfl⟩
theorem rdevice_as (a : Int) (d : Bool) (D : Hid (Num.dev a = d)) (w : World) : Calls Tryz.prog 140 #[.int .u32 a] w fun e w' => e = .returned (.bool d) ∧ w' = w := by
  obtain rfl : Num.dev a = d := D
  exact rdevice_in a _ _ rfl rfl w
theorem rfetch_in (a q : Int) (z i : Bool) (P : a % 4 = q) (Q : a.tmod 4 = q) (Z : (q == 0) = z) (I : Hid (Num.ins a = i)) (w : World) : Calls Tryz.prog 37 #[.int .u32 a] w fun e w' => e = two (Num.fc z i) (Num.fb z i) ∧ w' = w := by
  cases z
  · go_enter Tryz.func37, Tryz.ntmps37
    go_wp2_with fail
    go_ret2
    exact ⟨rfl, rfl⟩
  · cases i
    all_goals
      go_enter Tryz.func37, Tryz.ntmps37
      go_wp2_with fail
      refine (rinside_as _ _ I _).mono ?_; rintro e w ⟨rfl, rfl⟩
      go_wp2_with fail
      go_ret2
      exact ⟨rfl, rfl⟩
theorem rfetch_as (a : Int) (a0 : 0 ≤ a) (z i : Bool) (c : Int) (b : Bool) (Z : Hid ((a % 4 == 0) = z)) (I : Hid (Num.ins a = i)) (C : Hid (Num.fc z i = c)) (B : Hid (Num.fb z i = b)) (w : World) : Calls Tryz.prog 37 #[.int .u32 a] w fun e w' => e = two c b ∧ w' = w := by
  obtain rfl : Num.fc z i = c := C
  obtain rfl : Num.fb z i = b := B
  exact rfetch_in a _ z i rfl (Num.tmod4 a a0) Z I w
theorem load_as (op a p : Int) (g i k d : Bool) (a0 : 0 ≤ a) (P : Hid (a % 4 = p)) (G : Hid (Num.ft op p = g)) (I : Hid (Num.ins a = i)) (w : World) : Calls Tryz.prog 127 #[.int .i64 op, .int .u32 a] w fun e w' => e = two (Num.ac true false k g i d) (Num.ab true false k g i d) ∧ w' = w := by
  cases g
  · go_enter Tryz.func127, Tryz.ntmps127
    go_wp2_with fail
    refine (fits_as _ _ _ _ a0 P G _).mono ?_; rintro e w ⟨rfl, rfl⟩
    go_wp2_with fail
    go_ret2
    exact ⟨rfl, rfl⟩
  · cases i
    all_goals
      go_enter Tryz.func127, Tryz.ntmps127
      go_wp2_with fail
      refine (fits_as _ _ _ _ a0 P G _).mono ?_; rintro e w ⟨rfl, rfl⟩
      go_wp2_with fail
      refine (inside_as _ _ I _).mono ?_; rintro e w ⟨rfl, rfl⟩
      go_wp2_with fail
      go_ret2
      exact ⟨rfl, rfl⟩
theorem tells_as (op a : Int) (k d : Bool) (K : (op == 18) = k) (D : Hid (Num.dev a = d)) (w : World) : Calls Tryz.prog 141 #[.int .i64 op, .int .u32 a] w fun e w' => e = .returned (.bool (if k = true then d else false)) ∧ w' = w := by
  cases k
  · go_enter Tryz.func141, Tryz.ntmps141
    go_wp2_with fail
    go_ret
    exact ⟨rfl, rfl⟩
  · go_enter Tryz.func141, Tryz.ntmps141
    go_wp2_with fail
    refine (device_as _ _ D _).mono ?_; rintro e w ⟨rfl, rfl⟩
    go_wp2_with fail
    go_ret
    exact ⟨rfl, rfl⟩
theorem tells_to (op a : Int) (k d t : Bool) (K : Hid ((op == 18) = k)) (D : Hid (Num.dev a = d)) (T : Hid ((if k = true then d else false) = t)) (w : World) : Calls Tryz.prog 141 #[.int .i64 op, .int .u32 a] w fun e w' => e = .returned (.bool t) ∧ w' = w := by
  obtain rfl : (if k = true then d else false) = t := T
  exact tells_as op a k d K D w
theorem store_as (op a p : Int) (g i k d : Bool) (a0 : 0 ≤ a) (P : Hid (a % 4 = p)) (G : Hid (Num.ft op p = g)) (I : Hid (Num.ins a = i)) (K : Hid ((op == 18) = k)) (D : Hid (Num.dev a = d)) (w : World) : Calls Tryz.prog 129 #[.int .i64 op, .int .u32 a] w fun e w' => e = two (Num.ac false true k g i d) (Num.ab false true k g i d) ∧ w' = w := by
  cases g
  · go_enter Tryz.func129, Tryz.ntmps129
    go_wp2_with fail
    refine (fits_as _ _ _ _ a0 P G _).mono ?_; rintro e w ⟨rfl, rfl⟩
    go_wp2_with fail
    go_ret2
    exact ⟨rfl, rfl⟩
  · cases i
    · cases k <;> cases d
      all_goals
        go_enter Tryz.func129, Tryz.ntmps129
        go_wp2_with fail
        refine (fits_as _ _ _ _ a0 P G _).mono ?_; rintro e w ⟨rfl, rfl⟩
        go_wp2_with fail
        refine (inside_as _ _ I _).mono ?_; rintro e w ⟨rfl, rfl⟩
        go_wp2_with fail
        refine (tells_to _ _ _ _ _ K D rfl _).mono ?_; rintro e w ⟨rfl, rfl⟩
        go_wp2_with fail
        go_ret2
        exact ⟨rfl, rfl⟩
    · go_enter Tryz.func129, Tryz.ntmps129
      go_wp2_with fail
      refine (fits_as _ _ _ _ a0 P G _).mono ?_; rintro e w ⟨rfl, rfl⟩
      go_wp2_with fail
      refine (inside_as _ _ I _).mono ?_; rintro e w ⟨rfl, rfl⟩
      go_wp2_with fail
      go_ret2
      exact ⟨rfl, rfl⟩
theorem isl_iss (op : Int) (h : Num.isl op = true) : Num.iss op = false := by
  unfold Num.isl at h
  by_cases h11 : op = 11
  · subst h11; rfl
  by_cases h12 : op = 12
  · subst h12; rfl
  by_cases h13 : op = 13
  · subst h13; rfl
  by_cases h14 : op = 14
  · subst h14; rfl
  by_cases h15 : op = 15
  · subst h15; rfl
  simp [h11, h12, h13, h14, h15] at h
theorem access_as (op a p : Int) (l s g i k d : Bool) (c : Int) (b : Bool) (a0 : 0 ≤ a) (P : Hid (a % 4 = p)) (G : Hid (Num.ft op p = g)) (I : Hid (Num.ins a = i)) (L : Hid (Num.isl op = l)) (S : Hid (Num.iss op = s)) (K : Hid ((op == 18) = k)) (D : Hid (Num.dev a = d))
    (C : Hid (Num.ac l s k g i d = c)) (B : Hid (Num.ab l s k g i d = b)) (w : World) : Calls Tryz.prog 94 #[.int .i64 op, .int .u32 a] w fun e w' => e = two c b ∧ w' = w := by
  obtain rfl : Num.ac l s k g i d = c := C
  obtain rfl : Num.ab l s k g i d = b := B
  cases l
  · cases s
    · go_enter Tryz.func94, Tryz.ntmps94
      go_wp2_with fail
      refine (loads_as _ _ L _).mono ?_; rintro e w ⟨rfl, rfl⟩
      go_wp2_with fail
      refine (stores_as _ _ S _).mono ?_; rintro e w ⟨rfl, rfl⟩
      go_wp2_with fail
      go_ret2
      exact ⟨rfl, rfl⟩
    · go_enter Tryz.func94, Tryz.ntmps94
      go_wp2_with fail
      refine (loads_as _ _ L _).mono ?_; rintro e w ⟨rfl, rfl⟩
      go_wp2_with fail
      refine (stores_as _ _ S _).mono ?_; rintro e w ⟨rfl, rfl⟩
      go_wp2_with fail
      refine (store_as _ _ _ _ _ _ _ a0 P G I K D _).mono ?_; rintro e w ⟨rfl, rfl⟩
      go_wp2_with fail
      go_ret2
      exact ⟨rfl, rfl⟩
  · obtain rfl : false = s := (isl_iss op L.out).symm.trans S.out
    go_enter Tryz.func94, Tryz.ntmps94
    go_wp2_with fail
    refine (loads_as _ _ L _).mono ?_; rintro e w ⟨rfl, rfl⟩
    go_wp2_with fail
    refine (load_as _ _ _ _ _ k d a0 P G I _).mono ?_; rintro e w ⟨rfl, rfl⟩
    go_wp2_with fail
    go_ret2
    exact ⟨rfl, rfl⟩
end Go.Proofs.YtpkbkbllhpdfiaaGreat.T.Walks
namespace Go.Proofs.YtpkbkbllhpdfiaaGreat.T.Num
/-- which of the CSRs -/
def ix (c : Int) : Int := if c = 773 then 0 else if c = 832 then 1 else if c = 833 then 2 else if c = 834 then 3 else if c = 835 then 4 else -1
end Go.Proofs.YtpkbkbllhpdfiaaGreat.T.Num
namespace Go.Proofs.YtpkbkbllhpdfiaaGreat.T.Walks
open Go.ChangeShapes Go.WideShapes Go.ChangeAt Go.RowKit Go.Proofs.YtpkbkbllhpdfiaaGreat.Walks
set_option linter.unusedVariables false
theorem index773 (w : World) : Calls Tryz.prog 108 #[.int .i64 773] w fun e w' => e = .returned (.int .i64 0) ∧ w' = w := by
  go_enter Tryz.func108, Tryz.ntmps108
  go_wp2_with fail
  go_ret
  exact ⟨rfl, rfl⟩
theorem index832 (w : World) : Calls Tryz.prog 108 #[.int .i64 832] w fun e w' => e = .returned (.int .i64 1) ∧ w' = w := by
  go_enter Tryz.func108, Tryz.ntmps108
  go_wp2_with fail
  go_ret
  exact ⟨rfl, rfl⟩
theorem index833 (w : World) : Calls Tryz.prog 108 #[.int .i64 833] w fun e w' => e = .returned (.int .i64 2) ∧ w' = w := by
  go_enter Tryz.func108, Tryz.ntmps108
  go_wp2_with fail
  go_ret
  exact ⟨rfl, rfl⟩
theorem index834 (w : World) : Calls Tryz.prog 108 #[.int .i64 834] w fun e w' => e = .returned (.int .i64 3) ∧ w' = w := by
  go_enter Tryz.func108, Tryz.ntmps108
  go_wp2_with fail
  go_ret
  exact ⟨rfl, rfl⟩
theorem index835 (w : World) : Calls Tryz.prog 108 #[.int .i64 835] w fun e w' => e = .returned (.int .i64 4) ∧ w' = w := by
  go_enter Tryz.func108, Tryz.ntmps108
  go_wp2_with fail
  go_ret
  exact ⟨rfl, rfl⟩
theorem indexNo (csr : Int) (h773 : (csr == 773) = false) (h832 : (csr == 832) = false) (h833 : (csr == 833) = false) (h834 : (csr == 834) = false) (h835 : (csr == 835) = false) (w : World) : Calls Tryz.prog 108 #[.int .i64 csr] w fun e w' => e = .returned (.int .i64 (-1)) ∧ w' = w := by
  go_enter Tryz.func108, Tryz.ntmps108
  go_wp2_with fail
  go_ret
  exact ⟨rfl, rfl⟩
theorem rindex773 (w : World) : Calls Tryz.prog 117 #[.int .i64 773] w fun e w' => e = .returned (.int .i64 0) ∧ Fr w w' := by
  go_enter Tryz.func117, Tryz.ntmps117
  go_wp2_with fail
  refine wp_loop_rounds 6 ?_
  rw [rounds_succ]
  go_wp2_with fail
  go_ret
  exact ⟨rfl, (Fr.refl w).alloc _⟩
theorem rindex832 (w : World) : Calls Tryz.prog 117 #[.int .i64 832] w fun e w' => e = .returned (.int .i64 1) ∧ Fr w w' := by
  go_enter Tryz.func117, Tryz.ntmps117
  go_wp2_with fail
  refine wp_loop_rounds 6 ?_
  rw [rounds_succ]
  go_wp2_with fail
  rw [rounds_succ]
  go_wp2_with fail
  go_ret
  exact ⟨rfl, (Fr.refl w).alloc _⟩
theorem rindex833 (w : World) : Calls Tryz.prog 117 #[.int .i64 833] w fun e w' => e = .returned (.int .i64 2) ∧ Fr w w' := by
  go_enter Tryz.func117, Tryz.ntmps117
  go_wp2_with fail
  refine wp_loop_rounds 6 ?_
  rw [rounds_succ]
  go_wp2_with fail
  rw [rounds_succ]
  go_wp2_with fail
  rw [rounds_succ]
  go_wp2_with fail
  go_ret
  exact ⟨rfl, (Fr.refl w).alloc _⟩
theorem rindex834 (w : World) : Calls Tryz.prog 117 #[.int .i64 834] w fun e w' => e = .returned (.int .i64 3) ∧ Fr w w' := by
  go_enter Tryz.func117, Tryz.ntmps117
  go_wp2_with fail
  refine wp_loop_rounds 6 ?_
  rw [rounds_succ]
  go_wp2_with fail
  rw [rounds_succ]
  go_wp2_with fail
  rw [rounds_succ]
  go_wp2_with fail
  rw [rounds_succ]
  go_wp2_with fail
  go_ret
  exact ⟨rfl, (Fr.refl w).alloc _⟩
theorem rindex835 (w : World) : Calls Tryz.prog 117 #[.int .i64 835] w fun e w' => e = .returned (.int .i64 4) ∧ Fr w w' := by
  go_enter Tryz.func117, Tryz.ntmps117
  go_wp2_with fail
  refine wp_loop_rounds 6 ?_
  rw [rounds_succ]
  go_wp2_with fail
  rw [rounds_succ]
  go_wp2_with fail
  rw [rounds_succ]
  go_wp2_with fail
  rw [rounds_succ]
  go_wp2_with fail
  rw [rounds_succ]
  go_wp2_with fail
  go_ret
  exact ⟨rfl, (Fr.refl w).alloc _⟩
theorem rindexNo (csr : Int) (h773 : (773 == csr) = false) (h832 : (832 == csr) = false) (h833 : (833 == csr) = false) (h834 : (834 == csr) = false) (h835 : (835 == csr) = false) (w : World) : Calls Tryz.prog 117 #[.int .i64 csr] w fun e w' => e = .returned (.int .i64 (-1)) ∧ Fr w w' := by
  go_enter Tryz.func117, Tryz.ntmps117
  go_wp2_with fail
  refine wp_loop_rounds 6 ?_
  rw [rounds_succ]
  go_wp2_with fail
  rw [rounds_succ]
  go_wp2_with fail
  rw [rounds_succ]
  go_wp2_with fail
  rw [rounds_succ]
  go_wp2_with fail
  rw [rounds_succ]
  go_wp2_with fail
  rw [rounds_succ]
  go_wp2_with fail
  go_ret
  exact ⟨rfl, (Fr.refl w).alloc _⟩
theorem index_as (csr c : Int) (C : Hid (Num.ix csr = c)) (w : World) : Calls Tryz.prog 108 #[.int .i64 csr] w fun e w' => e = .returned (.int .i64 c) ∧ w' = w := by
  obtain rfl : Num.ix csr = c := C
  by_cases h773 : csr = 773
  · subst h773; exact index773 w
  by_cases h832 : csr = 832
  · subst h832; exact index832 w
  by_cases h833 : csr = 833
  · subst h833; exact index833 w
  by_cases h834 : csr = 834
  · subst h834; exact index834 w
  by_cases h835 : csr = 835
  · subst h835; exact index835 w
  have z : Num.ix csr = -1 := by unfold Num.ix; simp only [h773, h832, h833, h834, h835, if_false]
  rw [z]
  exact indexNo csr (by simp [h773]) (by simp [h832]) (by simp [h833]) (by simp [h834]) (by simp [h835]) w
theorem rindex_as (csr c : Int) (C : Hid (Num.ix csr = c)) (w : World) : Calls Tryz.prog 117 #[.int .i64 csr] w fun e w' => e = .returned (.int .i64 c) ∧ Fr w w' := by
  obtain rfl : Num.ix csr = c := C
  by_cases h773 : csr = 773
  · subst h773; exact rindex773 w
  by_cases h832 : csr = 832
  · subst h832; exact rindex832 w
  by_cases h833 : csr = 833
  · subst h833; exact rindex833 w
  by_cases h834 : csr = 834
  · subst h834; exact rindex834 w
  by_cases h835 : csr = 835
  · subst h835; exact rindex835 w
  have z : Num.ix csr = -1 := by unfold Num.ix; simp only [h773, h832, h833, h834, h835, if_false]
  rw [z]
  exact rindexNo csr (by rw [beq_eq_false_iff_ne]; exact fun h => h773 h.symm) (by rw [beq_eq_false_iff_ne]; exact fun h => h832 h.symm) (by rw [beq_eq_false_iff_ne]; exact fun h => h833 h.symm) (by rw [beq_eq_false_iff_ne]; exact fun h => h834 h.symm) (by rw [beq_eq_false_iff_ne]; exact fun h => h835 h.symm) w
set_option maxHeartbeats 1000000 in
theorem raccess_in (op a p c : Int) (s g i k d : Bool) (a0 : 0 ≤ a) (P : Hid (a % 4 = p)) (G : Hid (Num.ft op p = g)) (I : Hid (Num.ins a = i)) (Z : Hid (Num.sz op = c)) (z : (c == 0) = false) (S : decide (16 ≤ op) = s) (K : (op == 18) = k) (D : Hid (Num.dev a = d)) (w : World) :
    Calls Tryz.prog 113 #[.int .i64 op, .int .u32 a] w fun e w' => e = two (Num.ac (!s) s k g i d) (Num.ab (!s) s k g i d) ∧ w' = w := by
  cases g
  · cases s
    all_goals
      go_enter Tryz.func113, Tryz.ntmps113
      go_wp2_with fail
      refine (rsize_as _ _ Z _).mono ?_; rintro e w ⟨rfl, rfl⟩
      go_wp2_with fail
      refine (rfits_as _ _ _ _ a0 P G _).mono ?_; rintro e w ⟨rfl, rfl⟩
      go_wp2_with fail
      go_ret2
      exact ⟨rfl, rfl⟩
  · cases i
    · cases s
      · go_enter Tryz.func113, Tryz.ntmps113
        go_wp2_with fail
        refine (rsize_as _ _ Z _).mono ?_; rintro e w ⟨rfl, rfl⟩
        go_wp2_with fail
        refine (rfits_as _ _ _ _ a0 P G _).mono ?_; rintro e w ⟨rfl, rfl⟩
        go_wp2_with fail
        refine (rinside_as _ _ I _).mono ?_; rintro e w ⟨rfl, rfl⟩
        go_wp2_with fail
        go_ret2
        exact ⟨rfl, rfl⟩
      · cases k
        · go_enter Tryz.func113, Tryz.ntmps113
          go_wp2_with fail
          refine (rsize_as _ _ Z _).mono ?_; rintro e w ⟨rfl, rfl⟩
          go_wp2_with fail
          refine (rfits_as _ _ _ _ a0 P G _).mono ?_; rintro e w ⟨rfl, rfl⟩
          go_wp2_with fail
          refine (rinside_as _ _ I _).mono ?_; rintro e w ⟨rfl, rfl⟩
          go_wp2_with fail
          go_ret2
          exact ⟨rfl, rfl⟩
        · cases d
          all_goals
            go_enter Tryz.func113, Tryz.ntmps113
            go_wp2_with fail
            refine (rsize_as _ _ Z _).mono ?_; rintro e w ⟨rfl, rfl⟩
            go_wp2_with fail
            refine (rfits_as _ _ _ _ a0 P G _).mono ?_; rintro e w ⟨rfl, rfl⟩
            go_wp2_with fail
            refine (rinside_as _ _ I _).mono ?_; rintro e w ⟨rfl, rfl⟩
            go_wp2_with fail
            refine (rdevice_as _ _ D _).mono ?_; rintro e w ⟨rfl, rfl⟩
            go_wp2_with fail
            go_ret2
            exact ⟨rfl, rfl⟩
    · cases s
      all_goals
        go_enter Tryz.func113, Tryz.ntmps113
        go_wp2_with fail
        refine (rsize_as _ _ Z _).mono ?_; rintro e w ⟨rfl, rfl⟩
        go_wp2_with fail
        refine (rfits_as _ _ _ _ a0 P G _).mono ?_; rintro e w ⟨rfl, rfl⟩
        go_wp2_with fail
        refine (rinside_as _ _ I _).mono ?_; rintro e w ⟨rfl, rfl⟩
        go_wp2_with fail
        go_ret2
        exact ⟨rfl, rfl⟩
theorem raccessNo (op a : Int) (Z : Hid (Num.sz op = 0)) (w : World) : Calls Tryz.prog 113 #[.int .i64 op, .int .u32 a] w fun e w' => e = two 0 false ∧ w' = w := by
  go_enter Tryz.func113, Tryz.ntmps113
  go_wp2_with fail
  refine (rsize_as _ _ Z _).mono ?_; rintro e w ⟨rfl, rfl⟩
  go_wp2_with fail
  go_ret2
  exact ⟨rfl, rfl⟩
theorem raccess_as (op a p : Int) (l s g i k d : Bool) (c : Int) (b : Bool) (a0 : 0 ≤ a) (P : Hid (a % 4 = p)) (G : Hid (Num.ft op p = g)) (I : Hid (Num.ins a = i)) (L : Hid (Num.isl op = l)) (S : Hid (Num.iss op = s)) (K : Hid ((op == 18) = k)) (D : Hid (Num.dev a = d))
    (C : Hid (Num.ac l s k g i d = c)) (B : Hid (Num.ab l s k g i d = b)) (w : World) : Calls Tryz.prog 113 #[.int .i64 op, .int .u32 a] w fun e w' => e = two c b ∧ w' = w := by
  obtain rfl : Num.ac l s k g i d = c := C
  obtain rfl : Num.ab l s k g i d = b := B
  obtain rfl : Num.isl op = l := L
  obtain rfl : Num.iss op = s := S
  obtain rfl : (op == 18) = k := K
  by_cases h11 : op = 11
  · subst h11; exact raccess_in 11 a p _ false g i false d a0 P G I rfl rfl rfl rfl D w
  by_cases h14 : op = 14
  · subst h14; exact raccess_in 14 a p _ false g i false d a0 P G I rfl rfl rfl rfl D w
  by_cases h16 : op = 16
  · subst h16; exact raccess_in 16 a p _ true g i false d a0 P G I rfl rfl rfl rfl D w
  by_cases h12 : op = 12
  · subst h12; exact raccess_in 12 a p _ false g i false d a0 P G I rfl rfl rfl rfl D w
  by_cases h15 : op = 15
  · subst h15; exact raccess_in 15 a p _ false g i false d a0 P G I rfl rfl rfl rfl D w
  by_cases h17 : op = 17
  · subst h17; exact raccess_in 17 a p _ true g i false d a0 P G I rfl rfl rfl rfl D w
  by_cases h13 : op = 13
  · subst h13; exact raccess_in 13 a p _ false g i false d a0 P G I rfl rfl rfl rfl D w
  by_cases h18 : op = 18
  · subst h18; exact raccess_in 18 a p _ true g i true d a0 P G I rfl rfl rfl rfl D w
  have e1 : Num.isl op = false := by unfold Num.isl; simp only [h11, h12, h13, h14, h15, if_false]
  have e2 : Num.iss op = false := by unfold Num.iss; simp only [h16, h17, h18, if_false]
  rw [e1, e2]
  exact raccessNo op a (show Num.sz op = 0 by unfold Num.sz; simp only [h11, h14, h16, h12, h15, h17, h13, h18, if_false]) w
end Go.Proofs.YtpkbkbllhpdfiaaGreat.T.Walks
namespace Go.Proofs.YtpkbkbllhpdfiaaGreat.Mod
/-- a machine: where it is, registers, CSRs, memory, what was told, steps, did it halt, its code -/
structure St where
  pc : Int
  r : Nat → Int
  c : Nat → Int
  m : Nat → Int
  t : List Int
  n : Int
  h : Bool
  x : Int
/-- what a step tells -/
structure Rt where
  pc : Int
  v : Int
  d : Int
  s : Bool
  a : Int
  y : Int
  k : Int
def upd (f : Nat → Int) (i : Nat) (v : Int) : Nat → Int := fun j => if j = i then v else f j
theorem upd_same (f : Nat → Int) (i : Nat) (v : Int) : upd f i v i = v := if_pos rfl
theorem upd_other (f : Nat → Int) {i j : Nat} (v : Int) (h : j ≠ i) : upd f i v j = f j := if_neg h
def bare (p : Int) : Rt := ⟨p, 0, 0, false, 0, 0, 0⟩
def St.go (s : St) (q : Int) : St := { s with pc := q }
def St.nx (s : St) : Int := (s.pc + 4) % 4294967296
def St.setC (s : St) (k : Nat) (v : Int) : St := { s with c := upd s.c k v }
def St.setR (s : St) (k : Nat) (v : Int) : St := { s with r := upd s.r k v }
def St.setM (s : St) (k : Nat) (v : Int) : St := { s with m := upd s.m k v }
def St.tell (s : St) (v : Int) : St := { s with t := s.t ++ [v] }
def St.halt (s : St) (v : Int) : St := { s with h := true, x := v }
def St.more (s : St) : St := { s with n := s.n + 1 }
def St.trap (s : St) (cause v : Int) : St := (((s.setC 2 s.pc).setC 3 cause).setC 4 v).go (s.c 0)
def St.put (s : St) (d : Nat) (v : Int) : St := if d = 0 then s else s.setR d v
def Rt.put (q : Rt) (d : Nat) (v : Int) : Rt := if d = 0 then q else { q with d := d, v := v }
/-- a register is written, and one goes on -/
def St.wrt (s : St) (d : Nat) (v : Int) : Rt × St := ((bare s.pc).put d v, (s.go s.nx).put d v)
def St.jmp (s : St) (d : Nat) (to : Int) : Rt × St :=
  if to % 4 = 0 then ((bare s.pc).put d s.nx, (s.go to).put d s.nx) else (bare s.pc, s.trap 0 to)
/-- the cause of an access, and whether there is one -/
def acc (o a : Int) : Int := T.Num.ac (T.Num.isl o) (T.Num.iss o) (o == 18) (T.Num.ft o (a % 4)) (T.Num.ins a) (T.Num.dev a)
def acb (o a : Int) : Bool := T.Num.ab (T.Num.isl o) (T.Num.iss o) (o == 18) (T.Num.ft o (a % 4)) (T.Num.ins a) (T.Num.dev a)
def St.lod (s : St) (o : Int) (d : Nat) (a : Int) : Rt × St :=
  if acb o a = true then (bare s.pc, s.trap (acc o a) a) else s.wrt d (V.Num.ld o (a % 4) (s.m (a / 4).toNat))
/-- where a word goes that is stored at a -/
def St.kp (s : St) (a y k : Int) : St :=
  if a = 268435456 then s.tell y else if a = 268435460 then s.halt y else s.setM (a / 4).toNat (V.Num.mgm (s.m (a / 4).toNat) y k)
def St.sto (s : St) (o a n : Int) : Rt × St :=
  if acb o a = true then (bare s.pc, s.trap (acc o a) a)
  else (⟨s.pc, 0, 0, true, a - a % 4, V.Num.st o (a % 4) n, V.Num.sm o (a % 4)⟩, (s.go (if a = 268435460 then s.pc else s.nx)).kp (a - a % 4) (V.Num.st o (a % 4) n) (V.Num.sm o (a % 4)))
/-- what a Csr op makes of old and x -/
def csv (o old x : Int) : Int := if o = 50 then x else if o = 53 then x else if o = 51 then bits .or .u32 old x else if o = 54 then bits .or .u32 old x else bits .andNot .u32 old x
def csz (k y : Int) : Int := if k = 0 then bits .andNot .u32 y 3 else if k = 2 then bits .andNot .u32 y 3 else y
def St.csr (s : St) (o : Int) (d : Nat) (k : Int) (v x : Int) : Rt × St :=
  if k < 0 then (bare s.pc, s.trap 2 v) else (s.setC k.toNat (csz k (csv o (s.c k.toNat) x))).wrt d (s.c k.toNat)
/-- one instruction, whose word is v -/
def St.doI (s : St) (o : Int) (d a b : Nat) (n v : Int) : Rt × St :=
  if o = 1 then s.wrt d (n % 4294967296)
  else if o = 2 then s.wrt d ((s.pc + n % 4294967296) % 4294967296)
  else if o = 3 then s.jmp d ((s.pc + n % 4294967296) % 4294967296)
  else if o = 4 then s.jmp d (bits .andNot .u32 ((s.r a + n % 4294967296) % 4294967296) 1)
  else if o ≤ 10 then (if U.Num.tk o (s.r a) (s.r b) = true then s.jmp 0 ((s.pc + n % 4294967296) % 4294967296) else (bare s.pc, s.go s.nx))
  else if o ≤ 15 then s.lod o d ((s.r a + n % 4294967296) % 4294967296)
  else if o ≤ 18 then s.sto o ((s.r a + n % 4294967296) % 4294967296) (s.r b)
  else if o ≤ 27 then s.wrt d (U.Num.ad o (s.r a) (n % 4294967296))
  else if o ≤ 45 then s.wrt d (U.Num.ad o (s.r a) (s.r b))
  else if o = 46 then (bare s.pc, s.go s.nx)
  else if o = 47 then (bare s.pc, s.trap 11 0)
  else if o = 48 then (bare s.pc, s.trap 3 0)
  else if o = 49 then (bare s.pc, s.go (s.c 2))
  else s.csr o d (T.Num.ix n) v (if o ≤ 52 then s.r a else (a : Int))
/-- one step of a machine that has not halted -/
def St.stp (s : St) : Rt × St :=
  if T.Num.fb (s.pc % 4 == 0) (T.Num.ins s.pc) = true then (bare s.pc, s.more.trap (T.Num.fc (s.pc % 4 == 0) (T.Num.ins s.pc)) s.pc)
  else if Num.op (s.m (s.pc / 4).toNat) = 0 then (bare s.pc, s.more.trap 2 (s.m (s.pc / 4).toNat))
  else s.more.doI (Num.op (s.m (s.pc / 4).toNat)) (Num.dD (Num.fm (Num.op (s.m (s.pc / 4).toNat))) (s.m (s.pc / 4).toNat)).toNat (Num.dA (Num.fm (Num.op (s.m (s.pc / 4).toNat))) (s.m (s.pc / 4).toNat)).toNat
    (Num.dB (Num.fm (Num.op (s.m (s.pc / 4).toNat))) (s.m (s.pc / 4).toNat)).toNat (Num.dN (Num.fm (Num.op (s.m (s.pc / 4).toNat))) (s.m (s.pc / 4).toNat)) (s.m (s.pc / 4).toNat)
end Go.Proofs.YtpkbkbllhpdfiaaGreat.Mod
namespace Go.Proofs.YtpkbkbllhpdfiaaGreat.U.Walks
open Go.ChangeShapes Go.WideShapes Go.ChangeAt Go.RowKit
theorem ret_int {k : IntKind} {a b : Int} (h : a = b) : Ending.returned (.int k a) = .returned (.int k b) := by rw [h]
theorem ret_bool {a b : Bool} (h : a = b) : Ending.returned (.bool a) = .returned (.bool b) := by rw [h]
theorem shift_as (b s : Int) (H : bits .and .u32 b 31 = s) (w : World) : Calls Tryz.prog 99 #[.int .u32 b] w fun e w' => e = .returned (.int .u32 s) ∧ w' = w := by
  go_enter Tryz.func99, Tryz.ntmps99
  go_wp2
  go_ret
  exact ⟨rfl, rfl⟩
theorem bit_as (c : Bool) (w : World) : Calls Tryz.prog 100 #[.bool c] w fun e w' => e = .returned (.int .u32 (Num.one c)) ∧ w' = w := by
  cases c
  all_goals
    go_enter Tryz.func100, Tryz.ntmps100
    go_wp2
    go_ret
    exact ⟨rfl, rfl⟩
theorem rbit_as (c : Bool) (w : World) : Calls Tryz.prog 118 #[.bool c] w fun e w' => e = .returned (.int .u32 (Num.one c)) ∧ w' = w := by
  cases c
  all_goals
    go_enter Tryz.func118, Tryz.ntmps118
    go_wp2
    go_ret
    exact ⟨rfl, rfl⟩
theorem less_as (a b : Int) (w : World) : Calls Tryz.prog 101 #[.int .u32 a, .int .u32 b] w fun e w' => e = .returned (.bool (decide (wrap32 a < wrap32 b))) ∧ w' = w := by
  go_enter Tryz.func101, Tryz.ntmps101
  go_wp2
  go_ret
  exact ⟨rfl, rfl⟩
theorem high_as (a : Int) (w : World) : Calls Tryz.prog 102 #[.int .i64 a] w fun e w' => e = .returned (.int .u32 (a / 4294967296 % 4294967296)) ∧ w' = w := by
  go_enter Tryz.func102, Tryz.ntmps102
  go_wp2
  go_ret
  exact ⟨rfl, rfl⟩
theorem signed_as (a x : Int) (H : wrap32 a = x) (w : World) : Calls Tryz.prog 103 #[.int .u32 a] w fun e w' => e = .returned (.int .i64 x) ∧ w' = w := by
  subst H
  go_enter Tryz.func103, Tryz.ntmps103
  go_wp2
  go_ret
  exact ⟨ret_int (Num.w64_w32 a), rfl⟩
theorem div_zero (a : Int) (w : World) : Calls Tryz.prog 104 #[.int .u32 a, .int .u32 0] w fun e w' => e = .returned (.int .u32 4294967295) ∧ w' = w := by
  go_enter Tryz.func104, Tryz.ntmps104
  go_wp2_with fail
  go_ret
  exact ⟨rfl, rfl⟩
theorem rem_zero (a : Int) (w : World) : Calls Tryz.prog 106 #[.int .u32 a, .int .u32 0] w fun e w' => e = .returned (.int .u32 a) ∧ w' = w := by
  go_enter Tryz.func106, Tryz.ntmps106
  go_wp2_with fail
  go_ret
  exact ⟨rfl, rfl⟩
theorem div_non (a b x y : Int) (h : (b == 0) = false) (X : Hid (wrap32 a = x)) (Y : Hid (wrap32 b = y)) (x0 : -2147483648 ≤ x) (x1 : x ≤ 2147483647) (hy : ¬ y = 0) (w : World) :
    Calls Tryz.prog 104 #[.int .u32 a, .int .u32 b] w fun e w' => e = .returned (.int .u32 (x.tdiv y % 4294967296)) ∧ w' = w := by
  go_enter Tryz.func104, Tryz.ntmps104
  go_wp2_with fail
  refine (signed_as _ _ X.out _).mono ?_; rintro e w' ⟨rfl, rfl⟩
  go_wp2_with fail
  refine (signed_as _ _ Y.out _).mono ?_; rintro e w' ⟨rfl, rfl⟩
  go_wp2_with fail
  go_ret
  refine ⟨ret_int ?_, rfl⟩
  have := Num.tdiv_in x y x0 x1
  rw [Num.w64_of (by omega)]
theorem rem_non (a b x y : Int) (h : (b == 0) = false) (X : Hid (wrap32 a = x)) (Y : Hid (wrap32 b = y)) (hy : ¬ y = 0) (w : World) :
    Calls Tryz.prog 106 #[.int .u32 a, .int .u32 b] w fun e w' => e = .returned (.int .u32 (x.tmod y % 4294967296)) ∧ w' = w := by
  go_enter Tryz.func106, Tryz.ntmps106
  go_wp2_with fail
  refine (signed_as _ _ X.out _).mono ?_; rintro e w' ⟨rfl, rfl⟩
  go_wp2_with fail
  refine (signed_as _ _ Y.out _).mono ?_; rintro e w' ⟨rfl, rfl⟩
  go_wp2_with fail
  go_ret
  exact ⟨rfl, rfl⟩
theorem div_as (a b : Int) (b0 : 0 ≤ b) (b1 : b ≤ 4294967295) (w : World) :
    Calls Tryz.prog 104 #[.int .u32 a, .int .u32 b] w fun e w' => e = .returned (.int .u32 (Num.dv a b)) ∧ w' = w := by
  by_cases h : b = 0
  · subst h; exact div_zero a w
  · rw [Num.dv, if_neg h]
    exact div_non a b _ _ (by simp [h]) rfl rfl (Num.w32_in a).1 (Num.w32_in a).2 (Num.w32_zero b b0 b1 h) w
theorem rem_as (a b : Int) (b0 : 0 ≤ b) (b1 : b ≤ 4294967295) (w : World) :
    Calls Tryz.prog 106 #[.int .u32 a, .int .u32 b] w fun e w' => e = .returned (.int .u32 (Num.rm a b)) ∧ w' = w := by
  by_cases h : b = 0
  · subst h; exact rem_zero a w
  · rw [Num.rm, if_neg h]
    exact rem_non a b _ _ (by simp [h]) rfl rfl (Num.w32_zero b b0 b1 h) w
theorem divu_as (a b : Int) (a0 : 0 ≤ a) (a1 : a ≤ 4294967295) (b0 : 0 ≤ b) (w : World) :
    Calls Tryz.prog 105 #[.int .u32 a, .int .u32 b] w fun e w' => e = .returned (.int .u32 (Num.du a b)) ∧ w' = w := by
  by_cases h : b = 0
  · subst h
    go_enter Tryz.func105, Tryz.ntmps105
    go_wp2_with fail
    go_ret
    exact ⟨rfl, rfl⟩
  · rw [Num.du, if_neg h]
    have i := Num.udiv_in a b a0 a1 b0
    have e : a.tdiv b % 4294967296 = a / b := by rw [Int.tdiv_eq_ediv_of_nonneg a0]; omega
    have h' : (b == 0) = false := by simp [h]
    clear i
    go_enter Tryz.func105, Tryz.ntmps105
    go_wp2_with fail
    all_goals
      go_ret
      first
        | exact ⟨rfl, rfl⟩
        | exact ⟨ret_int e, rfl⟩
theorem remu_as (a b : Int) (a0 : 0 ≤ a) (b0 : 0 ≤ b) (w : World) :
    Calls Tryz.prog 107 #[.int .u32 a, .int .u32 b] w fun e w' => e = .returned (.int .u32 (Num.ru a b)) ∧ w' = w := by
  by_cases h : b = 0
  · subst h
    go_enter Tryz.func107, Tryz.ntmps107
    go_wp2_with fail
    go_ret
    exact ⟨rfl, rfl⟩
  · rw [Num.ru, if_neg h]
    have e : a.tmod b = a % b := Int.tmod_eq_emod_of_nonneg a0
    have h' : (b == 0) = false := by simp [h]
    go_enter Tryz.func107, Tryz.ntmps107
    go_wp2_with fail
    all_goals
      go_ret
      first
        | exact ⟨rfl, rfl⟩
        | exact ⟨ret_int e, rfl⟩
end Go.Proofs.YtpkbkbllhpdfiaaGreat.U.Walks
namespace Go.Proofs.YtpkbkbllhpdfiaaGreat.U.Walks
open Go.ChangeShapes Go.WideShapes Go.ChangeAt Go.RowKit
set_option linter.unusedVariables false
set_option maxHeartbeats 2000000 in
theorem do28 (a b : Int)  (w : World) :
    Calls Tryz.prog 55 #[.int .i64 28, .int .u32 a, .int .u32 b] w fun e w' => e = .returned (.int .u32 ((a + b) % 4294967296)) ∧ w' = w := by
  go_enter Tryz.func55, Tryz.ntmps55
  go_wp2_with fail
  go_ret
  exact ⟨rfl, rfl⟩
set_option maxHeartbeats 2000000 in
theorem do19 (a b : Int)  (w : World) :
    Calls Tryz.prog 55 #[.int .i64 19, .int .u32 a, .int .u32 b] w fun e w' => e = .returned (.int .u32 ((a + b) % 4294967296)) ∧ w' = w := by
  go_enter Tryz.func55, Tryz.ntmps55
  go_wp2_with fail
  go_ret
  exact ⟨rfl, rfl⟩
set_option maxHeartbeats 2000000 in
theorem do29 (a b : Int)  (w : World) :
    Calls Tryz.prog 55 #[.int .i64 29, .int .u32 a, .int .u32 b] w fun e w' => e = .returned (.int .u32 ((a - b) % 4294967296)) ∧ w' = w := by
  go_enter Tryz.func55, Tryz.ntmps55
  go_wp2_with fail
  go_ret
  exact ⟨rfl, rfl⟩
set_option maxHeartbeats 2000000 in
theorem do30 (a b : Int) (s : Int) (s0 : 0 ≤ s) (s1 : s ≤ 31) (S : bits .and .u32 b 31 = s) (w : World) :
    Calls Tryz.prog 55 #[.int .i64 30, .int .u32 a, .int .u32 b] w fun e w' => e = .returned (.int .u32 (a * 2 ^ s.toNat % 4294967296)) ∧ w' = w := by
  go_enter Tryz.func55, Tryz.ntmps55
  go_wp2_with fail
  refine (shift_as _ _ S _).mono ?_; rintro e w' ⟨rfl, rfl⟩
  go_wp2_with fail
  go_ret
  exact ⟨rfl, rfl⟩
set_option maxHeartbeats 2000000 in
theorem do25 (a b : Int) (s : Int) (s0 : 0 ≤ s) (s1 : s ≤ 31) (S : bits .and .u32 b 31 = s) (w : World) :
    Calls Tryz.prog 55 #[.int .i64 25, .int .u32 a, .int .u32 b] w fun e w' => e = .returned (.int .u32 (a * 2 ^ s.toNat % 4294967296)) ∧ w' = w := by
  go_enter Tryz.func55, Tryz.ntmps55
  go_wp2_with fail
  refine (shift_as _ _ S _).mono ?_; rintro e w' ⟨rfl, rfl⟩
  go_wp2_with fail
  go_ret
  exact ⟨rfl, rfl⟩
set_option maxHeartbeats 2000000 in
theorem do31 (a b : Int)  (w : World) :
    Calls Tryz.prog 55 #[.int .i64 31, .int .u32 a, .int .u32 b] w fun e w' => e = .returned (.int .u32 (Num.one (decide (wrap32 a < wrap32 b)))) ∧ w' = w := by
  go_enter Tryz.func55, Tryz.ntmps55
  go_wp2_with fail
  refine (less_as _ _ _).mono ?_; rintro e w' ⟨rfl, rfl⟩
  go_wp2_with fail
  refine (bit_as _ _).mono ?_; rintro e w' ⟨rfl, rfl⟩
  go_wp2_with fail
  go_ret
  exact ⟨rfl, rfl⟩
set_option maxHeartbeats 2000000 in
theorem do20 (a b : Int)  (w : World) :
    Calls Tryz.prog 55 #[.int .i64 20, .int .u32 a, .int .u32 b] w fun e w' => e = .returned (.int .u32 (Num.one (decide (wrap32 a < wrap32 b)))) ∧ w' = w := by
  go_enter Tryz.func55, Tryz.ntmps55
  go_wp2_with fail
  refine (less_as _ _ _).mono ?_; rintro e w' ⟨rfl, rfl⟩
  go_wp2_with fail
  refine (bit_as _ _).mono ?_; rintro e w' ⟨rfl, rfl⟩
  go_wp2_with fail
  go_ret
  exact ⟨rfl, rfl⟩
set_option maxHeartbeats 2000000 in
theorem do32 (a b : Int)  (w : World) :
    Calls Tryz.prog 55 #[.int .i64 32, .int .u32 a, .int .u32 b] w fun e w' => e = .returned (.int .u32 (Num.one (decide (a < b)))) ∧ w' = w := by
  go_enter Tryz.func55, Tryz.ntmps55
  go_wp2_with fail
  refine (bit_as _ _).mono ?_; rintro e w' ⟨rfl, rfl⟩
  go_wp2_with fail
  go_ret
  exact ⟨rfl, rfl⟩
set_option maxHeartbeats 2000000 in
theorem do21 (a b : Int)  (w : World) :
    Calls Tryz.prog 55 #[.int .i64 21, .int .u32 a, .int .u32 b] w fun e w' => e = .returned (.int .u32 (Num.one (decide (a < b)))) ∧ w' = w := by
  go_enter Tryz.func55, Tryz.ntmps55
  go_wp2_with fail
  refine (bit_as _ _).mono ?_; rintro e w' ⟨rfl, rfl⟩
  go_wp2_with fail
  go_ret
  exact ⟨rfl, rfl⟩
set_option maxHeartbeats 2000000 in
theorem do33 (a b : Int)  (w : World) :
    Calls Tryz.prog 55 #[.int .i64 33, .int .u32 a, .int .u32 b] w fun e w' => e = .returned (.int .u32 (bits .xor .u32 a b)) ∧ w' = w := by
  go_enter Tryz.func55, Tryz.ntmps55
  go_wp2_with fail
  go_ret
  exact ⟨rfl, rfl⟩
set_option maxHeartbeats 2000000 in
theorem do22 (a b : Int)  (w : World) :
    Calls Tryz.prog 55 #[.int .i64 22, .int .u32 a, .int .u32 b] w fun e w' => e = .returned (.int .u32 (bits .xor .u32 a b)) ∧ w' = w := by
  go_enter Tryz.func55, Tryz.ntmps55
  go_wp2_with fail
  go_ret
  exact ⟨rfl, rfl⟩
set_option maxHeartbeats 2000000 in
theorem do34 (a b : Int) (s : Int) (s0 : 0 ≤ s) (s1 : s ≤ 31) (S : bits .and .u32 b 31 = s) (w : World) :
    Calls Tryz.prog 55 #[.int .i64 34, .int .u32 a, .int .u32 b] w fun e w' => e = .returned (.int .u32 (a / 2 ^ s.toNat)) ∧ w' = w := by
  go_enter Tryz.func55, Tryz.ntmps55
  go_wp2_with fail
  refine (shift_as _ _ S _).mono ?_; rintro e w' ⟨rfl, rfl⟩
  go_wp2_with fail
  go_ret
  exact ⟨rfl, rfl⟩
set_option maxHeartbeats 2000000 in
theorem do26 (a b : Int) (s : Int) (s0 : 0 ≤ s) (s1 : s ≤ 31) (S : bits .and .u32 b 31 = s) (w : World) :
    Calls Tryz.prog 55 #[.int .i64 26, .int .u32 a, .int .u32 b] w fun e w' => e = .returned (.int .u32 (a / 2 ^ s.toNat)) ∧ w' = w := by
  go_enter Tryz.func55, Tryz.ntmps55
  go_wp2_with fail
  refine (shift_as _ _ S _).mono ?_; rintro e w' ⟨rfl, rfl⟩
  go_wp2_with fail
  go_ret
  exact ⟨rfl, rfl⟩
set_option maxHeartbeats 2000000 in
theorem do35 (a b : Int) (s : Int) (s0 : 0 ≤ s) (s1 : s ≤ 31) (S : bits .and .u32 b 31 = s) (w : World) :
    Calls Tryz.prog 55 #[.int .i64 35, .int .u32 a, .int .u32 b] w fun e w' => e = .returned (.int .u32 (wrap32 a / 2 ^ s.toNat % 4294967296)) ∧ w' = w := by
  go_enter Tryz.func55, Tryz.ntmps55
  go_wp2_with fail
  refine (shift_as _ _ S _).mono ?_; rintro e w' ⟨rfl, rfl⟩
  go_wp2_with fail
  go_ret
  exact ⟨rfl, rfl⟩
set_option maxHeartbeats 2000000 in
theorem do27 (a b : Int) (s : Int) (s0 : 0 ≤ s) (s1 : s ≤ 31) (S : bits .and .u32 b 31 = s) (w : World) :
    Calls Tryz.prog 55 #[.int .i64 27, .int .u32 a, .int .u32 b] w fun e w' => e = .returned (.int .u32 (wrap32 a / 2 ^ s.toNat % 4294967296)) ∧ w' = w := by
  go_enter Tryz.func55, Tryz.ntmps55
  go_wp2_with fail
  refine (shift_as _ _ S _).mono ?_; rintro e w' ⟨rfl, rfl⟩
  go_wp2_with fail
  go_ret
  exact ⟨rfl, rfl⟩
set_option maxHeartbeats 2000000 in
theorem do36 (a b : Int)  (w : World) :
    Calls Tryz.prog 55 #[.int .i64 36, .int .u32 a, .int .u32 b] w fun e w' => e = .returned (.int .u32 (bits .or .u32 a b)) ∧ w' = w := by
  go_enter Tryz.func55, Tryz.ntmps55
  go_wp2_with fail
  go_ret
  exact ⟨rfl, rfl⟩
set_option maxHeartbeats 2000000 in
theorem do23 (a b : Int)  (w : World) :
    Calls Tryz.prog 55 #[.int .i64 23, .int .u32 a, .int .u32 b] w fun e w' => e = .returned (.int .u32 (bits .or .u32 a b)) ∧ w' = w := by
  go_enter Tryz.func55, Tryz.ntmps55
  go_wp2_with fail
  go_ret
  exact ⟨rfl, rfl⟩
set_option maxHeartbeats 2000000 in
theorem do37 (a b : Int)  (w : World) :
    Calls Tryz.prog 55 #[.int .i64 37, .int .u32 a, .int .u32 b] w fun e w' => e = .returned (.int .u32 (bits .and .u32 a b)) ∧ w' = w := by
  go_enter Tryz.func55, Tryz.ntmps55
  go_wp2_with fail
  go_ret
  exact ⟨rfl, rfl⟩
set_option maxHeartbeats 2000000 in
theorem do24 (a b : Int)  (w : World) :
    Calls Tryz.prog 55 #[.int .i64 24, .int .u32 a, .int .u32 b] w fun e w' => e = .returned (.int .u32 (bits .and .u32 a b)) ∧ w' = w := by
  go_enter Tryz.func55, Tryz.ntmps55
  go_wp2_with fail
  go_ret
  exact ⟨rfl, rfl⟩
set_option maxHeartbeats 2000000 in
theorem do38 (a b : Int)  (w : World) :
    Calls Tryz.prog 55 #[.int .i64 38, .int .u32 a, .int .u32 b] w fun e w' => e = .returned (.int .u32 (a * b % 4294967296)) ∧ w' = w := by
  go_enter Tryz.func55, Tryz.ntmps55
  go_wp2_with fail
  go_ret
  exact ⟨rfl, rfl⟩
set_option maxHeartbeats 2000000 in
theorem do41 (a b : Int) (a0 : 0 ≤ a) (a1 : a ≤ 4294967295) (b0 : 0 ≤ b) (b1 : b ≤ 4294967295) (p : Int) (P : IntKind.u64.wrap (a * b) = p) (w : World) :
    Calls Tryz.prog 55 #[.int .i64 41, .int .u32 a, .int .u32 b] w fun e w' => e = .returned (.int .u32 (p / 4294967296 % 4294967296)) ∧ w' = w := by
  go_enter Tryz.func55, Tryz.ntmps55
  go_wp2_with fail
  go_ret
  exact ⟨rfl, rfl⟩
set_option maxHeartbeats 2000000 in
theorem do39 (a b : Int) (x y p : Int) (X : Hid (wrap32 a = x)) (Y : Hid (wrap32 b = y)) (P : wrap64 (x * y) = p) (w : World) :
    Calls Tryz.prog 55 #[.int .i64 39, .int .u32 a, .int .u32 b] w fun e w' => e = .returned (.int .u32 (p / 4294967296 % 4294967296)) ∧ w' = w := by
  go_enter Tryz.func55, Tryz.ntmps55
  go_wp2_with fail
  refine (signed_as _ _ X.out _).mono ?_; rintro e w' ⟨rfl, rfl⟩
  go_wp2_with fail
  refine (signed_as _ _ Y.out _).mono ?_; rintro e w' ⟨rfl, rfl⟩
  go_wp2_with fail
  refine (high_as _ _).mono ?_; rintro e w' ⟨rfl, rfl⟩
  go_wp2_with fail
  go_ret
  exact ⟨rfl, rfl⟩
set_option maxHeartbeats 2000000 in
theorem do40 (a b : Int) (x p : Int) (X : Hid (wrap32 a = x)) (P : wrap64 (x * b) = p) (b0 : 0 ≤ b) (b1 : b ≤ 4294967295) (w : World) :
    Calls Tryz.prog 55 #[.int .i64 40, .int .u32 a, .int .u32 b] w fun e w' => e = .returned (.int .u32 (p / 4294967296 % 4294967296)) ∧ w' = w := by
  go_enter Tryz.func55, Tryz.ntmps55
  go_wp2_with fail
  refine (signed_as _ _ X.out _).mono ?_; rintro e w' ⟨rfl, rfl⟩
  go_wp2_with fail
  refine (high_as _ _).mono ?_; rintro e w' ⟨rfl, rfl⟩
  go_wp2_with fail
  go_ret
  exact ⟨rfl, rfl⟩
set_option maxHeartbeats 2000000 in
theorem do42 (a b : Int) (b0 : 0 ≤ b) (b1 : b ≤ 4294967295) (w : World) :
    Calls Tryz.prog 55 #[.int .i64 42, .int .u32 a, .int .u32 b] w fun e w' => e = .returned (.int .u32 (Num.dv a b)) ∧ w' = w := by
  go_enter Tryz.func55, Tryz.ntmps55
  go_wp2_with fail
  refine (div_as _ _ b0 b1 _).mono ?_; rintro e w' ⟨rfl, rfl⟩
  go_wp2_with fail
  go_ret
  exact ⟨rfl, rfl⟩
set_option maxHeartbeats 2000000 in
theorem do43 (a b : Int) (a0 : 0 ≤ a) (a1 : a ≤ 4294967295) (b0 : 0 ≤ b) (b1 : b ≤ 4294967295) (w : World) :
    Calls Tryz.prog 55 #[.int .i64 43, .int .u32 a, .int .u32 b] w fun e w' => e = .returned (.int .u32 (Num.du a b)) ∧ w' = w := by
  go_enter Tryz.func55, Tryz.ntmps55
  go_wp2_with fail
  refine (divu_as _ _ a0 a1 b0 _).mono ?_; rintro e w' ⟨rfl, rfl⟩
  go_wp2_with fail
  go_ret
  exact ⟨rfl, rfl⟩
set_option maxHeartbeats 2000000 in
theorem do44 (a b : Int) (b0 : 0 ≤ b) (b1 : b ≤ 4294967295) (w : World) :
    Calls Tryz.prog 55 #[.int .i64 44, .int .u32 a, .int .u32 b] w fun e w' => e = .returned (.int .u32 (Num.rm a b)) ∧ w' = w := by
  go_enter Tryz.func55, Tryz.ntmps55
  go_wp2_with fail
  refine (rem_as _ _ b0 b1 _).mono ?_; rintro e w' ⟨rfl, rfl⟩
  go_wp2_with fail
  go_ret
  exact ⟨rfl, rfl⟩
set_option maxHeartbeats 2000000 in
theorem do45 (a b : Int) (a0 : 0 ≤ a) (a1 : a ≤ 4294967295) (b0 : 0 ≤ b) (b1 : b ≤ 4294967295) (w : World) :
    Calls Tryz.prog 55 #[.int .i64 45, .int .u32 a, .int .u32 b] w fun e w' => e = .returned (.int .u32 (Num.ru a b)) ∧ w' = w := by
  go_enter Tryz.func55, Tryz.ntmps55
  go_wp2_with fail
  refine (remu_as _ _ a0 b0 _).mono ?_; rintro e w' ⟨rfl, rfl⟩
  go_wp2_with fail
  go_ret
  exact ⟨rfl, rfl⟩
set_option maxHeartbeats 2000000 in
theorem doNo (op a b : Int) (h28 : (op == 28) = false) (h19 : (op == 19) = false) (h29 : (op == 29) = false) (h30 : (op == 30) = false) (h25 : (op == 25) = false) (h31 : (op == 31) = false) (h20 : (op == 20) = false) (h32 : (op == 32) = false) (h21 : (op == 21) = false) (h33 : (op == 33) = false) (h22 : (op == 22) = false) (h34 : (op == 34) = false) (h26 : (op == 26) = false) (h35 : (op == 35) = false) (h27 : (op == 27) = false) (h36 : (op == 36) = false) (h23 : (op == 23) = false) (h37 : (op == 37) = false) (h24 : (op == 24) = false) (h38 : (op == 38) = false) (h39 : (op == 39) = false) (h40 : (op == 40) = false) (h41 : (op == 41) = false) (h42 : (op == 42) = false) (h43 : (op == 43) = false) (h44 : (op == 44) = false) (h45 : (op == 45) = false) (w : World) :
    Calls Tryz.prog 55 #[.int .i64 op, .int .u32 a, .int .u32 b] w fun e w' => e = .returned (.int .u32 0) ∧ w' = w := by
  go_enter Tryz.func55, Tryz.ntmps55
  go_wp2_with fail
  go_ret
  exact ⟨rfl, rfl⟩
end Go.Proofs.YtpkbkbllhpdfiaaGreat.U.Walks
namespace Go.Proofs.YtpkbkbllhpdfiaaGreat.U.Walks
open Go.ChangeShapes Go.WideShapes Go.ChangeAt Go.RowKit
set_option linter.unusedVariables false
set_option maxHeartbeats 2000000 in
theorem slow38 (a b : Int)  (w : World) :
    Calls Tryz.prog 119 #[.int .i64 38, .int .u32 a, .int .u32 b] w fun e w' => e = .returned (.int .u32 (a * b % 4294967296)) ∧ w' = w := by
  go_enter Tryz.func119, Tryz.ntmps119
  go_wp2_with fail
  go_ret
  exact ⟨rfl, rfl⟩
set_option maxHeartbeats 2000000 in
theorem slow39 (a b : Int) (x y : Int) (X : wrap64 (wrap32 a) = x) (Y : wrap64 (wrap32 b) = y) (p : Int) (P : wrap64 (x * y) = p) (w : World) :
    Calls Tryz.prog 119 #[.int .i64 39, .int .u32 a, .int .u32 b] w fun e w' => e = .returned (.int .u32 (p / 4294967296 % 4294967296)) ∧ w' = w := by
  go_enter Tryz.func119, Tryz.ntmps119
  go_wp2_with fail
  go_ret
  exact ⟨rfl, rfl⟩
set_option maxHeartbeats 2000000 in
theorem slow40 (a b : Int) (x y : Int) (X : wrap64 (wrap32 a) = x) (Y : wrap64 (wrap32 b) = y) (p : Int) (P : wrap64 (x * b) = p) (b0 : 0 ≤ b) (b1 : b ≤ 4294967295) (w : World) :
    Calls Tryz.prog 119 #[.int .i64 40, .int .u32 a, .int .u32 b] w fun e w' => e = .returned (.int .u32 (p / 4294967296 % 4294967296)) ∧ w' = w := by
  go_enter Tryz.func119, Tryz.ntmps119
  go_wp2_with fail
  go_ret
  exact ⟨rfl, rfl⟩
set_option maxHeartbeats 2000000 in
theorem slow41 (a b : Int) (a0 : 0 ≤ a) (a1 : a ≤ 4294967295) (b0 : 0 ≤ b) (b1 : b ≤ 4294967295) (p : Int) (P : IntKind.u64.wrap (a * b) = p) (w : World) :
    Calls Tryz.prog 119 #[.int .i64 41, .int .u32 a, .int .u32 b] w fun e w' => e = .returned (.int .u32 (p / 4294967296 % 4294967296)) ∧ w' = w := by
  go_enter Tryz.func119, Tryz.ntmps119
  go_wp2_with fail
  go_ret
  exact ⟨rfl, rfl⟩
set_option maxHeartbeats 2000000 in
theorem slow42 (a b : Int) (x y : Int) (X : wrap64 (wrap32 a) = x) (Y : wrap64 (wrap32 b) = y) (q : Int) (Q : wrap64 (x.tdiv y) = q) (h : (b == 0) = false) (hy : ¬ y = 0) (w : World) :
    Calls Tryz.prog 119 #[.int .i64 42, .int .u32 a, .int .u32 b] w fun e w' => e = .returned (.int .u32 (q % 4294967296)) ∧ w' = w := by
  go_enter Tryz.func119, Tryz.ntmps119
  go_wp2_with fail
  go_ret
  exact ⟨rfl, rfl⟩
set_option maxHeartbeats 2000000 in
theorem slow43 (a b : Int) (a0 : 0 ≤ a) (a1 : a ≤ 4294967295) (b0 : 0 ≤ b) (b1 : b ≤ 4294967295) (h : (b == 0) = false) (h' : ¬ b = 0) (w : World) :
    Calls Tryz.prog 119 #[.int .i64 43, .int .u32 a, .int .u32 b] w fun e w' => e = .returned (.int .u32 (a / b)) ∧ w' = w := by
  go_enter Tryz.func119, Tryz.ntmps119
  go_wp2_with fail
  go_ret
  exact ⟨rfl, rfl⟩
set_option maxHeartbeats 2000000 in
theorem slow44 (a b : Int) (x y : Int) (X : wrap64 (wrap32 a) = x) (Y : wrap64 (wrap32 b) = y) (h : (b == 0) = false) (hy : ¬ y = 0) (w : World) :
    Calls Tryz.prog 119 #[.int .i64 44, .int .u32 a, .int .u32 b] w fun e w' => e = .returned (.int .u32 (x.tmod y % 4294967296)) ∧ w' = w := by
  go_enter Tryz.func119, Tryz.ntmps119
  go_wp2_with fail
  go_ret
  exact ⟨rfl, rfl⟩
set_option maxHeartbeats 2000000 in
theorem slow45 (a b : Int) (a0 : 0 ≤ a) (a1 : a ≤ 4294967295) (b0 : 0 ≤ b) (b1 : b ≤ 4294967295) (h : (b == 0) = false) (h' : ¬ b = 0) (w : World) :
    Calls Tryz.prog 119 #[.int .i64 45, .int .u32 a, .int .u32 b] w fun e w' => e = .returned (.int .u32 (a % b)) ∧ w' = w := by
  go_enter Tryz.func119, Tryz.ntmps119
  go_wp2_with fail
  go_ret
  exact ⟨rfl, rfl⟩
set_option maxHeartbeats 2000000 in
theorem slow42z (a : Int)  (w : World) :
    Calls Tryz.prog 119 #[.int .i64 42, .int .u32 a, .int .u32 0] w fun e w' => e = .returned (.int .u32 (4294967295)) ∧ w' = w := by
  go_enter Tryz.func119, Tryz.ntmps119
  go_wp2_with fail
  go_ret
  exact ⟨rfl, rfl⟩
set_option maxHeartbeats 2000000 in
theorem slow43z (a : Int)  (w : World) :
    Calls Tryz.prog 119 #[.int .i64 43, .int .u32 a, .int .u32 0] w fun e w' => e = .returned (.int .u32 (4294967295)) ∧ w' = w := by
  go_enter Tryz.func119, Tryz.ntmps119
  go_wp2_with fail
  go_ret
  exact ⟨rfl, rfl⟩
set_option maxHeartbeats 2000000 in
theorem slow44z (a : Int)  (w : World) :
    Calls Tryz.prog 119 #[.int .i64 44, .int .u32 a, .int .u32 0] w fun e w' => e = .returned (.int .u32 (a)) ∧ w' = w := by
  go_enter Tryz.func119, Tryz.ntmps119
  go_wp2_with fail
  go_ret
  exact ⟨rfl, rfl⟩
set_option maxHeartbeats 2000000 in
theorem slow45z (a : Int)  (w : World) :
    Calls Tryz.prog 119 #[.int .i64 45, .int .u32 a, .int .u32 0] w fun e w' => e = .returned (.int .u32 (a)) ∧ w' = w := by
  go_enter Tryz.func119, Tryz.ntmps119
  go_wp2_with fail
  go_ret
  exact ⟨rfl, rfl⟩
set_option maxHeartbeats 2000000 in
theorem slowNo (op a b : Int) (h38 : (op == 38) = false) (h39 : (op == 39) = false) (h40 : (op == 40) = false) (h41 : (op == 41) = false) (h42 : (op == 42) = false) (h43 : (op == 43) = false) (h44 : (op == 44) = false) (h45 : (op == 45) = false) (w : World) :
    Calls Tryz.prog 119 #[.int .i64 op, .int .u32 a, .int .u32 b] w fun e w' => e = .returned (.int .u32 0) ∧ w' = w := by
  go_enter Tryz.func119, Tryz.ntmps119
  go_wp2_with fail
  go_ret
  exact ⟨rfl, rfl⟩
set_option maxHeartbeats 2000000 in
theorem rdo28 (a b : Int)  (w : World) :
    Calls Tryz.prog 74 #[.int .i64 28, .int .u32 a, .int .u32 b] w fun e w' => e = .returned (.int .u32 ((a + b) % 4294967296)) ∧ w' = w := by
  go_enter Tryz.func74, Tryz.ntmps74
  go_wp2_with fail
  go_ret
  exact ⟨rfl, rfl⟩
set_option maxHeartbeats 2000000 in
theorem rdo19 (a b : Int)  (w : World) :
    Calls Tryz.prog 74 #[.int .i64 19, .int .u32 a, .int .u32 b] w fun e w' => e = .returned (.int .u32 ((a + b) % 4294967296)) ∧ w' = w := by
  go_enter Tryz.func74, Tryz.ntmps74
  go_wp2_with fail
  go_ret
  exact ⟨rfl, rfl⟩
set_option maxHeartbeats 2000000 in
theorem rdo29 (a b : Int)  (w : World) :
    Calls Tryz.prog 74 #[.int .i64 29, .int .u32 a, .int .u32 b] w fun e w' => e = .returned (.int .u32 ((a - b) % 4294967296)) ∧ w' = w := by
  go_enter Tryz.func74, Tryz.ntmps74
  go_wp2_with fail
  go_ret
  exact ⟨rfl, rfl⟩
set_option maxHeartbeats 2000000 in
theorem rdo30 (a b : Int) (s : Int) (s0 : 0 ≤ s) (s1 : s ≤ 31) (S : bits .and .u32 b 31 = s) (w : World) :
    Calls Tryz.prog 74 #[.int .i64 30, .int .u32 a, .int .u32 b] w fun e w' => e = .returned (.int .u32 (a * 2 ^ s.toNat % 4294967296)) ∧ w' = w := by
  go_enter Tryz.func74, Tryz.ntmps74
  go_wp2_with fail
  go_ret
  exact ⟨rfl, rfl⟩
set_option maxHeartbeats 2000000 in
theorem rdo25 (a b : Int) (s : Int) (s0 : 0 ≤ s) (s1 : s ≤ 31) (S : bits .and .u32 b 31 = s) (w : World) :
    Calls Tryz.prog 74 #[.int .i64 25, .int .u32 a, .int .u32 b] w fun e w' => e = .returned (.int .u32 (a * 2 ^ s.toNat % 4294967296)) ∧ w' = w := by
  go_enter Tryz.func74, Tryz.ntmps74
  go_wp2_with fail
  go_ret
  exact ⟨rfl, rfl⟩
set_option maxHeartbeats 2000000 in
theorem rdo31 (a b : Int)  (w : World) :
    Calls Tryz.prog 74 #[.int .i64 31, .int .u32 a, .int .u32 b] w fun e w' => e = .returned (.int .u32 (Num.one (decide (wrap32 a < wrap32 b)))) ∧ w' = w := by
  go_enter Tryz.func74, Tryz.ntmps74
  go_wp2_with fail
  refine (rbit_as _ _).mono ?_; rintro e w' ⟨rfl, rfl⟩
  go_wp2_with fail
  go_ret
  exact ⟨rfl, rfl⟩
set_option maxHeartbeats 2000000 in
theorem rdo20 (a b : Int)  (w : World) :
    Calls Tryz.prog 74 #[.int .i64 20, .int .u32 a, .int .u32 b] w fun e w' => e = .returned (.int .u32 (Num.one (decide (wrap32 a < wrap32 b)))) ∧ w' = w := by
  go_enter Tryz.func74, Tryz.ntmps74
  go_wp2_with fail
  refine (rbit_as _ _).mono ?_; rintro e w' ⟨rfl, rfl⟩
  go_wp2_with fail
  go_ret
  exact ⟨rfl, rfl⟩
set_option maxHeartbeats 2000000 in
theorem rdo32 (a b : Int)  (w : World) :
    Calls Tryz.prog 74 #[.int .i64 32, .int .u32 a, .int .u32 b] w fun e w' => e = .returned (.int .u32 (Num.one (decide (a < b)))) ∧ w' = w := by
  go_enter Tryz.func74, Tryz.ntmps74
  go_wp2_with fail
  refine (rbit_as _ _).mono ?_; rintro e w' ⟨rfl, rfl⟩
  go_wp2_with fail
  go_ret
  exact ⟨rfl, rfl⟩
set_option maxHeartbeats 2000000 in
theorem rdo21 (a b : Int)  (w : World) :
    Calls Tryz.prog 74 #[.int .i64 21, .int .u32 a, .int .u32 b] w fun e w' => e = .returned (.int .u32 (Num.one (decide (a < b)))) ∧ w' = w := by
  go_enter Tryz.func74, Tryz.ntmps74
  go_wp2_with fail
  refine (rbit_as _ _).mono ?_; rintro e w' ⟨rfl, rfl⟩
  go_wp2_with fail
  go_ret
  exact ⟨rfl, rfl⟩
set_option maxHeartbeats 2000000 in
theorem rdo33 (a b : Int)  (w : World) :
    Calls Tryz.prog 74 #[.int .i64 33, .int .u32 a, .int .u32 b] w fun e w' => e = .returned (.int .u32 (bits .xor .u32 a b)) ∧ w' = w := by
  go_enter Tryz.func74, Tryz.ntmps74
  go_wp2_with fail
  go_ret
  exact ⟨rfl, rfl⟩
set_option maxHeartbeats 2000000 in
theorem rdo22 (a b : Int)  (w : World) :
    Calls Tryz.prog 74 #[.int .i64 22, .int .u32 a, .int .u32 b] w fun e w' => e = .returned (.int .u32 (bits .xor .u32 a b)) ∧ w' = w := by
  go_enter Tryz.func74, Tryz.ntmps74
  go_wp2_with fail
  go_ret
  exact ⟨rfl, rfl⟩
set_option maxHeartbeats 2000000 in
theorem rdo34 (a b : Int) (s : Int) (s0 : 0 ≤ s) (s1 : s ≤ 31) (S : bits .and .u32 b 31 = s) (w : World) :
    Calls Tryz.prog 74 #[.int .i64 34, .int .u32 a, .int .u32 b] w fun e w' => e = .returned (.int .u32 (a / 2 ^ s.toNat)) ∧ w' = w := by
  go_enter Tryz.func74, Tryz.ntmps74
  go_wp2_with fail
  go_ret
  exact ⟨rfl, rfl⟩
set_option maxHeartbeats 2000000 in
theorem rdo26 (a b : Int) (s : Int) (s0 : 0 ≤ s) (s1 : s ≤ 31) (S : bits .and .u32 b 31 = s) (w : World) :
    Calls Tryz.prog 74 #[.int .i64 26, .int .u32 a, .int .u32 b] w fun e w' => e = .returned (.int .u32 (a / 2 ^ s.toNat)) ∧ w' = w := by
  go_enter Tryz.func74, Tryz.ntmps74
  go_wp2_with fail
  go_ret
  exact ⟨rfl, rfl⟩
set_option maxHeartbeats 2000000 in
theorem rdo35 (a b : Int) (s : Int) (s0 : 0 ≤ s) (s1 : s ≤ 31) (S : bits .and .u32 b 31 = s) (w : World) :
    Calls Tryz.prog 74 #[.int .i64 35, .int .u32 a, .int .u32 b] w fun e w' => e = .returned (.int .u32 (wrap32 a / 2 ^ s.toNat % 4294967296)) ∧ w' = w := by
  go_enter Tryz.func74, Tryz.ntmps74
  go_wp2_with fail
  go_ret
  exact ⟨rfl, rfl⟩
set_option maxHeartbeats 2000000 in
theorem rdo27 (a b : Int) (s : Int) (s0 : 0 ≤ s) (s1 : s ≤ 31) (S : bits .and .u32 b 31 = s) (w : World) :
    Calls Tryz.prog 74 #[.int .i64 27, .int .u32 a, .int .u32 b] w fun e w' => e = .returned (.int .u32 (wrap32 a / 2 ^ s.toNat % 4294967296)) ∧ w' = w := by
  go_enter Tryz.func74, Tryz.ntmps74
  go_wp2_with fail
  go_ret
  exact ⟨rfl, rfl⟩
set_option maxHeartbeats 2000000 in
theorem rdo36 (a b : Int)  (w : World) :
    Calls Tryz.prog 74 #[.int .i64 36, .int .u32 a, .int .u32 b] w fun e w' => e = .returned (.int .u32 (bits .or .u32 a b)) ∧ w' = w := by
  go_enter Tryz.func74, Tryz.ntmps74
  go_wp2_with fail
  go_ret
  exact ⟨rfl, rfl⟩
set_option maxHeartbeats 2000000 in
theorem rdo23 (a b : Int)  (w : World) :
    Calls Tryz.prog 74 #[.int .i64 23, .int .u32 a, .int .u32 b] w fun e w' => e = .returned (.int .u32 (bits .or .u32 a b)) ∧ w' = w := by
  go_enter Tryz.func74, Tryz.ntmps74
  go_wp2_with fail
  go_ret
  exact ⟨rfl, rfl⟩
set_option maxHeartbeats 2000000 in
theorem rdo37 (a b : Int)  (w : World) :
    Calls Tryz.prog 74 #[.int .i64 37, .int .u32 a, .int .u32 b] w fun e w' => e = .returned (.int .u32 (bits .and .u32 a b)) ∧ w' = w := by
  go_enter Tryz.func74, Tryz.ntmps74
  go_wp2_with fail
  go_ret
  exact ⟨rfl, rfl⟩
set_option maxHeartbeats 2000000 in
theorem rdo24 (a b : Int)  (w : World) :
    Calls Tryz.prog 74 #[.int .i64 24, .int .u32 a, .int .u32 b] w fun e w' => e = .returned (.int .u32 (bits .and .u32 a b)) ∧ w' = w := by
  go_enter Tryz.func74, Tryz.ntmps74
  go_wp2_with fail
  go_ret
  exact ⟨rfl, rfl⟩
set_option maxHeartbeats 2000000 in
theorem rdo38 (a b c : Int) (H : ∀ w : World, Calls Tryz.prog 119 #[.int .i64 38, .int .u32 a, .int .u32 b] w fun e w' => e = .returned (.int .u32 c) ∧ w' = w) (w : World) :
    Calls Tryz.prog 74 #[.int .i64 38, .int .u32 a, .int .u32 b] w fun e w' => e = .returned (.int .u32 c) ∧ w' = w := by
  go_enter Tryz.func74, Tryz.ntmps74
  go_wp2_with fail
  refine (H _).mono ?_; rintro e w' ⟨rfl, rfl⟩
  go_wp2_with fail
  go_ret
  exact ⟨rfl, rfl⟩
set_option maxHeartbeats 2000000 in
theorem rdo39 (a b c : Int) (H : ∀ w : World, Calls Tryz.prog 119 #[.int .i64 39, .int .u32 a, .int .u32 b] w fun e w' => e = .returned (.int .u32 c) ∧ w' = w) (w : World) :
    Calls Tryz.prog 74 #[.int .i64 39, .int .u32 a, .int .u32 b] w fun e w' => e = .returned (.int .u32 c) ∧ w' = w := by
  go_enter Tryz.func74, Tryz.ntmps74
  go_wp2_with fail
  refine (H _).mono ?_; rintro e w' ⟨rfl, rfl⟩
  go_wp2_with fail
  go_ret
  exact ⟨rfl, rfl⟩
set_option maxHeartbeats 2000000 in
theorem rdo40 (a b c : Int) (H : ∀ w : World, Calls Tryz.prog 119 #[.int .i64 40, .int .u32 a, .int .u32 b] w fun e w' => e = .returned (.int .u32 c) ∧ w' = w) (w : World) :
    Calls Tryz.prog 74 #[.int .i64 40, .int .u32 a, .int .u32 b] w fun e w' => e = .returned (.int .u32 c) ∧ w' = w := by
  go_enter Tryz.func74, Tryz.ntmps74
  go_wp2_with fail
  refine (H _).mono ?_; rintro e w' ⟨rfl, rfl⟩
  go_wp2_with fail
  go_ret
  exact ⟨rfl, rfl⟩
set_option maxHeartbeats 2000000 in
theorem rdo41 (a b c : Int) (H : ∀ w : World, Calls Tryz.prog 119 #[.int .i64 41, .int .u32 a, .int .u32 b] w fun e w' => e = .returned (.int .u32 c) ∧ w' = w) (w : World) :
    Calls Tryz.prog 74 #[.int .i64 41, .int .u32 a, .int .u32 b] w fun e w' => e = .returned (.int .u32 c) ∧ w' = w := by
  go_enter Tryz.func74, Tryz.ntmps74
  go_wp2_with fail
  refine (H _).mono ?_; rintro e w' ⟨rfl, rfl⟩
  go_wp2_with fail
  go_ret
  exact ⟨rfl, rfl⟩
set_option maxHeartbeats 2000000 in
theorem rdo42 (a b c : Int) (H : ∀ w : World, Calls Tryz.prog 119 #[.int .i64 42, .int .u32 a, .int .u32 b] w fun e w' => e = .returned (.int .u32 c) ∧ w' = w) (w : World) :
    Calls Tryz.prog 74 #[.int .i64 42, .int .u32 a, .int .u32 b] w fun e w' => e = .returned (.int .u32 c) ∧ w' = w := by
  go_enter Tryz.func74, Tryz.ntmps74
  go_wp2_with fail
  refine (H _).mono ?_; rintro e w' ⟨rfl, rfl⟩
  go_wp2_with fail
  go_ret
  exact ⟨rfl, rfl⟩
set_option maxHeartbeats 2000000 in
theorem rdo43 (a b c : Int) (H : ∀ w : World, Calls Tryz.prog 119 #[.int .i64 43, .int .u32 a, .int .u32 b] w fun e w' => e = .returned (.int .u32 c) ∧ w' = w) (w : World) :
    Calls Tryz.prog 74 #[.int .i64 43, .int .u32 a, .int .u32 b] w fun e w' => e = .returned (.int .u32 c) ∧ w' = w := by
  go_enter Tryz.func74, Tryz.ntmps74
  go_wp2_with fail
  refine (H _).mono ?_; rintro e w' ⟨rfl, rfl⟩
  go_wp2_with fail
  go_ret
  exact ⟨rfl, rfl⟩
set_option maxHeartbeats 2000000 in
theorem rdo44 (a b c : Int) (H : ∀ w : World, Calls Tryz.prog 119 #[.int .i64 44, .int .u32 a, .int .u32 b] w fun e w' => e = .returned (.int .u32 c) ∧ w' = w) (w : World) :
    Calls Tryz.prog 74 #[.int .i64 44, .int .u32 a, .int .u32 b] w fun e w' => e = .returned (.int .u32 c) ∧ w' = w := by
  go_enter Tryz.func74, Tryz.ntmps74
  go_wp2_with fail
  refine (H _).mono ?_; rintro e w' ⟨rfl, rfl⟩
  go_wp2_with fail
  go_ret
  exact ⟨rfl, rfl⟩
set_option maxHeartbeats 2000000 in
theorem rdo45 (a b c : Int) (H : ∀ w : World, Calls Tryz.prog 119 #[.int .i64 45, .int .u32 a, .int .u32 b] w fun e w' => e = .returned (.int .u32 c) ∧ w' = w) (w : World) :
    Calls Tryz.prog 74 #[.int .i64 45, .int .u32 a, .int .u32 b] w fun e w' => e = .returned (.int .u32 c) ∧ w' = w := by
  go_enter Tryz.func74, Tryz.ntmps74
  go_wp2_with fail
  refine (H _).mono ?_; rintro e w' ⟨rfl, rfl⟩
  go_wp2_with fail
  go_ret
  exact ⟨rfl, rfl⟩
set_option maxHeartbeats 2000000 in
theorem rdoNo (op a b : Int) (h28 : (op == 28) = false) (h19 : (op == 19) = false) (h29 : (op == 29) = false) (h30 : (op == 30) = false) (h25 : (op == 25) = false) (h31 : (op == 31) = false) (h20 : (op == 20) = false) (h32 : (op == 32) = false) (h21 : (op == 21) = false) (h33 : (op == 33) = false) (h22 : (op == 22) = false) (h34 : (op == 34) = false) (h26 : (op == 26) = false) (h35 : (op == 35) = false) (h27 : (op == 27) = false) (h36 : (op == 36) = false) (h23 : (op == 23) = false) (h37 : (op == 37) = false) (h24 : (op == 24) = false) (h38 : (op == 38) = false) (h39 : (op == 39) = false) (h40 : (op == 40) = false) (h41 : (op == 41) = false) (h42 : (op == 42) = false) (h43 : (op == 43) = false) (h44 : (op == 44) = false) (h45 : (op == 45) = false) (w : World) :
    Calls Tryz.prog 74 #[.int .i64 op, .int .u32 a, .int .u32 b] w fun e w' => e = .returned (.int .u32 0) ∧ w' = w := by
  go_enter Tryz.func74, Tryz.ntmps74
  go_wp2_with fail
  refine (slowNo _ _ _ h38 h39 h40 h41 h42 h43 h44 h45 _).mono ?_; rintro e w' ⟨rfl, rfl⟩
  go_wp2_with fail
  go_ret
  exact ⟨rfl, rfl⟩
end Go.Proofs.YtpkbkbllhpdfiaaGreat.U.Walks
namespace Go.Proofs.YtpkbkbllhpdfiaaGreat.U.Walks
open Go.ChangeShapes Go.WideShapes Go.ChangeAt Go.RowKit
set_option linter.unusedVariables false
set_option maxHeartbeats 2000000 in
theorem tk5 (a b : Int) (w : World) :
    Calls Tryz.prog 93 #[.int .i64 5, .int .u32 a, .int .u32 b] w fun e w' => e = .returned (.bool (a == b)) ∧ w' = w := by
  go_enter Tryz.func93, Tryz.ntmps93
  go_wp2_with fail
  go_ret
  first
    | exact ⟨rfl, rfl⟩
    | exact ⟨ret_bool (by rw [Bool.eq_iff_iff]; simp), rfl⟩
set_option maxHeartbeats 2000000 in
theorem tk6 (a b : Int) (w : World) :
    Calls Tryz.prog 93 #[.int .i64 6, .int .u32 a, .int .u32 b] w fun e w' => e = .returned (.bool (a != b)) ∧ w' = w := by
  go_enter Tryz.func93, Tryz.ntmps93
  go_wp2_with fail
  go_ret
  first
    | exact ⟨rfl, rfl⟩
    | exact ⟨ret_bool (by rw [Bool.eq_iff_iff]; simp), rfl⟩
set_option maxHeartbeats 2000000 in
theorem tk7 (a b : Int) (w : World) :
    Calls Tryz.prog 93 #[.int .i64 7, .int .u32 a, .int .u32 b] w fun e w' => e = .returned (.bool (decide (wrap32 a < wrap32 b))) ∧ w' = w := by
  go_enter Tryz.func93, Tryz.ntmps93
  go_wp2_with fail
  refine (less_as _ _ _).mono ?_; rintro e w' ⟨rfl, rfl⟩
  go_wp2_with fail
  go_ret
  first
    | exact ⟨rfl, rfl⟩
    | exact ⟨ret_bool (by rw [Bool.eq_iff_iff]; simp), rfl⟩
set_option maxHeartbeats 2000000 in
theorem tk8 (a b : Int) (w : World) :
    Calls Tryz.prog 93 #[.int .i64 8, .int .u32 a, .int .u32 b] w fun e w' => e = .returned (.bool (!decide (wrap32 a < wrap32 b))) ∧ w' = w := by
  go_enter Tryz.func93, Tryz.ntmps93
  go_wp2_with fail
  refine (less_as _ _ _).mono ?_; rintro e w' ⟨rfl, rfl⟩
  go_wp2_with fail
  go_ret
  first
    | exact ⟨rfl, rfl⟩
    | exact ⟨ret_bool (by rw [Bool.eq_iff_iff]; simp), rfl⟩
set_option maxHeartbeats 2000000 in
theorem tk9 (a b : Int) (w : World) :
    Calls Tryz.prog 93 #[.int .i64 9, .int .u32 a, .int .u32 b] w fun e w' => e = .returned (.bool (decide (a < b))) ∧ w' = w := by
  go_enter Tryz.func93, Tryz.ntmps93
  go_wp2_with fail
  go_ret
  first
    | exact ⟨rfl, rfl⟩
    | exact ⟨ret_bool (by rw [Bool.eq_iff_iff]; simp), rfl⟩
set_option maxHeartbeats 2000000 in
theorem tk10 (a b : Int) (w : World) :
    Calls Tryz.prog 93 #[.int .i64 10, .int .u32 a, .int .u32 b] w fun e w' => e = .returned (.bool (!decide (a < b))) ∧ w' = w := by
  go_enter Tryz.func93, Tryz.ntmps93
  go_wp2_with fail
  go_ret
  first
    | exact ⟨rfl, rfl⟩
    | exact ⟨ret_bool (by rw [Bool.eq_iff_iff]; simp), rfl⟩
set_option maxHeartbeats 2000000 in
theorem tkNo (op a b : Int) (h5 : (op == 5) = false) (h6 : (op == 6) = false) (h7 : (op == 7) = false) (h8 : (op == 8) = false) (h9 : (op == 9) = false) (h10 : (op == 10) = false) (w : World) :
    Calls Tryz.prog 93 #[.int .i64 op, .int .u32 a, .int .u32 b] w fun e w' => e = .returned (.bool false) ∧ w' = w := by
  go_enter Tryz.func93, Tryz.ntmps93
  go_wp2_with fail
  go_ret
  exact ⟨rfl, rfl⟩
set_option maxHeartbeats 2000000 in
theorem rtk5 (a b : Int) (w : World) :
    Calls Tryz.prog 112 #[.int .i64 5, .int .u32 a, .int .u32 b] w fun e w' => e = .returned (.bool (a == b)) ∧ w' = w := by
  go_enter Tryz.func112, Tryz.ntmps112
  go_wp2_with fail
  go_ret
  first
    | exact ⟨rfl, rfl⟩
    | exact ⟨ret_bool (by rw [Bool.eq_iff_iff]; simp), rfl⟩
set_option maxHeartbeats 2000000 in
theorem rtk6 (a b : Int) (w : World) :
    Calls Tryz.prog 112 #[.int .i64 6, .int .u32 a, .int .u32 b] w fun e w' => e = .returned (.bool (a != b)) ∧ w' = w := by
  go_enter Tryz.func112, Tryz.ntmps112
  go_wp2_with fail
  go_ret
  first
    | exact ⟨rfl, rfl⟩
    | exact ⟨ret_bool (by rw [Bool.eq_iff_iff]; simp), rfl⟩
set_option maxHeartbeats 2000000 in
theorem rtk7 (a b : Int) (w : World) :
    Calls Tryz.prog 112 #[.int .i64 7, .int .u32 a, .int .u32 b] w fun e w' => e = .returned (.bool (decide (wrap32 a < wrap32 b))) ∧ w' = w := by
  go_enter Tryz.func112, Tryz.ntmps112
  go_wp2_with fail
  go_ret
  first
    | exact ⟨rfl, rfl⟩
    | exact ⟨ret_bool (by rw [Bool.eq_iff_iff]; simp), rfl⟩
set_option maxHeartbeats 2000000 in
theorem rtk8 (a b : Int) (w : World) :
    Calls Tryz.prog 112 #[.int .i64 8, .int .u32 a, .int .u32 b] w fun e w' => e = .returned (.bool (!decide (wrap32 a < wrap32 b))) ∧ w' = w := by
  go_enter Tryz.func112, Tryz.ntmps112
  go_wp2_with fail
  go_ret
  first
    | exact ⟨rfl, rfl⟩
    | exact ⟨ret_bool (by rw [Bool.eq_iff_iff]; simp), rfl⟩
set_option maxHeartbeats 2000000 in
theorem rtk9 (a b : Int) (w : World) :
    Calls Tryz.prog 112 #[.int .i64 9, .int .u32 a, .int .u32 b] w fun e w' => e = .returned (.bool (decide (a < b))) ∧ w' = w := by
  go_enter Tryz.func112, Tryz.ntmps112
  go_wp2_with fail
  go_ret
  first
    | exact ⟨rfl, rfl⟩
    | exact ⟨ret_bool (by rw [Bool.eq_iff_iff]; simp), rfl⟩
set_option maxHeartbeats 2000000 in
theorem rtk10 (a b : Int) (w : World) :
    Calls Tryz.prog 112 #[.int .i64 10, .int .u32 a, .int .u32 b] w fun e w' => e = .returned (.bool (!decide (a < b))) ∧ w' = w := by
  go_enter Tryz.func112, Tryz.ntmps112
  go_wp2_with fail
  go_ret
  first
    | exact ⟨rfl, rfl⟩
    | exact ⟨ret_bool (by rw [Bool.eq_iff_iff]; simp), rfl⟩
set_option maxHeartbeats 2000000 in
theorem rtkNo (op a b : Int) (h5 : (op == 5) = false) (h6 : (op == 6) = false) (h7 : (op == 7) = false) (h8 : (op == 8) = false) (h9 : (op == 9) = false) (h10 : (op == 10) = false) (w : World) :
    Calls Tryz.prog 112 #[.int .i64 op, .int .u32 a, .int .u32 b] w fun e w' => e = .returned (.bool false) ∧ w' = w := by
  go_enter Tryz.func112, Tryz.ntmps112
  go_wp2_with fail
  go_ret
  exact ⟨rfl, rfl⟩
end Go.Proofs.YtpkbkbllhpdfiaaGreat.U.Walks
namespace Go.Proofs.YtpkbkbllhpdfiaaGreat.U.Walks
open Go.ChangeShapes Go.WideShapes Go.ChangeAt Go.RowKit
theorem low_in (b : Int) : 0 ≤ b % 32 ∧ b % 32 ≤ 31 := by omega
theorem u64_in (a b : Int) (a0 : 0 ≤ a) (a1 : a ≤ 4294967295) (b0 : 0 ≤ b) (b1 : b ≤ 4294967295) : IntKind.u64.wrap (a * b) = a * b := by
  have h : (a * b).natAbs ≤ 4294967295 * 4294967295 := by rw [Int.natAbs_mul]; exact Nat.mul_le_mul (by omega) (by omega)
  have p : 0 ≤ a * b := Int.mul_nonneg a0 b0
  exact IntWalk.u64_in _ (by omega)
theorem xy_in (a b : Int) : wrap64 (wrap32 a * wrap32 b) = wrap32 a * wrap32 b := by
  have x := Num.w32_in a; have y := Num.w32_in b
  exact Num.w64_of (Num.mul_in _ _ x.1 x.2 y.1 (by omega))
theorem xb_in (a b : Int) (b0 : 0 ≤ b) (b1 : b ≤ 4294967295) : wrap64 (wrap32 a * b) = wrap32 a * b := by
  have x := Num.w32_in a
  exact Num.w64_of (Num.mul_in _ _ x.1 x.2 (by omega) b1)
theorem td_in (a b : Int) : wrap64 ((wrap32 a).tdiv (wrap32 b)) = (wrap32 a).tdiv (wrap32 b) := by
  have x := Num.w32_in a
  have := Num.tdiv_in _ (wrap32 b) x.1 x.2
  exact Num.w64_of (by omega)
theorem do_as (op a b c : Int) (a0 : 0 ≤ a) (a1 : a ≤ 4294967295) (b0 : 0 ≤ b) (b1 : b ≤ 4294967295) (H : Hid (Num.ad op a b = c)) (w : World) :
    Calls Tryz.prog 55 #[.int .i64 op, .int .u32 a, .int .u32 b] w fun e w' => e = .returned (.int .u32 c) ∧ w' = w := by
  rw [← H.out]; clear H
  by_cases h28 : op = 28
  · subst h28; exact do28 a b w
  by_cases h19 : op = 19
  · subst h19; exact do19 a b w
  by_cases h29 : op = 29
  · subst h29; exact do29 a b w
  by_cases h30 : op = 30
  · subst h30; exact do30 a b _ (low_in b).1 (low_in b).2 (Num.low5 b b0 b1) w
  by_cases h25 : op = 25
  · subst h25; exact do25 a b _ (low_in b).1 (low_in b).2 (Num.low5 b b0 b1) w
  by_cases h31 : op = 31
  · subst h31; exact do31 a b w
  by_cases h20 : op = 20
  · subst h20; exact do20 a b w
  by_cases h32 : op = 32
  · subst h32; exact do32 a b w
  by_cases h21 : op = 21
  · subst h21; exact do21 a b w
  by_cases h33 : op = 33
  · subst h33; exact do33 a b w
  by_cases h22 : op = 22
  · subst h22; exact do22 a b w
  by_cases h34 : op = 34
  · subst h34; exact do34 a b _ (low_in b).1 (low_in b).2 (Num.low5 b b0 b1) w
  by_cases h26 : op = 26
  · subst h26; exact do26 a b _ (low_in b).1 (low_in b).2 (Num.low5 b b0 b1) w
  by_cases h35 : op = 35
  · subst h35; exact do35 a b _ (low_in b).1 (low_in b).2 (Num.low5 b b0 b1) w
  by_cases h27 : op = 27
  · subst h27; exact do27 a b _ (low_in b).1 (low_in b).2 (Num.low5 b b0 b1) w
  by_cases h36 : op = 36
  · subst h36; exact do36 a b w
  by_cases h23 : op = 23
  · subst h23; exact do23 a b w
  by_cases h37 : op = 37
  · subst h37; exact do37 a b w
  by_cases h24 : op = 24
  · subst h24; exact do24 a b w
  by_cases h38 : op = 38
  · subst h38; exact do38 a b w
  by_cases h39 : op = 39
  · subst h39; exact do39 a b _ _ _ rfl rfl (xy_in a b) w
  by_cases h40 : op = 40
  · subst h40; exact do40 a b _ _ rfl (xb_in a b b0 b1) b0 b1 w
  by_cases h41 : op = 41
  · subst h41; exact do41 a b a0 a1 b0 b1 _ (u64_in a b a0 a1 b0 b1) w
  by_cases h42 : op = 42
  · subst h42; exact do42 a b b0 b1 w
  by_cases h43 : op = 43
  · subst h43; exact do43 a b a0 a1 b0 b1 w
  by_cases h44 : op = 44
  · subst h44; exact do44 a b b0 b1 w
  by_cases h45 : op = 45
  · subst h45; exact do45 a b a0 a1 b0 b1 w
  have v : Num.ad op a b = 0 := by unfold Num.ad; rw [if_neg h28]; rw [if_neg h19]; rw [if_neg h29]; rw [if_neg h30]; rw [if_neg h25]; rw [if_neg h31]; rw [if_neg h20]; rw [if_neg h32]; rw [if_neg h21]; rw [if_neg h33]; rw [if_neg h22]; rw [if_neg h34]; rw [if_neg h26]; rw [if_neg h35]; rw [if_neg h27]; rw [if_neg h36]; rw [if_neg h23]; rw [if_neg h37]; rw [if_neg h24]; rw [if_neg h38]; rw [if_neg h39]; rw [if_neg h40]; rw [if_neg h41]; rw [if_neg h42]; rw [if_neg h43]; rw [if_neg h44]; rw [if_neg h45]
  rw [v]
  exact doNo op a b (by simp [h28]) (by simp [h19]) (by simp [h29]) (by simp [h30]) (by simp [h25]) (by simp [h31]) (by simp [h20]) (by simp [h32]) (by simp [h21]) (by simp [h33]) (by simp [h22]) (by simp [h34]) (by simp [h26]) (by simp [h35]) (by simp [h27]) (by simp [h36]) (by simp [h23]) (by simp [h37]) (by simp [h24]) (by simp [h38]) (by simp [h39]) (by simp [h40]) (by simp [h41]) (by simp [h42]) (by simp [h43]) (by simp [h44]) (by simp [h45]) w
theorem rdo_as (op a b c : Int) (a0 : 0 ≤ a) (a1 : a ≤ 4294967295) (b0 : 0 ≤ b) (b1 : b ≤ 4294967295) (H : Hid (Num.ad op a b = c)) (w : World) :
    Calls Tryz.prog 74 #[.int .i64 op, .int .u32 a, .int .u32 b] w fun e w' => e = .returned (.int .u32 c) ∧ w' = w := by
  rw [← H.out]; clear H
  by_cases h28 : op = 28
  · subst h28; exact rdo28 a b w
  by_cases h19 : op = 19
  · subst h19; exact rdo19 a b w
  by_cases h29 : op = 29
  · subst h29; exact rdo29 a b w
  by_cases h30 : op = 30
  · subst h30; exact rdo30 a b _ (low_in b).1 (low_in b).2 (Num.low5 b b0 b1) w
  by_cases h25 : op = 25
  · subst h25; exact rdo25 a b _ (low_in b).1 (low_in b).2 (Num.low5 b b0 b1) w
  by_cases h31 : op = 31
  · subst h31; exact rdo31 a b w
  by_cases h20 : op = 20
  · subst h20; exact rdo20 a b w
  by_cases h32 : op = 32
  · subst h32; exact rdo32 a b w
  by_cases h21 : op = 21
  · subst h21; exact rdo21 a b w
  by_cases h33 : op = 33
  · subst h33; exact rdo33 a b w
  by_cases h22 : op = 22
  · subst h22; exact rdo22 a b w
  by_cases h34 : op = 34
  · subst h34; exact rdo34 a b _ (low_in b).1 (low_in b).2 (Num.low5 b b0 b1) w
  by_cases h26 : op = 26
  · subst h26; exact rdo26 a b _ (low_in b).1 (low_in b).2 (Num.low5 b b0 b1) w
  by_cases h35 : op = 35
  · subst h35; exact rdo35 a b _ (low_in b).1 (low_in b).2 (Num.low5 b b0 b1) w
  by_cases h27 : op = 27
  · subst h27; exact rdo27 a b _ (low_in b).1 (low_in b).2 (Num.low5 b b0 b1) w
  by_cases h36 : op = 36
  · subst h36; exact rdo36 a b w
  by_cases h23 : op = 23
  · subst h23; exact rdo23 a b w
  by_cases h37 : op = 37
  · subst h37; exact rdo37 a b w
  by_cases h24 : op = 24
  · subst h24; exact rdo24 a b w
  by_cases h38 : op = 38
  · subst h38; exact rdo38 a b _ (fun w => slow38 a b w) w
  by_cases h39 : op = 39
  · subst h39; exact rdo39 a b _ (fun w => slow39 a b _ _ (Num.w64_w32 a) (Num.w64_w32 b) _ (xy_in a b) w) w
  by_cases h40 : op = 40
  · subst h40; exact rdo40 a b _ (fun w => slow40 a b _ _ (Num.w64_w32 a) (Num.w64_w32 b) _ (xb_in a b b0 b1) b0 b1 w) w
  by_cases h41 : op = 41
  · subst h41; exact rdo41 a b _ (fun w => slow41 a b a0 a1 b0 b1 _ (u64_in a b a0 a1 b0 b1) w) w
  by_cases h42 : op = 42
  · subst h42; 
    by_cases z : b = 0
    · subst z; exact rdo42 a 0 _ (fun w => slow42z a w) w
    · refine rdo42 a b _ (fun w => ?_) w
      rw [show Num.ad 42 a b = Num.dv a b from rfl, Num.dv, if_neg z]
      exact slow42 a b _ _ (Num.w64_w32 a) (Num.w64_w32 b) _ (td_in a b) (by simp [z]) (Num.w32_zero b b0 b1 z) w
  by_cases h43 : op = 43
  · subst h43; 
    by_cases z : b = 0
    · subst z; exact rdo43 a 0 _ (fun w => slow43z a w) w
    · refine rdo43 a b _ (fun w => ?_) w
      rw [show Num.ad 43 a b = Num.du a b from rfl, Num.du, if_neg z]
      exact slow43 a b a0 a1 b0 b1 (by simp [z]) z w
  by_cases h44 : op = 44
  · subst h44; 
    by_cases z : b = 0
    · subst z; exact rdo44 a 0 _ (fun w => slow44z a w) w
    · refine rdo44 a b _ (fun w => ?_) w
      rw [show Num.ad 44 a b = Num.rm a b from rfl, Num.rm, if_neg z]
      exact slow44 a b _ _ (Num.w64_w32 a) (Num.w64_w32 b) (by simp [z]) (Num.w32_zero b b0 b1 z) w
  by_cases h45 : op = 45
  · subst h45; 
    by_cases z : b = 0
    · subst z; exact rdo45 a 0 _ (fun w => slow45z a w) w
    · refine rdo45 a b _ (fun w => ?_) w
      rw [show Num.ad 45 a b = Num.ru a b from rfl, Num.ru, if_neg z]
      exact slow45 a b a0 a1 b0 b1 (by simp [z]) z w
  have v : Num.ad op a b = 0 := by unfold Num.ad; rw [if_neg h28]; rw [if_neg h19]; rw [if_neg h29]; rw [if_neg h30]; rw [if_neg h25]; rw [if_neg h31]; rw [if_neg h20]; rw [if_neg h32]; rw [if_neg h21]; rw [if_neg h33]; rw [if_neg h22]; rw [if_neg h34]; rw [if_neg h26]; rw [if_neg h35]; rw [if_neg h27]; rw [if_neg h36]; rw [if_neg h23]; rw [if_neg h37]; rw [if_neg h24]; rw [if_neg h38]; rw [if_neg h39]; rw [if_neg h40]; rw [if_neg h41]; rw [if_neg h42]; rw [if_neg h43]; rw [if_neg h44]; rw [if_neg h45]
  rw [v]
  exact rdoNo op a b (by simp [h28]) (by simp [h19]) (by simp [h29]) (by simp [h30]) (by simp [h25]) (by simp [h31]) (by simp [h20]) (by simp [h32]) (by simp [h21]) (by simp [h33]) (by simp [h22]) (by simp [h34]) (by simp [h26]) (by simp [h35]) (by simp [h27]) (by simp [h36]) (by simp [h23]) (by simp [h37]) (by simp [h24]) (by simp [h38]) (by simp [h39]) (by simp [h40]) (by simp [h41]) (by simp [h42]) (by simp [h43]) (by simp [h44]) (by simp [h45]) w
theorem taken_as (op a b : Int) (c : Bool) (H : Hid (Num.tk op a b = c)) (w : World) :
    Calls Tryz.prog 93 #[.int .i64 op, .int .u32 a, .int .u32 b] w fun e w' => e = .returned (.bool c) ∧ w' = w := by
  rw [← H.out]; clear H
  by_cases h5 : op = 5
  · subst h5; exact tk5 a b w
  by_cases h6 : op = 6
  · subst h6; exact tk6 a b w
  by_cases h7 : op = 7
  · subst h7; exact tk7 a b w
  by_cases h8 : op = 8
  · subst h8; exact tk8 a b w
  by_cases h9 : op = 9
  · subst h9; exact tk9 a b w
  by_cases h10 : op = 10
  · subst h10; exact tk10 a b w
  have v : Num.tk op a b = false := by unfold Num.tk; rw [if_neg h5]; rw [if_neg h6]; rw [if_neg h7]; rw [if_neg h8]; rw [if_neg h9]; rw [if_neg h10]
  rw [v]
  exact tkNo op a b (by simp [h5]) (by simp [h6]) (by simp [h7]) (by simp [h8]) (by simp [h9]) (by simp [h10]) w
theorem rtaken_as (op a b : Int) (c : Bool) (H : Hid (Num.tk op a b = c)) (w : World) :
    Calls Tryz.prog 112 #[.int .i64 op, .int .u32 a, .int .u32 b] w fun e w' => e = .returned (.bool c) ∧ w' = w := by
  rw [← H.out]; clear H
  by_cases h5 : op = 5
  · subst h5; exact rtk5 a b w
  by_cases h6 : op = 6
  · subst h6; exact rtk6 a b w
  by_cases h7 : op = 7
  · subst h7; exact rtk7 a b w
  by_cases h8 : op = 8
  · subst h8; exact rtk8 a b w
  by_cases h9 : op = 9
  · subst h9; exact rtk9 a b w
  by_cases h10 : op = 10
  · subst h10; exact rtk10 a b w
  have v : Num.tk op a b = false := by unfold Num.tk; rw [if_neg h5]; rw [if_neg h6]; rw [if_neg h7]; rw [if_neg h8]; rw [if_neg h9]; rw [if_neg h10]
  rw [v]
  exact rtkNo op a b (by simp [h5]) (by simp [h6]) (by simp [h7]) (by simp [h8]) (by simp [h9]) (by simp [h10]) w
end Go.Proofs.YtpkbkbllhpdfiaaGreat.U.Walks
namespace Go.Proofs.YtpkbkbllhpdfiaaGreat.V.Walks
open Go.ChangeShapes Go.WideShapes Go.ChangeAt Go.RowKit
set_option linter.unusedVariables false
theorem ret_int {k : IntKind} {a b : Int} (h : a = b) : Ending.returned (.int k a) = .returned (.int k b) := by rw [h]
theorem ret_bool {a b : Bool} (h : a = b) : Ending.returned (.bool a) = .returned (.bool b) := by rw [h]
theorem size11 (w : World) : Calls Tryz.prog 135 #[.int .i64 11] w fun e w' => e = .returned (.int .i64 1) ∧ w' = w := by
  go_enter Tryz.func135, Tryz.ntmps135
  go_wp2_with fail
  go_ret
  exact ⟨rfl, rfl⟩
theorem size14 (w : World) : Calls Tryz.prog 135 #[.int .i64 14] w fun e w' => e = .returned (.int .i64 1) ∧ w' = w := by
  go_enter Tryz.func135, Tryz.ntmps135
  go_wp2_with fail
  go_ret
  exact ⟨rfl, rfl⟩
theorem size16 (w : World) : Calls Tryz.prog 135 #[.int .i64 16] w fun e w' => e = .returned (.int .i64 1) ∧ w' = w := by
  go_enter Tryz.func135, Tryz.ntmps135
  go_wp2_with fail
  go_ret
  exact ⟨rfl, rfl⟩
theorem size12 (w : World) : Calls Tryz.prog 135 #[.int .i64 12] w fun e w' => e = .returned (.int .i64 2) ∧ w' = w := by
  go_enter Tryz.func135, Tryz.ntmps135
  go_wp2_with fail
  go_ret
  exact ⟨rfl, rfl⟩
theorem size15 (w : World) : Calls Tryz.prog 135 #[.int .i64 15] w fun e w' => e = .returned (.int .i64 2) ∧ w' = w := by
  go_enter Tryz.func135, Tryz.ntmps135
  go_wp2_with fail
  go_ret
  exact ⟨rfl, rfl⟩
theorem size17 (w : World) : Calls Tryz.prog 135 #[.int .i64 17] w fun e w' => e = .returned (.int .i64 2) ∧ w' = w := by
  go_enter Tryz.func135, Tryz.ntmps135
  go_wp2_with fail
  go_ret
  exact ⟨rfl, rfl⟩
theorem size13 (w : World) : Calls Tryz.prog 135 #[.int .i64 13] w fun e w' => e = .returned (.int .i64 4) ∧ w' = w := by
  go_enter Tryz.func135, Tryz.ntmps135
  go_wp2_with fail
  go_ret
  exact ⟨rfl, rfl⟩
theorem size18 (w : World) : Calls Tryz.prog 135 #[.int .i64 18] w fun e w' => e = .returned (.int .i64 4) ∧ w' = w := by
  go_enter Tryz.func135, Tryz.ntmps135
  go_wp2_with fail
  go_ret
  exact ⟨rfl, rfl⟩
theorem sizeNo (op : Int) (h11 : (op == 11) = false) (h14 : (op == 14) = false) (h16 : (op == 16) = false) (h12 : (op == 12) = false) (h15 : (op == 15) = false) (h17 : (op == 17) = false) (h13 : (op == 13) = false) (h18 : (op == 18) = false) (w : World) : Calls Tryz.prog 135 #[.int .i64 op] w fun e w' => e = .returned (.int .i64 0) ∧ w' = w := by
  go_enter Tryz.func135, Tryz.ntmps135
  go_wp2_with fail
  go_ret
  exact ⟨rfl, rfl⟩
theorem size_as (op : Int) (c : Int) (C : Hid (Num.sz op = c)) (w : World) : Calls Tryz.prog 135 #[.int .i64 op] w fun e w' => e = .returned (.int .i64 c) ∧ w' = w := by
  obtain rfl : Num.sz op = c := C
  by_cases h11 : op = 11
  · subst h11; exact size11 w
  by_cases h14 : op = 14
  · subst h14; exact size14 w
  by_cases h16 : op = 16
  · subst h16; exact size16 w
  by_cases h12 : op = 12
  · subst h12; exact size12 w
  by_cases h15 : op = 15
  · subst h15; exact size15 w
  by_cases h17 : op = 17
  · subst h17; exact size17 w
  by_cases h13 : op = 13
  · subst h13; exact size13 w
  by_cases h18 : op = 18
  · subst h18; exact size18 w
  have z : Num.sz op = 0 := by unfold Num.sz; simp only [h11, h14, h16, h12, h15, h17, h13, h18, if_false]
  rw [z]
  exact sizeNo op (by simp [h11]) (by simp [h14]) (by simp [h16]) (by simp [h12]) (by simp [h15]) (by simp [h17]) (by simp [h13]) (by simp [h18]) w
theorem rsize11 (w : World) : Calls Tryz.prog 70 #[.int .i64 11] w fun e w' => e = .returned (.int .i64 1) ∧ w' = w := by
  go_enter Tryz.func70, Tryz.ntmps70
  go_wp2_with fail
  go_ret
  exact ⟨rfl, rfl⟩
theorem rsize14 (w : World) : Calls Tryz.prog 70 #[.int .i64 14] w fun e w' => e = .returned (.int .i64 1) ∧ w' = w := by
  go_enter Tryz.func70, Tryz.ntmps70
  go_wp2_with fail
  go_ret
  exact ⟨rfl, rfl⟩
theorem rsize16 (w : World) : Calls Tryz.prog 70 #[.int .i64 16] w fun e w' => e = .returned (.int .i64 1) ∧ w' = w := by
  go_enter Tryz.func70, Tryz.ntmps70
  go_wp2_with fail
  go_ret
  exact ⟨rfl, rfl⟩
theorem rsize12 (w : World) : Calls Tryz.prog 70 #[.int .i64 12] w fun e w' => e = .returned (.int .i64 2) ∧ w' = w := by
  go_enter Tryz.func70, Tryz.ntmps70
  go_wp2_with fail
  go_ret
  exact ⟨rfl, rfl⟩
theorem rsize15 (w : World) : Calls Tryz.prog 70 #[.int .i64 15] w fun e w' => e = .returned (.int .i64 2) ∧ w' = w := by
  go_enter Tryz.func70, Tryz.ntmps70
  go_wp2_with fail
  go_ret
  exact ⟨rfl, rfl⟩
theorem rsize17 (w : World) : Calls Tryz.prog 70 #[.int .i64 17] w fun e w' => e = .returned (.int .i64 2) ∧ w' = w := by
  go_enter Tryz.func70, Tryz.ntmps70
  go_wp2_with fail
  go_ret
  exact ⟨rfl, rfl⟩
theorem rsize13 (w : World) : Calls Tryz.prog 70 #[.int .i64 13] w fun e w' => e = .returned (.int .i64 4) ∧ w' = w := by
  go_enter Tryz.func70, Tryz.ntmps70
  go_wp2_with fail
  go_ret
  exact ⟨rfl, rfl⟩
theorem rsize18 (w : World) : Calls Tryz.prog 70 #[.int .i64 18] w fun e w' => e = .returned (.int .i64 4) ∧ w' = w := by
  go_enter Tryz.func70, Tryz.ntmps70
  go_wp2_with fail
  go_ret
  exact ⟨rfl, rfl⟩
theorem rsizeNo (op : Int) (h11 : (op == 11) = false) (h14 : (op == 14) = false) (h16 : (op == 16) = false) (h12 : (op == 12) = false) (h15 : (op == 15) = false) (h17 : (op == 17) = false) (h13 : (op == 13) = false) (h18 : (op == 18) = false) (w : World) : Calls Tryz.prog 70 #[.int .i64 op] w fun e w' => e = .returned (.int .i64 0) ∧ w' = w := by
  go_enter Tryz.func70, Tryz.ntmps70
  go_wp2_with fail
  go_ret
  exact ⟨rfl, rfl⟩
theorem rsize_as (op : Int) (c : Int) (C : Hid (Num.sz op = c)) (w : World) : Calls Tryz.prog 70 #[.int .i64 op] w fun e w' => e = .returned (.int .i64 c) ∧ w' = w := by
  obtain rfl : Num.sz op = c := C
  by_cases h11 : op = 11
  · subst h11; exact rsize11 w
  by_cases h14 : op = 14
  · subst h14; exact rsize14 w
  by_cases h16 : op = 16
  · subst h16; exact rsize16 w
  by_cases h12 : op = 12
  · subst h12; exact rsize12 w
  by_cases h15 : op = 15
  · subst h15; exact rsize15 w
  by_cases h17 : op = 17
  · subst h17; exact rsize17 w
  by_cases h13 : op = 13
  · subst h13; exact rsize13 w
  by_cases h18 : op = 18
  · subst h18; exact rsize18 w
  have z : Num.sz op = 0 := by unfold Num.sz; simp only [h11, h14, h16, h12, h15, h17, h13, h18, if_false]
  rw [z]
  exact rsizeNo op (by simp [h11]) (by simp [h14]) (by simp [h16]) (by simp [h12]) (by simp [h15]) (by simp [h17]) (by simp [h13]) (by simp [h18]) w
theorem loads11 (w : World) : Calls Tryz.prog 130 #[.int .i64 11] w fun e w' => e = .returned (.bool true) ∧ w' = w := by
  go_enter Tryz.func130, Tryz.ntmps130
  go_wp2_with fail
  go_ret
  exact ⟨rfl, rfl⟩
theorem loads12 (w : World) : Calls Tryz.prog 130 #[.int .i64 12] w fun e w' => e = .returned (.bool true) ∧ w' = w := by
  go_enter Tryz.func130, Tryz.ntmps130
  go_wp2_with fail
  go_ret
  exact ⟨rfl, rfl⟩
theorem loads13 (w : World) : Calls Tryz.prog 130 #[.int .i64 13] w fun e w' => e = .returned (.bool true) ∧ w' = w := by
  go_enter Tryz.func130, Tryz.ntmps130
  go_wp2_with fail
  go_ret
  exact ⟨rfl, rfl⟩
theorem loads14 (w : World) : Calls Tryz.prog 130 #[.int .i64 14] w fun e w' => e = .returned (.bool true) ∧ w' = w := by
  go_enter Tryz.func130, Tryz.ntmps130
  go_wp2_with fail
  go_ret
  exact ⟨rfl, rfl⟩
theorem loads15 (w : World) : Calls Tryz.prog 130 #[.int .i64 15] w fun e w' => e = .returned (.bool true) ∧ w' = w := by
  go_enter Tryz.func130, Tryz.ntmps130
  go_wp2_with fail
  go_ret
  exact ⟨rfl, rfl⟩
theorem loadsNo (op : Int) (h11 : (op == 11) = false) (h12 : (op == 12) = false) (h13 : (op == 13) = false) (h14 : (op == 14) = false) (h15 : (op == 15) = false) (w : World) : Calls Tryz.prog 130 #[.int .i64 op] w fun e w' => e = .returned (.bool false) ∧ w' = w := by
  go_enter Tryz.func130, Tryz.ntmps130
  go_wp2_with fail
  go_ret
  exact ⟨rfl, rfl⟩
theorem loads_as (op : Int) (c : Bool) (C : Hid (Num.isl op = c)) (w : World) : Calls Tryz.prog 130 #[.int .i64 op] w fun e w' => e = .returned (.bool c) ∧ w' = w := by
  obtain rfl : Num.isl op = c := C
  by_cases h11 : op = 11
  · subst h11; exact loads11 w
  by_cases h12 : op = 12
  · subst h12; exact loads12 w
  by_cases h13 : op = 13
  · subst h13; exact loads13 w
  by_cases h14 : op = 14
  · subst h14; exact loads14 w
  by_cases h15 : op = 15
  · subst h15; exact loads15 w
  have z : Num.isl op = false := by unfold Num.isl; simp only [h11, h12, h13, h14, h15, if_false]
  rw [z]
  exact loadsNo op (by simp [h11]) (by simp [h12]) (by simp [h13]) (by simp [h14]) (by simp [h15]) w
theorem stores16 (w : World) : Calls Tryz.prog 137 #[.int .i64 16] w fun e w' => e = .returned (.bool true) ∧ w' = w := by
  go_enter Tryz.func137, Tryz.ntmps137
  go_wp2_with fail
  go_ret
  exact ⟨rfl, rfl⟩
theorem stores17 (w : World) : Calls Tryz.prog 137 #[.int .i64 17] w fun e w' => e = .returned (.bool true) ∧ w' = w := by
  go_enter Tryz.func137, Tryz.ntmps137
  go_wp2_with fail
  go_ret
  exact ⟨rfl, rfl⟩
theorem stores18 (w : World) : Calls Tryz.prog 137 #[.int .i64 18] w fun e w' => e = .returned (.bool true) ∧ w' = w := by
  go_enter Tryz.func137, Tryz.ntmps137
  go_wp2_with fail
  go_ret
  exact ⟨rfl, rfl⟩
theorem storesNo (op : Int) (h16 : (op == 16) = false) (h17 : (op == 17) = false) (h18 : (op == 18) = false) (w : World) : Calls Tryz.prog 137 #[.int .i64 op] w fun e w' => e = .returned (.bool false) ∧ w' = w := by
  go_enter Tryz.func137, Tryz.ntmps137
  go_wp2_with fail
  go_ret
  exact ⟨rfl, rfl⟩
theorem stores_as (op : Int) (c : Bool) (C : Hid (Num.iss op = c)) (w : World) : Calls Tryz.prog 137 #[.int .i64 op] w fun e w' => e = .returned (.bool c) ∧ w' = w := by
  obtain rfl : Num.iss op = c := C
  by_cases h16 : op = 16
  · subst h16; exact stores16 w
  by_cases h17 : op = 17
  · subst h17; exact stores17 w
  by_cases h18 : op = 18
  · subst h18; exact stores18 w
  have z : Num.iss op = false := by unfold Num.iss; simp only [h16, h17, h18, if_false]
  rw [z]
  exact storesNo op (by simp [h16]) (by simp [h17]) (by simp [h18]) w
theorem signed_as (op : Int) (c : Bool) (h11 : (op == 11) = c) (h12 : (op == 12) = false) (w : World) : Calls Tryz.prog 133 #[.int .i64 op] w fun e w' => e = .returned (.bool c) ∧ w' = w := by
  cases c
  all_goals
    go_enter Tryz.func133, Tryz.ntmps133
    go_wp2_with fail
    go_ret
    exact ⟨rfl, rfl⟩
theorem signed12 (w : World) : Calls Tryz.prog 133 #[.int .i64 12] w fun e w' => e = .returned (.bool true) ∧ w' = w := by
  go_enter Tryz.func133, Tryz.ntmps133
  go_wp2_with fail
  go_ret
  exact ⟨rfl, rfl⟩
theorem place_as (a p : Int) (P : a % 4 = p) (Q : a.tmod 4 = p) (w : World) : Calls Tryz.prog 132 #[.int .u32 a] w fun e w' => e = .returned (.int .u32 p) ∧ w' = w := by
  go_enter Tryz.func132, Tryz.ntmps132
  go_wp2_with fail
  go_ret
  exact ⟨rfl, rfl⟩
theorem lowest1 (n : Int) (w : World) : Calls Tryz.prog 136 #[.int .u32 n, .int .i64 1] w fun e w' => e = .returned (.int .u32 (n % 256)) ∧ w' = w := by
  go_enter Tryz.func136, Tryz.ntmps136
  go_wp2_with fail
  go_ret
  exact ⟨ret_int (Num.low8 n), rfl⟩
theorem slowest1 (n : Int) (w : World) : Calls Tryz.prog 134 #[.int .u32 n, .int .i64 1] w fun e w' => e = .returned (.int .u32 (Num.s8 n % 4294967296)) ∧ w' = w := by
  go_enter Tryz.func134, Tryz.ntmps134
  go_wp2_with fail
  go_ret
  exact ⟨ret_int (by rw [Num.sg8]), rfl⟩
theorem lowest2 (n : Int) (w : World) : Calls Tryz.prog 136 #[.int .u32 n, .int .i64 2] w fun e w' => e = .returned (.int .u32 (n % 65536)) ∧ w' = w := by
  go_enter Tryz.func136, Tryz.ntmps136
  go_wp2_with fail
  go_ret
  exact ⟨ret_int (Num.low16 n), rfl⟩
theorem slowest2 (n : Int) (w : World) : Calls Tryz.prog 134 #[.int .u32 n, .int .i64 2] w fun e w' => e = .returned (.int .u32 (Num.s16 n % 4294967296)) ∧ w' = w := by
  go_enter Tryz.func134, Tryz.ntmps134
  go_wp2_with fail
  go_ret
  exact ⟨ret_int (by rw [Num.sg16]), rfl⟩
theorem lowest4 (n : Int) (h0 : 0 ≤ n) (h1 : n ≤ 4294967295) (w : World) : Calls Tryz.prog 136 #[.int .u32 n, .int .i64 4] w fun e w' => e = .returned (.int .u32 n) ∧ w' = w := by
  go_enter Tryz.func136, Tryz.ntmps136
  go_wp2_with fail
  go_ret
  exact ⟨ret_int (by omega), rfl⟩
end Go.Proofs.YtpkbkbllhpdfiaaGreat.V.Walks
namespace Go.Proofs.YtpkbkbllhpdfiaaGreat.V.Walks
open Go.ChangeShapes Go.WideShapes Go.ChangeAt Go.RowKit
set_option linter.unusedVariables false
theorem fits11 (a q : Int) (P : a % 1 = q) (Q : a.tmod 1 = q) (g : Bool) (G : (q == 0) = g) (w : World) : Calls Tryz.prog 131 #[.int .i64 11, .int .u32 a] w fun e w' => e = .returned (.bool g) ∧ w' = w := by
  have S : Hid (Num.sz 11 = 1) := rfl
  go_enter Tryz.func131, Tryz.ntmps131
  go_wp2_with fail
  refine (size_as _ _ S _).mono ?_; rintro e w ⟨rfl, rfl⟩
  go_wp2_with fail
  go_ret
  exact ⟨rfl, rfl⟩
theorem fits14 (a q : Int) (P : a % 1 = q) (Q : a.tmod 1 = q) (g : Bool) (G : (q == 0) = g) (w : World) : Calls Tryz.prog 131 #[.int .i64 14, .int .u32 a] w fun e w' => e = .returned (.bool g) ∧ w' = w := by
  have S : Hid (Num.sz 14 = 1) := rfl
  go_enter Tryz.func131, Tryz.ntmps131
  go_wp2_with fail
  refine (size_as _ _ S _).mono ?_; rintro e w ⟨rfl, rfl⟩
  go_wp2_with fail
  go_ret
  exact ⟨rfl, rfl⟩
theorem fits16 (a q : Int) (P : a % 1 = q) (Q : a.tmod 1 = q) (g : Bool) (G : (q == 0) = g) (w : World) : Calls Tryz.prog 131 #[.int .i64 16, .int .u32 a] w fun e w' => e = .returned (.bool g) ∧ w' = w := by
  have S : Hid (Num.sz 16 = 1) := rfl
  go_enter Tryz.func131, Tryz.ntmps131
  go_wp2_with fail
  refine (size_as _ _ S _).mono ?_; rintro e w ⟨rfl, rfl⟩
  go_wp2_with fail
  go_ret
  exact ⟨rfl, rfl⟩
theorem fits12 (a q : Int) (P : a % 2 = q) (Q : a.tmod 2 = q) (g : Bool) (G : (q == 0) = g) (w : World) : Calls Tryz.prog 131 #[.int .i64 12, .int .u32 a] w fun e w' => e = .returned (.bool g) ∧ w' = w := by
  have S : Hid (Num.sz 12 = 2) := rfl
  go_enter Tryz.func131, Tryz.ntmps131
  go_wp2_with fail
  refine (size_as _ _ S _).mono ?_; rintro e w ⟨rfl, rfl⟩
  go_wp2_with fail
  go_ret
  exact ⟨rfl, rfl⟩
theorem fits15 (a q : Int) (P : a % 2 = q) (Q : a.tmod 2 = q) (g : Bool) (G : (q == 0) = g) (w : World) : Calls Tryz.prog 131 #[.int .i64 15, .int .u32 a] w fun e w' => e = .returned (.bool g) ∧ w' = w := by
  have S : Hid (Num.sz 15 = 2) := rfl
  go_enter Tryz.func131, Tryz.ntmps131
  go_wp2_with fail
  refine (size_as _ _ S _).mono ?_; rintro e w ⟨rfl, rfl⟩
  go_wp2_with fail
  go_ret
  exact ⟨rfl, rfl⟩
theorem fits17 (a q : Int) (P : a % 2 = q) (Q : a.tmod 2 = q) (g : Bool) (G : (q == 0) = g) (w : World) : Calls Tryz.prog 131 #[.int .i64 17, .int .u32 a] w fun e w' => e = .returned (.bool g) ∧ w' = w := by
  have S : Hid (Num.sz 17 = 2) := rfl
  go_enter Tryz.func131, Tryz.ntmps131
  go_wp2_with fail
  refine (size_as _ _ S _).mono ?_; rintro e w ⟨rfl, rfl⟩
  go_wp2_with fail
  go_ret
  exact ⟨rfl, rfl⟩
theorem fits13 (a q : Int) (P : a % 4 = q) (Q : a.tmod 4 = q) (g : Bool) (G : (q == 0) = g) (w : World) : Calls Tryz.prog 131 #[.int .i64 13, .int .u32 a] w fun e w' => e = .returned (.bool g) ∧ w' = w := by
  have S : Hid (Num.sz 13 = 4) := rfl
  go_enter Tryz.func131, Tryz.ntmps131
  go_wp2_with fail
  refine (size_as _ _ S _).mono ?_; rintro e w ⟨rfl, rfl⟩
  go_wp2_with fail
  go_ret
  exact ⟨rfl, rfl⟩
theorem fits18 (a q : Int) (P : a % 4 = q) (Q : a.tmod 4 = q) (g : Bool) (G : (q == 0) = g) (w : World) : Calls Tryz.prog 131 #[.int .i64 18, .int .u32 a] w fun e w' => e = .returned (.bool g) ∧ w' = w := by
  have S : Hid (Num.sz 18 = 4) := rfl
  go_enter Tryz.func131, Tryz.ntmps131
  go_wp2_with fail
  refine (size_as _ _ S _).mono ?_; rintro e w ⟨rfl, rfl⟩
  go_wp2_with fail
  go_ret
  exact ⟨rfl, rfl⟩
theorem fitsNo (op a : Int) (S : Hid (Num.sz op = 0)) (w : World) : Calls Tryz.prog 131 #[.int .i64 op, .int .u32 a] w fun e w' => e = .returned (.bool false) ∧ w' = w := by
  go_enter Tryz.func131, Tryz.ntmps131
  go_wp2_with fail
  refine (size_as _ _ S _).mono ?_; rintro e w ⟨rfl, rfl⟩
  go_wp2_with fail
  go_ret
  exact ⟨rfl, rfl⟩
theorem fits_as (op a p : Int) (g : Bool) (a0 : 0 ≤ a) (P : Hid (a % 4 = p)) (G : Hid (Num.ft op p = g)) (w : World) : Calls Tryz.prog 131 #[.int .i64 op, .int .u32 a] w fun e w' => e = .returned (.bool g) ∧ w' = w := by
  obtain rfl : a % 4 = p := P
  obtain rfl : Num.ft op (a % 4) = g := G
  by_cases h11 : op = 11
  · subst h11; exact fits11 a 0 (by omega) (Num.tmod1 a a0) true rfl w
  by_cases h14 : op = 14
  · subst h14; exact fits14 a 0 (by omega) (Num.tmod1 a a0) true rfl w
  by_cases h16 : op = 16
  · subst h16; exact fits16 a 0 (by omega) (Num.tmod1 a a0) true rfl w
  by_cases h12 : op = 12
  · subst h12; exact fits12 a (a % 4 % 2) (by omega) ((Num.tmod2 a a0).trans (by omega)) _ rfl w
  by_cases h15 : op = 15
  · subst h15; exact fits15 a (a % 4 % 2) (by omega) ((Num.tmod2 a a0).trans (by omega)) _ rfl w
  by_cases h17 : op = 17
  · subst h17; exact fits17 a (a % 4 % 2) (by omega) ((Num.tmod2 a a0).trans (by omega)) _ rfl w
  by_cases h13 : op = 13
  · subst h13; exact fits13 a (a % 4) rfl (Num.tmod4 a a0) _ rfl w
  by_cases h18 : op = 18
  · subst h18; exact fits18 a (a % 4) rfl (Num.tmod4 a a0) _ rfl w
  have z : Num.ft op (a % 4) = false := by unfold Num.ft; simp only [h11, h14, h16, h12, h15, h17, h13, h18, if_false]
  rw [z]
  exact fitsNo op a (show Num.sz op = 0 by unfold Num.sz; simp only [h11, h14, h16, h12, h15, h17, h13, h18, if_false]) w
theorem rfits11 (a q : Int) (P : a % 1 = q) (Q : a.tmod 1 = q) (g : Bool) (G : (q == 0) = g) (w : World) : Calls Tryz.prog 139 #[.int .i64 11, .int .u32 a] w fun e w' => e = .returned (.bool g) ∧ w' = w := by
  have S : Hid (Num.sz 11 = 1) := rfl
  go_enter Tryz.func139, Tryz.ntmps139
  go_wp2_with fail
  refine (rsize_as _ _ S _).mono ?_; rintro e w ⟨rfl, rfl⟩
  go_wp2_with fail
  refine (rsize_as _ _ S _).mono ?_; rintro e w ⟨rfl, rfl⟩
  go_wp2_with fail
  go_ret
  exact ⟨rfl, rfl⟩
theorem rfits14 (a q : Int) (P : a % 1 = q) (Q : a.tmod 1 = q) (g : Bool) (G : (q == 0) = g) (w : World) : Calls Tryz.prog 139 #[.int .i64 14, .int .u32 a] w fun e w' => e = .returned (.bool g) ∧ w' = w := by
  have S : Hid (Num.sz 14 = 1) := rfl
  go_enter Tryz.func139, Tryz.ntmps139
  go_wp2_with fail
  refine (rsize_as _ _ S _).mono ?_; rintro e w ⟨rfl, rfl⟩
  go_wp2_with fail
  refine (rsize_as _ _ S _).mono ?_; rintro e w ⟨rfl, rfl⟩
  go_wp2_with fail
  go_ret
  exact ⟨rfl, rfl⟩
theorem rfits16 (a q : Int) (P : a % 1 = q) (Q : a.tmod 1 = q) (g : Bool) (G : (q == 0) = g) (w : World) : Calls Tryz.prog 139 #[.int .i64 16, .int .u32 a] w fun e w' => e = .returned (.bool g) ∧ w' = w := by
  have S : Hid (Num.sz 16 = 1) := rfl
  go_enter Tryz.func139, Tryz.ntmps139
  go_wp2_with fail
  refine (rsize_as _ _ S _).mono ?_; rintro e w ⟨rfl, rfl⟩
  go_wp2_with fail
  refine (rsize_as _ _ S _).mono ?_; rintro e w ⟨rfl, rfl⟩
  go_wp2_with fail
  go_ret
  exact ⟨rfl, rfl⟩
theorem rfits12 (a q : Int) (P : a % 2 = q) (Q : a.tmod 2 = q) (g : Bool) (G : (q == 0) = g) (w : World) : Calls Tryz.prog 139 #[.int .i64 12, .int .u32 a] w fun e w' => e = .returned (.bool g) ∧ w' = w := by
  have S : Hid (Num.sz 12 = 2) := rfl
  go_enter Tryz.func139, Tryz.ntmps139
  go_wp2_with fail
  refine (rsize_as _ _ S _).mono ?_; rintro e w ⟨rfl, rfl⟩
  go_wp2_with fail
  refine (rsize_as _ _ S _).mono ?_; rintro e w ⟨rfl, rfl⟩
  go_wp2_with fail
  go_ret
  exact ⟨rfl, rfl⟩
theorem rfits15 (a q : Int) (P : a % 2 = q) (Q : a.tmod 2 = q) (g : Bool) (G : (q == 0) = g) (w : World) : Calls Tryz.prog 139 #[.int .i64 15, .int .u32 a] w fun e w' => e = .returned (.bool g) ∧ w' = w := by
  have S : Hid (Num.sz 15 = 2) := rfl
  go_enter Tryz.func139, Tryz.ntmps139
  go_wp2_with fail
  refine (rsize_as _ _ S _).mono ?_; rintro e w ⟨rfl, rfl⟩
  go_wp2_with fail
  refine (rsize_as _ _ S _).mono ?_; rintro e w ⟨rfl, rfl⟩
  go_wp2_with fail
  go_ret
  exact ⟨rfl, rfl⟩
theorem rfits17 (a q : Int) (P : a % 2 = q) (Q : a.tmod 2 = q) (g : Bool) (G : (q == 0) = g) (w : World) : Calls Tryz.prog 139 #[.int .i64 17, .int .u32 a] w fun e w' => e = .returned (.bool g) ∧ w' = w := by
  have S : Hid (Num.sz 17 = 2) := rfl
  go_enter Tryz.func139, Tryz.ntmps139
  go_wp2_with fail
  refine (rsize_as _ _ S _).mono ?_; rintro e w ⟨rfl, rfl⟩
  go_wp2_with fail
  refine (rsize_as _ _ S _).mono ?_; rintro e w ⟨rfl, rfl⟩
  go_wp2_with fail
  go_ret
  exact ⟨rfl, rfl⟩
theorem rfits13 (a q : Int) (P : a % 4 = q) (Q : a.tmod 4 = q) (g : Bool) (G : (q == 0) = g) (w : World) : Calls Tryz.prog 139 #[.int .i64 13, .int .u32 a] w fun e w' => e = .returned (.bool g) ∧ w' = w := by
  have S : Hid (Num.sz 13 = 4) := rfl
  go_enter Tryz.func139, Tryz.ntmps139
  go_wp2_with fail
  refine (rsize_as _ _ S _).mono ?_; rintro e w ⟨rfl, rfl⟩
  go_wp2_with fail
  refine (rsize_as _ _ S _).mono ?_; rintro e w ⟨rfl, rfl⟩
  go_wp2_with fail
  go_ret
  exact ⟨rfl, rfl⟩
theorem rfits18 (a q : Int) (P : a % 4 = q) (Q : a.tmod 4 = q) (g : Bool) (G : (q == 0) = g) (w : World) : Calls Tryz.prog 139 #[.int .i64 18, .int .u32 a] w fun e w' => e = .returned (.bool g) ∧ w' = w := by
  have S : Hid (Num.sz 18 = 4) := rfl
  go_enter Tryz.func139, Tryz.ntmps139
  go_wp2_with fail
  refine (rsize_as _ _ S _).mono ?_; rintro e w ⟨rfl, rfl⟩
  go_wp2_with fail
  refine (rsize_as _ _ S _).mono ?_; rintro e w ⟨rfl, rfl⟩
  go_wp2_with fail
  go_ret
  exact ⟨rfl, rfl⟩
theorem rfitsNo (op a : Int) (S : Hid (Num.sz op = 0)) (w : World) : Calls Tryz.prog 139 #[.int .i64 op, .int .u32 a] w fun e w' => e = .returned (.bool false) ∧ w' = w := by
  go_enter Tryz.func139, Tryz.ntmps139
  go_wp2_with fail
  refine (rsize_as _ _ S _).mono ?_; rintro e w ⟨rfl, rfl⟩
  go_wp2_with fail
  go_ret
  exact ⟨rfl, rfl⟩
theorem rfits_as (op a p : Int) (g : Bool) (a0 : 0 ≤ a) (P : Hid (a % 4 = p)) (G : Hid (Num.ft op p = g)) (w : World) : Calls Tryz.prog 139 #[.int .i64 op, .int .u32 a] w fun e w' => e = .returned (.bool g) ∧ w' = w := by
  obtain rfl : a % 4 = p := P
  obtain rfl : Num.ft op (a % 4) = g := G
  by_cases h11 : op = 11
  · subst h11; exact rfits11 a 0 (by omega) (Num.tmod1 a a0) true rfl w
  by_cases h14 : op = 14
  · subst h14; exact rfits14 a 0 (by omega) (Num.tmod1 a a0) true rfl w
  by_cases h16 : op = 16
  · subst h16; exact rfits16 a 0 (by omega) (Num.tmod1 a a0) true rfl w
  by_cases h12 : op = 12
  · subst h12; exact rfits12 a (a % 4 % 2) (by omega) ((Num.tmod2 a a0).trans (by omega)) _ rfl w
  by_cases h15 : op = 15
  · subst h15; exact rfits15 a (a % 4 % 2) (by omega) ((Num.tmod2 a a0).trans (by omega)) _ rfl w
  by_cases h17 : op = 17
  · subst h17; exact rfits17 a (a % 4 % 2) (by omega) ((Num.tmod2 a a0).trans (by omega)) _ rfl w
  by_cases h13 : op = 13
  · subst h13; exact rfits13 a (a % 4) rfl (Num.tmod4 a a0) _ rfl w
  by_cases h18 : op = 18
  · subst h18; exact rfits18 a (a % 4) rfl (Num.tmod4 a a0) _ rfl w
  have z : Num.ft op (a % 4) = false := by unfold Num.ft; simp only [h11, h14, h16, h12, h15, h17, h13, h18, if_false]
  rw [z]
  exact rfitsNo op a (show Num.sz op = 0 by unfold Num.sz; simp only [h11, h14, h16, h12, h15, h17, h13, h18, if_false]) w
end Go.Proofs.YtpkbkbllhpdfiaaGreat.V.Walks
namespace Go.Proofs.YtpkbkbllhpdfiaaGreat.V.Walks
open Go.ChangeShapes Go.WideShapes Go.ChangeAt Go.RowKit
set_option linter.unusedVariables false
set_option maxHeartbeats 1000000 in
theorem load11_0 (a x : Int) (a0 : 0 ≤ a) (x0 : 0 ≤ x) (x1 : x ≤ 4294967295) (P : Hid (a % 4 = 0)) (w : World) : Calls Tryz.prog 95 #[.int .i64 11, .int .u32 a, .int .u32 x] w fun e w' => e = .returned (.int .u32 (Num.s8 (x) % 4294967296)) ∧ w' = w := by
  have F : Hid (Num.ft 11 0 = true) := rfl
  have L : Hid (Num.isl 11 = true) := rfl
  have S : Hid (Num.sz 11 = 1) := rfl
  go_enter Tryz.func95, Tryz.ntmps95
  go_wp2_with fail
  refine (loads_as _ _ L _).mono ?_; rintro e w ⟨rfl, rfl⟩
  go_wp2_with fail
  refine (fits_as _ _ _ _ a0 P F _).mono ?_; rintro e w ⟨rfl, rfl⟩
  go_wp2_with fail
  refine (place_as _ _ P.out ((Num.tmod4 a a0).trans P.out) _).mono ?_; rintro e w ⟨rfl, rfl⟩
  go_wp2_with fail
  refine (signed_as _ true rfl rfl _).mono ?_; rintro e w ⟨rfl, rfl⟩
  go_wp2_with fail
  refine (size_as _ _ S _).mono ?_; rintro e w ⟨rfl, rfl⟩
  go_wp2_with fail
  refine (slowest1 _ _).mono ?_; rintro e w ⟨rfl, rfl⟩
  go_wp2_with fail
  go_ret
  exact ⟨rfl, rfl⟩
set_option maxHeartbeats 1000000 in
theorem load11_1 (a x : Int) (a0 : 0 ≤ a) (x0 : 0 ≤ x) (x1 : x ≤ 4294967295) (P : Hid (a % 4 = 1)) (w : World) : Calls Tryz.prog 95 #[.int .i64 11, .int .u32 a, .int .u32 x] w fun e w' => e = .returned (.int .u32 (Num.s8 (x / 256) % 4294967296)) ∧ w' = w := by
  have F : Hid (Num.ft 11 1 = true) := rfl
  have L : Hid (Num.isl 11 = true) := rfl
  have S : Hid (Num.sz 11 = 1) := rfl
  go_enter Tryz.func95, Tryz.ntmps95
  go_wp2_with fail
  refine (loads_as _ _ L _).mono ?_; rintro e w ⟨rfl, rfl⟩
  go_wp2_with fail
  refine (fits_as _ _ _ _ a0 P F _).mono ?_; rintro e w ⟨rfl, rfl⟩
  go_wp2_with fail
  refine (place_as _ _ P.out ((Num.tmod4 a a0).trans P.out) _).mono ?_; rintro e w ⟨rfl, rfl⟩
  go_wp2_with fail
  refine (signed_as _ true rfl rfl _).mono ?_; rintro e w ⟨rfl, rfl⟩
  go_wp2_with fail
  refine (size_as _ _ S _).mono ?_; rintro e w ⟨rfl, rfl⟩
  go_wp2_with fail
  refine (slowest1 _ _).mono ?_; rintro e w ⟨rfl, rfl⟩
  go_wp2_with fail
  go_ret
  exact ⟨rfl, rfl⟩
set_option maxHeartbeats 1000000 in
theorem load11_2 (a x : Int) (a0 : 0 ≤ a) (x0 : 0 ≤ x) (x1 : x ≤ 4294967295) (P : Hid (a % 4 = 2)) (w : World) : Calls Tryz.prog 95 #[.int .i64 11, .int .u32 a, .int .u32 x] w fun e w' => e = .returned (.int .u32 (Num.s8 (x / 65536) % 4294967296)) ∧ w' = w := by
  have F : Hid (Num.ft 11 2 = true) := rfl
  have L : Hid (Num.isl 11 = true) := rfl
  have S : Hid (Num.sz 11 = 1) := rfl
  go_enter Tryz.func95, Tryz.ntmps95
  go_wp2_with fail
  refine (loads_as _ _ L _).mono ?_; rintro e w ⟨rfl, rfl⟩
  go_wp2_with fail
  refine (fits_as _ _ _ _ a0 P F _).mono ?_; rintro e w ⟨rfl, rfl⟩
  go_wp2_with fail
  refine (place_as _ _ P.out ((Num.tmod4 a a0).trans P.out) _).mono ?_; rintro e w ⟨rfl, rfl⟩
  go_wp2_with fail
  refine (signed_as _ true rfl rfl _).mono ?_; rintro e w ⟨rfl, rfl⟩
  go_wp2_with fail
  refine (size_as _ _ S _).mono ?_; rintro e w ⟨rfl, rfl⟩
  go_wp2_with fail
  refine (slowest1 _ _).mono ?_; rintro e w ⟨rfl, rfl⟩
  go_wp2_with fail
  go_ret
  exact ⟨rfl, rfl⟩
set_option maxHeartbeats 1000000 in
theorem load11_3 (a x : Int) (a0 : 0 ≤ a) (x0 : 0 ≤ x) (x1 : x ≤ 4294967295) (P : Hid (a % 4 = 3)) (w : World) : Calls Tryz.prog 95 #[.int .i64 11, .int .u32 a, .int .u32 x] w fun e w' => e = .returned (.int .u32 (Num.s8 (x / 16777216) % 4294967296)) ∧ w' = w := by
  have F : Hid (Num.ft 11 3 = true) := rfl
  have L : Hid (Num.isl 11 = true) := rfl
  have S : Hid (Num.sz 11 = 1) := rfl
  go_enter Tryz.func95, Tryz.ntmps95
  go_wp2_with fail
  refine (loads_as _ _ L _).mono ?_; rintro e w ⟨rfl, rfl⟩
  go_wp2_with fail
  refine (fits_as _ _ _ _ a0 P F _).mono ?_; rintro e w ⟨rfl, rfl⟩
  go_wp2_with fail
  refine (place_as _ _ P.out ((Num.tmod4 a a0).trans P.out) _).mono ?_; rintro e w ⟨rfl, rfl⟩
  go_wp2_with fail
  refine (signed_as _ true rfl rfl _).mono ?_; rintro e w ⟨rfl, rfl⟩
  go_wp2_with fail
  refine (size_as _ _ S _).mono ?_; rintro e w ⟨rfl, rfl⟩
  go_wp2_with fail
  refine (slowest1 _ _).mono ?_; rintro e w ⟨rfl, rfl⟩
  go_wp2_with fail
  go_ret
  exact ⟨rfl, rfl⟩
theorem load11 (a x p : Int) (a0 : 0 ≤ a) (x0 : 0 ≤ x) (x1 : x ≤ 4294967295) (P : a % 4 = p) (w : World) : Calls Tryz.prog 95 #[.int .i64 11, .int .u32 a, .int .u32 x] w fun e w' => e = .returned (.int .u32 (Num.ld 11 p x)) ∧ w' = w := by
  subst P
  rcases Num.quarter a with h | h | h | h <;> rw [h]
  · exact load11_0 a x a0 x0 x1 h w
  · exact load11_1 a x a0 x0 x1 h w
  · exact load11_2 a x a0 x0 x1 h w
  · exact load11_3 a x a0 x0 x1 h w
set_option maxHeartbeats 1000000 in
theorem load12_0 (a x : Int) (a0 : 0 ≤ a) (x0 : 0 ≤ x) (x1 : x ≤ 4294967295) (P : Hid (a % 4 = 0)) (w : World) : Calls Tryz.prog 95 #[.int .i64 12, .int .u32 a, .int .u32 x] w fun e w' => e = .returned (.int .u32 (Num.s16 (x) % 4294967296)) ∧ w' = w := by
  have F : Hid (Num.ft 12 0 = true) := rfl
  have L : Hid (Num.isl 12 = true) := rfl
  have S : Hid (Num.sz 12 = 2) := rfl
  go_enter Tryz.func95, Tryz.ntmps95
  go_wp2_with fail
  refine (loads_as _ _ L _).mono ?_; rintro e w ⟨rfl, rfl⟩
  go_wp2_with fail
  refine (fits_as _ _ _ _ a0 P F _).mono ?_; rintro e w ⟨rfl, rfl⟩
  go_wp2_with fail
  refine (place_as _ _ P.out ((Num.tmod4 a a0).trans P.out) _).mono ?_; rintro e w ⟨rfl, rfl⟩
  go_wp2_with fail
  refine (signed12 _).mono ?_; rintro e w ⟨rfl, rfl⟩
  go_wp2_with fail
  refine (size_as _ _ S _).mono ?_; rintro e w ⟨rfl, rfl⟩
  go_wp2_with fail
  refine (slowest2 _ _).mono ?_; rintro e w ⟨rfl, rfl⟩
  go_wp2_with fail
  go_ret
  exact ⟨rfl, rfl⟩
set_option maxHeartbeats 1000000 in
theorem load12_1 (a x : Int) (a0 : 0 ≤ a) (x0 : 0 ≤ x) (x1 : x ≤ 4294967295) (P : Hid (a % 4 = 1)) (w : World) : Calls Tryz.prog 95 #[.int .i64 12, .int .u32 a, .int .u32 x] w fun e w' => e = .returned (.int .u32 0) ∧ w' = w := by
  have F : Hid (Num.ft 12 1 = false) := rfl
  have L : Hid (Num.isl 12 = true) := rfl
  have S : Hid (Num.sz 12 = 2) := rfl
  go_enter Tryz.func95, Tryz.ntmps95
  go_wp2_with fail
  refine (loads_as _ _ L _).mono ?_; rintro e w ⟨rfl, rfl⟩
  go_wp2_with fail
  refine (fits_as _ _ _ _ a0 P F _).mono ?_; rintro e w ⟨rfl, rfl⟩
  go_wp2_with fail
  go_ret
  exact ⟨rfl, rfl⟩
set_option maxHeartbeats 1000000 in
theorem load12_2 (a x : Int) (a0 : 0 ≤ a) (x0 : 0 ≤ x) (x1 : x ≤ 4294967295) (P : Hid (a % 4 = 2)) (w : World) : Calls Tryz.prog 95 #[.int .i64 12, .int .u32 a, .int .u32 x] w fun e w' => e = .returned (.int .u32 (Num.s16 (x / 65536) % 4294967296)) ∧ w' = w := by
  have F : Hid (Num.ft 12 2 = true) := rfl
  have L : Hid (Num.isl 12 = true) := rfl
  have S : Hid (Num.sz 12 = 2) := rfl
  go_enter Tryz.func95, Tryz.ntmps95
  go_wp2_with fail
  refine (loads_as _ _ L _).mono ?_; rintro e w ⟨rfl, rfl⟩
  go_wp2_with fail
  refine (fits_as _ _ _ _ a0 P F _).mono ?_; rintro e w ⟨rfl, rfl⟩
  go_wp2_with fail
  refine (place_as _ _ P.out ((Num.tmod4 a a0).trans P.out) _).mono ?_; rintro e w ⟨rfl, rfl⟩
  go_wp2_with fail
  refine (signed12 _).mono ?_; rintro e w ⟨rfl, rfl⟩
  go_wp2_with fail
  refine (size_as _ _ S _).mono ?_; rintro e w ⟨rfl, rfl⟩
  go_wp2_with fail
  refine (slowest2 _ _).mono ?_; rintro e w ⟨rfl, rfl⟩
  go_wp2_with fail
  go_ret
  exact ⟨rfl, rfl⟩
set_option maxHeartbeats 1000000 in
theorem load12_3 (a x : Int) (a0 : 0 ≤ a) (x0 : 0 ≤ x) (x1 : x ≤ 4294967295) (P : Hid (a % 4 = 3)) (w : World) : Calls Tryz.prog 95 #[.int .i64 12, .int .u32 a, .int .u32 x] w fun e w' => e = .returned (.int .u32 0) ∧ w' = w := by
  have F : Hid (Num.ft 12 3 = false) := rfl
  have L : Hid (Num.isl 12 = true) := rfl
  have S : Hid (Num.sz 12 = 2) := rfl
  go_enter Tryz.func95, Tryz.ntmps95
  go_wp2_with fail
  refine (loads_as _ _ L _).mono ?_; rintro e w ⟨rfl, rfl⟩
  go_wp2_with fail
  refine (fits_as _ _ _ _ a0 P F _).mono ?_; rintro e w ⟨rfl, rfl⟩
  go_wp2_with fail
  go_ret
  exact ⟨rfl, rfl⟩
theorem load12 (a x p : Int) (a0 : 0 ≤ a) (x0 : 0 ≤ x) (x1 : x ≤ 4294967295) (P : a % 4 = p) (w : World) : Calls Tryz.prog 95 #[.int .i64 12, .int .u32 a, .int .u32 x] w fun e w' => e = .returned (.int .u32 (Num.ld 12 p x)) ∧ w' = w := by
  subst P
  rcases Num.quarter a with h | h | h | h <;> rw [h]
  · exact load12_0 a x a0 x0 x1 h w
  · exact load12_1 a x a0 x0 x1 h w
  · exact load12_2 a x a0 x0 x1 h w
  · exact load12_3 a x a0 x0 x1 h w
set_option maxHeartbeats 1000000 in
theorem load13_0 (a x : Int) (a0 : 0 ≤ a) (x0 : 0 ≤ x) (x1 : x ≤ 4294967295) (P : Hid (a % 4 = 0)) (w : World) : Calls Tryz.prog 95 #[.int .i64 13, .int .u32 a, .int .u32 x] w fun e w' => e = .returned (.int .u32 (x)) ∧ w' = w := by
  have F : Hid (Num.ft 13 0 = true) := rfl
  have L : Hid (Num.isl 13 = true) := rfl
  have S : Hid (Num.sz 13 = 4) := rfl
  go_enter Tryz.func95, Tryz.ntmps95
  go_wp2_with fail
  refine (loads_as _ _ L _).mono ?_; rintro e w ⟨rfl, rfl⟩
  go_wp2_with fail
  refine (fits_as _ _ _ _ a0 P F _).mono ?_; rintro e w ⟨rfl, rfl⟩
  go_wp2_with fail
  refine (place_as _ _ P.out ((Num.tmod4 a a0).trans P.out) _).mono ?_; rintro e w ⟨rfl, rfl⟩
  go_wp2_with fail
  refine (signed_as _ false rfl rfl _).mono ?_; rintro e w ⟨rfl, rfl⟩
  go_wp2_with fail
  refine (size_as _ _ S _).mono ?_; rintro e w ⟨rfl, rfl⟩
  go_wp2_with fail
  refine (lowest4 _ x0 x1 _).mono ?_; rintro e w ⟨rfl, rfl⟩
  go_wp2_with fail
  go_ret
  exact ⟨rfl, rfl⟩
set_option maxHeartbeats 1000000 in
theorem load13_1 (a x : Int) (a0 : 0 ≤ a) (x0 : 0 ≤ x) (x1 : x ≤ 4294967295) (P : Hid (a % 4 = 1)) (w : World) : Calls Tryz.prog 95 #[.int .i64 13, .int .u32 a, .int .u32 x] w fun e w' => e = .returned (.int .u32 0) ∧ w' = w := by
  have F : Hid (Num.ft 13 1 = false) := rfl
  have L : Hid (Num.isl 13 = true) := rfl
  have S : Hid (Num.sz 13 = 4) := rfl
  go_enter Tryz.func95, Tryz.ntmps95
  go_wp2_with fail
  refine (loads_as _ _ L _).mono ?_; rintro e w ⟨rfl, rfl⟩
  go_wp2_with fail
  refine (fits_as _ _ _ _ a0 P F _).mono ?_; rintro e w ⟨rfl, rfl⟩
  go_wp2_with fail
  go_ret
  exact ⟨rfl, rfl⟩
set_option maxHeartbeats 1000000 in
theorem load13_2 (a x : Int) (a0 : 0 ≤ a) (x0 : 0 ≤ x) (x1 : x ≤ 4294967295) (P : Hid (a % 4 = 2)) (w : World) : Calls Tryz.prog 95 #[.int .i64 13, .int .u32 a, .int .u32 x] w fun e w' => e = .returned (.int .u32 0) ∧ w' = w := by
  have F : Hid (Num.ft 13 2 = false) := rfl
  have L : Hid (Num.isl 13 = true) := rfl
  have S : Hid (Num.sz 13 = 4) := rfl
  go_enter Tryz.func95, Tryz.ntmps95
  go_wp2_with fail
  refine (loads_as _ _ L _).mono ?_; rintro e w ⟨rfl, rfl⟩
  go_wp2_with fail
  refine (fits_as _ _ _ _ a0 P F _).mono ?_; rintro e w ⟨rfl, rfl⟩
  go_wp2_with fail
  go_ret
  exact ⟨rfl, rfl⟩
set_option maxHeartbeats 1000000 in
theorem load13_3 (a x : Int) (a0 : 0 ≤ a) (x0 : 0 ≤ x) (x1 : x ≤ 4294967295) (P : Hid (a % 4 = 3)) (w : World) : Calls Tryz.prog 95 #[.int .i64 13, .int .u32 a, .int .u32 x] w fun e w' => e = .returned (.int .u32 0) ∧ w' = w := by
  have F : Hid (Num.ft 13 3 = false) := rfl
  have L : Hid (Num.isl 13 = true) := rfl
  have S : Hid (Num.sz 13 = 4) := rfl
  go_enter Tryz.func95, Tryz.ntmps95
  go_wp2_with fail
  refine (loads_as _ _ L _).mono ?_; rintro e w ⟨rfl, rfl⟩
  go_wp2_with fail
  refine (fits_as _ _ _ _ a0 P F _).mono ?_; rintro e w ⟨rfl, rfl⟩
  go_wp2_with fail
  go_ret
  exact ⟨rfl, rfl⟩
theorem load13 (a x p : Int) (a0 : 0 ≤ a) (x0 : 0 ≤ x) (x1 : x ≤ 4294967295) (P : a % 4 = p) (w : World) : Calls Tryz.prog 95 #[.int .i64 13, .int .u32 a, .int .u32 x] w fun e w' => e = .returned (.int .u32 (Num.ld 13 p x)) ∧ w' = w := by
  subst P
  rcases Num.quarter a with h | h | h | h <;> rw [h]
  · exact load13_0 a x a0 x0 x1 h w
  · exact load13_1 a x a0 x0 x1 h w
  · exact load13_2 a x a0 x0 x1 h w
  · exact load13_3 a x a0 x0 x1 h w
set_option maxHeartbeats 1000000 in
theorem load14_0 (a x : Int) (a0 : 0 ≤ a) (x0 : 0 ≤ x) (x1 : x ≤ 4294967295) (P : Hid (a % 4 = 0)) (w : World) : Calls Tryz.prog 95 #[.int .i64 14, .int .u32 a, .int .u32 x] w fun e w' => e = .returned (.int .u32 ((x) % 256)) ∧ w' = w := by
  have F : Hid (Num.ft 14 0 = true) := rfl
  have L : Hid (Num.isl 14 = true) := rfl
  have S : Hid (Num.sz 14 = 1) := rfl
  go_enter Tryz.func95, Tryz.ntmps95
  go_wp2_with fail
  refine (loads_as _ _ L _).mono ?_; rintro e w ⟨rfl, rfl⟩
  go_wp2_with fail
  refine (fits_as _ _ _ _ a0 P F _).mono ?_; rintro e w ⟨rfl, rfl⟩
  go_wp2_with fail
  refine (place_as _ _ P.out ((Num.tmod4 a a0).trans P.out) _).mono ?_; rintro e w ⟨rfl, rfl⟩
  go_wp2_with fail
  refine (signed_as _ false rfl rfl _).mono ?_; rintro e w ⟨rfl, rfl⟩
  go_wp2_with fail
  refine (size_as _ _ S _).mono ?_; rintro e w ⟨rfl, rfl⟩
  go_wp2_with fail
  refine (lowest1 _ _).mono ?_; rintro e w ⟨rfl, rfl⟩
  go_wp2_with fail
  go_ret
  exact ⟨rfl, rfl⟩
set_option maxHeartbeats 1000000 in
theorem load14_1 (a x : Int) (a0 : 0 ≤ a) (x0 : 0 ≤ x) (x1 : x ≤ 4294967295) (P : Hid (a % 4 = 1)) (w : World) : Calls Tryz.prog 95 #[.int .i64 14, .int .u32 a, .int .u32 x] w fun e w' => e = .returned (.int .u32 ((x / 256) % 256)) ∧ w' = w := by
  have F : Hid (Num.ft 14 1 = true) := rfl
  have L : Hid (Num.isl 14 = true) := rfl
  have S : Hid (Num.sz 14 = 1) := rfl
  go_enter Tryz.func95, Tryz.ntmps95
  go_wp2_with fail
  refine (loads_as _ _ L _).mono ?_; rintro e w ⟨rfl, rfl⟩
  go_wp2_with fail
  refine (fits_as _ _ _ _ a0 P F _).mono ?_; rintro e w ⟨rfl, rfl⟩
  go_wp2_with fail
  refine (place_as _ _ P.out ((Num.tmod4 a a0).trans P.out) _).mono ?_; rintro e w ⟨rfl, rfl⟩
  go_wp2_with fail
  refine (signed_as _ false rfl rfl _).mono ?_; rintro e w ⟨rfl, rfl⟩
  go_wp2_with fail
  refine (size_as _ _ S _).mono ?_; rintro e w ⟨rfl, rfl⟩
  go_wp2_with fail
  refine (lowest1 _ _).mono ?_; rintro e w ⟨rfl, rfl⟩
  go_wp2_with fail
  go_ret
  exact ⟨rfl, rfl⟩
set_option maxHeartbeats 1000000 in
theorem load14_2 (a x : Int) (a0 : 0 ≤ a) (x0 : 0 ≤ x) (x1 : x ≤ 4294967295) (P : Hid (a % 4 = 2)) (w : World) : Calls Tryz.prog 95 #[.int .i64 14, .int .u32 a, .int .u32 x] w fun e w' => e = .returned (.int .u32 ((x / 65536) % 256)) ∧ w' = w := by
  have F : Hid (Num.ft 14 2 = true) := rfl
  have L : Hid (Num.isl 14 = true) := rfl
  have S : Hid (Num.sz 14 = 1) := rfl
  go_enter Tryz.func95, Tryz.ntmps95
  go_wp2_with fail
  refine (loads_as _ _ L _).mono ?_; rintro e w ⟨rfl, rfl⟩
  go_wp2_with fail
  refine (fits_as _ _ _ _ a0 P F _).mono ?_; rintro e w ⟨rfl, rfl⟩
  go_wp2_with fail
  refine (place_as _ _ P.out ((Num.tmod4 a a0).trans P.out) _).mono ?_; rintro e w ⟨rfl, rfl⟩
  go_wp2_with fail
  refine (signed_as _ false rfl rfl _).mono ?_; rintro e w ⟨rfl, rfl⟩
  go_wp2_with fail
  refine (size_as _ _ S _).mono ?_; rintro e w ⟨rfl, rfl⟩
  go_wp2_with fail
  refine (lowest1 _ _).mono ?_; rintro e w ⟨rfl, rfl⟩
  go_wp2_with fail
  go_ret
  exact ⟨rfl, rfl⟩
set_option maxHeartbeats 1000000 in
theorem load14_3 (a x : Int) (a0 : 0 ≤ a) (x0 : 0 ≤ x) (x1 : x ≤ 4294967295) (P : Hid (a % 4 = 3)) (w : World) : Calls Tryz.prog 95 #[.int .i64 14, .int .u32 a, .int .u32 x] w fun e w' => e = .returned (.int .u32 ((x / 16777216) % 256)) ∧ w' = w := by
  have F : Hid (Num.ft 14 3 = true) := rfl
  have L : Hid (Num.isl 14 = true) := rfl
  have S : Hid (Num.sz 14 = 1) := rfl
  go_enter Tryz.func95, Tryz.ntmps95
  go_wp2_with fail
  refine (loads_as _ _ L _).mono ?_; rintro e w ⟨rfl, rfl⟩
  go_wp2_with fail
  refine (fits_as _ _ _ _ a0 P F _).mono ?_; rintro e w ⟨rfl, rfl⟩
  go_wp2_with fail
  refine (place_as _ _ P.out ((Num.tmod4 a a0).trans P.out) _).mono ?_; rintro e w ⟨rfl, rfl⟩
  go_wp2_with fail
  refine (signed_as _ false rfl rfl _).mono ?_; rintro e w ⟨rfl, rfl⟩
  go_wp2_with fail
  refine (size_as _ _ S _).mono ?_; rintro e w ⟨rfl, rfl⟩
  go_wp2_with fail
  refine (lowest1 _ _).mono ?_; rintro e w ⟨rfl, rfl⟩
  go_wp2_with fail
  go_ret
  exact ⟨rfl, rfl⟩
theorem load14 (a x p : Int) (a0 : 0 ≤ a) (x0 : 0 ≤ x) (x1 : x ≤ 4294967295) (P : a % 4 = p) (w : World) : Calls Tryz.prog 95 #[.int .i64 14, .int .u32 a, .int .u32 x] w fun e w' => e = .returned (.int .u32 (Num.ld 14 p x)) ∧ w' = w := by
  subst P
  rcases Num.quarter a with h | h | h | h <;> rw [h]
  · exact load14_0 a x a0 x0 x1 h w
  · exact load14_1 a x a0 x0 x1 h w
  · exact load14_2 a x a0 x0 x1 h w
  · exact load14_3 a x a0 x0 x1 h w
set_option maxHeartbeats 1000000 in
theorem load15_0 (a x : Int) (a0 : 0 ≤ a) (x0 : 0 ≤ x) (x1 : x ≤ 4294967295) (P : Hid (a % 4 = 0)) (w : World) : Calls Tryz.prog 95 #[.int .i64 15, .int .u32 a, .int .u32 x] w fun e w' => e = .returned (.int .u32 ((x) % 65536)) ∧ w' = w := by
  have F : Hid (Num.ft 15 0 = true) := rfl
  have L : Hid (Num.isl 15 = true) := rfl
  have S : Hid (Num.sz 15 = 2) := rfl
  go_enter Tryz.func95, Tryz.ntmps95
  go_wp2_with fail
  refine (loads_as _ _ L _).mono ?_; rintro e w ⟨rfl, rfl⟩
  go_wp2_with fail
  refine (fits_as _ _ _ _ a0 P F _).mono ?_; rintro e w ⟨rfl, rfl⟩
  go_wp2_with fail
  refine (place_as _ _ P.out ((Num.tmod4 a a0).trans P.out) _).mono ?_; rintro e w ⟨rfl, rfl⟩
  go_wp2_with fail
  refine (signed_as _ false rfl rfl _).mono ?_; rintro e w ⟨rfl, rfl⟩
  go_wp2_with fail
  refine (size_as _ _ S _).mono ?_; rintro e w ⟨rfl, rfl⟩
  go_wp2_with fail
  refine (lowest2 _ _).mono ?_; rintro e w ⟨rfl, rfl⟩
  go_wp2_with fail
  go_ret
  exact ⟨rfl, rfl⟩
set_option maxHeartbeats 1000000 in
theorem load15_1 (a x : Int) (a0 : 0 ≤ a) (x0 : 0 ≤ x) (x1 : x ≤ 4294967295) (P : Hid (a % 4 = 1)) (w : World) : Calls Tryz.prog 95 #[.int .i64 15, .int .u32 a, .int .u32 x] w fun e w' => e = .returned (.int .u32 0) ∧ w' = w := by
  have F : Hid (Num.ft 15 1 = false) := rfl
  have L : Hid (Num.isl 15 = true) := rfl
  have S : Hid (Num.sz 15 = 2) := rfl
  go_enter Tryz.func95, Tryz.ntmps95
  go_wp2_with fail
  refine (loads_as _ _ L _).mono ?_; rintro e w ⟨rfl, rfl⟩
  go_wp2_with fail
  refine (fits_as _ _ _ _ a0 P F _).mono ?_; rintro e w ⟨rfl, rfl⟩
  go_wp2_with fail
  go_ret
  exact ⟨rfl, rfl⟩
set_option maxHeartbeats 1000000 in
theorem load15_2 (a x : Int) (a0 : 0 ≤ a) (x0 : 0 ≤ x) (x1 : x ≤ 4294967295) (P : Hid (a % 4 = 2)) (w : World) : Calls Tryz.prog 95 #[.int .i64 15, .int .u32 a, .int .u32 x] w fun e w' => e = .returned (.int .u32 ((x / 65536) % 65536)) ∧ w' = w := by
  have F : Hid (Num.ft 15 2 = true) := rfl
  have L : Hid (Num.isl 15 = true) := rfl
  have S : Hid (Num.sz 15 = 2) := rfl
  go_enter Tryz.func95, Tryz.ntmps95
  go_wp2_with fail
  refine (loads_as _ _ L _).mono ?_; rintro e w ⟨rfl, rfl⟩
  go_wp2_with fail
  refine (fits_as _ _ _ _ a0 P F _).mono ?_; rintro e w ⟨rfl, rfl⟩
  go_wp2_with fail
  refine (place_as _ _ P.out ((Num.tmod4 a a0).trans P.out) _).mono ?_; rintro e w ⟨rfl, rfl⟩
  go_wp2_with fail
  refine (signed_as _ false rfl rfl _).mono ?_; rintro e w ⟨rfl, rfl⟩
  go_wp2_with fail
  refine (size_as _ _ S _).mono ?_; rintro e w ⟨rfl, rfl⟩
  go_wp2_with fail
  refine (lowest2 _ _).mono ?_; rintro e w ⟨rfl, rfl⟩
  go_wp2_with fail
  go_ret
  exact ⟨rfl, rfl⟩
set_option maxHeartbeats 1000000 in
theorem load15_3 (a x : Int) (a0 : 0 ≤ a) (x0 : 0 ≤ x) (x1 : x ≤ 4294967295) (P : Hid (a % 4 = 3)) (w : World) : Calls Tryz.prog 95 #[.int .i64 15, .int .u32 a, .int .u32 x] w fun e w' => e = .returned (.int .u32 0) ∧ w' = w := by
  have F : Hid (Num.ft 15 3 = false) := rfl
  have L : Hid (Num.isl 15 = true) := rfl
  have S : Hid (Num.sz 15 = 2) := rfl
  go_enter Tryz.func95, Tryz.ntmps95
  go_wp2_with fail
  refine (loads_as _ _ L _).mono ?_; rintro e w ⟨rfl, rfl⟩
  go_wp2_with fail
  refine (fits_as _ _ _ _ a0 P F _).mono ?_; rintro e w ⟨rfl, rfl⟩
  go_wp2_with fail
  go_ret
  exact ⟨rfl, rfl⟩
theorem load15 (a x p : Int) (a0 : 0 ≤ a) (x0 : 0 ≤ x) (x1 : x ≤ 4294967295) (P : a % 4 = p) (w : World) : Calls Tryz.prog 95 #[.int .i64 15, .int .u32 a, .int .u32 x] w fun e w' => e = .returned (.int .u32 (Num.ld 15 p x)) ∧ w' = w := by
  subst P
  rcases Num.quarter a with h | h | h | h <;> rw [h]
  · exact load15_0 a x a0 x0 x1 h w
  · exact load15_1 a x a0 x0 x1 h w
  · exact load15_2 a x a0 x0 x1 h w
  · exact load15_3 a x a0 x0 x1 h w
theorem loadNo (op a x : Int) (L : Hid (Num.isl op = false)) (w : World) : Calls Tryz.prog 95 #[.int .i64 op, .int .u32 a, .int .u32 x] w fun e w' => e = .returned (.int .u32 0) ∧ w' = w := by
  go_enter Tryz.func95, Tryz.ntmps95
  go_wp2_with fail
  refine (loads_as _ _ L _).mono ?_; rintro e w ⟨rfl, rfl⟩
  go_wp2_with fail
  go_ret
  exact ⟨rfl, rfl⟩
theorem load_as (op a x p : Int) (a0 : 0 ≤ a) (x0 : 0 ≤ x) (x1 : x ≤ 4294967295) (P : Hid (a % 4 = p)) (c : Int) (C : Hid (Num.ld op p x = c)) (w : World) : Calls Tryz.prog 95 #[.int .i64 op, .int .u32 a, .int .u32 x] w fun e w' => e = .returned (.int .u32 c) ∧ w' = w := by
  obtain rfl : Num.ld op p x = c := C
  by_cases h11 : op = 11
  · subst h11; exact load11 a x p a0 x0 x1 P w
  by_cases h12 : op = 12
  · subst h12; exact load12 a x p a0 x0 x1 P w
  by_cases h13 : op = 13
  · subst h13; exact load13 a x p a0 x0 x1 P w
  by_cases h14 : op = 14
  · subst h14; exact load14 a x p a0 x0 x1 P w
  by_cases h15 : op = 15
  · subst h15; exact load15 a x p a0 x0 x1 P w
  have z : Num.ld op p x = 0 := by unfold Num.ld; simp only [h11, h12, h13, h14, h15, if_false]
  rw [z]
  exact loadNo op a x (show Num.isl op = false by unfold Num.isl; simp only [h11, h12, h13, h14, h15, if_false]) w
end Go.Proofs.YtpkbkbllhpdfiaaGreat.V.Walks
namespace Go.Proofs.YtpkbkbllhpdfiaaGreat.Walks
open Go.ChangeShapes Go.WideShapes Go.ChangeAt Go.RowKit
set_option linter.unusedVariables false
theorem box_cell (w w' : World) (c : Array Value) (t : TypeId) (F : Fr (w.alloc (.cells c t)) w') (k : Nat) : w'.cell? ⟨w.heap.size, k, none⟩ = c[k]? := by
  rw [F.cell _ _ (by simp), World.cell?_alloc_at _ _ _ _ rfl]
  try rfl
theorem box5 (w w' : World) (o d a b n : Int) (F : Fr (w.alloc (.cells (cells o d a b n) 62)) w') :
    w'.cell? ⟨w.heap.size, 0, none⟩ = some (.int .i64 o) ∧ w'.cell? ⟨w.heap.size, 1, none⟩ = some (.int .i64 d) ∧ w'.cell? ⟨w.heap.size, 2, none⟩ = some (.int .i64 a) ∧ w'.cell? ⟨w.heap.size, 3, none⟩ = some (.int .i64 b) ∧ w'.cell? ⟨w.heap.size, 4, none⟩ = some (.int .i32 n) :=
  ⟨box_cell w w' _ 62 F 0, box_cell w w' _ 62 F 1, box_cell w w' _ 62 F 2, box_cell w w' _ 62 F 3, box_cell w w' _ 62 F 4⟩
end Go.Proofs.YtpkbkbllhpdfiaaGreat.Walks
namespace Go.Proofs.YtpkbkbllhpdfiaaGreat.V.Num
open Go.ChangeShapes Go.WideShapes Go.ChangeAt Go.RowKit
set_option linter.unusedVariables false
theorem and_step (x t : Nat) : x &&& t = (x % 256 &&& t % 256) + 256 * (x / 256 &&& t / 256) := by
  have h := Nat.mod_add_div (x &&& t) 256
  rw [show (256 : Nat) = 2 ^ 8 from rfl, Nat.and_mod_two_pow, Nat.and_div_two_pow] at h
  exact h.symm
theorem or_step (x t : Nat) : x ||| t = (x % 256 ||| t % 256) + 256 * (x / 256 ||| t / 256) := by
  have h := Nat.mod_add_div (x ||| t) 256
  rw [show (256 : Nat) = 2 ^ 8 from rfl, Nat.or_mod_two_pow, Nat.or_div_two_pow] at h
  exact h.symm
theorem and_lt (x t : Nat) (h : t < 256) : x &&& t < 256 := Nat.lt_of_le_of_lt Nat.and_le_right h
/-- one byte of both, and what lies above it -/
theorem both_step (d o t u : Nat) : (d &&& t) ||| (o &&& u) = ((d % 256 &&& t % 256) ||| (o % 256 &&& u % 256)) + 256 * ((d / 256 &&& t / 256) ||| (o / 256 &&& u / 256)) := by
  rw [or_step]
  have e1 : (d &&& t) % 256 = d % 256 &&& t % 256 := Nat.and_mod_two_pow (n := 8)
  have e2 : (o &&& u) % 256 = o % 256 &&& u % 256 := Nat.and_mod_two_pow (n := 8)
  have e3 : (d &&& t) / 256 = d / 256 &&& t / 256 := Nat.and_div_two_pow (n := 8)
  have e4 : (o &&& u) / 256 = o / 256 &&& u / 256 := Nat.and_div_two_pow (n := 8)
  rw [e1, e2, e3, e4]
def mk (c : Bool) : Nat := if c then 255 else 0
def pn (c : Bool) (d o : Nat) : Nat := if c then d else o
theorem and255 (b : Nat) (h : b < 256) : b &&& 255 = b := by
  rw [show (255 : Nat) = 2 ^ 8 - 1 from rfl, Nat.and_two_pow_sub_one_eq_mod]; exact Nat.mod_eq_of_lt h
theorem pick (c : Bool) (a b : Nat) (ha : a < 256) (hb : b < 256) : (a &&& mk c) ||| (b &&& (255 - mk c)) = pn c a b := by
  cases c
  · show (a &&& 0) ||| (b &&& 255) = b
    rw [Nat.and_zero, Nat.zero_or, and255 b hb]
  · show (a &&& 255) ||| (b &&& 0) = a
    rw [Nat.and_zero, Nat.or_zero, and255 a ha]
/-- a mask of bytes, as a number -/
def msk (c0 c1 c2 c3 : Bool) : Nat := mk c0 + 256 * (mk c1 + 256 * (mk c2 + 256 * mk c3))
theorem mk_le (c : Bool) : mk c ≤ 255 := by cases c <;> decide
theorem msk_le (c0 c1 c2 c3 : Bool) : msk c0 c1 c2 c3 ≤ 4294967295 := by
  have := mk_le c0; have := mk_le c1; have := mk_le c2; have := mk_le c3
  unfold msk; omega
theorem merged (c0 c1 c2 c3 : Bool) (d o : Nat) (hd : d < 4294967296) (ho : o < 4294967296) :
    (d &&& msk c0 c1 c2 c3) ||| (o &&& (4294967295 - msk c0 c1 c2 c3)) =
      pn c0 (d % 256) (o % 256) + 256 * (pn c1 (d / 256 % 256) (o / 256 % 256) + 256 * (pn c2 (d / 65536 % 256) (o / 65536 % 256) + 256 * pn c3 (d / 16777216) (o / 16777216))) := by
  have h0 := mk_le c0; have h1 := mk_le c1; have h2 := mk_le c2; have h3 := mk_le c3
  have a0 : msk c0 c1 c2 c3 % 256 = mk c0 := by unfold msk; omega
  have a1 : msk c0 c1 c2 c3 / 256 % 256 = mk c1 := by unfold msk; omega
  have a2 : msk c0 c1 c2 c3 / 256 / 256 % 256 = mk c2 := by unfold msk; omega
  have a3 : msk c0 c1 c2 c3 / 256 / 256 / 256 = mk c3 := by unfold msk; omega
  have b0 : (4294967295 - msk c0 c1 c2 c3) % 256 = 255 - mk c0 := by unfold msk; omega
  have b1 : (4294967295 - msk c0 c1 c2 c3) / 256 % 256 = 255 - mk c1 := by unfold msk; omega
  have b2 : (4294967295 - msk c0 c1 c2 c3) / 256 / 256 % 256 = 255 - mk c2 := by unfold msk; omega
  have b3 : (4294967295 - msk c0 c1 c2 c3) / 256 / 256 / 256 = 255 - mk c3 := by unfold msk; omega
  rw [both_step, a0, b0, pick c0 _ _ (Nat.mod_lt _ (by decide)) (Nat.mod_lt _ (by decide)), both_step, a1, b1, pick c1 _ _ (Nat.mod_lt _ (by decide)) (Nat.mod_lt _ (by decide)),
    both_step, a2, b2, pick c2 _ _ (Nat.mod_lt _ (by decide)) (Nat.mod_lt _ (by decide)), a3, b3, pick c3 _ _ (by omega) (by omega)]
  simp only [Nat.div_div_eq_div_mul]
theorem pn_pk (c : Bool) (a b : Nat) : ((pn c a b : Nat) : Int) = pk c (a : Int) (b : Int) := by cases c <;> rfl
theorem merged_as (c0 c1 c2 c3 : Bool) (d o : Int) (d0 : 0 ≤ d) (d1 : d ≤ 4294967295) (o0 : 0 ≤ o) (o1 : o ≤ 4294967295) :
    bits .or .u32 (bits .and .u32 d (msk c0 c1 c2 c3 : Nat)) (bits .andNot .u32 o (msk c0 c1 c2 c3 : Nat)) = mg c0 c1 c2 c3 o d := by
  obtain ⟨a, rfl⟩ := Int.eq_ofNat_of_zero_le d0
  obtain ⟨b, rfl⟩ := Int.eq_ofNat_of_zero_le o0
  have l := msk_le c0 c1 c2 c3
  have la : a < 4294967296 := by omega
  have lb : b < 4294967296 := by omega
  have k1 : a &&& msk c0 c1 c2 c3 ≤ a := Nat.and_le_left
  have k2 : b &&& (4294967295 - msk c0 c1 c2 c3) ≤ b := Nat.and_le_left
  rw [u32_and_nat _ _ la (by omega), u32_andNot_nat _ _ lb (by omega), u32_or_nat _ _ (by omega) (by omega), merged c0 c1 c2 c3 a b la lb]
  unfold mg
  have e3 : a / 16777216 % 256 = a / 16777216 := by omega
  have f3 : b / 16777216 % 256 = b / 16777216 := by omega
  rw [← e3, ← f3]
  have p0 := pn_pk c0 (a % 256) (b % 256)
  have p1 := pn_pk c1 (a / 256 % 256) (b / 256 % 256)
  have p2 := pn_pk c2 (a / 65536 % 256) (b / 65536 % 256)
  have p3 := pn_pk c3 (a / 16777216 % 256) (b / 16777216 % 256)
  simp only [Int.natCast_emod, Int.natCast_ediv, Int.cast_ofNat_Int] at p0 p1 p2 p3
  rw [← p0, ← p1, ← p2, ← p3]
  generalize pn c0 (a % 256) (b % 256) = z0
  generalize pn c1 (a / 256 % 256) (b / 256 % 256) = z1
  generalize pn c2 (a / 65536 % 256) (b / 65536 % 256) = z2
  generalize pn c3 (a / 16777216 % 256) (b / 16777216 % 256) = z3
  omega
/-- one byte of a word, where it stands -/
theorem byte_at (x s : Nat) (h : x < 4294967296) (hs : s = 0 ∨ s = 8 ∨ s = 16 ∨ s = 24) : x &&& 255 * 2 ^ s = x / 2 ^ s % 256 * 2 ^ s := by
  rcases hs with rfl | rfl | rfl | rfl
  · rw [show 255 * 2 ^ 0 = 2 ^ 8 - 1 from rfl, Nat.and_two_pow_sub_one_eq_mod]; simp
  · rw [show (255 * 2 ^ 8 : Nat) = 65280 from rfl, and_step, show 65280 % 256 = 0 from rfl, show 65280 / 256 = 2 ^ 8 - 1 from rfl, Nat.and_two_pow_sub_one_eq_mod, Nat.and_zero]; omega
  · rw [show (255 * 2 ^ 16 : Nat) = 16711680 from rfl, and_step, show 16711680 % 256 = 0 from rfl, show 16711680 / 256 = 65280 from rfl, and_step (x / 256), show 65280 % 256 = 0 from rfl, show 65280 / 256 = 2 ^ 8 - 1 from rfl, Nat.and_two_pow_sub_one_eq_mod, Nat.and_zero, Nat.and_zero]; omega
  · rw [show (255 * 2 ^ 24 : Nat) = 4278190080 from rfl, and_step, show 4278190080 % 256 = 0 from rfl, show 4278190080 / 256 = 16711680 from rfl, and_step (x / 256), show 16711680 % 256 = 0 from rfl, show 16711680 / 256 = 65280 from rfl,
      and_step (x / 256 / 256), show 65280 % 256 = 0 from rfl, show 65280 / 256 = 2 ^ 8 - 1 from rfl, Nat.and_two_pow_sub_one_eq_mod, Nat.and_zero, Nat.and_zero, Nat.and_zero]; omega
/-- a byte of x laid above what stands below it -/
theorem lay (t x p : Int) (s : Nat) (hs : s = 0 ∨ s = 8 ∨ s = 16 ∨ s = 24) (hp : ((2 ^ s : Nat) : Int) = p) (t0 : 0 ≤ t) (t1 : t < p) (x0 : 0 ≤ x) (x1 : x ≤ 4294967295) : bits .or .u32 t (bits .and .u32 x (255 * p)) = t + p * (x / p % 256) := by
  subst hp
  obtain ⟨a, rfl⟩ := Int.eq_ofNat_of_zero_le t0
  obtain ⟨b, rfl⟩ := Int.eq_ofNat_of_zero_le x0
  have at' : a < 2 ^ s := by exact_mod_cast t1
  have lp : 2 ^ s ≤ 16777216 := by rcases hs with rfl | rfl | rfl | rfl <;> decide
  have l1 : b / 2 ^ s % 256 * 2 ^ s ≤ b := by
    rw [← byte_at b s (by omega) hs]; exact Nat.and_le_left
  rw [show (255 : Int) * ((2 ^ s : Nat) : Int) = ((255 * 2 ^ s : Nat) : Int) by rw [Int.natCast_mul]; rfl, u32_and_nat _ _ (by omega) (by omega), byte_at b s (by omega) hs,
    u32_or_nat _ _ (by omega) (by omega), Nat.or_comm, ← Nat.shiftLeft_eq, ← Nat.shiftLeft_add_eq_or_of_lt at', Nat.shiftLeft_eq, Int.natCast_add, Int.natCast_mul, Int.natCast_emod, Int.natCast_ediv, Int.add_comm, Int.mul_comm]
  rfl
theorem and_one (n : Int) : bits .and .i64 n 1 = n % 2 := by
  have h : (BitVec.ofInt 64 n &&& BitVec.ofInt 64 1).toNat = (n % 18446744073709551616).toNat % 2 := by
    rw [BitVec.toNat_and, show (BitVec.ofInt 64 1).toNat = 2 ^ 1 - 1 from rfl, Nat.and_two_pow_sub_one_eq_mod, BitVec.toNat_ofInt]
    rfl
  show IntKind.i64.wrap ((BitVec.ofInt 64 n &&& BitVec.ofInt 64 1).toNat : Int) = _
  rw [h, IntKind.wrap_i64]
  omega
end Go.Proofs.YtpkbkbllhpdfiaaGreat.V.Num
