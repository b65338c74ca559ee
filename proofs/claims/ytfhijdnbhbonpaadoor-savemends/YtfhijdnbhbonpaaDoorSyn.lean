/- Contract of hsiao.Syndrome: the syndrome of the code. -/
import Derived.Test.YtfhijdnbhbonpaaDoorRows
import Derived.Test.YtfhijdnbhbonpaaDoorPar
import Derived.Test.YtfhijdnbhbonpaaDoorCode
import Derived.WalkKit
import Derived.ProofKit
import Derived.OpenShut
import Derived.WalkSpells
import Derived.LoopTactic
import Derived.Laws.Rows
import Derived.Lib.LaidTab
namespace Go.Proofs.YtfhijdnbhbonpaaDoor.Walks
open Go.ChangeShapes Go.WideShapes Go.ChangeAt Go.RowKit
/-- the table's cells -/
def tab : Array Value := #[.int .u64 5447429303, .int .u64 10893808987, .int .u64 17488452205, .int .u64 34955912078, .int .u64 69727093744, .int .u64 140661226496, .int .u64 279171825664]
/-- the table lies in block 0 -/
def Laid (w : World) : Prop := ∃ t fr, w.heap[0]? = some (.cells tab t fr)
theorem at_row (k : Nat) (hk : k < 7) (w : World) : (Instr.index 84 (.agg tab) (.int .i64 (k : Int))).run Tryd.prog w = .ok (.int .u64 (Num.row k : Nat)) w := by
  have i0 : ∀ w : World, (Instr.index 84 (.agg tab) (.int .i64 ((0 : Nat) : Int))).run Tryd.prog w = .ok (.int .u64 (Num.row 0 : Nat)) w := fun _ => by kernel_rfl
  have i1 : ∀ w : World, (Instr.index 84 (.agg tab) (.int .i64 ((1 : Nat) : Int))).run Tryd.prog w = .ok (.int .u64 (Num.row 1 : Nat)) w := fun _ => by kernel_rfl
  have i2 : ∀ w : World, (Instr.index 84 (.agg tab) (.int .i64 ((2 : Nat) : Int))).run Tryd.prog w = .ok (.int .u64 (Num.row 2 : Nat)) w := fun _ => by kernel_rfl
  have i3 : ∀ w : World, (Instr.index 84 (.agg tab) (.int .i64 ((3 : Nat) : Int))).run Tryd.prog w = .ok (.int .u64 (Num.row 3 : Nat)) w := fun _ => by kernel_rfl
  have i4 : ∀ w : World, (Instr.index 84 (.agg tab) (.int .i64 ((4 : Nat) : Int))).run Tryd.prog w = .ok (.int .u64 (Num.row 4 : Nat)) w := fun _ => by kernel_rfl
  have i5 : ∀ w : World, (Instr.index 84 (.agg tab) (.int .i64 ((5 : Nat) : Int))).run Tryd.prog w = .ok (.int .u64 (Num.row 5 : Nat)) w := fun _ => by kernel_rfl
  have i6 : ∀ w : World, (Instr.index 84 (.agg tab) (.int .i64 ((6 : Nat) : Int))).run Tryd.prog w = .ok (.int .u64 (Num.row 6 : Nat)) w := fun _ => by kernel_rfl
  match k, hk with
  | 0, _ => exact i0 w
  | 1, _ => exact i1 w
  | 2, _ => exact i2 w
  | 3, _ => exact i3 w
  | 4, _ => exact i4 w
  | 5, _ => exact i5 w
  | 6, _ => exact i6 w
theorem i64_bits (a b : Nat) (ha : a < 9223372036854775808) (hb : b < 9223372036854775808) :
    bits .and .i64 (a : Int) (b : Int) = ((a &&& b : Nat) : Int) ∧ bits .or .i64 (a : Int) (b : Int) = ((a ||| b : Nat) : Int) := by
  have h := bits_nat .i64 63 (by decide) (fun n h0 h1 => by rw [IntKind.wrap_i64]; omega) a b ha hb
  exact h
theorem i64_xor (a b : Nat) (ha : a < 9223372036854775808) (hb : b < 9223372036854775808) : bits .xor .i64 (a : Int) (b : Int) = ((a ^^^ b : Nat) : Int) := by
  show IntKind.i64.wrap ((BitVec.ofInt 64 (a : Int) ^^^ BitVec.ofInt 64 (b : Int)).toNat : Int) = _
  have hx : a ^^^ b < 2 ^ 63 := Nat.xor_lt_two_pow (by omega) (by omega)
  have e : (BitVec.ofInt 64 (a : Int) ^^^ BitVec.ofInt 64 (b : Int)).toNat = a ^^^ b := by
    rw [BitVec.toNat_xor, BitVec.ofInt_natCast, BitVec.ofInt_natCast, BitVec.toNat_ofNat, BitVec.toNat_ofNat, Nat.mod_eq_of_lt (by omega), Nat.mod_eq_of_lt (by omega)]
  rw [e, IntKind.wrap_i64]
  generalize a ^^^ b = x at hx
  omega
theorem wrap64_nat (x : Nat) (h : x < 9223372036854775808) : wrap64 (x : Int) = (x : Int) := w64_small x h
theorem step_or (k s p : Nat) (hk : k < 7) (hs : s < 2 ^ k) (hp : p < 2) : bits .or .i64 (s : Int) (wrap64 (wrap64 (p : Int) * 2 ^ k)) = ((s + 2 ^ k * p : Nat) : Int) := by
  have h7 : 2 ^ k < 2 ^ 7 := Nat.pow_lt_pow_right (by decide) hk
  have hq : 2 ^ k * p ≤ 2 ^ k * 1 := Nat.mul_le_mul_left _ (by omega)
  have e : (p : Int) * 2 ^ k = ((2 ^ k * p : Nat) : Int) := by simp [Int.mul_comm]
  have o : 2 ^ k * p ||| s = s + 2 ^ k * p := by rw [← Nat.two_pow_add_eq_or_of_lt hs]; omega
  rw [wrap64_nat p (by omega), e, wrap64_nat _ (by omega), (i64_bits _ _ (by omega) (by omega)).2, Nat.or_comm, o]
set_option maxHeartbeats 1000000 in
theorem syndrome_over (T : Array Value) (hT : Option.map (fun x => x.size) (Tryd.prog.info? 84) = some T.size)
    (hI : ∀ k : Nat, k < 7 → ∀ w : World, (Instr.index 84 (.agg T) (.int .i64 (k : Int))).run Tryd.prog w = .ok (.int .u64 (Num.row k : Nat)) w)
    (n : Nat) (hn : n < 18446744073709551616) (w : World) (t : TypeId) (fr : Nat × Nat) (hg : w.heap[0]? = some (.cells T t fr)) :
    Calls Tryd.prog 45 #[.int .u64 (n : Int)] w fun e w' => e = .returned (.int .i64 (Num.syn n : Nat)) ∧ w' = w := by
  go_enter Tryd.func45, Tryd.ntmps45
  go_wp2_with (refine wpList_load_row rfl 84 _ rfl 0 rfl t _ fr _ hg Tryd.underlying84 rfl hT ?_)
  go_loop [3, 7] (fun s i => ∃ k : Nat, k ≤ 7 ∧ i = .int .i64 k ∧ s = .int .i64 (Num.synK k n : Nat)) (fun _ i => 7 - (intOf i).toNat)
  case atStart => exact ⟨0, Nat.zero_le _, rfl, rfl⟩
  case round =>
    obtain ⟨k, hk, rfl, rfl⟩ := hrel
    clear hT
    by_cases hlt : k < 7
    · have hix := hI k hlt
      clear hI
      have hr : Hid (Num.row k < 549755813888) := Num.row_lt k
      obtain ⟨p, P, hp, hpk⟩ : ∃ p : Nat, Hid (((Num.par (bits .and .u64 (n : Int) (Num.row k : Nat)).toNat : Nat) : Int) = p) ∧ Hid (p < 2) ∧ Hid (p = Num.par (n &&& Num.row k)) := by
        refine ⟨Num.par (n &&& Num.row k), ?_, Num.par_lt _, rfl⟩
        unfold Hid
        rw [u64_and_nat _ _ hn (by have := hr.out; omega), Int.toNat_natCast]
      generalize hre : Num.row k = r at *
      have hre' : Hid (Num.row k = r) := hre
      clear hre
      go_wp2_with fail
      refine (of_as _ _ (bits_lo_u64 _ _ _) (bits_lt _ _ _) P _).mono ?_; rintro e w' ⟨rfl, rfl⟩
      go_wp2_with fail
      refine ⟨⟨k + 1, hlt, by rw [Int.natCast_add]; rfl, ?_⟩, by simp [intOf]; omega⟩
      rw [step_or k _ p (by omega) (Num.synK_lt k n) hp.out, hpk.out, ← hre'.out]
      rfl
    · have h7 : k = 7 := by omega
      subst h7
      go_wp2
      go_ret
      exact ⟨rfl, rfl⟩
theorem tab_size : Option.map (fun x => x.size) (Tryd.prog.info? 84) = some tab.size := by kernel_rfl
theorem syndrome (n : Int) (h0 : 0 ≤ n) (h1 : n < 18446744073709551616) (w : World) (hL : Laid w) :
    Calls Tryd.prog 45 #[.int .u64 n] w fun e w' => e = .returned (.int .i64 (Num.syn n.toNat : Nat)) ∧ w' = w := by
  obtain ⟨k, rfl⟩ := Int.eq_ofNat_of_zero_le h0
  obtain ⟨t, fr, hg⟩ := hL
  rw [Int.toNat_natCast]
  exact syndrome_over tab tab_size at_row k (by omega) w t fr hg
end Go.Proofs.YtfhijdnbhbonpaaDoor.Walks
