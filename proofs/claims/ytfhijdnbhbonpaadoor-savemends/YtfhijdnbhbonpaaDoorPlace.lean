/- Contract of hsiao.place: the bit whose column it is. -/
import Derived.Test.YtfhijdnbhbonpaaDoorSyn
import Derived.Deep.LoopGhost
import Derived.Deep.QuietTactic
import Derived.BigQuiet
import Derived.ChangeAlike
namespace Go.Proofs.YtfhijdnbhbonpaaDoor.Walks
open Go.ChangeShapes Go.WideShapes Go.ChangeAt Go.RowKit
def plI (s : Nat) : Nat := (Num.plc s).getD 0
def plB (s : Nat) : Bool := (Num.plc s).isSome
theorem bit_u (r b : Nat) (h : r < 549755813888) : bits .and .u64 ((r : Int) / 2 ^ b) 1 = ((r / 2 ^ b % 2 : Nat) : Int) := by
  have e : ((r : Int) / 2 ^ b) = ((r / 2 ^ b : Nat) : Int) := by simp
  have l : r / 2 ^ b ≤ r := Nat.div_le_self _ _
  rw [e]
  exact and1 _ (by omega)
theorem bit_i (s k : Nat) (h : s < 128) : IntKind.u64.wrap (bits .and .i64 ((s : Int) / 2 ^ k) 1) = ((s / 2 ^ k % 2 : Nat) : Int) := by
  have e : ((s : Int) / 2 ^ k) = ((s / 2 ^ k : Nat) : Int) := by simp
  have l : s / 2 ^ k ≤ s := Nat.div_le_self _ _
  have a := (i64_bits (s / 2 ^ k) 1 (by omega) (by decide)).1
  have a' : bits .and .i64 ((s / 2 ^ k : Nat) : Int) 1 = ((s / 2 ^ k &&& 1 : Nat) : Int) := a
  have m : s / 2 ^ k % 2 < 2 := Nat.mod_lt _ (by decide)
  rw [e, a', Nat.and_one_is_mod, IntKind.wrap_u64]
  omega
theorem bits_differ (r b s k : Nat) (h : r < 549755813888) (hs : s < 128) : (bits .and .u64 ((r : Int) / 2 ^ b) 1 != IntKind.u64.wrap (bits .and .i64 ((s : Int) / 2 ^ k) 1)) = true ↔ r / 2 ^ b % 2 ≠ s / 2 ^ k % 2 := by
  rw [bit_u r b h, bit_i s k hs, bne_iff_ne]
  omega
set_option maxHeartbeats 1000000 in
theorem place_over (T : Array Value) (hT : Option.map (fun x => x.size) (Tryd.prog.info? 84) = some T.size)
    (hI : ∀ k : Nat, k < 7 → ∀ w : World, (Instr.index 84 (.agg T) (.int .i64 (k : Int))).run Tryd.prog w = .ok (.int .u64 (Num.row k : Nat)) w)
    (s : Nat) (hs : s < 128) (w : World) (t : TypeId) (fr : Nat × Nat) (hg : w.heap[0]? = some (.cells T t fr)) :
    Calls Tryd.prog 50 #[.int .i64 (s : Int)] w fun e w' => e = .returned (.tuple #[.int .i64 (plI s : Nat), .bool (plB s)]) ∧ w'.Alike w := by
  go_enter Tryd.func50, Tryd.ntmps50
  go_wp2
  go_step3
  go_wp2
  go_step3
  go_wp2
  go_loopg [7] 39 (fun g i wx => ∃ b : Nat, b + g = 39 ∧ i = .int .i64 b ∧ Hid (∀ j, j < b → Num.col j ≠ s) ∧ wx.Alike w)
  case atStart => exact ⟨0, rfl, rfl, fun _ h => absurd h (Nat.not_lt_zero _), rfl, rfl, rfl⟩
  case round =>
    obtain ⟨b, hb, rfl, hne, hal⟩ := hrel
    cases gk with
    | zero =>
      have hb39 : b = 39 := by omega
      subst hb39
      go_wp2
      go_ret2
      have hn : Num.plc s = none := Num.plc_none.2 hne.out
      exact ⟨by rw [show plI s = 0 from by unfold plI; rw [hn]; rfl, show plB s = false from by unfold plB; rw [hn]; rfl]; rfl, hal⟩
    | succ g =>
      have hlt : b < 39 := by omega
      have hg' : wr.heap[0]? = some (.cells T t fr) := by rw [hal.1]; exact hg
      go_wp2_with (refine wpList_load_row rfl 84 _ rfl 0 rfl t _ fr _ hg' Tryd.underlying84 rfl hT ?_)
      clear hg' hT
      go_loopg [11] 7 (fun q i wx => ∃ k : Nat, k + q = 7 ∧ i = .int .i64 k ∧ Hid (∀ j, j < k → Num.row j / 2 ^ b % 2 = s / 2 ^ j % 2) ∧ wx.Alike w)
      case atStart => exact ⟨0, rfl, rfl, fun _ h => absurd h (Nat.not_lt_zero _), hal⟩
      case round =>
        obtain ⟨k, hk, rfl, hag, hal'⟩ := hrel
        cases gk with
        | zero =>
          have hk7 : k = 7 := by omega
          subst hk7
          go_wp2
          go_ret2
          have hb' : Num.col b = s := Num.bits7 _ _ (Num.col_lt b hlt) hs fun j hj => by rw [← Num.col_bits b hlt j hj]; exact hag.out j hj
          have hn : Num.plc s = some b := Num.plc_hit hlt hb'
          exact ⟨by rw [show plI s = b from by unfold plI; rw [hn]; rfl, show plB s = true from by unfold plB; rw [hn]; rfl]; rfl, hal'⟩
        | succ q =>
          have hk7 : k < 7 := by omega
          have hix := hI k hk7
          clear hI
          go_wp2_with fail
          go_quiet (fail)
          go_wp2
          · have hd := (bits_differ _ _ _ _ (Num.row_lt k) hs).1 ‹_›
            go_roundg g
            case measure => omega
            case rel =>
              refine ⟨b + 1, by omega, by rw [Int.natCast_add]; rfl, ?_, hal'⟩
              intro j hj
              by_cases hjb : j = b
              · subst hjb
                intro e
                exact hd (by rw [Num.col_bits j hlt k hk7, e])
              · exact hne.out j (by omega)
          · have hd : Num.row k / 2 ^ b % 2 = s / 2 ^ k % 2 := Decidable.byContradiction fun hc => by
              have := (bits_differ _ b s k (Num.row_lt k) hs).2 hc
              simp_all
            go_roundg q
            case measure => omega
            case rel =>
              refine ⟨k + 1, by omega, by rw [Int.natCast_add]; rfl, ?_, hal'⟩
              intro j hj
              by_cases hjb : j = k
              · subst hjb; exact hd
              · exact hag.out j (by omega)
theorem place (s : Int) (h0 : 0 ≤ s) (h1 : s < 128) (w : World) (hL : Laid w) :
    Calls Tryd.prog 50 #[.int .i64 s] w fun e w' => e = .returned (.tuple #[.int .i64 (plI s.toNat : Nat), .bool (plB s.toNat)]) ∧ w'.Alike w := by
  obtain ⟨k, rfl⟩ := Int.eq_ofNat_of_zero_le h0
  obtain ⟨t, fr, hg⟩ := hL
  rw [Int.toNat_natCast]
  exact place_over tab tab_size at_row k (by omega) w t fr hg
end Go.Proofs.YtfhijdnbhbonpaaDoor.Walks
