/- Contracts of a row's Peek, Get, Scrub. -/
import Derived.Test.YtfhijdnbhbonpaaDoorRow
namespace Go.Proofs.YtfhijdnbhbonpaaDoor.Walks
open Go.ChangeShapes Go.WideShapes Go.ChangeAt Go.RowKit
set_option linter.unusedVariables false
theorem set_other {w : World} {a b : Addr} {v : Value} (h : a ≠ b) : (w.setCell a v).cell? b = w.cell? b := by
  first | exact World.cell?_setCell_other _ _ _ _ h | exact World.cell?_setCell_other _ _ _ h
theorem set_same {w : World} {a : Addr} {u v : Value} (h : w.cell? a = some u) : (w.setCell a v).cell? a = some v := by
  first | exact World.cell?_setCell_same _ _ _ h | exact World.cell?_setCell_same _ _ _ _ h
/-- ws with word i turned into v -/
def upd (ws : Nat → Nat) (i v : Nat) : Nat → Nat := fun k => if k = i then v else ws k
theorem upd_at (ws : Nat → Nat) (i v : Nat) : upd ws i v i = v := by simp [upd]
theorem upd_off (ws : Nat → Nat) (i v k : Nat) (h : k ≠ i) : upd ws i v k = ws k := by simp [upd, h]
theorem Touch.set_d (b d : Nat) (w : World) (o : Nat) (v : Value) : Touch b d w (w.setCell ⟨d, o, none⟩ v) :=
  ⟨rfl, rfl, by simp [World.setCell], fun k _ h => Below.heap_setCell _ _ _ _ h⟩
theorem Touch.set_b (b d : Nat) (w : World) (o : Nat) (v : Value) : Touch b d w (w.setCell ⟨b, o, none⟩ v) :=
  ⟨rfl, rfl, by simp [World.setCell], fun k h _ => Below.heap_setCell _ _ _ _ h⟩
theorem RowAt.put {b d n f : Nat} {ws : Nat → Nat} {w : World} (h : RowAt b d n ws f w) (i v : Nat) (hi : i < n) (hv : v < 549755813888) : RowAt b d n (upd ws i v) f (w.setCell ⟨d, i, none⟩ (.int .u64 v)) := by
  have nb : ∀ o, (⟨d, i, none⟩ : Addr) ≠ ⟨b, o, none⟩ := fun o e => h.ne (by injection e with e1; exact e1.symm)
  refine ⟨by rw [set_other (nb 0)]; exact h.hs, by rw [set_other (nb 1)]; exact h.hf, fun k hk => ?_, by simpa using h.z1, fun k hk => by simpa using h.zw k hk, h.ne, fun k hk => ?_⟩
  · by_cases e : k = i
    · subst e; rw [set_same (h.hw k hk), upd_at]
    · rw [set_other (fun x => e (by injection x with _ x; exact x.symm)), upd_off _ _ _ _ e]; exact h.hw k hk
  · by_cases e : k = i
    · subst e; rw [upd_at]; exact hv
    · rw [upd_off _ _ _ _ e]; exact h.lt k hk
theorem RowAt.fix {b d n f : Nat} {ws : Nat → Nat} {w : World} (h : RowAt b d n ws f w) (g : Nat) : RowAt b d n ws g (w.setCell ⟨b, 1, none⟩ (.int .i64 g)) := by
  have nd : ∀ o, (⟨b, 1, none⟩ : Addr) ≠ ⟨d, o, none⟩ := fun o e => h.ne (by injection e)
  refine ⟨by rw [set_other (by intro e; injection e with _ e; exact absurd e (by decide))]; exact h.hs, set_same h.hf, fun k hk => by rw [set_other (nd k)]; exact h.hw k hk, by simpa using h.z1, fun k hk => by simpa using h.zw k hk, h.ne, h.lt⟩
/-- what looking at word i tells -/
def pkV (n : Nat) (ws : Nat → Nat) (i : Int) : Nat := if inB n i then Num.mendW (ws i.toNat) % 4294967296 else 0
def pkS (n : Nat) (ws : Nat → Nat) (i : Int) : Nat := if inB n i then Num.mendS (ws i.toNat) else 2
/-- the words behind Get(i), and the count -/
def gtW (n : Nat) (ws : Nat → Nat) (i : Int) : Nat → Nat := if inB n i && Num.mendS (ws i.toNat) == 1 then upd ws i.toNat (Num.mendW (ws i.toNat)) else ws
def gtF (n : Nat) (ws : Nat → Nat) (f : Nat) (i : Int) : Nat := if inB n i && Num.mendS (ws i.toNat) == 1 then f + 1 else f
set_option maxHeartbeats 1000000 in
theorem get_out (b d n : Nat) (i : Int) (G : Hid (inB n i = false)) (hn : (n : Int) ≤ 2048) (w : World) (hs : w.cell? ⟨b, 0, none⟩ = some (.slice (some ⟨d, 0, none⟩) n n)) :
    Calls Tryd.prog 40 #[.pointer (some ⟨b, 0, none⟩), .int .i64 i] w fun e w' => e = .returned (.tuple #[.int .u32 0, .int .i64 2]) ∧ w'.Alike w := by
  go_enter Tryd.func40, Tryd.ntmps40
  go_wp2_with fail
  refine (has_as b d n _ false G hn _ hs).mono ?_; rintro e w' ⟨rfl, rfl⟩
  go_wp2_with fail
  go_ret2
  exact ⟨rfl, rfl, rfl, rfl⟩
set_option maxHeartbeats 1000000 in
theorem get_plain (b d n k : Nat) (x s v y : Int) (hk : (k : Int) < n) (hn : (n : Int) ≤ 2048) (v0 : 0 ≤ v) (v1 : v < 549755813888) (Y : Hid (((Num.mendW v.toNat : Nat) : Int) = y)) (YX : Hid (y % 4294967296 = x)) (S : Hid (((Num.mendS v.toNat : Nat) : Int) = s)) (h1 : (s == 1) = false)
    (w : World) (hL : Hid (Laid w)) (hs : w.cell? ⟨b, 0, none⟩ = some (.slice (some ⟨d, 0, none⟩) n n)) (hw : w.cell? ⟨d, k, none⟩ = some (.int .u64 v)) :
    Calls Tryd.prog 40 #[.pointer (some ⟨b, 0, none⟩), .int .i64 (k : Int)] w fun e w' => e = .returned (.tuple #[.int .u32 x, .int .i64 s]) ∧ w'.Alike w := by
  go_enter Tryd.func40, Tryd.ntmps40
  go_wp2_with fail
  refine (has_as b d n _ true (inB_yes (by omega) hk) hn _ hs).mono ?_; rintro e w' ⟨rfl, rfl⟩
  go_wp2_with fail
  refine (mend_as _ _ _ v0 (by omega) Y S _ hL).mono ?_; rintro e w1 ⟨rfl, ha⟩
  have HA : Hid (w1.Alike _) := ha
  clear ha
  go_wp2_with fail
  go_ret2
  exact ⟨by rw [← YX.out]; rfl, HA.out⟩
set_option maxHeartbeats 1000000 in
theorem get_fix (b d n f k : Nat) (x v y : Int) (hbd : b ≠ d) (hk : (k : Int) < n) (hn : (n : Int) ≤ 2048) (hfl : (f : Int) < 4611686018427387904) (v0 : 0 ≤ v) (v1 : v < 549755813888) (Y : Hid (((Num.mendW v.toNat : Nat) : Int) = y)) (YX : Hid (y % 4294967296 = x)) (S : Hid (((Num.mendS v.toNat : Nat) : Int) = 1))
    (w : World) (hL : Hid (Laid w)) (hs : w.cell? ⟨b, 0, none⟩ = some (.slice (some ⟨d, 0, none⟩) n n)) (hw : w.cell? ⟨d, k, none⟩ = some (.int .u64 v)) (hf : w.cell? ⟨b, 1, none⟩ = some (.int .i64 f)) (z1 : w.frozen? ⟨b, 1, none⟩ = false) (zk : w.frozen? ⟨d, k, none⟩ = false) :
    Calls Tryd.prog 40 #[.pointer (some ⟨b, 0, none⟩), .int .i64 (k : Int)] w fun e w' => e = .returned (.tuple #[.int .u32 x, .int .i64 1]) ∧ w'.Alike ((w.setCell ⟨d, k, none⟩ (.int .u64 y)).setCell ⟨b, 1, none⟩ (.int .i64 ((f : Int) + 1))) := by
  go_enter Tryd.func40, Tryd.ntmps40
  go_wp2_with fail
  refine (has_as b d n _ true (inB_yes (by omega) hk) hn _ hs).mono ?_; rintro e w' ⟨rfl, rfl⟩
  go_wp2_with fail
  refine (mend_as _ _ _ v0 (by omega) Y S _ hL).mono ?_; rintro e w1 ⟨rfl, ha⟩
  have hs1 : w1.cell? ⟨b, 0, none⟩ = some (.slice (some ⟨d, 0, none⟩) n n) := by rw [← hs]; exact World.cell?_of_block (by rw [ha.1])
  have hf1 : w1.cell? ⟨b, 1, none⟩ = some (.int .i64 f) := by rw [← hf]; exact World.cell?_of_block (by rw [ha.1])
  have hw1 : w1.cell? ⟨d, k, none⟩ = some (.int .u64 v) := by rw [← hw]; exact World.cell?_of_block (by rw [ha.1])
  have z11 : w1.frozen? ⟨b, 1, none⟩ = false := by rw [← z1]; exact World.frozen?_of_block (by rw [ha.1])
  have zk1 : w1.frozen? ⟨d, k, none⟩ = false := by rw [← zk]; exact World.frozen?_of_block (by rw [ha.1])
  have HA : Hid (w1.Alike _) := ha
  clear ha
  go_wp2_with fail
  go_ret2
  refine ⟨by rw [← YX.out]; rfl, ?_, ?_, ?_⟩
  · simp only [World.setCell]; rw [HA.out.1]
  · exact HA.out.2.1
  · exact HA.out.2.2
end Go.Proofs.YtfhijdnbhbonpaaDoor.Walks
