/- Tells: Contracts of what a machine tells: Halted, Steps, Trace (a clone of what was told). Prefix: Contract of the document's Prefix: a row of the same words. -/
import Derived.Test.YtpkbkbllhpdfiaaGreatB09
import Derived.Laws.AppendOwnNone
import Derived.Laws.Cover3
import Derived.ChangeKeysEq
namespace Go.Proofs.YtpkbkbllhpdfiaaGreat.M
open Go.ChangeShapes Go.WideShapes Go.ChangeAt Go.RowKit Go.Proofs.YtpkbkbllhpdfiaaGreat.Walks Go.Proofs.YtpkbkbllhpdfiaaGreat.Mod
set_option linter.unusedVariables false
set_option maxHeartbeats 400000 in
theorem halted_as (B : Nat) (s : St) (v : Value) (w : World) (hM : Hid (MAt B s v w)) :
    Calls Tryz.prog 17 #[.pointer (some ⟨B, 0, none⟩)] w fun e w' => e = .returned (.tuple #[.int .u32 s.x, .bool s.h]) ∧ w'.Alike w := by
  have c1 := hM.out.x
  have c2 := hM.out.h
  go_enter Tryz.func17, Tryz.ntmps17
  go_wp2_with fail
  go_region
  all_goals
    go_wp2_with fail
    go_ret2
    exact ⟨rfl, rfl, rfl, rfl⟩
set_option maxHeartbeats 400000 in
theorem steps_as (B : Nat) (s : St) (v : Value) (w : World) (hM : Hid (MAt B s v w)) :
    Calls Tryz.prog 19 #[.pointer (some ⟨B, 0, none⟩)] w fun e w' => e = .returned (.int .i64 s.n) ∧ w' = w := by
  have c1 := hM.out.n
  go_enter Tryz.func19, Tryz.ntmps19
  go_wp2_with fail
  go_ret
  exact ⟨rfl, rfl⟩
theorem nil_test (a : Option Addr) (n c : Nat) (W : World) : (binOp .eql 23 (.slice a n c) (.slice none 0 0)).run Tryz.prog W = .ok (.bool a.isNone) W := by
  have h := run_equal_slice_nil (P := Tryz.prog) W 23 36 a n c Tryz.underlying23
  simp [binOp, h]
set_option maxRecDepth 100000 in
set_option maxHeartbeats 400000 in
theorem clone_nil (w : World) : Calls Tryz.prog 36 #[.slice none 0 0] w fun e w' => e = .returned (.slice none 0 0) ∧ w' = w := by
  have A : ∀ W : World, (binOp .eql 23 (.slice none 0 0) (.slice none 0 0)).run Tryz.prog W = .ok (.bool true) W := fun W => nil_test none 0 0 W
  go_enter Tryz.func36, Tryz.ntmps36
  go_wp2_with fail
  go_ret
  exact ⟨rfl, rfl⟩
theorem one_some (t : List Int) : ∀ u ∈ t.map (Value.int .u32), u.oneCell' = true := by
  intro u hu
  obtain ⟨x, _, rfl⟩ := List.mem_map.1 hu
  rfl
set_option maxRecDepth 100000 in
set_option maxHeartbeats 400000 in
theorem clone_some (b o n cap : Nat) (t : List Int) (hl : Hid (t.length = n)) (hn : Hid (n ≤ 100000)) (w : World) (hc : Hid (∀ j u, (t.map (Value.int .u32))[j]? = some u → w.cell? ⟨b, o + j, none⟩ = some u)) (hb : Hid (b < w.heap.size)) :
    Calls Tryz.prog 36 #[.slice (some ⟨b, o, none⟩) n cap] w fun e w' => ∃ v', e = .returned v' ∧ w'.ownsRow w.heap.size 36 1 v' n (t.map (Value.int .u32)) ∧ Fr w w' ∧ v' ≠ .slice none 0 0 := by
  obtain ⟨j0, hi, hz0, hz1, hz2⟩ := info_parts info36
  have O0 : Hid ((w.alloc (.cells #[] 36)).ownsRow w.heap.size 36 1 (.slice (some ⟨w.heap.size, 0, none⟩) 0 0) 0 []) := World.ownsRow_made (base := w.heap.size) (e := 36) (size := 1) w #[] 0 (Nat.le_refl _) (by decide) rfl
  have C1 : Hid (∀ j u, (t.map (Value.int .u32))[j]? = some u → (w.alloc (.cells #[] 36)).cell? ((⟨b, o, none⟩ : Addr).add j) = some u) := fun j u h => by
    rw [Addr.add_lit]
    exact (((Fr.refl w).alloc _).cell _ _ hb.out).trans (hc.out j u h)
  have C2 := hid (one_some t)
  have C3 : Hid (0 + n ≤ maxLen) := by have := hn.out; unfold Hid maxLen; omega
  have C4 : Hid ((0 + n) * 4 ≤ 140737488355328) := by have := hn.out; unfold Hid; omega
  have C0 : Hid ((t.map (Value.int .u32)).length = n * 1) := by have := hl.out; unfold Hid; simp; omega
  have C5 : Hid (w.heap.size ≤ (w.alloc (.cells #[] 36)).heap.size) := by unfold Hid; simp
  have A : ∀ W : World, (binOp .eql 23 (.slice (some ⟨b, o, none⟩) n cap) (.slice none 0 0)).run Tryz.prog W = .ok (.bool false) W := fun W => nil_test _ _ _ W
  go_enter Tryz.func36, Tryz.ntmps36
  go_wp2_with (first | (at_builtin; refine wpList_append_own _ rfl _ _ 23 rfl w.heap.size 36 j0 (.int .u32 0) 1 4 Tryz.underlying23 hi hz0 hz1 hz2 rfl (by decide) _ 0 [] rfl (by exact O0.out) ⟨b, o, none⟩ n cap (t.map (Value.int .u32)) rfl C0.out (by exact C1.out) C2.out C3.out C4.out C5.out ?_))
  intro v' w1 hown hgrow hnil
  obtain ⟨g, cap2, cur, e, hrest⟩ : ∃ g cap2 cur, v' = .slice (some ⟨g, 0, none⟩) n cap2 ∧ True := by
    rcases hown.2 with ⟨rfl, _⟩ | ⟨g, cap2, cur, rfl, _⟩
    · exact (hnil rfl).elim
    · exact ⟨g, cap2, cur, rfl, trivial⟩
  subst e
  have O1 := hid hown
  have F1 : Hid (Fr w w1) := ⟨hgrow.os, hgrow.output, Nat.le_trans C5.out hgrow.size, fun k hk => (hgrow.block k (Nat.lt_of_lt_of_le hk C5.out) (fun x => by have x : k = w.heap.size := by simpa [Value.ownBlock] using x
                                                                                                                                                             omega)).trans (((Fr.refl w).alloc (.cells #[] 36)).block k hk)⟩
  clear hown hgrow hnil
  go_wp2_with fail
  go_ret
  exact ⟨_, rfl, O1.out, F1.out, by simp⟩
end Go.Proofs.YtpkbkbllhpdfiaaGreat.M
namespace Go.Proofs.YtpkbkbllhpdfiaaGreat.M
open Go.ChangeShapes Go.WideShapes Go.ChangeAt Go.RowKit Go.Proofs.YtpkbkbllhpdfiaaGreat.Walks Go.Proofs.YtpkbkbllhpdfiaaGreat.Mod
set_option linter.unusedVariables false
/-- a row's words, and where they lie -/
def RowIn (w : World) (A : Option Addr) (n : Nat) (f : Nat → Int) : Prop := ∀ j, j < n → ∃ b, A = some ⟨b, 0, none⟩ ∧ b < w.heap.size ∧ w.cell? ⟨b, j, none⟩ = some (.int .u32 (f j))
theorem RowIn.fr {w w' : World} {A : Option Addr} {n : Nat} {f : Nat → Int} (h : RowIn w A n f) (F : Fr w w') : RowIn w' A n f := fun j hj => by
  obtain ⟨b, h1, h2, h3⟩ := h j hj
  exact ⟨b, h1, Nat.lt_of_lt_of_le h2 F.size, by rw [F.cell b _ h2]; exact h3⟩
theorem RowIn.alike {w w' : World} {A : Option Addr} {n : Nat} {f : Nat → Int} (h : RowIn w A n f) (k : w'.Alike w) : RowIn w' A n f := h.fr ((Fr.refl w).alike k)
set_option maxRecDepth 100000 in
set_option maxHeartbeats 400000 in
theorem prefix_as (A B : Option Addr) (n ca cb : Nat) (f : Nat → Int) (hn : (n : Int) ≤ 100000) (w : World) (hA : Hid (RowIn w A n f)) (hB : Hid (RowIn w B n f)) :
    Calls Tryz.prog 41 #[.slice A n ca, .slice B n cb] w fun e w' => e = .returned (.bool true) ∧ w'.Alike w := by
  go_enter Tryz.func41, Tryz.ntmps41
  go_wp2_with fail
  go_loopw [13] (fun t wr => ∃ d : Nat, (d : Int) ≤ n ∧ t = .int .i64 d ∧ Hid (wr.Alike w)) (fun t _ => n - (intOf t).toNat)
  case atStart => exact ⟨0, by omega, rfl, rfl, rfl, rfl⟩
  case round =>
    obtain ⟨d, hd, rfl, HD⟩ := hrel
    rename_i wr
    by_cases hlt : (d : Int) < n
    · obtain ⟨a, rfl, a1, a2⟩ := hA.out.alike HD.out d (by omega)
      obtain ⟨b, rfl, b1, b2⟩ := hB.out.alike HD.out d (by omega)
      go_wp2_with fail
      go_quiet (fail)
      go_wp2_with fail
      exact ⟨⟨d + 1, by omega, by rw [Int.natCast_add]; rfl, HD.out⟩, by simp [intOf]; omega⟩
    · go_wp2_with fail
      go_ret
      exact ⟨rfl, HD.out⟩
theorem plain36 : Tryz.prog.plainKey 36 = true := by kernel_rfl
theorem eq36 (d : Nat) (k : Int) (W : World) : (Op.equalIn (d + 1) 36 (.int .u32 k) (.int .u32 k)).run Tryz.prog W = .ok true W := by
  have h := Tryz.underlying36
  simp [Op.equalIn, run_underlying h]
theorem eqs_self (d : Nat) (xs : Array Value) (W : World) : ∀ (l : List Nat), (∀ i ∈ l, ∃ k, xs[i]? = some (.int .u32 k)) → (Op.eqItems (d + 1) 36 1 xs xs l).run Tryz.prog W = .ok true W
  | [], _ => by simp [Op.eqItems]
  | i :: l, h => by
    obtain ⟨k, hk⟩ := h i (by simp)
    have e := run_part_plain W plain36 (xs := xs) (off := i * 1) (v := .int .u32 k) (by rw [Nat.mul_one]; exact hk)
    simp only [Op.eqItems, Sem.run_bind, e, Result.andThen_ok, eq36]
    simpa using eqs_self d xs W l (fun j hj => h j (by simp [hj]))
/-- an array of words is itself -/
theorem eq_self (t n : Nat) (hu : Tryz.prog.underlying t = some (.array n 36)) (xs : Array Value) (h : ∀ i, i < n → ∃ k, xs[i]? = some (.int .u32 k)) (W : World) : (Op.equal t (.agg xs) (.agg xs)).run Tryz.prog W = .ok true W := by
  obtain ⟨j0, hi, hz0, hz1, hz2⟩ := info_parts info36
  have c1 : Tryz.prog.cellsOf 36 = 1 := by kernel_rfl
  have e := run_equalIn_array W 9999 (P := Tryz.prog) xs xs hu hi
  rw [c1, eqs_self 9998 xs W _ (fun i hi => h i (by simpa using hi))] at e
  exact e
theorem neq_self (t n : Nat) (hu : Tryz.prog.underlying t = some (.array n 36)) (xs : Array Value) (h : ∀ i, i < n → ∃ k, xs[i]? = some (.int .u32 k)) (W : World) : (binOp .neq t (.agg xs) (.agg xs)).run Tryz.prog W = .ok (.bool false) W := by
  have e' := eq_self t n hu xs h W
  simp [binOp, e']
end Go.Proofs.YtpkbkbllhpdfiaaGreat.M
