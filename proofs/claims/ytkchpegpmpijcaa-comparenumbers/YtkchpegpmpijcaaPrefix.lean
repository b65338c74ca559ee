/- Contracts of both Prefixes: the program's and the document's. -/
import Derived.Test.YtkchpegpmpijcaaEqs
import Derived.BigQuiet
import Derived.Deep.QuietTactic
namespace Go.Proofs.Ytkchpegpmpijcaa.M
open Go.ChangeShapes Go.WideShapes Go.ChangeAt Go.RowKit Go.Proofs.Ytkchpegpmpijcaa.Walks
set_option linter.unusedVariables false
/-- a row of words lies in memory -/
def WIn (w : World) (A : Option Addr) (n : Nat) (f : Nat → Int) : Prop := ∀ j, j < n → ∃ b o, A = some ⟨b, o, none⟩ ∧ b < w.heap.size ∧ w.cell? ⟨b, o + j, none⟩ = some (.int .u32 (f j))
theorem WIn.fr {w w' : World} {A : Option Addr} {n : Nat} {f : Nat → Int} (h : WIn w A n f) (F : Fr w w') : WIn w' A n f := fun j hj => by
  obtain ⟨b, o, h1, h2, h3⟩ := h j hj
  exact ⟨b, o, h1, Nat.lt_of_lt_of_le h2 F.size, by rw [F.cell b _ h2]; exact h3⟩
theorem WIn.alike {w w' : World} {A : Option Addr} {n : Nat} {f : Nat → Int} (h : WIn w A n f) (k : w'.Alike w) : WIn w' A n f := h.fr ((Fr.refl w).alike k)
theorem WIn.less {w : World} {A : Option Addr} {n m : Nat} {f : Nat → Int} (h : WIn w A n f) (k : m ≤ n) : WIn w A m f := fun j hj => h j (by omega)
/-- is the row of n the beginning of the row of m? -/
def pre (f g : Nat → Int) (n m : Nat) : Bool := decide (n ≤ m) && eqN f g n
theorem pre_long (f g : Nat → Int) (n m : Nat) (h : m < n) : pre f g n m = false := by simp [pre]; omega
theorem pre_fit (f g : Nat → Int) (n m : Nat) (h : n ≤ m) : pre f g n m = eqN f g n := by simp [pre, h]
theorem pre_part {f g : Nat → Int} {n m d : Nat} (hd : d < n) (h : ¬ f d = g d) : pre f g n m = false := by simp [pre, eqN_false hd h]
set_option maxRecDepth 100000 in
set_option maxHeartbeats 800000 in
theorem prefix_as (A B : Option Addr) (n m ca cb : Nat) (f g : Nat → Int) (hn : (n : Int) ≤ 1000000000000000) (hm : (m : Int) ≤ 1000000000000000) (c : Bool) (hc : Hid (pre f g n m = c)) (w : World) (hA : Hid (WIn w A n f)) (hB : Hid (WIn w B m g)) :
    Calls Try.prog 10 #[.slice A n ca, .slice B m cb] w fun e w' => e = .returned (.bool c) ∧ w' = w := by
  by_cases hnm : (n : Int) ≤ m
  · go_enter Try.func10, Try.ntmps10
    go_wp2_with fail
    go_loop [14] (fun t => ∃ d : Nat, (d : Int) ≤ n ∧ t = .int .i64 d ∧ Hid (eqN f g d = true)) (fun t => n - (intOf t).toNat)
    case atStart => exact ⟨0, by omega, rfl, rfl⟩
    case round =>
      obtain ⟨d, hd, rfl, HD⟩ := hrel
      by_cases hlt : (d : Int) < n
      · obtain ⟨a, oa, rfl, a1, a2⟩ := hA.out d (by omega)
        obtain ⟨b, ob, rfl, b1, b2⟩ := hB.out d (by omega)
        by_cases e : f d = g d
        · have E : Hid (eqN f g (d + 1) = true) := by unfold Hid; simp only [eqN, HD.out, Bool.true_and]; simpa using e
          clear HD
          rw [e] at a2
          go_wp2_with fail
          exact ⟨⟨d + 1, by omega, by rw [Int.natCast_add]; rfl, E⟩, by simp [intOf]; omega⟩
        · have E : c = false := by rw [← hc.out]; exact pre_part (by omega) e
          subst E
          go_wp2_with fail
          go_ret
          exact ⟨rfl, rfl⟩
      · obtain rfl : d = n := by omega
        have E : c = true := by rw [← hc.out, pre_fit f g d m (by omega)]; exact HD.out
        subst E
        go_wp2_with fail
        go_ret
        exact ⟨rfl, rfl⟩
  · have E : c = false := by rw [← hc.out]; exact pre_long f g n m (by omega)
    subst E
    go_enter Try.func10, Try.ntmps10
    go_wp2_with fail
    go_ret
    exact ⟨rfl, rfl⟩
set_option maxRecDepth 100000 in
set_option maxHeartbeats 800000 in
theorem rprefix_as (A B : Option Addr) (n m ca cb : Nat) (f g : Nat → Int) (hn : (n : Int) ≤ 1000000000000000) (hm : (m : Int) ≤ 1000000000000000) (c : Bool) (hc : Hid (pre f g n m = c)) (w : World) (hA : Hid (WIn w A n f)) (hB : Hid (WIn w B m g)) :
    Calls Try.prog 13 #[.slice A n ca, .slice B m cb] w fun e w' => e = .returned (.bool c) ∧ w'.Alike w := by
  by_cases hnm : (n : Int) ≤ m
  · go_enter Try.func13, Try.ntmps13
    go_wp2_with fail
    go_loopw [13] (fun t wr => ∃ d : Nat, (d : Int) ≤ n ∧ t = .int .i64 d ∧ Hid (eqN f g d = true ∧ wr.Alike w)) (fun t _ => n - (intOf t).toNat)
    case atStart => exact ⟨0, by omega, rfl, rfl, rfl, rfl, rfl⟩
    case round =>
      obtain ⟨d, hd, rfl, HD⟩ := hrel
      rename_i wr
      by_cases hlt : (d : Int) < n
      · obtain ⟨a, oa, rfl, a1, a2⟩ := hA.out.alike HD.out.2 d (by omega)
        obtain ⟨b, ob, rfl, b1, b2⟩ := hB.out.alike HD.out.2 d (by omega)
        by_cases e : f d = g d
        · have E : Hid (eqN f g (d + 1) = true ∧ wr.Alike w) := ⟨by simp only [eqN, HD.out.1, Bool.true_and]; simpa using e, HD.out.2⟩
          clear HD
          rw [e] at a2
          go_wp2_with fail
          go_quiet (fail)
          go_wp2_with fail
          exact ⟨⟨d + 1, by omega, by rw [Int.natCast_add]; rfl, E⟩, by simp [intOf]; omega⟩
        · have E : c = false := by rw [← hc.out]; exact pre_part (by omega) e
          subst E
          go_wp2_with fail
          go_quiet (fail)
          go_wp2_with fail
          go_ret
          exact ⟨rfl, HD.out.2⟩
      · obtain rfl : d = n := by omega
        have E : c = true := by rw [← hc.out, pre_fit f g d m (by omega)]; exact HD.out.1
        subst E
        go_wp2_with fail
        go_ret
        exact ⟨rfl, HD.out.2⟩
  · have E : c = false := by rw [← hc.out]; exact pre_long f g n m (by omega)
    subst E
    go_enter Try.func13, Try.ntmps13
    go_wp2_with fail
    go_ret
    exact ⟨rfl, rfl, rfl, rfl⟩
set_option maxRecDepth 100000 in
/-- the program's own: rows of the same words -/
theorem words_as (A B : Option Addr) (n m ca cb : Nat) (f g : Nat → Int) (hn : (n : Int) ≤ 1000000000000000) (hm : (m : Int) ≤ 1000000000000000) (c : Bool) (hc : Hid ((decide (n = m) && eqN f g n) = c)) (w : World) (hA : Hid (WIn w A n f)) (hB : Hid (WIn w B m g)) :
    Calls Try.prog 15 #[.slice A n ca, .slice B m cb] w fun e w' => e = .returned (.bool c) ∧ w' = w := by
  by_cases e : (n : Int) = m
  · obtain rfl : n = m := by omega
    have E : Hid (pre f g n n = c) := by unfold Hid; rw [← hc.out, pre_fit f g n n (Nat.le_refl _)]; simp
    clear hc e
    go_enter Try.func15, Try.ntmps15
    go_wp2_with fail
    refine (prefix_as A B n n ca cb f g hn hm c E _ hA hB).mono ?_; rintro e w ⟨rfl, rfl⟩
    go_wp2_with fail
    go_ret
    exact ⟨rfl, rfl⟩
  · have E : c = false := by rw [← hc.out]; simp; omega
    subst E
    have e' : ((n : Int) == m) = false := by simpa using e
    go_enter Try.func15, Try.ntmps15
    go_wp2_with fail
    go_ret
    exact ⟨rfl, rfl⟩
end Go.Proofs.Ytkchpegpmpijcaa.M
