/- A unit of op, a, b behind k steps: the contracts of New, Step, Steps, Result in these words. -/
import Derived.Test.YtbedgfobbnonjaaEnds
import Derived.Test.YtbedgfobbnonjaaStepD
import Derived.Test.YtbedgfobbnonjaaNew
namespace Go.Proofs.Ytbedgfobbnonjaa.Walks
open Go.ChangeShapes Go.WideShapes Go.ChangeAt Go.RowKit
set_option linter.unusedVariables false
/-- a unit of op, a, b behind k steps lies at block B -/
def At (B : Nat) (op a b : Int) (k : Nat) (w : World) : Prop := Un B op (Num.pr op a b k : Nat) (Num.py op b : Nat) (Num.sg op a b) (k : Int) w
/-- it is so now, and nothing else has turned -/
def Nw (B : Nat) (op a b : Int) (k : Nat) (w w' : World) : Prop := At B op a b k w' ∧ Tch B w w'
/-- it is so, it was made behind w, and nothing that was there ahead of that has turned -/
structure Born (B : Nat) (op a b : Int) (k : Nat) (w w' : World) : Prop where
  at_ : At B op a b k w'
  fr : Fr w w'
  lo : w.heap.size ≤ B
  hi : B < w'.heap.size
theorem Born.now {B : Nat} {op a b : Int} {k j : Nat} {w v w' : World} (h : Born B op a b k w v) (n : Nw B op a b j v w') : Born B op a b j w w' :=
  ⟨n.1, h.fr.tch h.lo n.2, h.lo, by rw [n.2.size]; exact h.hi⟩
theorem Born.far {B C : Nat} {op a b : Int} {k : Nat} {w v w' : World} (h : Born B op a b k w v) (n : Tch C v w') (hc : w.heap.size ≤ C) (ne : B ≠ C) : Born B op a b k w w' :=
  ⟨h.at_.far n ne, h.fr.tch hc n, h.lo, by rw [n.size]; exact h.hi⟩
theorem Born.fr_ {B : Nat} {op a b : Int} {k : Nat} {w v w' : World} (h : Born B op a b k w v) (n : Fr v w') : Born B op a b k w w' :=
  ⟨h.at_.block (n.block B h.hi), h.fr.trans n, h.lo, Nat.lt_of_lt_of_le h.hi n.size⟩
theorem Born.base {B : Nat} {op a b : Int} {k : Nat} {u w v : World} (h : Born B op a b k w v) (n : Fr u w) : Born B op a b k u v :=
  ⟨h.at_, n.trans h.fr, Nat.le_trans n.size h.lo, h.hi⟩
theorem new_as (op a b : Int) (h0 : 38 ≤ op) (h1 : op ≤ 45) (a0 : 0 ≤ a) (a1 : a ≤ 4294967295) (b0 : 0 ≤ b) (b1 : b ≤ 4294967295) (w : World) :
    Calls Try.prog 9 #[.int .i64 op, .int .u32 a, .int .u32 b] w fun e w' => e = .returned (.pointer (some ⟨w.heap.size, 0, none⟩)) ∧ Born w.heap.size op a b 0 w w' := by
  have x := Num.px_is op a a0 a1
  have y := Num.py_is op b b0 b1
  have xl := Num.px_lt op a a0 a1
  refine (new_core op a b (Num.px op a : Nat) (Num.py op b : Nat) _ _ _ _ (Num.sg op a b) h0 h1 rfl rfl (by omega) (by omega) rfl rfl (by unfold Hid; rw [x]; rfl) (by unfold Hid; rw [y]; rfl) rfl w).mono ?_
  rintro e w' ⟨rfl, rfl⟩
  refine ⟨rfl, ⟨?_, (Fr.refl w).alloc _, Nat.le_refl _, by simp⟩⟩
  refine ⟨?_, ?_, ?_, ?_, ?_, ?_, ?_⟩
  · rw [World.cell?_alloc_at _ _ _ _ rfl]; rfl
  · rw [World.cell?_alloc_at _ _ _ _ rfl]; rfl
  · rw [World.cell?_alloc_at _ _ _ _ rfl]; rfl
  · rw [World.cell?_alloc_at _ _ _ _ rfl]; rfl
  · rw [World.cell?_alloc_at _ _ _ _ rfl]; rfl
  · rw [World.frozen?_alloc_at _ _ _ _ rfl]
  · rw [World.frozen?_alloc_at _ _ _ _ rfl]
theorem new_out (op a b : Int) (h : op < 38 ∨ 45 < op) (w : World) : Calls Try.prog 9 #[.int .i64 op, .int .u32 a, .int .u32 b] w fun e w' => e = .returned (.pointer none) ∧ w' = w := by
  rcases h with h | h
  · exact new_low op a b h w
  · exact new_high op a b h w
/-- one step more -/
theorem step_as (B : Nat) (op a b : Int) (k : Nat) (g : Bool) (hk : k ≤ 8) (G : Hid (decide (7 ≤ k) = g)) (a0 : 0 ≤ a) (a1 : a ≤ 4294967295) (b0 : 0 ≤ b) (b1 : b ≤ 4294967295) (w : World) (hA : Hid (At B op a b k w)) :
    Calls Try.prog 10 #[.pointer (some ⟨B, 0, none⟩)] w fun e w' => e = .returned (.bool g) ∧ Nw B op a b (min (k + 1) 8) w w' := by
  have G := G.out
  have A := hA.out
  have xl := Num.px_lt op a a0 a1
  have yl := Num.py_lt op b b0 b1
  by_cases h8 : k = 8
  · subst h8
    rw [← G]
    refine (step_done B _ (by decide) w A.c4).mono ?_
    rintro e w' ⟨rfl, rfl⟩
    exact ⟨rfl, A, Tch.alike (alike_refl _)⟩
  · have m : min (k + 1) 8 = k + 1 := by omega
    have d : decide (8 ≤ (k : Int) + 1) = g := by rw [← G, decide_eq_decide]; omega
    rw [m]
    by_cases ho : op ≤ 41
    · refine (step_mul B op (Num.py op b : Nat) (Num.sg op a b) k (by omega) (decide_eq_true ho) (fun j => (Num.rds (decide (op ≤ 41)) (Num.py op b) (4 * k + j) (Num.px op a) : Nat)) ?_ w A).mono ?_
      · unfold Hid
        intro j hj w
        rw [decide_eq_true ho]
        exact mulBit_as _ _ (Num.mul_lt _ _ xl yl _) yl w
      · rintro e w' ⟨rfl, hn⟩
        exact ⟨by rw [d], by unfold At Num.pr; rw [Nat.mul_add]; exact hn.1, hn.2⟩
    · have of : decide (op ≤ 41) = false := decide_eq_false ho
      refine (step_div B op (Num.py op b : Nat) (Num.sg op a b) k (by omega) of (fun j => (Num.rds (decide (op ≤ 41)) (Num.py op b) (4 * k + j) (Num.px op a) : Nat)) ?_ w A).mono ?_
      · unfold Hid
        intro j hj w
        rw [of]
        exact divBit_as _ _ (Num.div_lt _ _ xl yl _ (by omega)) yl (Num.div_fit _ _ xl yl _ (by omega)) w
      · rintro e w' ⟨rfl, hn⟩
        exact ⟨by rw [d], by unfold At Num.pr; rw [Nat.mul_add]; exact hn.1, hn.2⟩
theorem count_as (B : Nat) (op a b : Int) (k : Nat) (w : World) (hA : Hid (At B op a b k w)) :
    Calls Try.prog 11 #[.pointer (some ⟨B, 0, none⟩)] w fun e w' => e = .returned (.int .i64 k) ∧ w' = w := steps_as B k w hA.out.c4
theorem Nw.same {B : Nat} {op a b : Int} {k : Nat} {w w' : World} (h : At B op a b k w) (e : w'.Alike w) : Nw B op a b k w w' := ⟨Un.alike h e, Tch.alike e⟩
theorem early_as (B : Nat) (op a b : Int) (k : Nat) (hk : k ≤ 7) (w : World) (hA : Hid (At B op a b k w)) :
    Calls Try.prog 12 #[.pointer (some ⟨B, 0, none⟩)] w fun e w' => e = .returned (.tuple #[.int .u32 0, .bool false]) ∧ Nw B op a b k w w' :=
  (result_not B k (by omega) w hA.out.c4).mono fun e w' h => ⟨h.1, Nw.same hA.out h.2⟩
theorem late_as (B : Nat) (op a b c : Int) (h0 : 38 ≤ op) (h1 : op ≤ 45) (a0 : 0 ≤ a) (a1 : a ≤ 4294967295) (b0 : 0 ≤ b) (b1 : b ≤ 4294967295) (C : Hid (Num.ad op a b = c)) (w : World) (hA : Hid (At B op a b 8 w)) :
    Calls Try.prog 12 #[.pointer (some ⟨B, 0, none⟩)] w fun e w' => e = .returned (.tuple #[.int .u32 c, .bool true]) ∧ Nw B op a b 8 w w' := by
  rw [← C.out, ← Num.ends op a b h0 h1 a0 a1 b0 b1]
  exact (result_done B op _ _ _ _ h0 h1 (by decide) w hA.out).mono fun e w' h => ⟨h.1, Nw.same hA.out h.2⟩
end Go.Proofs.Ytbedgfobbnonjaa.Walks
