/- What a step tells, and what it leaves as it was. -/
import Derived.Test.YtpkbkbllhpdfiaaGreatB03
namespace Go.Proofs.YtpkbkbllhpdfiaaGreat.Mod
open Go.ChangeShapes Go.WideShapes Go.ChangeAt Go.RowKit
set_option linter.unusedVariables false
structure Says (s : St) (p : Rt × St) : Prop where
  pc : p.1.pc = s.pc
  d0 : 0 ≤ p.1.d
  d1 : p.1.d ≤ 31
  v0 : p.1.d = 0 → p.1.v = 0
  r : p.1.d = 0 → p.2.r = s.r
  t : p.1.s = false → p.2.t = s.t
  a4 : p.1.s = true → p.1.a % 4 = 0
theorem Says.bare {s s' : St} (hr : s'.r = s.r) (ht : s'.t = s.t) : Says s (Mod.bare s.pc, s') :=
  ⟨rfl, Int.le_refl _, (by show (0 : Int) ≤ 31; decide), fun _ => rfl, fun _ => hr, fun _ => ht, fun h => absurd (show false = true from h) (by decide)⟩
theorem Says.put {s s' : St} (d : Nat) (hd : d < 32) (z : Int) (hr : s'.r = s.r) (ht : s'.t = s.t) : Says s ((Mod.bare s.pc).put d z, s'.put d z) := by
  unfold Rt.put St.put
  by_cases h : d = 0
  · rw [if_pos h, if_pos h]; exact Says.bare hr ht
  · rw [if_neg h, if_neg h]
    refine ⟨rfl, ?_, ?_, ?_, ?_, fun _ => ht, fun x => absurd (show false = true from x) (by decide)⟩
    · show (0 : Int) ≤ d; omega
    · show (d : Int) ≤ 31; omega
    · intro x; exact absurd (show (d : Int) = 0 from x) (by omega)
    · intro x; exact absurd (show (d : Int) = 0 from x) (by omega)
theorem Says.wrt {s s0 : St} (d : Nat) (hd : d < 32) (z : Int) (hp : s.pc = s0.pc) (hr : s.r = s0.r) (ht : s.t = s0.t) : Says s0 (s.wrt d z) := by
  unfold St.wrt
  rw [hp]
  exact Says.put (s := s0) d hd z hr ht
theorem Says.jmp {s s0 : St} (d : Nat) (hd : d < 32) (to : Int) (hp : s.pc = s0.pc) (hr : s.r = s0.r) (ht : s.t = s0.t) : Says s0 (s.jmp d to) := by
  unfold St.jmp
  by_cases e : to % 4 = 0
  · rw [if_pos e, hp]; exact Says.put (s := s0) d hd _ hr ht
  · rw [if_neg e, hp]; exact Says.bare hr ht
theorem Says.lod {s s0 : St} (o : Int) (d : Nat) (hd : d < 32) (a : Int) (hp : s.pc = s0.pc) (hr : s.r = s0.r) (ht : s.t = s0.t) : Says s0 (s.lod o d a) := by
  unfold St.lod
  by_cases e : acb o a = true
  · rw [if_pos e, hp]; exact Says.bare hr ht
  · rw [if_neg e]; exact Says.wrt d hd _ hp hr ht
theorem kp_r (s : St) (a y k : Int) : (s.kp a y k).r = s.r := by
  unfold St.kp
  split
  · rfl
  · split <;> rfl
theorem Says.sto {s s0 : St} (o a n : Int) (hp : s.pc = s0.pc) (hr : s.r = s0.r) (ht : s.t = s0.t) : Says s0 (s.sto o a n) := by
  unfold St.sto
  by_cases e : acb o a = true
  · rw [if_pos e, hp]; exact Says.bare hr ht
  · rw [if_neg e]
    exact ⟨hp, Int.le_refl _, (by show (0 : Int) ≤ 31; decide), fun _ => rfl, fun _ => (kp_r _ _ _ _).trans hr, fun h => absurd (show true = false from h) (by decide), fun _ => by show (a - a % 4) % 4 = 0; omega⟩
theorem Says.csr {s s0 : St} (o : Int) (d : Nat) (hd : d < 32) (k v x : Int) (hp : s.pc = s0.pc) (hr : s.r = s0.r) (ht : s.t = s0.t) : Says s0 (s.csr o d k v x) := by
  unfold St.csr
  by_cases e : k < 0
  · rw [if_pos e, hp]; exact Says.bare hr ht
  · rw [if_neg e]; exact Says.wrt d hd _ hp hr ht
theorem Says.ite {s0 : St} {c : Prop} [Decidable c] {x y : Rt × St} (h1 : Says s0 x) (h2 : Says s0 y) : Says s0 (if c then x else y) := by split <;> assumption
theorem Says.doI {s s0 : St} (o : Int) (d a b : Nat) (hd : d < 32) (n v : Int) (hp : s.pc = s0.pc) (hr : s.r = s0.r) (ht : s.t = s0.t) : Says s0 (s.doI o d a b n v) := by
  have bb : ∀ s', s'.r = s.r → s'.t = s.t → Says s0 (Mod.bare s.pc, s') := fun s' h1 h2 => by rw [hp]; exact Says.bare (h1.trans hr) (h2.trans ht)
  unfold St.doI
  exact .ite (.wrt d hd _ hp hr ht) (.ite (.wrt d hd _ hp hr ht) (.ite (.jmp d hd _ hp hr ht) (.ite (.jmp d hd _ hp hr ht) (.ite (.ite (.jmp 0 (by decide) _ hp hr ht) (bb _ rfl rfl)) (.ite (.lod o d hd _ hp hr ht) (.ite (.sto o _ _ hp hr ht) (.ite (.wrt d hd _ hp hr ht) (.ite (.wrt d hd _ hp hr ht) (.ite (bb _ rfl rfl) (.ite (bb _ rfl rfl) (.ite (bb _ rfl rfl) (.ite (bb _ rfl rfl) (.csr o d hd _ _ _ hp hr ht)))))))))))))
/-- what a step tells -/
theorem says (s : St) : Says s s.stp := by
  unfold St.stp
  refine .ite (.bare rfl rfl) ?_
  by_cases z : Num.op (s.m (s.pc / 4).toNat) = 0
  · rw [if_pos z]; exact .bare rfl rfl
  · rw [if_neg z]
    exact .doI _ _ _ _ (Ins.mk_of _ z).d31 _ _ rfl rfl rfl
end Go.Proofs.YtpkbkbllhpdfiaaGreat.Mod
