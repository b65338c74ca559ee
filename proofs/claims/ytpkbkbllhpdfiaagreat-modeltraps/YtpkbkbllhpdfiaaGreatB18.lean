/- Do: Contract of the program's do, for any instruction. Step: Contract of the program's Step. Run: Contract of the program's Run. RDoA: The document's do, class by class: what it calls, in which words. RStp: Contract of the document's Step: what it calls, in which words. RDoM: The document's do: a fence, and a return from a trap. -/
import Derived.Test.YtpkbkbllhpdfiaaGreatB14
import Derived.Test.YtpkbkbllhpdfiaaGreatB15
import Derived.Test.YtpkbkbllhpdfiaaGreatB16
import Derived.Test.YtpkbkbllhpdfiaaGreatB17
import Derived.Test.YtpkbkbllhpdfiaaGreatB03
import Derived.Test.YtpkbkbllhpdfiaaGreatB07
import Derived.Test.YtpkbkbllhpdfiaaGreatB09
namespace Go.Proofs.YtpkbkbllhpdfiaaGreat.M
open Go.ChangeShapes Go.WideShapes Go.ChangeAt Go.RowKit Go.Proofs.YtpkbkbllhpdfiaaGreat.Walks Go.Proofs.YtpkbkbllhpdfiaaGreat.Mod
set_option linter.unusedVariables false
theorem nxt_of {B : Nat} {v : Value} {s' : St} {w : World} {f : Nat} {args : Array Value} {e0 : Ending} (h : Calls Tryz.prog f args w fun e w' => e = e0 ∧ Now B v s' w w') : Calls Tryz.prog f args w fun e w' => e = e0 ∧ Nxt B v s' w w' :=
  h.mono fun _ _ x => ⟨x.1, x.2.nxt⟩
/-- what a loaded word is -/
theorem loads_as (B : Nat) (s s' : St) (v : Value) (o n : Int) (a b d : Nat) (h0 : 11 ≤ o) (h1 : o ≤ 15) (ha : a < 32) (hd : d < 32) (I : Inv s) (q1 q2 q3 : Int) (q4 : Bool) (q5 q6 q7 : Int)
    (E : s.lod o d ((s.r a + n % 4294967296) % 4294967296) = (⟨q1, q2, q3, q4, q5, q6, q7⟩, s')) (w : World) (hM : MAt B s v w) :
    Calls Tryz.prog 53 #[.pointer (some ⟨B, 0, none⟩), .agg (cells o d a b n)] w fun e w' => e = .returned (.agg (rc q1 q2 q3 q4 q5 q6 q7)) ∧ Nxt B v s' w w' := by
  have aw := W32.mod (s.r a + n % 4294967296)
  generalize hA : (s.r a + n % 4294967296) % 4294967296 = A at *
  unfold St.lod at E
  by_cases g : acb o A = true
  · rw [if_pos g] at E
    obtain ⟨rfl, rfl, rfl, rfl, rfl, rfl, rfl, rfl⟩ := bare_is E
    exact nxt_of (loads_bad B s v o n _ _ A _ a b d (by omega) rfl rfl hA aw.1 rfl (Mod.acc_in o A) g w hM)
  · rw [if_neg g] at E
    have g' : acb o A = false := by simpa using g
    have l := acb_load o A h0 h1 g'
    have a0 := aw.1
    have m := I.m (A / 4).toNat (by omega)
    exact nxt_of (loads_good B s v o n _ _ A _ _ _ a b d (A / 4).toNat (by omega) (by omega) q1 q2 q3 q4 q5 q6 q7 s' rfl rfl hA aw.1 rfl g' (by omega) (by omega) rfl m rfl E I.p.1 I.p.2 w hM)
theorem stores_as (B : Nat) (s s' : St) (v : Value) (o n : Int) (a b d : Nat) (h0 : 16 ≤ o) (h1 : o ≤ 18) (ha : a < 32) (hb : b < 32) (I : Inv s) (hl : s.t.length ≤ 100000) (q1 q2 q3 : Int) (q4 : Bool) (q5 q6 q7 : Int)
    (E : s.sto o ((s.r a + n % 4294967296) % 4294967296) (s.r b) = (⟨q1, q2, q3, q4, q5, q6, q7⟩, s')) (w : World) (hM : MAt B s v w) :
    Calls Tryz.prog 54 #[.pointer (some ⟨B, 0, none⟩), .agg (cells o d a b n)] w fun e w' => e = .returned (.agg (rc q1 q2 q3 q4 q5 q6 q7)) ∧ Nxt B v s' w w' := by
  have aw := W32.mod (s.r a + n % 4294967296)
  generalize hA : (s.r a + n % 4294967296) % 4294967296 = A at *
  unfold St.sto at E
  by_cases g : acb o A = true
  · rw [if_pos g] at E
    obtain ⟨rfl, rfl, rfl, rfl, rfl, rfl, rfl, rfl⟩ := bare_is E
    exact nxt_of (stores_bad B s v o n _ _ A _ a b d (by omega) rfl rfl hA aw.1 rfl (Mod.acc_in o A) g w hM)
  · rw [if_neg g] at E
    have g' : acb o A = false := by simpa using g
    have l := acb_store o A h0 h1 g'
    have rb := I.r b hb
    have a0 := aw.1
    obtain ⟨e1, e2⟩ := Prod.mk.inj E
    injection e1 with e1 f2 f3 f4 f5 f6 f7
    subst e1 f2 f3 f4 f5 f6 f7 e2
    have y := W32.st o (A % 4) rb (Mod.quarter A)
    refine stores_good B s v o n _ _ _ A _ _ _ _ _ 0 a b d (by omega) (by omega) _ rfl rfl rb rfl hA (clear3 aw) aw rfl g' rfl rfl rfl ?_ w hM
    intro w2 h2
    exact keep_as B (s.go (if A = 268435460 then s.pc else s.nx)) _ v s.pc 0 0 true (A - A % 4) _ _ (by omega) (fun i hi => I.m i hi) y.1 y.2 hl rfl w2 h2
theorem swaps_as (B : Nat) (s s' : St) (v : Value) (o n vv : Int) (a b d : Nat) (h0 : 50 ≤ o) (h1 : o ≤ 55) (ha : a < 32) (hd : d < 32) (n0 : 0 ≤ n) (n1 : n ≤ 4095) (I : Inv s) (q1 q2 q3 : Int) (q4 : Bool) (q5 q6 q7 : Int)
    (E : s.csr o d (T.Num.ix n) vv (if o ≤ 52 then s.r a else (a : Int)) = (⟨q1, q2, q3, q4, q5, q6, q7⟩, s')) (w : World) (hM : MAt B s v w) :
    Calls Tryz.prog 57 #[.pointer (some ⟨B, 0, none⟩), .agg (cells o d a b n), .int .u32 vv] w fun e w' => e = .returned (.agg (rc q1 q2 q3 q4 q5 q6 q7)) ∧ Nxt B v s' w w' := by
  unfold St.csr at E
  rcases ix_in n with k | ⟨k0, k1⟩
  · rw [k, if_pos (by decide)] at E
    obtain ⟨rfl, rfl, rfl, rfl, rfl, rfl, rfl, rfl⟩ := bare_is E
    exact nxt_of (swaps_bad B s v o n vv a b d n0 n1 k w hM)
  · rw [if_neg (by omega)] at E
    obtain ⟨k, hk⟩ := Int.eq_ofNat_of_zero_le k0
    rw [hk] at E k1
    have xw : W32 (if o ≤ 52 then s.r a else (a : Int)) := .ite (I.r a ha) (by unfold W32; omega)
    have cw := W32.csv o (s.c k) xw
    exact nxt_of (swaps_good B s v o n vv _ _ _ _ _ a b d k n0 n1 ⟨h0, h1⟩ (by unfold Hid; omega) (by unfold Hid; omega) k1 (by omega) q1 q2 q3 q4 q5 q6 q7 s' hk rfl rfl rfl rfl (csz_is k _ cw.1 cw.2) E I.p w hM)
theorem branches_as (B : Nat) (s s' : St) (v : Value) (o n : Int) (a b d : Nat) (ha : a < 32) (hb : b < 32) (I : Inv s) (q1 q2 q3 : Int) (q4 : Bool) (q5 q6 q7 : Int)
    (E : (if U.Num.tk o (s.r a) (s.r b) = true then s.jmp 0 ((s.pc + n % 4294967296) % 4294967296) else (bare s.pc, s.go s.nx)) = (⟨q1, q2, q3, q4, q5, q6, q7⟩, s')) (w : World) (hM : MAt B s v w) :
    Calls Tryz.prog 52 #[.pointer (some ⟨B, 0, none⟩), .agg (cells o d a b n)] w fun e w' => e = .returned (.agg (rc q1 q2 q3 q4 q5 q6 q7)) ∧ Nxt B v s' w w' :=
  nxt_of (branches_in B s v o n _ _ _ _ _ a b d (by omega) (by omega) q1 q2 q3 q4 q5 q6 q7 s' rfl rfl rfl rfl rfl (W32.mod _) E I.p.1 I.p.2 w hM)
theorem do_as (B : Nat) (s s' : St) (v : Value) (vv o n : Int) (d a b : Nat) (hi : Ins vv o n d a b) (I : Inv s) (hl : s.t.length ≤ 100000) (q : Rt) (E : Hid (s.doI o d a b n vv = (q, s'))) (w : World) (hM : Hid (MAt B s v w)) :
    Calls Tryz.prog 35 #[.pointer (some ⟨B, 0, none⟩), .agg (cells o d a b n), .int .u32 vv] w fun e w' => e = .returned (.agg (rc q.pc q.v q.d q.s q.a q.y q.k)) ∧ Nxt B v s' w w' := by
  obtain ⟨q1, q2, q3, q4, q5, q6, q7⟩ := q
  have E := E.out
  have ha := hi.a31
  have hb := hi.b31
  have hd := hi.d31
  have o1 := hi.o1
  have o55 := hi.o55
  have hc := hi.csr
  have ra := I.r a ha
  have rb := I.r b hb
  have un := W32.mod n
  clear hi
  have p : o = 1 ∨ o = 2 ∨ o = 3 ∨ o = 4 ∨ (5 ≤ o ∧ o ≤ 10) ∨ (11 ≤ o ∧ o ≤ 15) ∨ (16 ≤ o ∧ o ≤ 18) ∨ (19 ≤ o ∧ o ≤ 27) ∨ (28 ≤ o ∧ o ≤ 45) ∨ o = 46 ∨ o = 47 ∨ o = 48 ∨ o = 49 ∨ (50 ≤ o ∧ o ≤ 55) := by omega
  rcases p with rfl | rfl | rfl | rfl | p | p | p | p | p | rfl | rfl | rfl | rfl | p
  · rw [doI1] at E; exact do1 B s s' v n _ _ 0 0 vv a b d (by omega) q1 q2 q3 q4 q5 q6 q7 rfl rfl rfl (fun w h => nxt_of (writes_as B s v _ d (by omega) ⟨q1, q2, q3, q4, q5, q6, q7⟩ s' E I.p.1 I.p.2 w h)) w hM
  · rw [doI2] at E; exact do2 B s s' v n _ _ 0 _ vv a b d (by omega) q1 q2 q3 q4 q5 q6 q7 rfl rfl rfl rfl rfl (fun w h => nxt_of (writes_as B s v _ d (by omega) ⟨q1, q2, q3, q4, q5, q6, q7⟩ s' E I.p.1 I.p.2 w h)) w hM
  · rw [doI3] at E; have t := W32.mod (s.pc + n % 4294967296); exact do3 B s s' v n _ _ 0 _ vv a b d (by omega) q1 q2 q3 q4 q5 q6 q7 rfl rfl rfl rfl rfl (fun w h => nxt_of (jumps_as B s v _ t.1 t.2 d (by omega) ⟨q1, q2, q3, q4, q5, q6, q7⟩ s' E I.p.1 I.p.2 w h)) w hM
  · rw [doI4] at E; have t := W32.bits .andNot ((s.r a + n % 4294967296) % 4294967296) 1; exact do4 B s s' v n _ _ _ _ vv a b d (by omega) q1 q2 q3 q4 q5 q6 q7 rfl rfl rfl rfl rfl rfl (fun w h => nxt_of (jumps_as B s v _ t.1 t.2 d (by omega) ⟨q1, q2, q3, q4, q5, q6, q7⟩ s' E I.p.1 I.p.2 w h)) w hM
  · rw [doIB s o p.1 p.2] at E
    have e : o = 5 ∨ o = 6 ∨ o = 7 ∨ o = 8 ∨ o = 9 ∨ o = 10 := by omega
    rcases e with rfl | rfl | rfl | rfl | rfl | rfl
    · exact do5 B s s' v n _ _ 0 0 vv a b d (by omega) q1 q2 q3 q4 q5 q6 q7 rfl rfl rfl (fun w h => branches_as B s s' v 5 n a b d ha hb I q1 q2 q3 q4 q5 q6 q7 E w h) w hM
    · exact do6 B s s' v n _ _ 0 0 vv a b d (by omega) q1 q2 q3 q4 q5 q6 q7 rfl rfl rfl (fun w h => branches_as B s s' v 6 n a b d ha hb I q1 q2 q3 q4 q5 q6 q7 E w h) w hM
    · exact do7 B s s' v n _ _ 0 0 vv a b d (by omega) q1 q2 q3 q4 q5 q6 q7 rfl rfl rfl (fun w h => branches_as B s s' v 7 n a b d ha hb I q1 q2 q3 q4 q5 q6 q7 E w h) w hM
    · exact do8 B s s' v n _ _ 0 0 vv a b d (by omega) q1 q2 q3 q4 q5 q6 q7 rfl rfl rfl (fun w h => branches_as B s s' v 8 n a b d ha hb I q1 q2 q3 q4 q5 q6 q7 E w h) w hM
    · exact do9 B s s' v n _ _ 0 0 vv a b d (by omega) q1 q2 q3 q4 q5 q6 q7 rfl rfl rfl (fun w h => branches_as B s s' v 9 n a b d ha hb I q1 q2 q3 q4 q5 q6 q7 E w h) w hM
    · exact do10 B s s' v n _ _ 0 0 vv a b d (by omega) q1 q2 q3 q4 q5 q6 q7 rfl rfl rfl (fun w h => branches_as B s s' v 10 n a b d ha hb I q1 q2 q3 q4 q5 q6 q7 E w h) w hM
  · rw [doIL s o p.1 p.2] at E
    have e : o = 11 ∨ o = 12 ∨ o = 13 ∨ o = 14 ∨ o = 15 := by omega
    rcases e with rfl | rfl | rfl | rfl | rfl
    · exact do11 B s s' v n _ _ 0 0 vv a b d (by omega) q1 q2 q3 q4 q5 q6 q7 rfl rfl rfl (fun w h => loads_as B s s' v 11 n a b d (by decide) (by decide) ha hd I q1 q2 q3 q4 q5 q6 q7 E w h) w hM
    · exact do12 B s s' v n _ _ 0 0 vv a b d (by omega) q1 q2 q3 q4 q5 q6 q7 rfl rfl rfl (fun w h => loads_as B s s' v 12 n a b d (by decide) (by decide) ha hd I q1 q2 q3 q4 q5 q6 q7 E w h) w hM
    · exact do13 B s s' v n _ _ 0 0 vv a b d (by omega) q1 q2 q3 q4 q5 q6 q7 rfl rfl rfl (fun w h => loads_as B s s' v 13 n a b d (by decide) (by decide) ha hd I q1 q2 q3 q4 q5 q6 q7 E w h) w hM
    · exact do14 B s s' v n _ _ 0 0 vv a b d (by omega) q1 q2 q3 q4 q5 q6 q7 rfl rfl rfl (fun w h => loads_as B s s' v 14 n a b d (by decide) (by decide) ha hd I q1 q2 q3 q4 q5 q6 q7 E w h) w hM
    · exact do15 B s s' v n _ _ 0 0 vv a b d (by omega) q1 q2 q3 q4 q5 q6 q7 rfl rfl rfl (fun w h => loads_as B s s' v 15 n a b d (by decide) (by decide) ha hd I q1 q2 q3 q4 q5 q6 q7 E w h) w hM
  · rw [doIS s o p.1 p.2] at E
    have e : o = 16 ∨ o = 17 ∨ o = 18 := by omega
    rcases e with rfl | rfl | rfl
    · exact do16 B s s' v n _ _ 0 0 vv a b d (by omega) q1 q2 q3 q4 q5 q6 q7 rfl rfl rfl (fun w h => stores_as B s s' v 16 n a b d (by decide) (by decide) ha hb I hl q1 q2 q3 q4 q5 q6 q7 E w h) w hM
    · exact do17 B s s' v n _ _ 0 0 vv a b d (by omega) q1 q2 q3 q4 q5 q6 q7 rfl rfl rfl (fun w h => stores_as B s s' v 17 n a b d (by decide) (by decide) ha hb I hl q1 q2 q3 q4 q5 q6 q7 E w h) w hM
    · exact do18 B s s' v n _ _ 0 0 vv a b d (by omega) q1 q2 q3 q4 q5 q6 q7 rfl rfl rfl (fun w h => stores_as B s s' v 18 n a b d (by decide) (by decide) ha hb I hl q1 q2 q3 q4 q5 q6 q7 E w h) w hM
  · rw [doII s o p.1 p.2] at E
    have e : o = 19 ∨ o = 20 ∨ o = 21 ∨ o = 22 ∨ o = 23 ∨ o = 24 ∨ o = 25 ∨ o = 26 ∨ o = 27 := by omega
    rcases e with rfl | rfl | rfl | rfl | rfl | rfl | rfl | rfl | rfl
    · exact do19 B s s' v n _ _ 0 _ vv a b d (by omega) q1 q2 q3 q4 q5 q6 q7 rfl rfl rfl ra un rfl (fun w h => nxt_of (writes_as B s v _ d (by omega) ⟨q1, q2, q3, q4, q5, q6, q7⟩ s' E I.p.1 I.p.2 w h)) w hM
    · exact do20 B s s' v n _ _ 0 _ vv a b d (by omega) q1 q2 q3 q4 q5 q6 q7 rfl rfl rfl ra un rfl (fun w h => nxt_of (writes_as B s v _ d (by omega) ⟨q1, q2, q3, q4, q5, q6, q7⟩ s' E I.p.1 I.p.2 w h)) w hM
    · exact do21 B s s' v n _ _ 0 _ vv a b d (by omega) q1 q2 q3 q4 q5 q6 q7 rfl rfl rfl ra un rfl (fun w h => nxt_of (writes_as B s v _ d (by omega) ⟨q1, q2, q3, q4, q5, q6, q7⟩ s' E I.p.1 I.p.2 w h)) w hM
    · exact do22 B s s' v n _ _ 0 _ vv a b d (by omega) q1 q2 q3 q4 q5 q6 q7 rfl rfl rfl ra un rfl (fun w h => nxt_of (writes_as B s v _ d (by omega) ⟨q1, q2, q3, q4, q5, q6, q7⟩ s' E I.p.1 I.p.2 w h)) w hM
    · exact do23 B s s' v n _ _ 0 _ vv a b d (by omega) q1 q2 q3 q4 q5 q6 q7 rfl rfl rfl ra un rfl (fun w h => nxt_of (writes_as B s v _ d (by omega) ⟨q1, q2, q3, q4, q5, q6, q7⟩ s' E I.p.1 I.p.2 w h)) w hM
    · exact do24 B s s' v n _ _ 0 _ vv a b d (by omega) q1 q2 q3 q4 q5 q6 q7 rfl rfl rfl ra un rfl (fun w h => nxt_of (writes_as B s v _ d (by omega) ⟨q1, q2, q3, q4, q5, q6, q7⟩ s' E I.p.1 I.p.2 w h)) w hM
    · exact do25 B s s' v n _ _ 0 _ vv a b d (by omega) q1 q2 q3 q4 q5 q6 q7 rfl rfl rfl ra un rfl (fun w h => nxt_of (writes_as B s v _ d (by omega) ⟨q1, q2, q3, q4, q5, q6, q7⟩ s' E I.p.1 I.p.2 w h)) w hM
    · exact do26 B s s' v n _ _ 0 _ vv a b d (by omega) q1 q2 q3 q4 q5 q6 q7 rfl rfl rfl ra un rfl (fun w h => nxt_of (writes_as B s v _ d (by omega) ⟨q1, q2, q3, q4, q5, q6, q7⟩ s' E I.p.1 I.p.2 w h)) w hM
    · exact do27 B s s' v n _ _ 0 _ vv a b d (by omega) q1 q2 q3 q4 q5 q6 q7 rfl rfl rfl ra un rfl (fun w h => nxt_of (writes_as B s v _ d (by omega) ⟨q1, q2, q3, q4, q5, q6, q7⟩ s' E I.p.1 I.p.2 w h)) w hM
  · rw [doIR s o p.1 p.2] at E
    exact doR o (by rw [beq_eq_false_iff_ne]; omega) (by rw [beq_eq_false_iff_ne]; omega) (by rw [beq_eq_false_iff_ne]; omega) (by rw [beq_eq_false_iff_ne]; omega) (by rw [beq_eq_false_iff_ne]; omega) (by rw [beq_eq_false_iff_ne]; omega) (by rw [beq_eq_false_iff_ne]; omega) (by rw [beq_eq_false_iff_ne]; omega) (by rw [beq_eq_false_iff_ne]; omega) (by rw [beq_eq_false_iff_ne]; omega) (by rw [beq_eq_false_iff_ne]; omega) (by rw [beq_eq_false_iff_ne]; omega) (by rw [beq_eq_false_iff_ne]; omega) (by rw [beq_eq_false_iff_ne]; omega) (by rw [beq_eq_false_iff_ne]; omega) (by rw [beq_eq_false_iff_ne]; omega) (by rw [beq_eq_false_iff_ne]; omega) (by rw [beq_eq_false_iff_ne]; omega) (by rw [beq_eq_false_iff_ne]; omega) (by rw [beq_eq_false_iff_ne]; omega) (by rw [beq_eq_false_iff_ne]; omega) (by rw [beq_eq_false_iff_ne]; omega) (by rw [beq_eq_false_iff_ne]; omega) (by rw [beq_eq_false_iff_ne]; omega) (by rw [beq_eq_false_iff_ne]; omega) (by rw [beq_eq_false_iff_ne]; omega) (by rw [beq_eq_false_iff_ne]; omega) (by rw [beq_eq_false_iff_ne]; omega) (by rw [beq_eq_false_iff_ne]; omega) (by rw [beq_eq_false_iff_ne]; omega) (by rw [beq_eq_false_iff_ne]; omega) (by rw [beq_eq_false_iff_ne]; omega) (by rw [beq_eq_false_iff_ne]; omega) (by rw [beq_eq_false_iff_ne]; omega) (by rw [beq_eq_false_iff_ne]; omega) (by rw [beq_eq_false_iff_ne]; omega) (by rw [beq_eq_false_iff_ne]; omega) B s s' v n _ _ _ _ vv a b d (by omega) q1 q2 q3 q4 q5 q6 q7 rfl rfl rfl ra rfl (by omega) rb rfl (fun w h => nxt_of (writes_as B s v _ d (by omega) ⟨q1, q2, q3, q4, q5, q6, q7⟩ s' E I.p.1 I.p.2 w h)) w hM
  · rw [doI46] at E; obtain ⟨rfl, rfl, rfl, rfl, rfl, rfl, rfl, rfl⟩ := bare_is E; exact do46 B s _ v n _ _ 0 0 vv a b d (by omega) _ _ _ _ _ _ _ rfl rfl rfl (fun w h => nxt_of (goesOn_as B s v _ rfl I.p.1 I.p.2 w h)) w hM
  · rw [doI47] at E; obtain ⟨rfl, rfl, rfl, rfl, rfl, rfl, rfl, rfl⟩ := bare_is E; exact do47 B s _ v n _ _ 0 0 vv a b d (by omega) _ _ _ _ _ _ _ rfl rfl rfl (fun w h => nxt_of (trapped_as B s v _ _ (by decide) (by decide) w h)) w hM
  · rw [doI48] at E; obtain ⟨rfl, rfl, rfl, rfl, rfl, rfl, rfl, rfl⟩ := bare_is E; exact do48 B s _ v n _ _ 0 0 vv a b d (by omega) _ _ _ _ _ _ _ rfl rfl rfl (fun w h => nxt_of (trapped_as B s v _ _ (by decide) (by decide) w h)) w hM
  · rw [doI49] at E; obtain ⟨rfl, rfl, rfl, rfl, rfl, rfl, rfl, rfl⟩ := bare_is E; exact do49 B s _ v n _ _ 0 0 vv a b d (by omega) _ _ _ _ _ _ _ rfl rfl rfl (fun w h => nxt_of (goesTo_as B s v _ _ rfl w h)) w hM
  · rw [doIC s o p.1] at E
    have c := hc p.1
    have e : o = 50 ∨ o = 51 ∨ o = 52 ∨ o = 53 ∨ o = 54 ∨ o = 55 := by omega
    rcases e with rfl | rfl | rfl | rfl | rfl | rfl
    · exact do50 B s s' v n _ _ 0 0 vv a b d (by omega) q1 q2 q3 q4 q5 q6 q7 rfl rfl rfl (fun w h => swaps_as B s s' v 50 n vv a b d (by decide) (by decide) ha hd c.1 c.2 I q1 q2 q3 q4 q5 q6 q7 E w h) w hM
    · exact do51 B s s' v n _ _ 0 0 vv a b d (by omega) q1 q2 q3 q4 q5 q6 q7 rfl rfl rfl (fun w h => swaps_as B s s' v 51 n vv a b d (by decide) (by decide) ha hd c.1 c.2 I q1 q2 q3 q4 q5 q6 q7 E w h) w hM
    · exact do52 B s s' v n _ _ 0 0 vv a b d (by omega) q1 q2 q3 q4 q5 q6 q7 rfl rfl rfl (fun w h => swaps_as B s s' v 52 n vv a b d (by decide) (by decide) ha hd c.1 c.2 I q1 q2 q3 q4 q5 q6 q7 E w h) w hM
    · exact do53 B s s' v n _ _ 0 0 vv a b d (by omega) q1 q2 q3 q4 q5 q6 q7 rfl rfl rfl (fun w h => swaps_as B s s' v 53 n vv a b d (by decide) (by decide) ha hd c.1 c.2 I q1 q2 q3 q4 q5 q6 q7 E w h) w hM
    · exact do54 B s s' v n _ _ 0 0 vv a b d (by omega) q1 q2 q3 q4 q5 q6 q7 rfl rfl rfl (fun w h => swaps_as B s s' v 54 n vv a b d (by decide) (by decide) ha hd c.1 c.2 I q1 q2 q3 q4 q5 q6 q7 E w h) w hM
    · exact do55 B s s' v n _ _ 0 0 vv a b d (by omega) q1 q2 q3 q4 q5 q6 q7 rfl rfl rfl (fun w h => swaps_as B s s' v 55 n vv a b d (by decide) (by decide) ha hd c.1 c.2 I q1 q2 q3 q4 q5 q6 q7 E w h) w hM
end Go.Proofs.YtpkbkbllhpdfiaaGreat.M
namespace Go.Proofs.YtpkbkbllhpdfiaaGreat.M
open Go.ChangeShapes Go.WideShapes Go.ChangeAt Go.RowKit Go.Proofs.YtpkbkbllhpdfiaaGreat.Walks Go.Proofs.YtpkbkbllhpdfiaaGreat.Mod
set_option linter.unusedVariables false
theorem fetch_to (a c : Int) (b : Bool) (a0 : 0 ≤ a) (C : Hid (T.Num.fc (a % 4 == 0) (T.Num.ins a) = c)) (X : Hid (T.Num.fb (a % 4 == 0) (T.Num.ins a) = b)) (w : World) :
    Calls Tryz.prog 32 #[.int .u32 a] w fun e w' => e = .returned (.tuple #[.int .i64 c, .bool b]) ∧ w' = w := T.Walks.fetch_as a a0 _ _ c b rfl rfl C X w
theorem trapped_to (B : Nat) (s : St) (v : Value) (k x p : Int) (P : Hid (s.pc = p)) (k0 : 0 ≤ k) (k1 : k ≤ 11) (w : World) (hM : Hid (MAt B s v w)) :
    Calls Tryz.prog 33 #[.pointer (some ⟨B, 0, none⟩), .int .i64 k, .int .u32 x] w fun e w' => e = .returned (.agg (rc p 0 0 false 0 0 0)) ∧ Now B v (s.trap k x) w w' := by
  obtain rfl : s.pc = p := P
  exact trapped_as B s v k x k0 k1 w hM
set_option maxRecDepth 100000 in
set_option maxHeartbeats 400000 in
theorem step_halted (B : Nat) (s : St) (v : Value) (H : Hid (s.h = true)) (w : World) (hM : Hid (MAt B s v w)) :
    Calls Tryz.prog 15 #[.pointer (some ⟨B, 0, none⟩)] w fun e w' => e = .returned (.tuple #[.agg z7, .bool false]) ∧ Now B v s w w' := by
  have ch := hM.out.h
  rw [H.out] at ch
  have hb := hM.out.lt
  go_enter Tryz.func15, Tryz.ntmps15
  go_wp2_with fail
  refine bodyPost_ret (v := .tuple #[.agg z7, .bool false]) (by simp [results, Tryz.results15, go_sem, *]) rfl ⟨rfl, ?_⟩
  exact (Now.refl hM.out).alloc _
set_option maxRecDepth 100000 in
set_option maxHeartbeats 400000 in
theorem step_fetch (B : Nat) (s : St) (v : Value) (c p : Int) (H : Hid (s.h = false)) (n1 : s.n ≤ 100000) (n0 : 0 ≤ s.n) (P : Hid (s.pc = p)) (p0 : Hid (0 ≤ p)) (C : Hid (T.Num.fc (p % 4 == 0) (T.Num.ins p) = c)) (c0 : Hid (0 ≤ c ∧ c ≤ 11)) (X : Hid (T.Num.fb (p % 4 == 0) (T.Num.ins p) = true)) (w : World) (hM : Hid (MAt B s v w)) :
    Calls Tryz.prog 15 #[.pointer (some ⟨B, 0, none⟩)] w fun e w' => e = .returned (.tuple #[.agg (rc p 0 0 false 0 0 0), .bool true]) ∧ Now B v (s.more.trap c p) w w' := by
  have ch := hM.out.h
  rw [H.out] at ch
  have cp := hM.out.pc
  rw [P.out] at cp
  have cn := hM.out.n
  have zn := hM.out.z 1063 (by decide)
  have hb := hM.out.lt
  go_enter Tryz.func15, Tryz.ntmps15
  go_wp2_with fail
  refine (fetch_to _ _ _ p0.out C X _).mono ?_; rintro e w1 ⟨rfl, rfl⟩
  go_wp2_with fail
  have HW : Hid (Now B v s.more w ((w.setCell ⟨B, 1063, none⟩ (.int .i64 (s.n + 1))).alloc (.cells z7 38))) := ((Now.refl hM.out).setN).alloc _
  have BX : Hid (Box w.heap.size ((w.setCell ⟨B, 1063, none⟩ (.int .i64 (s.n + 1))).alloc (.cells z7 38))) := Box.at _ _ (by simp)
  refine (trapped_to B s.more v _ _ _ P c0.out.1 c0.out.2 _ (by exact HW.out.1)).mono ?_; rintro e w1 ⟨rfl, hN⟩
  obtain ⟨b0, b1, b2, b3, b4, b5, b6, y0, y1, y2, y3, y4, y5, y6⟩ := BX.out.chg1 hM.out (Nat.le_refl _) hN.2
  go_wp2_with fail
  refine bodyPost_ret (v := .tuple #[.agg (rc p 0 0 false 0 0 0), .bool true]) (by simp [results, Tryz.results15, go_sem, *]) rfl ⟨rfl, ?_⟩
  exact (HW.out.then hN).ends1 hM.out (Nat.le_refl _) p 0 0 false 0 0 0
set_option maxRecDepth 100000 in
set_option maxHeartbeats 400000 in
theorem step_bad (B : Nat) (s : St) (v : Value) (c p x : Int) (k : Nat) (H : Hid (s.h = false)) (n1 : s.n ≤ 100000) (n0 : 0 ≤ s.n) (P : Hid (s.pc = p)) (p0 : Hid (0 ≤ p)) (C : Hid (T.Num.fc (p % 4 == 0) (T.Num.ins p) = c)) (X : Hid (T.Num.fb (p % 4 == 0) (T.Num.ins p) = false))
    (K : p / 4 = (k : Int)) (K1 : p.tdiv 4 = (k : Int)) (hk : (k : Int) ≤ 1023) (XW : Hid (s.m k = x)) (x0 : Hid (W32 x)) (D : Hid (Num.Dec x 0 0 0 0 0 false)) (w : World) (hM : Hid (MAt B s v w)) :
    Calls Tryz.prog 15 #[.pointer (some ⟨B, 0, none⟩)] w fun e w' => e = .returned (.tuple #[.agg (rc p 0 0 false 0 0 0), .bool true]) ∧ Now B v (s.more.trap 2 x) w w' := by
  have ch := hM.out.h
  rw [H.out] at ch
  have cp := hM.out.pc
  rw [P.out] at cp
  have cn := hM.out.n
  have zn := hM.out.z 1063 (by decide)
  have cm := hM.out.m k (by omega)
  rw [XW.out] at cm
  have hb := hM.out.lt
  have k9 : (k : Int) < 1024 := by omega
  go_enter Tryz.func15, Tryz.ntmps15
  go_wp2_with fail
  refine (fetch_to _ _ _ p0.out C X _).mono ?_; rintro e w1 ⟨rfl, rfl⟩
  go_wp2_with fail
  try go_region
  all_goals
    try go_wp2_with fail
    have HW : Hid (Now B v s.more w ((w.setCell ⟨B, 1063, none⟩ (.int .i64 (s.n + 1))).alloc (.cells z7 38))) := ((Now.refl hM.out).setN).alloc _
    have BX : Hid (Box w.heap.size ((w.setCell ⟨B, 1063, none⟩ (.int .i64 (s.n + 1))).alloc (.cells z7 38))) := Box.at _ _ (by simp)
    refine (decode_as _ _ _ _ _ _ _ D x0.out.1 x0.out.2 _).mono ?_; rintro e w1 ⟨rfl, hF⟩
    have H1 : Hid (Now B v s.more w w1) := Now.fr (by exact HW.out.alike ⟨rfl, rfl, rfl⟩) hF
    have B1 : Hid (Box w.heap.size w1) := Box.fr (by exact BX.out.alike ⟨rfl, rfl, rfl⟩) hF
    go_wp2_with fail
    refine (trapped_to B s.more v _ _ _ P (by decide) (by decide) _ (by exact H1.out.1.alloc _)).mono ?_; rintro e w2 ⟨rfl, hN⟩
    obtain ⟨b0, b1, b2, b3, b4, b5, b6, y0, y1, y2, y3, y4, y5, y6⟩ := Box.chg1 (w := _) (by exact B1.out.alloc _) hM.out (Nat.le_refl _) hN.2
    go_wp2_with fail
    refine bodyPost_ret (v := .tuple #[.agg (rc p 0 0 false 0 0 0), .bool true]) (by simp [results, Tryz.results15, go_sem, *]) rfl ⟨rfl, ?_⟩
    exact (Now.then (by exact H1.out.alloc _) hN).ends1 hM.out (Nat.le_refl _) p 0 0 false 0 0 0
set_option maxRecDepth 100000 in
set_option maxHeartbeats 400000 in
theorem step_do (B : Nat) (s s' : St) (v : Value) (c p x o n : Int) (d a b : Nat) (k : Nat) (H : Hid (s.h = false)) (n1 : s.n ≤ 100000) (n0 : 0 ≤ s.n) (P : Hid (s.pc = p)) (p0 : Hid (0 ≤ p)) (C : Hid (T.Num.fc (p % 4 == 0) (T.Num.ins p) = c)) (X : Hid (T.Num.fb (p % 4 == 0) (T.Num.ins p) = false))
    (K : p / 4 = (k : Int)) (K1 : p.tdiv 4 = (k : Int)) (hk : (k : Int) ≤ 1023) (XW : Hid (s.m k = x)) (x0 : Hid (W32 x)) (D : Hid (Num.Dec x o d a b n true)) (q1 q2 q3 : Int) (q4 : Bool) (q5 q6 q7 : Int)
    (CA : Hid (∀ w, MAt B s.more v w → Calls Tryz.prog 35 #[.pointer (some ⟨B, 0, none⟩), .agg (cells o d a b n), .int .u32 x] w fun e w' => e = .returned (.agg (rc q1 q2 q3 q4 q5 q6 q7)) ∧ Nxt B v s' w w')) (w : World) (hM : Hid (MAt B s v w)) :
    Calls Tryz.prog 15 #[.pointer (some ⟨B, 0, none⟩)] w fun e w' => e = .returned (.tuple #[.agg (rc q1 q2 q3 q4 q5 q6 q7), .bool true]) ∧ Nxt B v s' w w' := by
  have ch := hM.out.h
  rw [H.out] at ch
  have cp := hM.out.pc
  rw [P.out] at cp
  have cn := hM.out.n
  have zn := hM.out.z 1063 (by decide)
  have cm := hM.out.m k (by omega)
  rw [XW.out] at cm
  have hb := hM.out.lt
  have k9 : (k : Int) < 1024 := by omega
  go_enter Tryz.func15, Tryz.ntmps15
  go_wp2_with fail
  refine (fetch_to _ _ _ p0.out C X _).mono ?_; rintro e w1 ⟨rfl, rfl⟩
  go_wp2_with fail
  try go_region
  all_goals
    try go_wp2_with fail
    have HW : Hid (Now B v s.more w ((w.setCell ⟨B, 1063, none⟩ (.int .i64 (s.n + 1))).alloc (.cells z7 38))) := ((Now.refl hM.out).setN).alloc _
    have BX : Hid (Box w.heap.size ((w.setCell ⟨B, 1063, none⟩ (.int .i64 (s.n + 1))).alloc (.cells z7 38))) := Box.at _ _ (by simp)
    refine (decode_as _ _ _ _ _ _ _ D x0.out.1 x0.out.2 _).mono ?_; rintro e w1 ⟨rfl, hF⟩
    have H1 : Hid (Now B v s.more w w1) := Now.fr (by exact HW.out.alike ⟨rfl, rfl, rfl⟩) hF
    have B1 : Hid (Box w.heap.size w1) := Box.fr (by exact BX.out.alike ⟨rfl, rfl, rfl⟩) hF
    go_wp2_with fail
    refine (CA.out _ (by exact H1.out.1.alloc _)).mono ?_; rintro e w2 ⟨rfl, hN⟩
    obtain ⟨b0, b1, b2, b3, b4, b5, b6, y0, y1, y2, y3, y4, y5, y6⟩ := Box.chg1 (w := _) (by exact B1.out.alloc _) hM.out (Nat.le_refl _) hN.chg
    have sz := hid (cell_lt B1.out.c0)
    go_wp2_with fail
    refine bodyPost_ret (v := .tuple #[.agg (rc q1 q2 q3 q4 q5 q6 q7), .bool true]) (by simp [results, Tryz.results15, go_sem, *]) rfl ⟨rfl, ?_⟩
    exact Nxt.ends hM.out (by exact H1.out.2.alloc _) hN (Nat.le_refl _) (by have := sz.out; simp; omega) q1 q2 q3 q4 q5 q6 q7
/-- a machine that has not halted: its step -/
theorem step_as (B : Nat) (s : St) (v : Value) (I : Inv s) (H : s.h = false) (n1 : s.n ≤ 100000) (q : Rt) (s' : St) (E : Hid (s.stp = (q, s'))) (w : World) (hM : Hid (MAt B s v w)) :
    Calls Tryz.prog 15 #[.pointer (some ⟨B, 0, none⟩)] w fun e w' => e = .returned (.tuple #[.agg (rc q.pc q.v q.d q.s q.a q.y q.k), .bool true]) ∧ Nxt B v s' w w' := by
  obtain ⟨q1, q2, q3, q4, q5, q6, q7⟩ := q
  have E := E.out
  have n0 := I.n
  have p0 := I.p.1
  unfold St.stp at E
  by_cases e : T.Num.fb (s.pc % 4 == 0) (T.Num.ins s.pc) = true
  · rw [if_pos e] at E
    obtain ⟨rfl, rfl, rfl, rfl, rfl, rfl, rfl, rfl⟩ := bare_is E
    refine (step_fetch B s v _ _ H n1 n0 rfl p0 rfl ?_ e w hM).mono fun _ _ x => ⟨x.1, x.2.nxt⟩
    generalize T.Num.ins s.pc = i
    generalize (s.pc % 4 == 0) = z
    cases i <;> cases z <;> (unfold Hid; decide)
  · rw [if_neg e] at E
    have e' : T.Num.fb (s.pc % 4 == 0) (T.Num.ins s.pc) = false := by simpa using e
    have q := fb_in e'
    have xw := I.m (s.pc / 4).toNat (by omega)
    have hk : s.pc / 4 = ((s.pc / 4).toNat : Int) := by omega
    generalize hx : s.m (s.pc / 4).toNat = x at *
    by_cases z : Num.op x = 0
    · rw [if_pos z] at E
      obtain ⟨rfl, rfl, rfl, rfl, rfl, rfl, rfl, rfl⟩ := bare_is E
      have D : Num.Dec x 0 0 0 0 0 false := ⟨z, rfl, rfl, rfl, rfl, rfl⟩
      exact (step_bad B s v _ _ x (s.pc / 4).toNat H n1 n0 rfl p0 rfl e' hk (by rw [Int.tdiv_eq_ediv_of_nonneg p0]; exact hk) (by omega) hx xw D w hM).mono fun _ _ x => ⟨x.1, x.2.nxt⟩
    · rw [if_neg z] at E
      have i := Ins.mk_of x z
      have t := I.t
      refine step_do B s s' v _ _ x _ _ _ _ _ (s.pc / 4).toNat H n1 n0 rfl p0 rfl e' hk (by rw [Int.tdiv_eq_ediv_of_nonneg p0]; exact hk) (by omega) hx xw i.dec q1 q2 q3 q4 q5 q6 q7 ?_ w hM
      intro w2 h2
      exact do_as B s.more s' v x _ _ _ _ _ i I.more (by show s.t.length ≤ 100000; omega) ⟨q1, q2, q3, q4, q5, q6, q7⟩ E w2 h2
end Go.Proofs.YtpkbkbllhpdfiaaGreat.M
namespace Go.Proofs.YtpkbkbllhpdfiaaGreat.M
open Go.ChangeShapes Go.WideShapes Go.ChangeAt Go.RowKit Go.Proofs.YtpkbkbllhpdfiaaGreat.Walks Go.Proofs.YtpkbkbllhpdfiaaGreat.Mod
set_option linter.unusedVariables false
theorem Moves.trans {u w : World} {v v' v'' : Value} (h : Moves u v v') (k : Moves w v' v'') (l : u.heap.size ≤ w.heap.size) : Moves u v v'' := by
  rcases k with e | ⟨g, e, m⟩
  · rcases h with e2 | ⟨g, e2, m⟩
    · exact .inl (e.trans e2)
    · exact .inr ⟨g, e.trans e2, m⟩
  · exact .inr ⟨g, e, Nat.le_trans l m⟩
/-- one step more of a machine whose row may have moved -/
theorem Nxt.more {B : Nat} {v v1 : Value} {s' : St} {u w w' : World} (c1 : Chg B v u w) (mv1 : Moves u v v1) (k : Nxt B v1 s' w w') : Nxt B v s' u w' := by
  obtain ⟨v2, m2, c2, mv2⟩ := k
  refine ⟨v2, m2, ⟨c2.os.trans c1.os, c2.output.trans c1.output, Nat.le_trans c1.size c2.size, fun i a b c => ?_⟩, mv1.trans mv2 c1.size⟩
  refine (c2.block i (Nat.lt_of_lt_of_le a c1.size) b ?_).trans (c1.block i a b c)
  rcases mv1 with e | ⟨g, e, l⟩
  · rw [e]; exact c
  · rw [e]; intro x; injection x with x; omega
theorem Nxt.alloc {B : Nat} {v : Value} {s : St} {w w' : World} (h : Nxt B v s w w') (o : Obj) : Nxt B v s w (w'.alloc o) := by
  obtain ⟨v2, m2, c2, mv2⟩ := h
  exact ⟨v2, m2.alloc o, c2.alloc o, mv2⟩
theorem its_stay (d j : Nat) (s : St) (h : (its d s).h = true) : its (d + j) s = its d s ∧ did (d + j) s = did d s := by
  induction j with
  | zero => exact ⟨rfl, rfl⟩
  | succ j ih =>
    rw [← Nat.add_assoc, its_succ, did_succ, ih.1, ih.2, if_pos h, if_pos h]
    exact ⟨rfl, rfl⟩
set_option maxRecDepth 100000 in
set_option maxHeartbeats 400000 in
theorem run_as (B : Nat) (s : St) (v : Value) (k : Nat) (I : Hid (Inv s)) (hk : (k : Int) ≤ 1000) (n1 : Hid (s.n + k ≤ 100000)) (w : World) (hM : Hid (MAt B s v w)) :
    Calls Tryz.prog 14 #[.pointer (some ⟨B, 0, none⟩), .int .i64 (k : Int)] w fun e w' => e = .returned (.int .i64 (did k s : Nat)) ∧ Nxt B v (its k s) w w' := by
  go_enter Tryz.func14, Tryz.ntmps14
  go_wp2_with fail
  go_step3
  go_wp2_with fail
  go_step3
  go_wp2_with fail
  go_loopw [5] (fun t wr => ∃ d : Nat, (d : Int) ≤ k ∧ t = .int .i64 d ∧ Hid (did d s = d ∧ Nxt B v (its d s) w wr)) (fun t _ => k - (intOf t).toNat)
  case atStart => exact ⟨0, by omega, rfl, rfl, (Now.refl hM.out).nxt⟩
  case round =>
    obtain ⟨d, hd, rfl, HD⟩ := hrel
    rename_i wr
    by_cases hlt : (d : Int) < k
    · obtain ⟨v1, hm, hc, hv⟩ := HD.out.2
      have H1 := hid hm
      have Id := its_inv d I.out
      have nd := its_n d s
      have F1 : Hid (Chg B v w wr ∧ Moves w v v1) := ⟨hc, hv⟩
      clear hm hc hv
      have ND := hid nd
      have ID := hid Id
      clear nd Id
      by_cases hh : (its d s).h = true
      · have HS := hid (its_stay d (k - d) s hh)
        go_wp2_with fail
        refine (step_halted B _ v1 hh _ H1.out).mono ?_; rintro e w1 ⟨rfl, hN⟩
        go_wp2_with fail
        simp only [Exit.noGoto]
        go_ret
        have e1 : d + (k - d) = k := by omega
        have st := HS.out
        rw [e1] at st
        refine ⟨?_, ?_⟩
        · rw [st.2, HD.out.1]; rfl
        · rw [st.1]
          exact (Nxt.more F1.out.1 F1.out.2 hN.nxt).alloc _
      · obtain ⟨q, s', E⟩ : ∃ q s', (its d s).stp = (q, s') := ⟨_, _, rfl⟩
        have hf : (its d s).h = false := by simpa using hh
        have e1 : its (d + 1) s = s' := by rw [its_succ, if_neg hh, E]
        have e2 : did (d + 1) s = d + 1 := by rw [did_succ, if_neg hh, HD.out.1]
        have EE := hid E
        have E1 := hid e1
        have E2 := hid e2
        clear E e1 e2 hh
        go_wp2_with fail
        refine (step_as B _ v1 ID.out hf (by have := ND.out; have := n1.out; have := did_le d s; omega) q s' EE _ H1.out).mono ?_; rintro e w1 ⟨rfl, hN⟩
        go_wp2_with fail
        exact ⟨⟨d + 1, by omega, by rw [Int.natCast_add]; rfl, E2.out, by rw [E1.out]; exact (Nxt.more F1.out.1 F1.out.2 hN).alloc _⟩, by simp [intOf]; omega⟩
    · have ed : d = k := by omega
      subst ed
      go_wp2_with fail
      go_ret
      exact ⟨by rw [HD.out.1]; rfl, HD.out.2⟩
end Go.Proofs.YtpkbkbllhpdfiaaGreat.M
namespace Go.Proofs.YtpkbkbllhpdfiaaGreat.M
open Go.ChangeShapes Go.WideShapes Go.ChangeAt Go.RowKit Go.Proofs.YtpkbkbllhpdfiaaGreat.Walks Go.Proofs.YtpkbkbllhpdfiaaGreat.Mod
set_option linter.unusedVariables false
theorem RNxt.chg {B C : Nat} {v : Value} {s : St} {w w' : World} (h : RNxt B C v s w w') : RChg B C w w' := by obtain ⟨_, _, h2, _⟩ := h; exact h2
theorem RNxt.ends1 {B C b : Nat} {v : Value} {s0 s : St} {u w w' : World} (h : RNxt B C v s w w') (h0 : RAt B C s0 v u) (k : RChg B C u w) (hb : u.heap.size ≤ b) (hw : b < w.heap.size) (p x d : Int) (g : Bool) (a y m : Int) : RNxt B C v s u (put7 w' b p x d g a y m) := by
  obtain ⟨v', h1, h2, h3⟩ := h
  have n2 : v'.ownBlock ≠ some b := by
    rcases h3 with e | ⟨g, e, l⟩
    · rw [e]; intro x; have := own_lt h0.tr x; omega
    · rw [e]; intro x; injection x with x; omega
  exact ⟨v', h1.put7 b (by have := h0.lt; omega) (by have := h0.ltc; omega) n2 _ _ _ _ _ _ _, (k.trans h2).put7 b hb _ _ _ _ _ _ _, h3.past k.size⟩
set_option maxRecDepth 100000 in
set_option maxHeartbeats 600000 in
theorem rdo_jb (B C : Nat) (s s' : St) (v : Value) (o f n u x y c ad vv : Int) (d a b : Nat) (ha : (a : Int) ≤ 31) (hb31 : (b : Int) ≤ 31) (q1 q2 q3 : Int) (q4 : Bool) (q5 q6 q7 : Int) (X : Hid (s.r a = x)) (Y : Hid (s.r b = y)) (N : n % 4294967296 = u) (N' : IntKind.u32.wrap n = u) (F : Hid (Num.lt (Num.fm o) = 66))
    (CA : Hid (∀ w, RAt B C s v w → Calls Tryz.prog 69 #[.pointer (some ⟨B, 0, none⟩), .agg (cells o d a b n), .int .u32 x, .int .u32 y] w fun e w' => e = .returned (.agg (rc q1 q2 q3 q4 q5 q6 q7)) ∧ RNxt B C v s' w w')) (w : World) (hM : Hid (RAt B C s v w)) :
    Calls Tryz.prog 40 #[.pointer (some ⟨B, 0, none⟩), .agg (cells o d a b n), .int .u32 vv] w fun e w' => e = .returned (.agg (rc q1 q2 q3 q4 q5 q6 q7)) ∧ RNxt B C v s' w w' := by
  have cp := hM.out.pc
  have ca := hM.out.r a (by omega)
  rw [X.out] at ca
  have cb := hM.out.r b (by omega)
  rw [Y.out] at cb
  have hb := hM.out.lt
  have hb1 : B < w.heap.size + 1 := by omega
  have hb2 : B < w.heap.size + 1 + 1 := by omega
  have hw2 : w.heap.size < w.heap.size + 1 + 1 := by omega
  have HW := hid ((RNow.inst hM.out (cells o d a b n)).alloc (.cells (rc s.pc 0 0 false 0 0 0) 38))
  have BX := hid ((Box.inst w (cells o d a b n)).alloc (.cells (rc s.pc 0 0 false 0 0 0) 38))
  go_enter Tryz.func40, Tryz.ntmps40
  go_wp2_with fail
  go_region
  all_goals
    go_wp2_with fail
    refine (rformat_as _ _ F _).mono ?_; rintro e w1 ⟨rfl, rfl⟩
    go_wp2_with fail
    refine (CA.out _ (by exact HW.out.1.alike ⟨rfl, rfl, rfl⟩)).mono ?_
    rintro e w1 ⟨rfl, hN⟩
    obtain ⟨b0, b1, b2, b3, b4, b5, b6, y0, y1, y2, y3, y4, y5, y6⟩ := Box.rchg (w := _) (by exact BX.out.alike ⟨rfl, rfl, rfl⟩) hM.out (Nat.le_add_right _ 1) hN.chg
    go_wp2_with fail
    refine bodyPost_ret (v := .agg (rc q1 q2 q3 q4 q5 q6 q7)) (by simp [results, Tryz.results40, go_sem, *]) rfl ⟨rfl, ?_⟩
    exact hN.ends1 hM.out (by exact HW.out.2.alike ⟨rfl, rfl, rfl⟩) (Nat.le_add_right _ 1) (by simp) q1 q2 q3 q4 q5 q6 q7
set_option maxRecDepth 100000 in
set_option maxHeartbeats 600000 in
theorem rdo_jj (B C : Nat) (s s' : St) (v : Value) (o f n u x y c ad vv : Int) (d a b : Nat) (ha : (a : Int) ≤ 31) (hb31 : (b : Int) ≤ 31) (q1 q2 q3 : Int) (q4 : Bool) (q5 q6 q7 : Int) (X : Hid (s.r a = x)) (Y : Hid (s.r b = y)) (N : n % 4294967296 = u) (N' : IntKind.u32.wrap n = u) (F : Hid (Num.lt (Num.fm 3) = 74))
    (CA : Hid (∀ w, RAt B C s v w → Calls Tryz.prog 69 #[.pointer (some ⟨B, 0, none⟩), .agg (cells 3 d a b n), .int .u32 x, .int .u32 y] w fun e w' => e = .returned (.agg (rc q1 q2 q3 q4 q5 q6 q7)) ∧ RNxt B C v s' w w')) (w : World) (hM : Hid (RAt B C s v w)) :
    Calls Tryz.prog 40 #[.pointer (some ⟨B, 0, none⟩), .agg (cells 3 d a b n), .int .u32 vv] w fun e w' => e = .returned (.agg (rc q1 q2 q3 q4 q5 q6 q7)) ∧ RNxt B C v s' w w' := by
  have cp := hM.out.pc
  have ca := hM.out.r a (by omega)
  rw [X.out] at ca
  have cb := hM.out.r b (by omega)
  rw [Y.out] at cb
  have hb := hM.out.lt
  have hb1 : B < w.heap.size + 1 := by omega
  have hb2 : B < w.heap.size + 1 + 1 := by omega
  have hw2 : w.heap.size < w.heap.size + 1 + 1 := by omega
  have HW := hid ((RNow.inst hM.out (cells 3 d a b n)).alloc (.cells (rc s.pc 0 0 false 0 0 0) 38))
  have BX := hid ((Box.inst w (cells 3 d a b n)).alloc (.cells (rc s.pc 0 0 false 0 0 0) 38))
  go_enter Tryz.func40, Tryz.ntmps40
  go_wp2_with fail
  go_region
  all_goals
    go_wp2_with fail
    refine (rformat_as _ _ F _).mono ?_; rintro e w1 ⟨rfl, rfl⟩
    go_wp2_with fail
    refine (CA.out _ (by exact HW.out.1.alike ⟨rfl, rfl, rfl⟩)).mono ?_
    rintro e w1 ⟨rfl, hN⟩
    obtain ⟨b0, b1, b2, b3, b4, b5, b6, y0, y1, y2, y3, y4, y5, y6⟩ := Box.rchg (w := _) (by exact BX.out.alike ⟨rfl, rfl, rfl⟩) hM.out (Nat.le_add_right _ 1) hN.chg
    go_wp2_with fail
    refine bodyPost_ret (v := .agg (rc q1 q2 q3 q4 q5 q6 q7)) (by simp [results, Tryz.results40, go_sem, *]) rfl ⟨rfl, ?_⟩
    exact hN.ends1 hM.out (by exact HW.out.2.alike ⟨rfl, rfl, rfl⟩) (Nat.le_add_right _ 1) (by simp) q1 q2 q3 q4 q5 q6 q7
set_option maxRecDepth 100000 in
set_option maxHeartbeats 600000 in
theorem rdo_jr (B C : Nat) (s s' : St) (v : Value) (o f n u x y c ad vv : Int) (d a b : Nat) (ha : (a : Int) ≤ 31) (hb31 : (b : Int) ≤ 31) (q1 q2 q3 : Int) (q4 : Bool) (q5 q6 q7 : Int) (X : Hid (s.r a = x)) (Y : Hid (s.r b = y)) (N : n % 4294967296 = u) (N' : IntKind.u32.wrap n = u) (F : Hid (Num.lt (Num.fm 4) = 73))
    (CA : Hid (∀ w, RAt B C s v w → Calls Tryz.prog 69 #[.pointer (some ⟨B, 0, none⟩), .agg (cells 4 d a b n), .int .u32 x, .int .u32 y] w fun e w' => e = .returned (.agg (rc q1 q2 q3 q4 q5 q6 q7)) ∧ RNxt B C v s' w w')) (w : World) (hM : Hid (RAt B C s v w)) :
    Calls Tryz.prog 40 #[.pointer (some ⟨B, 0, none⟩), .agg (cells 4 d a b n), .int .u32 vv] w fun e w' => e = .returned (.agg (rc q1 q2 q3 q4 q5 q6 q7)) ∧ RNxt B C v s' w w' := by
  have cp := hM.out.pc
  have ca := hM.out.r a (by omega)
  rw [X.out] at ca
  have cb := hM.out.r b (by omega)
  rw [Y.out] at cb
  have hb := hM.out.lt
  have hb1 : B < w.heap.size + 1 := by omega
  have hb2 : B < w.heap.size + 1 + 1 := by omega
  have hw2 : w.heap.size < w.heap.size + 1 + 1 := by omega
  have HW := hid ((RNow.inst hM.out (cells 4 d a b n)).alloc (.cells (rc s.pc 0 0 false 0 0 0) 38))
  have BX := hid ((Box.inst w (cells 4 d a b n)).alloc (.cells (rc s.pc 0 0 false 0 0 0) 38))
  go_enter Tryz.func40, Tryz.ntmps40
  go_wp2_with fail
  go_region
  all_goals
    go_wp2_with fail
    refine (rformat_as _ _ F _).mono ?_; rintro e w1 ⟨rfl, rfl⟩
    go_wp2_with fail
    refine (CA.out _ (by exact HW.out.1.alike ⟨rfl, rfl, rfl⟩)).mono ?_
    rintro e w1 ⟨rfl, hN⟩
    obtain ⟨b0, b1, b2, b3, b4, b5, b6, y0, y1, y2, y3, y4, y5, y6⟩ := Box.rchg (w := _) (by exact BX.out.alike ⟨rfl, rfl, rfl⟩) hM.out (Nat.le_add_right _ 1) hN.chg
    go_wp2_with fail
    refine bodyPost_ret (v := .agg (rc q1 q2 q3 q4 q5 q6 q7)) (by simp [results, Tryz.results40, go_sem, *]) rfl ⟨rfl, ?_⟩
    exact hN.ends1 hM.out (by exact HW.out.2.alike ⟨rfl, rfl, rfl⟩) (Nat.le_add_right _ 1) (by simp) q1 q2 q3 q4 q5 q6 q7
set_option maxRecDepth 100000 in
set_option maxHeartbeats 600000 in
theorem rdo_acc (B C : Nat) (s s' : St) (v : Value) (o f n u x y c ad vv : Int) (d a b : Nat) (ha : (a : Int) ≤ 31) (hb31 : (b : Int) ≤ 31) (q1 q2 q3 : Int) (q4 : Bool) (q5 q6 q7 : Int) (X : Hid (s.r a = x)) (Y : Hid (s.r b = y)) (N : n % 4294967296 = u) (N' : IntKind.u32.wrap n = u) (F : Hid (Num.lt (Num.fm o) = f)) (f66 : (f == 66) = false) (f74 : (f == 74) = false) (o4 : (o == 4) = false) (Z : Hid (V.Num.sz o = c)) (c0 : 0 < c) (AD : (x + u) % 4294967296 = ad) (AD' : IntKind.u32.wrap (x + u) = ad)
    (CA : Hid (∀ w, RAt B C s v w → Calls Tryz.prog 71 #[.pointer (some ⟨B, 0, none⟩), .agg (cells o d a b n), .int .u32 ad, .int .u32 y] w fun e w' => e = .returned (.agg (rc q1 q2 q3 q4 q5 q6 q7)) ∧ RNxt B C v s' w w')) (w : World) (hM : Hid (RAt B C s v w)) :
    Calls Tryz.prog 40 #[.pointer (some ⟨B, 0, none⟩), .agg (cells o d a b n), .int .u32 vv] w fun e w' => e = .returned (.agg (rc q1 q2 q3 q4 q5 q6 q7)) ∧ RNxt B C v s' w w' := by
  have cp := hM.out.pc
  have ca := hM.out.r a (by omega)
  rw [X.out] at ca
  have cb := hM.out.r b (by omega)
  rw [Y.out] at cb
  have hb := hM.out.lt
  have hb1 : B < w.heap.size + 1 := by omega
  have hb2 : B < w.heap.size + 1 + 1 := by omega
  have hw2 : w.heap.size < w.heap.size + 1 + 1 := by omega
  have HW := hid ((RNow.inst hM.out (cells o d a b n)).alloc (.cells (rc s.pc 0 0 false 0 0 0) 38))
  have BX := hid ((Box.inst w (cells o d a b n)).alloc (.cells (rc s.pc 0 0 false 0 0 0) 38))
  go_enter Tryz.func40, Tryz.ntmps40
  go_wp2_with fail
  go_region
  all_goals
    go_wp2_with fail
    refine (rformat_as _ _ F _).mono ?_; rintro e w1 ⟨rfl, rfl⟩
    go_wp2_with fail
    refine (V.Walks.rsize_as _ _ Z _).mono ?_; rintro e w1 ⟨rfl, rfl⟩
    go_wp2_with fail
    refine (CA.out _ (by exact HW.out.1.alike ⟨rfl, rfl, rfl⟩)).mono ?_
    rintro e w1 ⟨rfl, hN⟩
    obtain ⟨b0, b1, b2, b3, b4, b5, b6, y0, y1, y2, y3, y4, y5, y6⟩ := Box.rchg (w := _) (by exact BX.out.alike ⟨rfl, rfl, rfl⟩) hM.out (Nat.le_add_right _ 1) hN.chg
    go_wp2_with fail
    refine bodyPost_ret (v := .agg (rc q1 q2 q3 q4 q5 q6 q7)) (by simp [results, Tryz.results40, go_sem, *]) rfl ⟨rfl, ?_⟩
    exact hN.ends1 hM.out (by exact HW.out.2.alike ⟨rfl, rfl, rfl⟩) (Nat.le_add_right _ 1) (by simp) q1 q2 q3 q4 q5 q6 q7
set_option maxRecDepth 100000 in
set_option maxHeartbeats 600000 in
theorem rdo_csr (B C : Nat) (s s' : St) (v : Value) (o f n u x y c ad vv : Int) (d a b : Nat) (ha : (a : Int) ≤ 31) (hb31 : (b : Int) ≤ 31) (q1 q2 q3 : Int) (q4 : Bool) (q5 q6 q7 : Int) (X : Hid (s.r a = x)) (Y : Hid (s.r b = y)) (N : n % 4294967296 = u) (N' : IntKind.u32.wrap n = u) (F : Hid (Num.lt (Num.fm o) = 67)) (o4 : (o == 4) = false) (Z : Hid (V.Num.sz o = 0))
    (CA : Hid (∀ w, RAt B C s v w → Calls Tryz.prog 72 #[.pointer (some ⟨B, 0, none⟩), .agg (cells o d a b n), .int .u32 vv, .int .u32 x] w fun e w' => e = .returned (.agg (rc q1 q2 q3 q4 q5 q6 q7)) ∧ RNxt B C v s' w w')) (w : World) (hM : Hid (RAt B C s v w)) :
    Calls Tryz.prog 40 #[.pointer (some ⟨B, 0, none⟩), .agg (cells o d a b n), .int .u32 vv] w fun e w' => e = .returned (.agg (rc q1 q2 q3 q4 q5 q6 q7)) ∧ RNxt B C v s' w w' := by
  have cp := hM.out.pc
  have ca := hM.out.r a (by omega)
  rw [X.out] at ca
  have cb := hM.out.r b (by omega)
  rw [Y.out] at cb
  have hb := hM.out.lt
  have hb1 : B < w.heap.size + 1 := by omega
  have hb2 : B < w.heap.size + 1 + 1 := by omega
  have hw2 : w.heap.size < w.heap.size + 1 + 1 := by omega
  have HW := hid ((RNow.inst hM.out (cells o d a b n)).alloc (.cells (rc s.pc 0 0 false 0 0 0) 38))
  have BX := hid ((Box.inst w (cells o d a b n)).alloc (.cells (rc s.pc 0 0 false 0 0 0) 38))
  go_enter Tryz.func40, Tryz.ntmps40
  go_wp2_with fail
  go_region
  all_goals
    go_wp2_with fail
    refine (rformat_as _ _ F _).mono ?_; rintro e w1 ⟨rfl, rfl⟩
    go_wp2_with fail
    refine (V.Walks.rsize_as _ _ Z _).mono ?_; rintro e w1 ⟨rfl, rfl⟩
    go_wp2_with fail
    refine (CA.out _ (by exact HW.out.1.alike ⟨rfl, rfl, rfl⟩)).mono ?_
    rintro e w1 ⟨rfl, hN⟩
    obtain ⟨b0, b1, b2, b3, b4, b5, b6, y0, y1, y2, y3, y4, y5, y6⟩ := Box.rchg (w := _) (by exact BX.out.alike ⟨rfl, rfl, rfl⟩) hM.out (Nat.le_add_right _ 1) hN.chg
    go_wp2_with fail
    refine bodyPost_ret (v := .agg (rc q1 q2 q3 q4 q5 q6 q7)) (by simp [results, Tryz.results40, go_sem, *]) rfl ⟨rfl, ?_⟩
    exact hN.ends1 hM.out (by exact HW.out.2.alike ⟨rfl, rfl, rfl⟩) (Nat.le_add_right _ 1) (by simp) q1 q2 q3 q4 q5 q6 q7
set_option maxRecDepth 100000 in
set_option maxHeartbeats 600000 in
theorem rdo_e47 (B C : Nat) (s s' : St) (v : Value) (o f n u x y c ad vv : Int) (d a b : Nat) (ha : (a : Int) ≤ 31) (hb31 : (b : Int) ≤ 31) (q1 q2 q3 : Int) (q4 : Bool) (q5 q6 q7 : Int) (X : Hid (s.r a = x)) (Y : Hid (s.r b = y)) (N : n % 4294967296 = u) (N' : IntKind.u32.wrap n = u) (F : Hid (Num.lt (Num.fm 47) = 78)) (Z : Hid (V.Num.sz 47 = 0))
    (CA : Hid (∀ w, RAt B C s v w → Calls Tryz.prog 38 #[.pointer (some ⟨B, 0, none⟩), .int .u32 s.pc, .int .i64 11, .int .u32 0] w fun e w' => e = .returned (.agg (rc q1 q2 q3 q4 q5 q6 q7)) ∧ RNxt B C v s' w w')) (w : World) (hM : Hid (RAt B C s v w)) :
    Calls Tryz.prog 40 #[.pointer (some ⟨B, 0, none⟩), .agg (cells 47 d a b n), .int .u32 vv] w fun e w' => e = .returned (.agg (rc q1 q2 q3 q4 q5 q6 q7)) ∧ RNxt B C v s' w w' := by
  have cp := hM.out.pc
  have ca := hM.out.r a (by omega)
  rw [X.out] at ca
  have cb := hM.out.r b (by omega)
  rw [Y.out] at cb
  have hb := hM.out.lt
  have hb1 : B < w.heap.size + 1 := by omega
  have hb2 : B < w.heap.size + 1 + 1 := by omega
  have hw2 : w.heap.size < w.heap.size + 1 + 1 := by omega
  have HW := hid ((RNow.inst hM.out (cells 47 d a b n)).alloc (.cells (rc s.pc 0 0 false 0 0 0) 38))
  have BX := hid ((Box.inst w (cells 47 d a b n)).alloc (.cells (rc s.pc 0 0 false 0 0 0) 38))
  go_enter Tryz.func40, Tryz.ntmps40
  go_wp2_with fail
  go_region
  all_goals
    go_wp2_with fail
    refine (rformat_as _ _ F _).mono ?_; rintro e w1 ⟨rfl, rfl⟩
    go_wp2_with fail
    refine (V.Walks.rsize_as _ _ Z _).mono ?_; rintro e w1 ⟨rfl, rfl⟩
    go_wp2_with fail
    refine (CA.out _ (by exact HW.out.1.alike ⟨rfl, rfl, rfl⟩)).mono ?_
    rintro e w1 ⟨rfl, hN⟩
    obtain ⟨b0, b1, b2, b3, b4, b5, b6, y0, y1, y2, y3, y4, y5, y6⟩ := Box.rchg (w := _) (by exact BX.out.alike ⟨rfl, rfl, rfl⟩) hM.out (Nat.le_add_right _ 1) hN.chg
    go_wp2_with fail
    refine bodyPost_ret (v := .agg (rc q1 q2 q3 q4 q5 q6 q7)) (by simp [results, Tryz.results40, go_sem, *]) rfl ⟨rfl, ?_⟩
    exact hN.ends1 hM.out (by exact HW.out.2.alike ⟨rfl, rfl, rfl⟩) (Nat.le_add_right _ 1) (by simp) q1 q2 q3 q4 q5 q6 q7
set_option maxRecDepth 100000 in
set_option maxHeartbeats 600000 in
theorem rdo_e48 (B C : Nat) (s s' : St) (v : Value) (o f n u x y c ad vv : Int) (d a b : Nat) (ha : (a : Int) ≤ 31) (hb31 : (b : Int) ≤ 31) (q1 q2 q3 : Int) (q4 : Bool) (q5 q6 q7 : Int) (X : Hid (s.r a = x)) (Y : Hid (s.r b = y)) (N : n % 4294967296 = u) (N' : IntKind.u32.wrap n = u) (F : Hid (Num.lt (Num.fm 48) = 78)) (Z : Hid (V.Num.sz 48 = 0))
    (CA : Hid (∀ w, RAt B C s v w → Calls Tryz.prog 38 #[.pointer (some ⟨B, 0, none⟩), .int .u32 s.pc, .int .i64 3, .int .u32 0] w fun e w' => e = .returned (.agg (rc q1 q2 q3 q4 q5 q6 q7)) ∧ RNxt B C v s' w w')) (w : World) (hM : Hid (RAt B C s v w)) :
    Calls Tryz.prog 40 #[.pointer (some ⟨B, 0, none⟩), .agg (cells 48 d a b n), .int .u32 vv] w fun e w' => e = .returned (.agg (rc q1 q2 q3 q4 q5 q6 q7)) ∧ RNxt B C v s' w w' := by
  have cp := hM.out.pc
  have ca := hM.out.r a (by omega)
  rw [X.out] at ca
  have cb := hM.out.r b (by omega)
  rw [Y.out] at cb
  have hb := hM.out.lt
  have hb1 : B < w.heap.size + 1 := by omega
  have hb2 : B < w.heap.size + 1 + 1 := by omega
  have hw2 : w.heap.size < w.heap.size + 1 + 1 := by omega
  have HW := hid ((RNow.inst hM.out (cells 48 d a b n)).alloc (.cells (rc s.pc 0 0 false 0 0 0) 38))
  have BX := hid ((Box.inst w (cells 48 d a b n)).alloc (.cells (rc s.pc 0 0 false 0 0 0) 38))
  go_enter Tryz.func40, Tryz.ntmps40
  go_wp2_with fail
  go_region
  all_goals
    go_wp2_with fail
    refine (rformat_as _ _ F _).mono ?_; rintro e w1 ⟨rfl, rfl⟩
    go_wp2_with fail
    refine (V.Walks.rsize_as _ _ Z _).mono ?_; rintro e w1 ⟨rfl, rfl⟩
    go_wp2_with fail
    refine (CA.out _ (by exact HW.out.1.alike ⟨rfl, rfl, rfl⟩)).mono ?_
    rintro e w1 ⟨rfl, hN⟩
    obtain ⟨b0, b1, b2, b3, b4, b5, b6, y0, y1, y2, y3, y4, y5, y6⟩ := Box.rchg (w := _) (by exact BX.out.alike ⟨rfl, rfl, rfl⟩) hM.out (Nat.le_add_right _ 1) hN.chg
    go_wp2_with fail
    refine bodyPost_ret (v := .agg (rc q1 q2 q3 q4 q5 q6 q7)) (by simp [results, Tryz.results40, go_sem, *]) rfl ⟨rfl, ?_⟩
    exact hN.ends1 hM.out (by exact HW.out.2.alike ⟨rfl, rfl, rfl⟩) (Nat.le_add_right _ 1) (by simp) q1 q2 q3 q4 q5 q6 q7
end Go.Proofs.YtpkbkbllhpdfiaaGreat.M
namespace Go.Proofs.YtpkbkbllhpdfiaaGreat.M
open Go.ChangeShapes Go.WideShapes Go.ChangeAt Go.RowKit Go.Proofs.YtpkbkbllhpdfiaaGreat.Walks Go.Proofs.YtpkbkbllhpdfiaaGreat.Mod
set_option linter.unusedVariables false
theorem rfetch_to (a c : Int) (b : Bool) (a0 : 0 ≤ a) (C : Hid (T.Num.fc (a % 4 == 0) (T.Num.ins a) = c)) (X : Hid (T.Num.fb (a % 4 == 0) (T.Num.ins a) = b)) (w : World) :
    Calls Tryz.prog 37 #[.int .u32 a] w fun e w' => e = .returned (.tuple #[.int .i64 c, .bool b]) ∧ w' = w := T.Walks.rfetch_as a a0 _ _ c b rfl rfl C X w
set_option maxRecDepth 100000 in
set_option maxHeartbeats 400000 in
theorem rstep_halted (B C : Nat) (s : St) (v : Value) (H : Hid (s.h = true)) (w : World) (hM : Hid (RAt B C s v w)) :
    Calls Tryz.prog 22 #[.pointer (some ⟨B, 0, none⟩)] w fun e w' => e = .returned (.tuple #[.agg z7, .bool false]) ∧ RNow B C v s w w' := by
  have ch := hM.out.h
  rw [H.out] at ch
  have hb := hM.out.lt
  go_enter Tryz.func22, Tryz.ntmps22
  go_wp2_with fail
  refine bodyPost_ret (v := .tuple #[.agg z7, .bool false]) (by simp [results, Tryz.results22, go_sem, *]) rfl ⟨rfl, ?_⟩
  exact (RNow.refl hM.out).alloc _
set_option maxRecDepth 100000 in
set_option maxHeartbeats 400000 in
theorem rstep_fetch (B C : Nat) (s s' : St) (v : Value) (c p : Int) (H : Hid (s.h = false)) (n1 : s.n ≤ 100000) (n0 : 0 ≤ s.n) (P : Hid (s.pc = p)) (p0 : Hid (0 ≤ p)) (FC : Hid (T.Num.fc (p % 4 == 0) (T.Num.ins p) = c)) (c0 : Hid (0 ≤ c ∧ c ≤ 11)) (X : Hid (T.Num.fb (p % 4 == 0) (T.Num.ins p) = true)) (I : Hid (Inv s.more)) (S : Hid (s.more.trap c p = s')) (w : World) (hM : Hid (RAt B C s v w)) :
    Calls Tryz.prog 22 #[.pointer (some ⟨B, 0, none⟩)] w fun e w' => e = .returned (.tuple #[.agg (rc p 0 0 false 0 0 0), .bool true]) ∧ RNow B C v s' w w' := by
  have ch := hM.out.h
  rw [H.out] at ch
  have cp := hM.out.pc
  rw [P.out] at cp
  have cn := hM.out.n
  have zn := hM.out.z 42 (by decide)
  have hb := hM.out.lt
  have HW : Hid (RNow B C v s.more w ((w.setCell ⟨B, 42, none⟩ (.int .i64 (s.n + 1))).alloc (.cells z7 38))) := ((RNow.refl hM.out).setN).alloc _
  have BX : Hid (Box w.heap.size ((w.setCell ⟨B, 42, none⟩ (.int .i64 (s.n + 1))).alloc (.cells z7 38))) := Box.at _ _ (by simp)
  go_enter Tryz.func22, Tryz.ntmps22
  go_wp2_with fail
  refine (rfetch_to _ _ _ p0.out FC X _).mono ?_; rintro e w1 ⟨rfl, rfl⟩
  go_wp2_with fail
  refine (rtrap_as B C s.more s' v _ _ _ I.out P c0.out.1 c0.out.2 S _ (by exact HW.out.1)).mono ?_; rintro e w1 ⟨rfl, hN⟩
  obtain ⟨b0, b1, b2, b3, b4, b5, b6, y0, y1, y2, y3, y4, y5, y6⟩ := Box.rchg (w := _) (by exact BX.out) hM.out (Nat.le_refl _) hN.2
  go_wp2_with fail
  refine bodyPost_ret (v := .tuple #[.agg (rc p 0 0 false 0 0 0), .bool true]) (by simp [results, Tryz.results22, go_sem, *]) rfl ⟨rfl, ?_⟩
  exact RNow.ends (HW.out.then hN) hM.out (Nat.le_refl _) p 0 0 false 0 0 0
set_option maxRecDepth 100000 in
set_option maxHeartbeats 600000 in
theorem rstep_bad (B C : Nat) (s s' : St) (v : Value) (c p x : Int) (k : Nat) (H : Hid (s.h = false)) (n1 : s.n ≤ 100000) (n0 : 0 ≤ s.n) (P : Hid (s.pc = p)) (p0 : Hid (0 ≤ p)) (FC : Hid (T.Num.fc (p % 4 == 0) (T.Num.ins p) = c)) (X : Hid (T.Num.fb (p % 4 == 0) (T.Num.ins p) = false))
    (K : p / 4 = (k : Int)) (K1 : p.tdiv 4 = (k : Int)) (hk : (k : Int) ≤ 1023) (XW : Hid (s.m k = x)) (x0 : Hid (W32 x)) (D : Hid (Num.Dec x 0 0 0 0 0 false)) (I : Hid (Inv s.more)) (S : Hid (s.more.trap 2 x = s')) (w : World) (hM : Hid (RAt B C s v w)) :
    Calls Tryz.prog 22 #[.pointer (some ⟨B, 0, none⟩)] w fun e w' => e = .returned (.tuple #[.agg (rc p 0 0 false 0 0 0), .bool true]) ∧ RNow B C v s' w w' := by
  have ch := hM.out.h
  rw [H.out] at ch
  have cp := hM.out.pc
  rw [P.out] at cp
  have cn := hM.out.n
  have zn := hM.out.z 42 (by decide)
  have hb := hM.out.lt
  have cl := hM.out.l
  have cm := hM.out.m k (by omega)
  rw [XW.out] at cm
  have hc := hM.out.ltc
  have bc := hM.out.bc
  have bc' : ¬ B = C := bc
  have bc2 : ¬ C = B := Ne.symm bc
  have hc1 : C < w.heap.size + 1 := by omega
  have hb1 : B < w.heap.size + 1 := by omega
  have k9 : (k : Int) < 1024 := by omega
  have k0 : (0 : Int) ≤ k := by omega
  have K2 : IntKind.u32.wrap (k : Int) = k := by show (k : Int) % 4294967296 = k; omega
  have HW : Hid (RNow B C v s.more w ((w.setCell ⟨B, 42, none⟩ (.int .i64 (s.n + 1))).alloc (.cells z7 38))) := ((RNow.refl hM.out).setN).alloc _
  have BX : Hid (Box w.heap.size ((w.setCell ⟨B, 42, none⟩ (.int .i64 (s.n + 1))).alloc (.cells z7 38))) := Box.at _ _ (by simp)
  go_enter Tryz.func22, Tryz.ntmps22
  go_wp2_with fail
  refine (rfetch_to _ _ _ p0.out FC X _).mono ?_; rintro e w1 ⟨rfl, rfl⟩
  go_wp2_with fail
  try go_region
  all_goals
    try go_wp2_with fail
    refine (rdecode_as _ _ _ _ _ _ _ D x0.out.1 x0.out.2 _).mono ?_; rintro e w1 ⟨rfl, hF⟩
    have H1 : Hid (RNow B C v s.more w w1) := RNow.fr (by exact HW.out.alike ⟨rfl, rfl, rfl⟩) hF
    have B1 : Hid (Box w.heap.size w1) := Box.fr (by exact BX.out.alike ⟨rfl, rfl, rfl⟩) hF
    go_wp2_with fail
    refine (rtrap_as B C s.more s' v _ _ _ I.out P (by decide) (by decide) S _ (by exact H1.out.1.alloc _)).mono ?_; rintro e w2 ⟨rfl, hN⟩
    obtain ⟨b0, b1, b2, b3, b4, b5, b6, y0, y1, y2, y3, y4, y5, y6⟩ := Box.rchg (w := _) (by exact B1.out.alloc _) hM.out (Nat.le_refl _) hN.2
    go_wp2_with fail
    refine bodyPost_ret (v := .tuple #[.agg (rc p 0 0 false 0 0 0), .bool true]) (by simp [results, Tryz.results22, go_sem, *]) rfl ⟨rfl, ?_⟩
    exact RNow.ends (RNow.then (by exact H1.out.alloc _) hN) hM.out (Nat.le_refl _) p 0 0 false 0 0 0
set_option maxRecDepth 100000 in
set_option maxHeartbeats 600000 in
theorem rstep_do (B C : Nat) (s s' : St) (v : Value) (c p x o n : Int) (d a b : Nat) (k : Nat) (H : Hid (s.h = false)) (n1 : s.n ≤ 100000) (n0 : 0 ≤ s.n) (P : Hid (s.pc = p)) (p0 : Hid (0 ≤ p)) (FC : Hid (T.Num.fc (p % 4 == 0) (T.Num.ins p) = c)) (X : Hid (T.Num.fb (p % 4 == 0) (T.Num.ins p) = false))
    (K : p / 4 = (k : Int)) (K1 : p.tdiv 4 = (k : Int)) (hk : (k : Int) ≤ 1023) (XW : Hid (s.m k = x)) (x0 : Hid (W32 x)) (D : Hid (Num.Dec x o d a b n true)) (q1 q2 q3 : Int) (q4 : Bool) (q5 q6 q7 : Int)
    (CA : Hid (∀ w, RAt B C s.more v w → Calls Tryz.prog 40 #[.pointer (some ⟨B, 0, none⟩), .agg (cells o d a b n), .int .u32 x] w fun e w' => e = .returned (.agg (rc q1 q2 q3 q4 q5 q6 q7)) ∧ RNxt B C v s' w w')) (w : World) (hM : Hid (RAt B C s v w)) :
    Calls Tryz.prog 22 #[.pointer (some ⟨B, 0, none⟩)] w fun e w' => e = .returned (.tuple #[.agg (rc q1 q2 q3 q4 q5 q6 q7), .bool true]) ∧ RNxt B C v s' w w' := by
  have ch := hM.out.h
  rw [H.out] at ch
  have cp := hM.out.pc
  rw [P.out] at cp
  have cn := hM.out.n
  have zn := hM.out.z 42 (by decide)
  have hb := hM.out.lt
  have cl := hM.out.l
  have cm := hM.out.m k (by omega)
  rw [XW.out] at cm
  have hc := hM.out.ltc
  have bc := hM.out.bc
  have bc' : ¬ B = C := bc
  have bc2 : ¬ C = B := Ne.symm bc
  have hc1 : C < w.heap.size + 1 := by omega
  have hb1 : B < w.heap.size + 1 := by omega
  have k9 : (k : Int) < 1024 := by omega
  have k0 : (0 : Int) ≤ k := by omega
  have K2 : IntKind.u32.wrap (k : Int) = k := by show (k : Int) % 4294967296 = k; omega
  have HW : Hid (RNow B C v s.more w ((w.setCell ⟨B, 42, none⟩ (.int .i64 (s.n + 1))).alloc (.cells z7 38))) := ((RNow.refl hM.out).setN).alloc _
  have BX : Hid (Box w.heap.size ((w.setCell ⟨B, 42, none⟩ (.int .i64 (s.n + 1))).alloc (.cells z7 38))) := Box.at _ _ (by simp)
  go_enter Tryz.func22, Tryz.ntmps22
  go_wp2_with fail
  refine (rfetch_to _ _ _ p0.out FC X _).mono ?_; rintro e w1 ⟨rfl, rfl⟩
  go_wp2_with fail
  try go_region
  all_goals
    try go_wp2_with fail
    refine (rdecode_as _ _ _ _ _ _ _ D x0.out.1 x0.out.2 _).mono ?_; rintro e w1 ⟨rfl, hF⟩
    have H1 : Hid (RNow B C v s.more w w1) := RNow.fr (by exact HW.out.alike ⟨rfl, rfl, rfl⟩) hF
    have B1 : Hid (Box w.heap.size w1) := Box.fr (by exact BX.out.alike ⟨rfl, rfl, rfl⟩) hF
    go_wp2_with fail
    refine (CA.out _ (by exact H1.out.1.alloc _)).mono ?_; rintro e w2 ⟨rfl, hN⟩
    obtain ⟨b0, b1, b2, b3, b4, b5, b6, y0, y1, y2, y3, y4, y5, y6⟩ := Box.rchg (w := _) (by exact B1.out.alloc _) hM.out (Nat.le_refl _) hN.chg
    have sz := hid (cell_lt B1.out.c0)
    go_wp2_with fail
    refine bodyPost_ret (v := .tuple #[.agg (rc q1 q2 q3 q4 q5 q6 q7), .bool true]) (by simp [results, Tryz.results22, go_sem, *]) rfl ⟨rfl, ?_⟩
    exact hN.ends1 hM.out (by exact H1.out.2.alloc _) (Nat.le_refl _) (by have := sz.out; simp; omega) q1 q2 q3 q4 q5 q6 q7
end Go.Proofs.YtpkbkbllhpdfiaaGreat.M
namespace Go.Proofs.YtpkbkbllhpdfiaaGreat.M
open Go.ChangeShapes Go.WideShapes Go.ChangeAt Go.RowKit Go.Proofs.YtpkbkbllhpdfiaaGreat.Walks Go.Proofs.YtpkbkbllhpdfiaaGreat.Mod
set_option linter.unusedVariables false
set_option maxRecDepth 100000 in
set_option maxHeartbeats 600000 in
theorem rdo_46 (B C : Nat) (s : St) (v : Value) (n u x y nx e2 vv : Int) (d a b : Nat) (ha : (a : Int) ≤ 31) (hb31 : (b : Int) ≤ 31) (X : Hid (s.r a = x)) (Y : Hid (s.r b = y)) (N : n % 4294967296 = u) (NX : (s.pc + 4) % 4294967296 = nx) (F : Hid (Num.lt (Num.fm 46) = 78)) (Z : Hid (V.Num.sz 46 = 0)) (E : Hid (s.c 2 = e2)) (w : World) (hM : Hid (RAt B C s v w)) :
    Calls Tryz.prog 40 #[.pointer (some ⟨B, 0, none⟩), .agg (cells 46 d a b n), .int .u32 vv] w fun e w' => e = .returned (.agg (rc s.pc 0 0 false 0 0 0)) ∧ RNow B C v (s.go nx) w w' := by
  have cp := hM.out.pc
  have zp := hM.out.z 0 (by decide)
  have ca := hM.out.r a (by omega)
  rw [X.out] at ca
  have cb := hM.out.r b (by omega)
  rw [Y.out] at cb
  have ce := hM.out.c 2 (by decide)
  rw [E.out] at ce
  have hb := hM.out.lt
  have hb1 : B < w.heap.size + 1 := by omega
  have hb2 : B < w.heap.size + 1 + 1 := by omega
  have hw2 : w.heap.size < w.heap.size + 1 + 1 := by omega
  go_enter Tryz.func40, Tryz.ntmps40
  go_wp2_with fail
  go_region
  all_goals
    go_wp2_with fail
    refine (rformat_as _ _ F _).mono ?_; rintro e w1 ⟨rfl, rfl⟩
    go_wp2_with fail
    refine (V.Walks.rsize_as _ _ Z _).mono ?_; rintro e w1 ⟨rfl, rfl⟩
    go_wp2_with fail
    try go_region
    all_goals
      try go_wp2_with fail
      refine bodyPost_ret (v := .agg (rc s.pc 0 0 false 0 0 0)) (by simp [results, Tryz.results40, go_sem, *]) rfl ⟨rfl, ?_⟩
      first
        | exact (((((RNow.refl hM.out).setPc nx).alloc _).alloc _).alloc _).drew
        | exact (((((RNow.refl hM.out).setPc nx).alloc _).alloc _).alloc _).drew.drew
set_option maxRecDepth 100000 in
set_option maxHeartbeats 600000 in
theorem rdo_49 (B C : Nat) (s : St) (v : Value) (n u x y nx e2 vv : Int) (d a b : Nat) (ha : (a : Int) ≤ 31) (hb31 : (b : Int) ≤ 31) (X : Hid (s.r a = x)) (Y : Hid (s.r b = y)) (N : n % 4294967296 = u) (NX : (s.pc + 4) % 4294967296 = nx) (F : Hid (Num.lt (Num.fm 49) = 78)) (Z : Hid (V.Num.sz 49 = 0)) (E : Hid (s.c 2 = e2)) (w : World) (hM : Hid (RAt B C s v w)) :
    Calls Tryz.prog 40 #[.pointer (some ⟨B, 0, none⟩), .agg (cells 49 d a b n), .int .u32 vv] w fun e w' => e = .returned (.agg (rc s.pc 0 0 false 0 0 0)) ∧ RNow B C v (s.go e2) w w' := by
  have cp := hM.out.pc
  have zp := hM.out.z 0 (by decide)
  have ca := hM.out.r a (by omega)
  rw [X.out] at ca
  have cb := hM.out.r b (by omega)
  rw [Y.out] at cb
  have ce := hM.out.c 2 (by decide)
  rw [E.out] at ce
  have hb := hM.out.lt
  have hb1 : B < w.heap.size + 1 := by omega
  have hb2 : B < w.heap.size + 1 + 1 := by omega
  have hw2 : w.heap.size < w.heap.size + 1 + 1 := by omega
  go_enter Tryz.func40, Tryz.ntmps40
  go_wp2_with fail
  go_region
  all_goals
    go_wp2_with fail
    refine (rformat_as _ _ F _).mono ?_; rintro e w1 ⟨rfl, rfl⟩
    go_wp2_with fail
    refine (V.Walks.rsize_as _ _ Z _).mono ?_; rintro e w1 ⟨rfl, rfl⟩
    go_wp2_with fail
    try go_region
    all_goals
      try go_wp2_with fail
      refine bodyPost_ret (v := .agg (rc s.pc 0 0 false 0 0 0)) (by simp [results, Tryz.results40, go_sem, *]) rfl ⟨rfl, ?_⟩
      first
        | exact (((((RNow.refl hM.out).setPc e2).alloc _).alloc _).alloc _).drew
        | exact (((((RNow.refl hM.out).setPc e2).alloc _).alloc _).alloc _).drew.drew
end Go.Proofs.YtpkbkbllhpdfiaaGreat.M
