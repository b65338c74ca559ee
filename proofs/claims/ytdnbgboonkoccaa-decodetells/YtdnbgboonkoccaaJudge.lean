/- Contracts of Reads, Writes, Slow: the program's and the document's own; of the laws' own judged. -/
import Derived.Test.YtdnbgboonkoccaaFmt
namespace Go.Proofs.Ytdnbgboonkoccaa.Num
def r1 (f : Int) : Bool := f = 2 || f = 5 || f = 6 || f = 3 || f = 4 || f = 9
def r2 (f : Int) : Bool := f = 2 || f = 5 || f = 6
def wf (f : Int) : Bool := !(f = 0 || f = 1 || f = 5 || f = 6)
def wr (f d : Int) : Bool := wf f && d != 0
def sl (o : Int) : Int := if o < 38 then 0 else if o ≤ 41 then 1 else if o ≤ 45 then 2 else 0
theorem fm_is (o : Int) : fm o = 0 ∨ fm o = 1 ∨ fm o = 2 ∨ fm o = 3 ∨ fm o = 4 ∨ fm o = 5 ∨ fm o = 6 ∨ fm o = 7 ∨ fm o = 8 ∨ (fm o = 9 ∧ o ≤ 52) ∨ (fm o = 10 ∧ 52 < o) := by
  have := fm_parts o
  omega
theorem sl_parts (o : Int) : (o < 38 ∧ sl o = 0) ∨ (o = 38 ∧ sl o = 1) ∨ (o = 39 ∧ sl o = 1) ∨ (o = 40 ∧ sl o = 1) ∨ (o = 41 ∧ sl o = 1) ∨ (o = 42 ∧ sl o = 2) ∨ (o = 43 ∧ sl o = 2) ∨ (o = 44 ∧ sl o = 2) ∨ (o = 45 ∧ sl o = 2) ∨ (45 < o ∧ sl o = 0) := by
  unfold sl
  omega
end Go.Proofs.Ytdnbgboonkoccaa.Num
namespace Go.Proofs.Ytdnbgboonkoccaa.Walks
open Go.ChangeShapes Go.WideShapes Go.ChangeAt Go.RowKit
set_option linter.unusedVariables false
theorem hideP {p : Prop} (h : p) : Hid p := h
abbrev cells (o d a b n : Int) : Array Value := #[.int .i64 o, .int .i64 d, .int .i64 a, .int .i64 b, .int .i32 n]
set_option maxHeartbeats 4000000 in
theorem reads_as (o d a b n : Int) (p q : Bool) (P : Hid (Num.r1 (Num.fm o) = p)) (Q : Hid (Num.r2 (Num.fm o) = q)) (w : World) :
    Calls Try.prog 13 #[.agg (cells o d a b n)] w fun e w' => e = .returned (.tuple #[.bool p, .bool q]) ∧ w' = w.alloc (.cells (cells o d a b n) 28) := by
  rw [← P.out, ← Q.out]; clear P Q
  rcases Num.fm_is o with h | h | h | h | h | h | h | h | h | ⟨h, hb⟩ | ⟨h, hb⟩
  all_goals
    have H := hideP h
    rw [h]; clear h
    go_enter Try.func13, Try.ntmps13
    go_wp2_with fail
    refine (format_as _ _ H _).mono ?_; rintro e w' ⟨rfl, rfl⟩
    go_wp2_with fail
    go_ret2
    first
    | exact ⟨rfl, rfl⟩
    | exact ⟨rfl, rfl, rfl⟩
    | exact ⟨rfl, rfl, rfl, rfl⟩
    | (simp only [show decide (o ≤ 52) = false from decide_eq_false (by omega)]; refine ⟨rfl, ?_⟩; first | rfl | trivial)
set_option maxHeartbeats 4000000 in
theorem rreads_as (o d a b n : Int) (p q : Bool) (P : Hid (Num.r1 (Num.fm o) = p)) (Q : Hid (Num.r2 (Num.fm o) = q)) (w : World) :
    Calls Try.prog 17 #[.agg (cells o d a b n)] w fun e w' => e = .returned (.tuple #[.bool p, .bool q]) ∧ w' = w.alloc (.cells (cells o d a b n) 28) := by
  rw [← P.out, ← Q.out]; clear P Q
  rcases Num.fm_is o with h | h | h | h | h | h | h | h | h | ⟨h, hb⟩ | ⟨h, hb⟩
  all_goals
    have H := hideP h
    rw [h]; clear h
    go_enter Try.func17, Try.ntmps17
    go_wp2_with fail
    refine (rformat_as _ _ (hideP (congrArg Num.lt H.out)) _).mono ?_; rintro e w' ⟨rfl, rfl⟩
    go_wp2_with fail
    go_ret2
    first
    | exact ⟨rfl, rfl⟩
    | exact ⟨rfl, rfl, rfl⟩
    | exact ⟨rfl, rfl, rfl, rfl⟩
    | (simp only [show decide (o ≤ 52) = false from decide_eq_false (by omega)]; refine ⟨rfl, ?_⟩; first | rfl | trivial)
set_option maxHeartbeats 4000000 in
theorem writes_as_g (o d a b n : Int) (g : Bool) (G : (d != 0) = g) (w : World) :
    Calls Try.prog 14 #[.agg (cells o d a b n)] w fun e w' => e = .returned (.bool (Num.wf (Num.fm o) && g)) ∧ w' = w.alloc (.cells (cells o d a b n) 28) := by
  cases g
  all_goals
    rcases Num.fm_is o with h | h | h | h | h | h | h | h | h | ⟨h, hb⟩ | ⟨h, hb⟩
    all_goals
      have H := hideP h
      rw [h]; clear h
      go_enter Try.func14, Try.ntmps14
      go_wp2_with fail
      refine (format_as _ _ H _).mono ?_; rintro e w' ⟨rfl, rfl⟩
      go_wp2_with fail
      go_ret
      exact ⟨rfl, rfl⟩
theorem writes_as (o d a b n : Int) (p : Bool) (P : Hid (Num.wr (Num.fm o) d = p)) (w : World) :
    Calls Try.prog 14 #[.agg (cells o d a b n)] w fun e w' => e = .returned (.bool p) ∧ w' = w.alloc (.cells (cells o d a b n) 28) := by
  rw [← P.out]; exact writes_as_g o d a b n _ rfl w
set_option maxHeartbeats 4000000 in
theorem rwrites_as_g (o d a b n : Int) (g : Bool) (G : (d != 0) = g) (w : World) :
    Calls Try.prog 18 #[.agg (cells o d a b n)] w fun e w' => e = .returned (.bool (Num.wf (Num.fm o) && g)) ∧ w' = w.alloc (.cells (cells o d a b n) 28) := by
  cases g
  all_goals
    rcases Num.fm_is o with h | h | h | h | h | h | h | h | h | ⟨h, hb⟩ | ⟨h, hb⟩
    all_goals
      have H := hideP h
      rw [h]; clear h
      go_enter Try.func18, Try.ntmps18
      go_wp2_with fail
      refine (rformat_as _ _ (hideP (congrArg Num.lt H.out)) _).mono ?_; rintro e w' ⟨rfl, rfl⟩
      go_wp2_with fail
      go_ret
      exact ⟨rfl, rfl⟩
theorem rwrites_as (o d a b n : Int) (p : Bool) (P : Hid (Num.wr (Num.fm o) d = p)) (w : World) :
    Calls Try.prog 18 #[.agg (cells o d a b n)] w fun e w' => e = .returned (.bool p) ∧ w' = w.alloc (.cells (cells o d a b n) 28) := by
  rw [← P.out]; exact rwrites_as_g o d a b n _ rfl w
set_option maxHeartbeats 4000000 in
theorem slow_as (o d a b n c : Int) (C : Hid (Num.sl o = c)) (w : World) :
    Calls Try.prog 15 #[.agg (cells o d a b n)] w fun e w' => e = .returned (.int .i64 c) ∧ w' = w.alloc (.cells (cells o d a b n) 28) := by
  rw [← C.out]; clear C
  rcases Num.sl_parts o with ⟨h0, h⟩ | ⟨rfl, h⟩ | ⟨rfl, h⟩ | ⟨rfl, h⟩ | ⟨rfl, h⟩ | ⟨rfl, h⟩ | ⟨rfl, h⟩ | ⟨rfl, h⟩ | ⟨rfl, h⟩ | ⟨h0, h⟩
  all_goals
    rw [h]; clear h
    go_enter Try.func15, Try.ntmps15
    go_wp2_with fail
    go_ret
    exact ⟨rfl, rfl⟩
set_option maxHeartbeats 4000000 in
theorem rslow_as (o d a b n c : Int) (C : Hid (Num.sl o = c)) (w : World) :
    Calls Try.prog 19 #[.agg (cells o d a b n)] w fun e w' => e = .returned (.int .i64 c) ∧ w' = w.alloc (.cells (cells o d a b n) 28) := by
  rw [← C.out]; clear C
  rcases Num.sl_parts o with ⟨h0, h⟩ | ⟨rfl, h⟩ | ⟨rfl, h⟩ | ⟨rfl, h⟩ | ⟨rfl, h⟩ | ⟨rfl, h⟩ | ⟨rfl, h⟩ | ⟨rfl, h⟩ | ⟨rfl, h⟩ | ⟨h0, h⟩
  all_goals
    rw [h]; clear h
    go_enter Try.func19, Try.ntmps19
    go_wp2_with fail
    go_ret
    exact ⟨rfl, rfl⟩
end Go.Proofs.Ytdnbgboonkoccaa.Walks
