/- Numbers: formats of ops; contracts of the program's formatOf and the document's Format. -/
import Derived.Test.YtlnliiihcajboaaDoorBasic
namespace Go.Proofs.YtlnliiihcajboaaDoor.Num
/-- which format an op has: the program's own numbers of formats -/
def fm (o : Int) : Int :=
  if o < 1 ∨ 55 < o then 0 else if o ≤ 2 then 7 else if o = 3 then 8 else if o = 4 then 3 else if o ≤ 10 then 6 else if o ≤ 15 then 3
  else if o ≤ 18 then 5 else if o ≤ 24 then 3 else if o ≤ 27 then 4 else if o ≤ 45 then 2 else if o ≤ 49 then 1 else if o ≤ 52 then 9 else 10
/-- the document's letter of a format -/
def lt (f : Int) : Int := if f = 7 then 85 else if f = 8 then 74 else if f = 3 then 73 else if f = 6 then 66 else if f = 5 then 83 else if f = 4 then 72 else if f = 2 then 82 else if f = 9 then 67 else if f = 10 then 67 else if f = 1 then 78 else 0
theorem fm_parts (o : Int) : (o < 1 ∧ fm o = 0) ∨ (1 ≤ o ∧ o ≤ 2 ∧ fm o = 7) ∨ (o = 3 ∧ fm o = 8) ∨ (o = 4 ∧ fm o = 3) ∨ (5 ≤ o ∧ o ≤ 10 ∧ fm o = 6) ∨ (11 ≤ o ∧ o ≤ 15 ∧ fm o = 3) ∨ (16 ≤ o ∧ o ≤ 18 ∧ fm o = 5) ∨ (19 ≤ o ∧ o ≤ 24 ∧ fm o = 3) ∨ (25 ≤ o ∧ o ≤ 27 ∧ fm o = 4) ∨ (28 ≤ o ∧ o ≤ 45 ∧ fm o = 2) ∨ (46 ≤ o ∧ o ≤ 49 ∧ fm o = 1) ∨ (50 ≤ o ∧ o ≤ 52 ∧ fm o = 9) ∨ (53 ≤ o ∧ o ≤ 55 ∧ fm o = 10) ∨ (55 < o ∧ fm o = 0) := by
  have p : (o < 1) ∨ (1 ≤ o ∧ o ≤ 2) ∨ (o = 3) ∨ (o = 4) ∨ (5 ≤ o ∧ o ≤ 10) ∨ (11 ≤ o ∧ o ≤ 15) ∨ (16 ≤ o ∧ o ≤ 18) ∨ (19 ≤ o ∧ o ≤ 24) ∨ (25 ≤ o ∧ o ≤ 27) ∨ (28 ≤ o ∧ o ≤ 45) ∨ (46 ≤ o ∧ o ≤ 49) ∨ (50 ≤ o ∧ o ≤ 52) ∨ (53 ≤ o ∧ o ≤ 55) ∨ (55 < o) := by omega
  rcases p with h | h | h | h | h | h | h | h | h | h | h | h | h | h
  · refine .inl (⟨h, ?_⟩)
    unfold fm; repeat (first | rw [if_pos (by omega)] | rw [if_neg (by omega)])
  · refine .inr (.inl (⟨h.1, h.2, ?_⟩))
    unfold fm; repeat (first | rw [if_pos (by omega)] | rw [if_neg (by omega)])
  · refine .inr (.inr (.inl (⟨h, ?_⟩)))
    unfold fm; repeat (first | rw [if_pos (by omega)] | rw [if_neg (by omega)])
  · refine .inr (.inr (.inr (.inl (⟨h, ?_⟩))))
    unfold fm; repeat (first | rw [if_pos (by omega)] | rw [if_neg (by omega)])
  · refine .inr (.inr (.inr (.inr (.inl (⟨h.1, h.2, ?_⟩)))))
    unfold fm; repeat (first | rw [if_pos (by omega)] | rw [if_neg (by omega)])
  · refine .inr (.inr (.inr (.inr (.inr (.inl (⟨h.1, h.2, ?_⟩))))))
    unfold fm; repeat (first | rw [if_pos (by omega)] | rw [if_neg (by omega)])
  · refine .inr (.inr (.inr (.inr (.inr (.inr (.inl (⟨h.1, h.2, ?_⟩)))))))
    unfold fm; repeat (first | rw [if_pos (by omega)] | rw [if_neg (by omega)])
  · refine .inr (.inr (.inr (.inr (.inr (.inr (.inr (.inl (⟨h.1, h.2, ?_⟩))))))))
    unfold fm; repeat (first | rw [if_pos (by omega)] | rw [if_neg (by omega)])
  · refine .inr (.inr (.inr (.inr (.inr (.inr (.inr (.inr (.inl (⟨h.1, h.2, ?_⟩)))))))))
    unfold fm; repeat (first | rw [if_pos (by omega)] | rw [if_neg (by omega)])
  · refine .inr (.inr (.inr (.inr (.inr (.inr (.inr (.inr (.inr (.inl (⟨h.1, h.2, ?_⟩))))))))))
    unfold fm; repeat (first | rw [if_pos (by omega)] | rw [if_neg (by omega)])
  · refine .inr (.inr (.inr (.inr (.inr (.inr (.inr (.inr (.inr (.inr (.inl (⟨h.1, h.2, ?_⟩)))))))))))
    unfold fm; repeat (first | rw [if_pos (by omega)] | rw [if_neg (by omega)])
  · refine .inr (.inr (.inr (.inr (.inr (.inr (.inr (.inr (.inr (.inr (.inr (.inl (⟨h.1, h.2, ?_⟩))))))))))))
    unfold fm; repeat (first | rw [if_pos (by omega)] | rw [if_neg (by omega)])
  · refine .inr (.inr (.inr (.inr (.inr (.inr (.inr (.inr (.inr (.inr (.inr (.inr (.inl (⟨h.1, h.2, ?_⟩)))))))))))))
    unfold fm; repeat (first | rw [if_pos (by omega)] | rw [if_neg (by omega)])
  · refine .inr (.inr (.inr (.inr (.inr (.inr (.inr (.inr (.inr (.inr (.inr (.inr (.inr ((⟨h, ?_⟩))))))))))))))
    unfold fm; repeat (first | rw [if_pos (by omega)] | rw [if_neg (by omega)])
end Go.Proofs.YtlnliiihcajboaaDoor.Num
namespace Go.Proofs.YtlnliiihcajboaaDoor.Walks
open Go.ChangeShapes Go.WideShapes Go.ChangeAt Go.RowKit
set_option maxHeartbeats 4000000 in
theorem format_all (o : Int) (w : World) :
    Calls Tryd.prog 65 #[.int .i64 o] w fun e w' => e = .returned (.int .i64 (Num.fm o)) ∧ w' = w := by
  rcases Num.fm_parts o with ⟨h0, h⟩ | ⟨h0, h1, h⟩ | ⟨rfl, h⟩ | ⟨rfl, h⟩ | ⟨h0, h1, h⟩ | ⟨h0, h1, h⟩ | ⟨h0, h1, h⟩ | ⟨h0, h1, h⟩ | ⟨h0, h1, h⟩ | ⟨h0, h1, h⟩ | ⟨h0, h1, h⟩ | ⟨h0, h1, h⟩ | ⟨h0, h1, h⟩ | ⟨h0, h⟩
  all_goals (rw [h]; clear h; go_enter Tryd.func65, Tryd.ntmps65; go_wp2; go_ret; exact ⟨rfl, rfl⟩)
theorem format_as (o f : Int) (H : Hid (Num.fm o = f)) (w : World) :
    Calls Tryd.prog 65 #[.int .i64 o] w fun e w' => e = .returned (.int .i64 f) ∧ w' = w := by
  rw [← H.out]; exact format_all o w
set_option maxHeartbeats 4000000 in
theorem rformat_all (o : Int) (w : World) :
    Calls Tryd.prog 13 #[.int .i64 o] w fun e w' => e = .returned (.int .u8 (Num.lt (Num.fm o))) ∧ w' = w := by
  rcases Num.fm_parts o with ⟨h0, h⟩ | ⟨h0, h1, h⟩ | ⟨rfl, h⟩ | ⟨rfl, h⟩ | ⟨h0, h1, h⟩ | ⟨h0, h1, h⟩ | ⟨h0, h1, h⟩ | ⟨h0, h1, h⟩ | ⟨h0, h1, h⟩ | ⟨h0, h1, h⟩ | ⟨h0, h1, h⟩ | ⟨h0, h1, h⟩ | ⟨h0, h1, h⟩ | ⟨h0, h⟩
  all_goals (rw [h]; clear h; go_enter Tryd.func13, Tryd.ntmps13; go_wp2)
  all_goals first
    | (exfalso; simp only [beq_iff_eq, beq_eq_false_iff_ne, ne_eq] at *; omega)
    | (go_ret; exact ⟨rfl, rfl⟩)
theorem rformat_as (o f : Int) (H : Hid (Num.lt (Num.fm o) = f)) (w : World) :
    Calls Tryd.prog 13 #[.int .i64 o] w fun e w' => e = .returned (.int .u8 f) ∧ w' = w := by
  rw [← H.out]; exact rformat_all o w
end Go.Proofs.YtlnliiihcajboaaDoor.Walks
