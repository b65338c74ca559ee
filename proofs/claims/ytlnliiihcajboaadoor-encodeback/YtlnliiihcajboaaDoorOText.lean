/- Contract of the program's operandTexts, format by format. -/
import Derived.Test.YtlnliiihcajboaaDoorTab
import Derived.Test.YtlnliiihcajboaaDoorName
import Derived.BigQuiet
import Derived.Deep.QuietTactic
namespace Go.Proofs.YtlnliiihcajboaaDoor.Walks
theorem Fr.drewN2 {u w : World} (h : Fr u w) (n : Nat) : Fr u (w.drewN n) := h.alike ⟨rfl, rfl, rfl⟩
open Go.ChangeShapes Go.WideShapes Go.ChangeAt Go.RowKit
set_option linter.unusedVariables false
set_option maxRecDepth 100000 in
set_option maxHeartbeats 8000000 in
theorem otext1 (o d a b n c : Int) (s rd ra rb im : ByteArray) (S : Hid (Num.nm o = s)) (F : Hid (Num.fm o = 1)) (C : Hid (Num.cd o = c)) (RD : Hid (Num.bs ([120] ++ Lib.itoa d) = rd)) (RA : Hid (Num.bs ([120] ++ Lib.itoa a) = ra)) (RB : Hid (Num.bs ([120] ++ Lib.itoa b) = rb)) (IM : Hid (Num.bs (Lib.itoa n) = im))
    (d0 : 0 ≤ d) (d1 : d ≤ 31) (a0 : 0 ≤ a) (a1 : a ≤ 31) (b0 : 0 ≤ b) (b1 : b ≤ 31) (n0 : -2147483648 ≤ n) (n1 : n ≤ 2147483647) (w : World) (TT : Hid (Pow w)) :
    Calls Tryd.prog 32 #[.agg (cells o d a b n)] w fun e w' => e = .returned (.slice none 0 0) ∧ Fr w w' := by
  have hf := fun W => field1 s 1 c W
  go_enter Tryd.func32, Tryd.ntmps32
  go_wp2_with fail
  go_quiet ((go_at_call 52; first | exact Calls.quiet_of_same (register_as d rd RD d0 d1 _) | exact Calls.quiet_of_same (register_as a ra RA a0 a1 _) | exact Calls.quiet_of_same (register_as b rb RB b0 b1 _)))
  go_wp2_with fail
  refine (itoa_as n im IM (by omega) (by omega) _ (TT.out.fr (((Fr.refl _).alloc _).drewN2 _))).mono ?_; rintro e w1 ⟨rfl, hF⟩
  have F1 := hideP hF; clear hF
  obtain ⟨c0, c1, c2, c3, c4⟩ := box5 w w1 o d a b n (((Fr.refl _).drewN2 _).trans F1.out)
  go_wp2_with fail
  refine (shape_as o 1 c s S F C _).mono ?_; rintro e w' ⟨rfl, rfl⟩
  go_wp2_with fail
  go_ret
  exact ⟨rfl, (((((Fr.refl _).alloc _).drewN2 _).trans F1.out).alloc _).alloc _⟩
set_option maxRecDepth 100000 in
set_option maxHeartbeats 8000000 in
theorem otext2 (o d a b n c : Int) (s rd ra rb im : ByteArray) (S : Hid (Num.nm o = s)) (F : Hid (Num.fm o = 2)) (C : Hid (Num.cd o = c)) (RD : Hid (Num.bs ([120] ++ Lib.itoa d) = rd)) (RA : Hid (Num.bs ([120] ++ Lib.itoa a) = ra)) (RB : Hid (Num.bs ([120] ++ Lib.itoa b) = rb)) (IM : Hid (Num.bs (Lib.itoa n) = im))
    (d0 : 0 ≤ d) (d1 : d ≤ 31) (a0 : 0 ≤ a) (a1 : a ≤ 31) (b0 : 0 ≤ b) (b1 : b ≤ 31) (n0 : -2147483648 ≤ n) (n1 : n ≤ 2147483647) (w : World) (TT : Hid (Pow w)) :
    Calls Tryd.prog 32 #[.agg (cells o d a b n)] w fun e w' => ∃ K W, e = .returned (.slice (some ⟨K, 0, none⟩) 3 3) ∧ K = W.heap.size ∧ w' = W.alloc (.cells #[.string rd, .string ra, .string rb] 9) ∧ Fr w W := by
  have hf := fun W => field1 s 2 c W
  go_enter Tryd.func32, Tryd.ntmps32
  go_wp2_with fail
  go_quiet ((go_at_call 52; first | exact Calls.quiet_of_same (register_as d rd RD d0 d1 _) | exact Calls.quiet_of_same (register_as a ra RA a0 a1 _) | exact Calls.quiet_of_same (register_as b rb RB b0 b1 _)))
  go_wp2_with fail
  refine (itoa_as n im IM (by omega) (by omega) _ (TT.out.fr (((Fr.refl _).alloc _).drewN2 _))).mono ?_; rintro e w1 ⟨rfl, hF⟩
  have F1 := hideP hF; clear hF
  obtain ⟨c0, c1, c2, c3, c4⟩ := box5 w w1 o d a b n (((Fr.refl _).drewN2 _).trans F1.out)
  go_wp2_with fail
  refine (shape_as o 2 c s S F C _).mono ?_; rintro e w' ⟨rfl, rfl⟩
  go_wp2_with fail
  go_ret
  refine ⟨_, _, rfl, by simp, rfl, ?_⟩
  exact (((((Fr.refl _).alloc _).drewN2 _).trans F1.out).alloc _).alloc _
set_option maxRecDepth 100000 in
set_option maxHeartbeats 8000000 in
theorem otext3 (o d a b n c : Int) (s rd ra rb im : ByteArray) (S : Hid (Num.nm o = s)) (F : Hid (Num.fm o = 3)) (C : Hid (Num.cd o = c)) (RD : Hid (Num.bs ([120] ++ Lib.itoa d) = rd)) (RA : Hid (Num.bs ([120] ++ Lib.itoa a) = ra)) (RB : Hid (Num.bs ([120] ++ Lib.itoa b) = rb)) (IM : Hid (Num.bs (Lib.itoa n) = im))
    (d0 : 0 ≤ d) (d1 : d ≤ 31) (a0 : 0 ≤ a) (a1 : a ≤ 31) (b0 : 0 ≤ b) (b1 : b ≤ 31) (n0 : -2147483648 ≤ n) (n1 : n ≤ 2147483647) (w : World) (TT : Hid (Pow w)) :
    Calls Tryd.prog 32 #[.agg (cells o d a b n)] w fun e w' => ∃ K W, e = .returned (.slice (some ⟨K, 0, none⟩) 3 3) ∧ K = W.heap.size ∧ w' = W.alloc (.cells #[.string rd, .string ra, .string im] 9) ∧ Fr w W := by
  have hf := fun W => field1 s 3 c W
  go_enter Tryd.func32, Tryd.ntmps32
  go_wp2_with fail
  go_quiet ((go_at_call 52; first | exact Calls.quiet_of_same (register_as d rd RD d0 d1 _) | exact Calls.quiet_of_same (register_as a ra RA a0 a1 _) | exact Calls.quiet_of_same (register_as b rb RB b0 b1 _)))
  go_wp2_with fail
  refine (itoa_as n im IM (by omega) (by omega) _ (TT.out.fr (((Fr.refl _).alloc _).drewN2 _))).mono ?_; rintro e w1 ⟨rfl, hF⟩
  have F1 := hideP hF; clear hF
  obtain ⟨c0, c1, c2, c3, c4⟩ := box5 w w1 o d a b n (((Fr.refl _).drewN2 _).trans F1.out)
  go_wp2_with fail
  refine (shape_as o 3 c s S F C _).mono ?_; rintro e w' ⟨rfl, rfl⟩
  go_wp2_with fail
  go_ret
  refine ⟨_, _, rfl, by simp, rfl, ?_⟩
  exact (((((Fr.refl _).alloc _).drewN2 _).trans F1.out).alloc _).alloc _
set_option maxRecDepth 100000 in
set_option maxHeartbeats 8000000 in
theorem otext4 (o d a b n c : Int) (s rd ra rb im : ByteArray) (S : Hid (Num.nm o = s)) (F : Hid (Num.fm o = 4)) (C : Hid (Num.cd o = c)) (RD : Hid (Num.bs ([120] ++ Lib.itoa d) = rd)) (RA : Hid (Num.bs ([120] ++ Lib.itoa a) = ra)) (RB : Hid (Num.bs ([120] ++ Lib.itoa b) = rb)) (IM : Hid (Num.bs (Lib.itoa n) = im))
    (d0 : 0 ≤ d) (d1 : d ≤ 31) (a0 : 0 ≤ a) (a1 : a ≤ 31) (b0 : 0 ≤ b) (b1 : b ≤ 31) (n0 : -2147483648 ≤ n) (n1 : n ≤ 2147483647) (w : World) (TT : Hid (Pow w)) :
    Calls Tryd.prog 32 #[.agg (cells o d a b n)] w fun e w' => ∃ K W, e = .returned (.slice (some ⟨K, 0, none⟩) 3 3) ∧ K = W.heap.size ∧ w' = W.alloc (.cells #[.string rd, .string ra, .string im] 9) ∧ Fr w W := by
  have hf := fun W => field1 s 4 c W
  go_enter Tryd.func32, Tryd.ntmps32
  go_wp2_with fail
  go_quiet ((go_at_call 52; first | exact Calls.quiet_of_same (register_as d rd RD d0 d1 _) | exact Calls.quiet_of_same (register_as a ra RA a0 a1 _) | exact Calls.quiet_of_same (register_as b rb RB b0 b1 _)))
  go_wp2_with fail
  refine (itoa_as n im IM (by omega) (by omega) _ (TT.out.fr (((Fr.refl _).alloc _).drewN2 _))).mono ?_; rintro e w1 ⟨rfl, hF⟩
  have F1 := hideP hF; clear hF
  obtain ⟨c0, c1, c2, c3, c4⟩ := box5 w w1 o d a b n (((Fr.refl _).drewN2 _).trans F1.out)
  go_wp2_with fail
  refine (shape_as o 4 c s S F C _).mono ?_; rintro e w' ⟨rfl, rfl⟩
  go_wp2_with fail
  go_ret
  refine ⟨_, _, rfl, by simp, rfl, ?_⟩
  exact (((((Fr.refl _).alloc _).drewN2 _).trans F1.out).alloc _).alloc _
set_option maxRecDepth 100000 in
set_option maxHeartbeats 8000000 in
theorem otext5 (o d a b n c : Int) (s rd ra rb im : ByteArray) (S : Hid (Num.nm o = s)) (F : Hid (Num.fm o = 5)) (C : Hid (Num.cd o = c)) (RD : Hid (Num.bs ([120] ++ Lib.itoa d) = rd)) (RA : Hid (Num.bs ([120] ++ Lib.itoa a) = ra)) (RB : Hid (Num.bs ([120] ++ Lib.itoa b) = rb)) (IM : Hid (Num.bs (Lib.itoa n) = im))
    (d0 : 0 ≤ d) (d1 : d ≤ 31) (a0 : 0 ≤ a) (a1 : a ≤ 31) (b0 : 0 ≤ b) (b1 : b ≤ 31) (n0 : -2147483648 ≤ n) (n1 : n ≤ 2147483647) (w : World) (TT : Hid (Pow w)) :
    Calls Tryd.prog 32 #[.agg (cells o d a b n)] w fun e w' => ∃ K W, e = .returned (.slice (some ⟨K, 0, none⟩) 3 3) ∧ K = W.heap.size ∧ w' = W.alloc (.cells #[.string ra, .string rb, .string im] 9) ∧ Fr w W := by
  have hf := fun W => field1 s 5 c W
  go_enter Tryd.func32, Tryd.ntmps32
  go_wp2_with fail
  go_quiet ((go_at_call 52; first | exact Calls.quiet_of_same (register_as d rd RD d0 d1 _) | exact Calls.quiet_of_same (register_as a ra RA a0 a1 _) | exact Calls.quiet_of_same (register_as b rb RB b0 b1 _)))
  go_wp2_with fail
  refine (itoa_as n im IM (by omega) (by omega) _ (TT.out.fr (((Fr.refl _).alloc _).drewN2 _))).mono ?_; rintro e w1 ⟨rfl, hF⟩
  have F1 := hideP hF; clear hF
  obtain ⟨c0, c1, c2, c3, c4⟩ := box5 w w1 o d a b n (((Fr.refl _).drewN2 _).trans F1.out)
  go_wp2_with fail
  refine (shape_as o 5 c s S F C _).mono ?_; rintro e w' ⟨rfl, rfl⟩
  go_wp2_with fail
  go_ret
  refine ⟨_, _, rfl, by simp, rfl, ?_⟩
  exact (((((Fr.refl _).alloc _).drewN2 _).trans F1.out).alloc _).alloc _
set_option maxRecDepth 100000 in
set_option maxHeartbeats 8000000 in
theorem otext6 (o d a b n c : Int) (s rd ra rb im : ByteArray) (S : Hid (Num.nm o = s)) (F : Hid (Num.fm o = 6)) (C : Hid (Num.cd o = c)) (RD : Hid (Num.bs ([120] ++ Lib.itoa d) = rd)) (RA : Hid (Num.bs ([120] ++ Lib.itoa a) = ra)) (RB : Hid (Num.bs ([120] ++ Lib.itoa b) = rb)) (IM : Hid (Num.bs (Lib.itoa n) = im))
    (d0 : 0 ≤ d) (d1 : d ≤ 31) (a0 : 0 ≤ a) (a1 : a ≤ 31) (b0 : 0 ≤ b) (b1 : b ≤ 31) (n0 : -2147483648 ≤ n) (n1 : n ≤ 2147483647) (w : World) (TT : Hid (Pow w)) :
    Calls Tryd.prog 32 #[.agg (cells o d a b n)] w fun e w' => ∃ K W, e = .returned (.slice (some ⟨K, 0, none⟩) 3 3) ∧ K = W.heap.size ∧ w' = W.alloc (.cells #[.string ra, .string rb, .string im] 9) ∧ Fr w W := by
  have hf := fun W => field1 s 6 c W
  go_enter Tryd.func32, Tryd.ntmps32
  go_wp2_with fail
  go_quiet ((go_at_call 52; first | exact Calls.quiet_of_same (register_as d rd RD d0 d1 _) | exact Calls.quiet_of_same (register_as a ra RA a0 a1 _) | exact Calls.quiet_of_same (register_as b rb RB b0 b1 _)))
  go_wp2_with fail
  refine (itoa_as n im IM (by omega) (by omega) _ (TT.out.fr (((Fr.refl _).alloc _).drewN2 _))).mono ?_; rintro e w1 ⟨rfl, hF⟩
  have F1 := hideP hF; clear hF
  obtain ⟨c0, c1, c2, c3, c4⟩ := box5 w w1 o d a b n (((Fr.refl _).drewN2 _).trans F1.out)
  go_wp2_with fail
  refine (shape_as o 6 c s S F C _).mono ?_; rintro e w' ⟨rfl, rfl⟩
  go_wp2_with fail
  go_ret
  refine ⟨_, _, rfl, by simp, rfl, ?_⟩
  exact (((((Fr.refl _).alloc _).drewN2 _).trans F1.out).alloc _).alloc _
set_option maxRecDepth 100000 in
set_option maxHeartbeats 8000000 in
theorem otext7 (o d a b n c : Int) (s rd ra rb im : ByteArray) (S : Hid (Num.nm o = s)) (F : Hid (Num.fm o = 7)) (C : Hid (Num.cd o = c)) (RD : Hid (Num.bs ([120] ++ Lib.itoa d) = rd)) (RA : Hid (Num.bs ([120] ++ Lib.itoa a) = ra)) (RB : Hid (Num.bs ([120] ++ Lib.itoa b) = rb)) (IM : Hid (Num.bs (Lib.itoa n) = im))
    (d0 : 0 ≤ d) (d1 : d ≤ 31) (a0 : 0 ≤ a) (a1 : a ≤ 31) (b0 : 0 ≤ b) (b1 : b ≤ 31) (n0 : -2147483648 ≤ n) (n1 : n ≤ 2147483647) (w : World) (TT : Hid (Pow w)) :
    Calls Tryd.prog 32 #[.agg (cells o d a b n)] w fun e w' => ∃ K W, e = .returned (.slice (some ⟨K, 0, none⟩) 2 2) ∧ K = W.heap.size ∧ w' = W.alloc (.cells #[.string rd, .string im] 9) ∧ Fr w W := by
  have hf := fun W => field1 s 7 c W
  go_enter Tryd.func32, Tryd.ntmps32
  go_wp2_with fail
  go_quiet ((go_at_call 52; first | exact Calls.quiet_of_same (register_as d rd RD d0 d1 _) | exact Calls.quiet_of_same (register_as a ra RA a0 a1 _) | exact Calls.quiet_of_same (register_as b rb RB b0 b1 _)))
  go_wp2_with fail
  refine (itoa_as n im IM (by omega) (by omega) _ (TT.out.fr (((Fr.refl _).alloc _).drewN2 _))).mono ?_; rintro e w1 ⟨rfl, hF⟩
  have F1 := hideP hF; clear hF
  obtain ⟨c0, c1, c2, c3, c4⟩ := box5 w w1 o d a b n (((Fr.refl _).drewN2 _).trans F1.out)
  go_wp2_with fail
  refine (shape_as o 7 c s S F C _).mono ?_; rintro e w' ⟨rfl, rfl⟩
  go_wp2_with fail
  go_ret
  refine ⟨_, _, rfl, by simp, rfl, ?_⟩
  exact (((((Fr.refl _).alloc _).drewN2 _).trans F1.out).alloc _).alloc _
set_option maxRecDepth 100000 in
set_option maxHeartbeats 8000000 in
theorem otext8 (o d a b n c : Int) (s rd ra rb im : ByteArray) (S : Hid (Num.nm o = s)) (F : Hid (Num.fm o = 8)) (C : Hid (Num.cd o = c)) (RD : Hid (Num.bs ([120] ++ Lib.itoa d) = rd)) (RA : Hid (Num.bs ([120] ++ Lib.itoa a) = ra)) (RB : Hid (Num.bs ([120] ++ Lib.itoa b) = rb)) (IM : Hid (Num.bs (Lib.itoa n) = im))
    (d0 : 0 ≤ d) (d1 : d ≤ 31) (a0 : 0 ≤ a) (a1 : a ≤ 31) (b0 : 0 ≤ b) (b1 : b ≤ 31) (n0 : -2147483648 ≤ n) (n1 : n ≤ 2147483647) (w : World) (TT : Hid (Pow w)) :
    Calls Tryd.prog 32 #[.agg (cells o d a b n)] w fun e w' => ∃ K W, e = .returned (.slice (some ⟨K, 0, none⟩) 2 2) ∧ K = W.heap.size ∧ w' = W.alloc (.cells #[.string rd, .string im] 9) ∧ Fr w W := by
  have hf := fun W => field1 s 8 c W
  go_enter Tryd.func32, Tryd.ntmps32
  go_wp2_with fail
  go_quiet ((go_at_call 52; first | exact Calls.quiet_of_same (register_as d rd RD d0 d1 _) | exact Calls.quiet_of_same (register_as a ra RA a0 a1 _) | exact Calls.quiet_of_same (register_as b rb RB b0 b1 _)))
  go_wp2_with fail
  refine (itoa_as n im IM (by omega) (by omega) _ (TT.out.fr (((Fr.refl _).alloc _).drewN2 _))).mono ?_; rintro e w1 ⟨rfl, hF⟩
  have F1 := hideP hF; clear hF
  obtain ⟨c0, c1, c2, c3, c4⟩ := box5 w w1 o d a b n (((Fr.refl _).drewN2 _).trans F1.out)
  go_wp2_with fail
  refine (shape_as o 8 c s S F C _).mono ?_; rintro e w' ⟨rfl, rfl⟩
  go_wp2_with fail
  go_ret
  refine ⟨_, _, rfl, by simp, rfl, ?_⟩
  exact (((((Fr.refl _).alloc _).drewN2 _).trans F1.out).alloc _).alloc _
set_option maxRecDepth 100000 in
set_option maxHeartbeats 8000000 in
theorem otext9 (o d a b n c : Int) (s rd ra rb im : ByteArray) (S : Hid (Num.nm o = s)) (F : Hid (Num.fm o = 9)) (C : Hid (Num.cd o = c)) (RD : Hid (Num.bs ([120] ++ Lib.itoa d) = rd)) (RA : Hid (Num.bs ([120] ++ Lib.itoa a) = ra)) (RB : Hid (Num.bs ([120] ++ Lib.itoa b) = rb)) (IM : Hid (Num.bs (Lib.itoa n) = im))
    (d0 : 0 ≤ d) (d1 : d ≤ 31) (a0 : 0 ≤ a) (a1 : a ≤ 31) (b0 : 0 ≤ b) (b1 : b ≤ 31) (n0 : -2147483648 ≤ n) (n1 : n ≤ 2147483647) (w : World) (TT : Hid (Pow w)) :
    Calls Tryd.prog 32 #[.agg (cells o d a b n)] w fun e w' => ∃ K W, e = .returned (.slice (some ⟨K, 0, none⟩) 3 3) ∧ K = W.heap.size ∧ w' = W.alloc (.cells #[.string rd, .string ra, .string im] 9) ∧ Fr w W := by
  have hf := fun W => field1 s 9 c W
  go_enter Tryd.func32, Tryd.ntmps32
  go_wp2_with fail
  go_quiet ((go_at_call 52; first | exact Calls.quiet_of_same (register_as d rd RD d0 d1 _) | exact Calls.quiet_of_same (register_as a ra RA a0 a1 _) | exact Calls.quiet_of_same (register_as b rb RB b0 b1 _)))
  go_wp2_with fail
  refine (itoa_as n im IM (by omega) (by omega) _ (TT.out.fr (((Fr.refl _).alloc _).drewN2 _))).mono ?_; rintro e w1 ⟨rfl, hF⟩
  have F1 := hideP hF; clear hF
  obtain ⟨c0, c1, c2, c3, c4⟩ := box5 w w1 o d a b n (((Fr.refl _).drewN2 _).trans F1.out)
  go_wp2_with fail
  refine (shape_as o 9 c s S F C _).mono ?_; rintro e w' ⟨rfl, rfl⟩
  go_wp2_with fail
  go_ret
  refine ⟨_, _, rfl, by simp, rfl, ?_⟩
  exact (((((Fr.refl _).alloc _).drewN2 _).trans F1.out).alloc _).alloc _
set_option maxRecDepth 100000 in
set_option maxHeartbeats 8000000 in
theorem otext10 (o d a b n c : Int) (s rd ra rb im ia : ByteArray) (S : Hid (Num.nm o = s)) (F : Hid (Num.fm o = 10)) (C : Hid (Num.cd o = c)) (RD : Hid (Num.bs ([120] ++ Lib.itoa d) = rd)) (RA : Hid (Num.bs ([120] ++ Lib.itoa a) = ra)) (RB : Hid (Num.bs ([120] ++ Lib.itoa b) = rb)) (IM : Hid (Num.bs (Lib.itoa n) = im)) (IA : Hid (Num.bs (Lib.itoa a) = ia))
    (d0 : 0 ≤ d) (d1 : d ≤ 31) (a0 : 0 ≤ a) (a1 : a ≤ 31) (b0 : 0 ≤ b) (b1 : b ≤ 31) (n0 : -2147483648 ≤ n) (n1 : n ≤ 2147483647) (w : World) (TT : Hid (Pow w)) :
    Calls Tryd.prog 32 #[.agg (cells o d a b n)] w fun e w' => ∃ K W, e = .returned (.slice (some ⟨K, 0, none⟩) 3 3) ∧ K = W.heap.size ∧ w' = W.alloc (.cells #[.string rd, .string ia, .string im] 9) ∧ Fr w W := by
  have hf := fun W => field1 s 10 c W
  go_enter Tryd.func32, Tryd.ntmps32
  go_wp2_with fail
  go_quiet ((go_at_call 52; first | exact Calls.quiet_of_same (register_as d rd RD d0 d1 _) | exact Calls.quiet_of_same (register_as a ra RA a0 a1 _) | exact Calls.quiet_of_same (register_as b rb RB b0 b1 _)))
  go_wp2_with fail
  refine (itoa_as n im IM (by omega) (by omega) _ (TT.out.fr (((Fr.refl _).alloc _).drewN2 _))).mono ?_; rintro e w1 ⟨rfl, hF⟩
  have F1 := hideP hF; clear hF
  obtain ⟨c0, c1, c2, c3, c4⟩ := box5 w w1 o d a b n (((Fr.refl _).drewN2 _).trans F1.out)
  go_wp2_with fail
  refine (shape_as o 10 c s S F C _).mono ?_; rintro e w' ⟨rfl, rfl⟩
  have c2' := (box5 w ((w1.alloc (.cells (shp s 10 c) 48)).alloc (.cells (shp s 10 c) 48)) o d a b n (((((Fr.refl _).drewN2 _).trans F1.out).alloc _).alloc _)).2.2.1
  go_wp2_with fail
  refine (itoa_as a ia IA (by omega) (by omega) _ (TT.out.fr ((((((Fr.refl _).alloc _).drewN2 _).trans F1.out).alloc _).alloc _))).mono ?_; rintro e w2 ⟨rfl, hF⟩
  have F2 := hideP hF; clear hF
  go_wp2_with fail
  go_ret
  refine ⟨_, _, rfl, by simp, rfl, ?_⟩
  exact ((((((Fr.refl _).alloc _).drewN2 _).trans F1.out).alloc _).alloc _).trans F2.out
end Go.Proofs.YtlnliiihcajboaaDoor.Walks
