/- Contract of the program's Text, over a contract of its operandTexts. -/
import Derived.Test.YtlnliiihcajboaaDoorTab
import Derived.Test.YtlnliiihcajboaaDoorEncA
import Derived.OwnWalk
namespace Go.Proofs.YtlnliiihcajboaaDoor.Walks
open Go.ChangeShapes Go.WideShapes Go.ChangeAt Go.RowKit
set_option linter.unusedVariables false
theorem info9 : (Tryd.prog.info? 9).map (fun i => (i.zero, i.size, i.bytes)) = some (some (.string ⟨#[]⟩), 1, 16) := by kernel_rfl
theorem info_parts9 : ∃ i, Tryd.prog.info? 9 = some i ∧ i.zero = some (.string ⟨#[]⟩) ∧ i.size = 1 ∧ i.bytes = 16 := by
  have h := info9
  rcases hi : Tryd.prog.info? 9 with _ | i
  · rw [hi] at h; cases h
  · rw [hi] at h
    simp only [Option.map_some, Option.some.injEq, Prod.mk.injEq] at h
    exact ⟨i, rfl, h⟩
theorem join_len (bk c L : Nat) (xs : List (List UInt8)) (hL : L = xs.length) (s : ByteArray) (S : Hid (Num.bs (Lib.join xs [32]) = s)) (w : World) (hc : ∀ (j : Nat) x, xs[j]? = some x → w.cell? ⟨bk, j, none⟩ = some (.string (Num.bs x))) (hb : bk < w.heap.size) (hN : xs.length ≤ 1000) (hcap : xs.length ≤ c) (hlen : (Lib.join xs [32]).length ≤ 100000) :
    Calls Tryd.prog 33 #[.slice (some ⟨bk, 0, none⟩) L c, .string ⟨#[32]⟩] w fun e w' => e = .returned (.string s) ∧ Fr w w' := by
  subst hL; exact join_as bk c xs s S w hc hb hN hcap hlen
theorem Fr.grown {w w' : World} (h : w.grownBy w' none) : Fr w w' := ⟨h.os, h.output, h.size, fun k hk => h.block k hk (by simp)⟩
/-- one text in a block of its own -/
theorem one_cell (w w' : World) (x : List UInt8) (F : Fr (w.alloc (.cells #[.string (Num.bs x)] 9)) w') (j : Nat) (y : List UInt8) (h : [x][j]? = some y) : w'.cell? ⟨w.heap.size, j, none⟩ = some (.string (Num.bs y)) := by
  rw [box_cell w w' _ 9 F j]
  cases j with
  | zero => simp at h; subst h; rfl
  | succ j => simp at h
set_option maxRecDepth 100000 in
set_option maxHeartbeats 4000000 in
theorem text_no (o d a b n v : Int) (s : ByteArray) (l : List UInt8) (S : Hid (Num.nm o = Num.bs l)) (SS : Hid (Num.bs (Lib.join [l] [32]) = s)) (E : Hid (Num.En o d a b n v false)) (LL : Hid ((Lib.join [l] [32]).length ≤ 100000)) (w : World) :
    Calls Tryd.prog 12 #[.agg (cells o d a b n)] w fun e w' => e = .returned (.string s) ∧ Fr w w' := by
  go_enter Tryd.func12, Tryd.ntmps12
  go_wp2_with fail
  refine (name_as o (Num.bs l) S _).mono ?_; rintro e w1 ⟨rfl, hF⟩
  have F1 := hideP hF; clear hF
  obtain ⟨c0, c1, c2, c3, c4⟩ := box5 w (w1.alloc (.cells #[.string (Num.bs l)] 9)) o d a b n (F1.out.alloc _)
  go_wp2_with fail
  refine (encode_as o d a b n v false E _).mono ?_; rintro e w2 ⟨rfl, hF⟩
  have F2 := hideP hF; clear hF
  go_wp2_with fail
  refine (join_len w1.heap.size 1 1 [l] rfl s SS _ (one_cell w1 w2 l F2.out) (by have := F2.out.size; simp at this; omega) (by simp) (by simp) LL.out).mono ?_; rintro e w3 ⟨rfl, hF⟩
  have F3 := hideP hF; clear hF
  go_wp2_with fail
  go_ret
  exact ⟨rfl, (((Fr.refl _).alloc _).trans F1.out).trans (((Fr.refl _).alloc _).trans (F2.out.trans F3.out))⟩
set_option maxRecDepth 100000 in
set_option maxHeartbeats 4000000 in
theorem text_bare (o d a b n v : Int) (s : ByteArray) (l : List UInt8) (S : Hid (Num.nm o = Num.bs l)) (SS : Hid (Num.bs (Lib.join [l] [32]) = s)) (E : Hid (Num.En o d a b n v true)) (LL : Hid ((Lib.join [l] [32]).length ≤ 100000)) (w : World) (TT : Hid (Pow w))
    (OC : Hid (∀ W, Pow W → Calls Tryd.prog 32 #[.agg (cells o d a b n)] W fun e w' => e = .returned (.slice none 0 0) ∧ Fr W w')) :
    Calls Tryd.prog 12 #[.agg (cells o d a b n)] w fun e w' => e = .returned (.string s) ∧ Fr w w' := by
  go_enter Tryd.func12, Tryd.ntmps12
  go_wp2_with fail
  refine (name_as o (Num.bs l) S _).mono ?_; rintro e w1 ⟨rfl, hF⟩
  have F1 := hideP hF; clear hF
  obtain ⟨c0, c1, c2, c3, c4⟩ := box5 w (w1.alloc (.cells #[.string (Num.bs l)] 9)) o d a b n (F1.out.alloc _)
  go_wp2_with fail
  refine (encode_as o d a b n v true E _).mono ?_; rintro e w2 ⟨rfl, hF⟩
  have F2 := hideP hF; clear hF c0 c1 c2 c3 c4
  obtain ⟨c0, c1, c2, c3, c4⟩ := box5 w w2 o d a b n (F1.out.trans (((Fr.refl _).alloc _).trans F2.out))
  go_wp2_with fail
  refine (OC.out _ (TT.out.fr (((Fr.refl _).alloc _).trans (F1.out.trans (((Fr.refl _).alloc _).trans F2.out))))).mono ?_; rintro e w3 ⟨rfl, hF⟩
  have F3 := hideP hF; clear hF
  go_wp2_with fail
  refine (join_len w1.heap.size 1 1 [l] rfl s SS _ (one_cell w1 w3 l (F2.out.trans F3.out)) (by have := (F2.out.trans F3.out).size; simp at this; omega) (by simp) (by simp) LL.out).mono ?_; rintro e w4 ⟨rfl, hF⟩
  have F4 := hideP hF; clear hF
  go_wp2_with fail
  go_ret
  exact ⟨rfl, (((Fr.refl _).alloc _).trans F1.out).trans (((Fr.refl _).alloc _).trans ((F2.out.trans F3.out).trans F4.out))⟩
end Go.Proofs.YtlnliiihcajboaaDoor.Walks
