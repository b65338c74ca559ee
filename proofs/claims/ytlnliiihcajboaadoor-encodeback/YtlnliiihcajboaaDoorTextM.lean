/- Contract of the program's Text where there are operands. -/
import Derived.Test.YtlnliiihcajboaaDoorText
import Derived.ArgAppend
namespace Go.Proofs.YtlnliiihcajboaaDoor.Walks
open Go.ChangeShapes Go.WideShapes Go.ChangeAt Go.RowKit
set_option linter.unusedVariables false
def vals (xs : List (List UInt8)) : List Value := xs.map fun x => Value.string (Num.bs x)
theorem vals_len (xs : List (List UInt8)) : (vals xs).length = xs.length := by simp [vals]
theorem vals_one (xs : List (List UInt8)) : ∀ u ∈ vals xs, u.oneCell' = true := by
  intro u hu
  obtain ⟨x, _, rfl⟩ := List.mem_map.1 hu
  rfl
theorem vals_at (xs : List (List UInt8)) (j : Nat) (x : List UInt8) (h : xs[j]? = some x) : (vals xs)[j]? = some (.string (Num.bs x)) := by
  rw [vals, List.getElem?_map, h]; rfl
set_option maxRecDepth 100000 in
set_option maxHeartbeats 8000000 in
theorem text_more (o d a b n v : Int) (s : ByteArray) (l : List UInt8) (xs : List (List UInt8)) (m : Nat) (M : Hid (xs.length = m)) (M1 : Hid (1 ≤ m)) (M2 : Hid (m ≤ 3)) (S : Hid (Num.nm o = Num.bs l)) (SS : Hid (Num.bs (Lib.join (l :: xs) [32]) = s)) (E : Hid (Num.En o d a b n v true)) (LL : Hid ((Lib.join (l :: xs) [32]).length ≤ 100000)) (w : World) (TT : Hid (Pow w))
    (OC : Hid (∀ W, Pow W → Calls Tryd.prog 32 #[.agg (cells o d a b n)] W fun e w' => ∃ K U, e = .returned (.slice (some ⟨K, 0, none⟩) m m) ∧ K = U.heap.size ∧ w' = U.alloc (.cells (vals xs).toArray 9) ∧ Fr W U)) :
    Calls Tryd.prog 12 #[.agg (cells o d a b n)] w fun e w' => e = .returned (.string s) ∧ Fr w w' := by
  obtain ⟨i0, hi, hz0, hz1, hz2⟩ := info_parts9
  go_enter Tryd.func12, Tryd.ntmps12
  go_wp2_with fail
  refine (name_as o (Num.bs l) S _).mono ?_; rintro e w1 ⟨rfl, hF⟩
  have F1 := hideP hF; clear hF
  obtain ⟨c0, c1, c2, c3, c4⟩ := box5 w (w1.alloc (.cells #[.string (Num.bs l)] 9)) o d a b n (F1.out.alloc _)
  go_wp2_with fail
  refine (encode_as o d a b n v true E _).mono ?_; rintro e w2 ⟨rfl, hF⟩
  have F2 := hideP hF; clear hF c0 c1 c2 c3 c4
  obtain ⟨c0, c1, c2, c3, c4⟩ := box5 w w2 o d a b n (F1.out.trans (((Fr.refl _).alloc _).trans F2.out))
  go_wp2_with fail
  refine (OC.out _ (TT.out.fr (((Fr.refl _).alloc _).trans (F1.out.trans (((Fr.refl _).alloc _).trans F2.out))))).mono ?_; rintro e w3 ⟨K, U, rfl, hK, hw, hF⟩
  have F3 := hideP hF; clear hF
  have F3' : Hid (Fr w2 w3) := hideP (by rw [hw]; exact F3.out.alloc _)
  have C1 : Hid (∀ q, some (⟨w1.heap.size, 0, none⟩ : Addr) = some q → ∀ j u, [Value.string (Num.bs l)][j]? = some u → w3.cell? (q.add j) = some u) := hideP (by
    intro q hq j u hu
    cases hq
    rw [add_plain, Nat.zero_add, box_cell w1 w3 _ 9 (F2.out.trans F3'.out) j, ← hu]
    simp)
  have C2 : Hid (∀ j u, (vals xs)[j]? = some u → w3.cell? ((⟨K, 0, none⟩ : Addr).add j) = some u) := hideP (by
    intro j u hu
    rw [add_plain, Nat.zero_add, hK, box_cell U w3 _ 9 (by rw [hw]; exact Fr.refl _) j, ← hu]
    simp)
  have C3 : Hid ((vals xs).length = m * 1) := hideP (by rw [vals_len, M.out, Nat.mul_one])
  have C4 := hideP (vals_one xs)
  have C5 : Hid (1 < 1 + m) := hideP (by have := M1.out; omega)
  have C6 : Hid (1 + m ≤ maxLen) := hideP (by have := M2.out; unfold maxLen; omega)
  have C7 : Hid ((1 + m) * 16 ≤ 140737488355328) := hideP (by have := M2.out; omega)
  clear hK hw
  go_wp2_with (first
    | (at_builtin; refine wpList_append_grows _ rfl _ _ 58 rfl 9 i0 (.string ⟨#[]⟩) 1 16 Tryd.underlying58 hi hz0 hz1 hz2 rfl (by decide) (some ⟨w1.heap.size, 0, none⟩) 1 1 [.string (Num.bs l)] rfl (fun h => by cases h) rfl C1.out ⟨K, 0, none⟩ m m (vals xs) rfl C3.out C2.out C4.out C5.out C6.out C7.out ?_))
  intro v' w4 hown hgrow
  have O1 := hideP hown
  have F4 := hideP (Fr.grown hgrow)
  rcases hown.2 with ⟨_, h⟩ | ⟨g, cap, cur, hv, hb, hg, hn, hcap, hsz, htk⟩
  · omega
  subst hv
  have J1 : Hid (∀ (j : Nat) x, (l :: xs)[j]? = some x → w4.cell? ⟨g, j, none⟩ = some (.string (Num.bs x))) := hideP (by
    intro j x hx
    have := O1.out.cells rfl j (.string (Num.bs x)) (by
      have := vals_at (l :: xs) j x hx
      exact this)
    rw [add_plain, Nat.zero_add] at this
    exact this)
  have J2 : Hid (g < w4.heap.size) := hideP (O1.out.lt g rfl).2
  have J3 : Hid ((l :: xs).length ≤ cap) := hideP (by rw [List.length_cons, M.out]; omega)
  have J4 : Hid (1 + m = (l :: xs).length) := hideP (by rw [List.length_cons, M.out]; omega)
  have J5 : Hid ((l :: xs).length ≤ 1000) := hideP (by rw [← J4.out]; have := M2.out; omega)
  clear hown hgrow hb hg hn hcap hsz htk
  go_wp2_with fail
  refine (join_len g cap (1 + m) (l :: xs) J4.out s SS _ J1.out J2.out J5.out J3.out LL.out).mono ?_; rintro e w5 ⟨rfl, hF⟩
  have F5 := hideP hF; clear hF
  go_wp2_with fail
  go_ret
  exact ⟨rfl, (((Fr.refl _).alloc _).trans F1.out).trans (((Fr.refl _).alloc _).trans ((F2.out.trans F3'.out).trans (F4.out.trans F5.out)))⟩
end Go.Proofs.YtlnliiihcajboaaDoor.Walks
