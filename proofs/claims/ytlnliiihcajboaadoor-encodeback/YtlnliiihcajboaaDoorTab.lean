/- The library's table of powers of ten lies in memory; its Itoa and Join in the frame's words. -/
import Derived.Test.YtlnliiihcajboaaDoorTxt
import Derived.Test.YtlnliiihcajboaaDoorSmall
import Derived.ArgAppend
namespace Go.Proofs.YtlnliiihcajboaaDoor.Walks
open Go.ChangeShapes Go.WideShapes Go.ChangeAt Go.RowKit
set_option linter.unusedVariables false
/-- the table of powers of ten lies as its initialiser lays it -/
def Pow (w : World) : Prop := Lib.TabIs Tryd.prog w "internal/strconv.uint64pow10" .u64 Lib.pow10Tab
theorem Pow.fr {w w' : World} (h : Pow w) (F : Fr w w') : Pow w' := by
  unfold Pow Lib.TabIs World.var? at h ⊢
  cases hg : Tryd.prog.globalNamed "internal/strconv.uint64pow10" with
  | none => simp [hg] at h
  | some g =>
    rw [hg] at h
    simp only [Option.bind_some] at h ⊢
    have hlt : g < w.heap.size := by
      rcases Nat.lt_or_ge g w.heap.size with h' | h'
      · exact h'
      · rw [Array.getElem?_eq_none h'] at h; cases h
    rw [F.block g hlt]
    exact h
theorem Fr.grow (w : World) (k : Nat) (os : Array Obj) : Fr w (Go.Sort.grow (w.drewN k) os) := by
  refine ⟨rfl, rfl, ?_, fun i hi => ?_⟩
  · show w.heap.size ≤ (w.heap ++ os).size
    simp
  · show (w.heap ++ os)[i]? = w.heap[i]?
    rw [Array.getElem?_append_left hi]
theorem Fr.below {w w' : World} (h : Below w.heap.size w w') : Fr w w' := ⟨h.os, h.output, h.size, h.block⟩
theorem itoa_as (n : Int) (s : ByteArray) (S : Hid (Num.bs (Lib.itoa n) = s)) (n0 : -2147483648 ≤ n) (n1 : n ≤ 4294967295) (w : World) (T : Pow w) :
    Calls Tryd.prog 53 #[.int .i64 n] w fun e w' => e = .returned (.string s) ∧ Fr w w' := by
  rw [← S.out]
  refine (Tryd.strconv_Itoa n (by omega) (by omega) w T).mono ?_
  rintro e w' ⟨rfl, k, os, rfl⟩
  exact ⟨rfl, Fr.grow w k os⟩
theorem join_as (bk c : Nat) (xs : List (List UInt8)) (s : ByteArray) (S : Hid (Num.bs (Lib.join xs [32]) = s)) (w : World) (hc : ∀ (j : Nat) x, xs[j]? = some x → w.cell? ⟨bk, j, none⟩ = some (.string (Num.bs x))) (hb : bk < w.heap.size) (hN : xs.length ≤ 1000) (hcap : xs.length ≤ c) (hlen : (Lib.join xs [32]).length ≤ 100000) :
    Calls Tryd.prog 33 #[.slice (some ⟨bk, 0, none⟩) xs.length c, .string ⟨#[32]⟩] w fun e w' => e = .returned (.string s) ∧ Fr w w' := by
  rw [← S.out]
  have e1 : (xs.map Num.bs).map (fun x : ByteArray => x.data.toList) = xs := by
    rw [List.map_map]
    have : (fun x : ByteArray => x.data.toList) ∘ Num.bs = id := by funext x; simp [Num.bs]
    rw [this, List.map_id]
  have q := Tryd.strings_Join bk 0 c (xs.map Num.bs) ⟨#[32]⟩ w (fun j x hx => by
    rw [List.getElem?_map] at hx
    rcases hq : xs[j]? with _ | y
    · rw [hq] at hx; cases hx
    · rw [hq] at hx; cases hx; rw [Nat.zero_add]; exact hc j y hq) hb (by simp; omega) (by simp; omega) (by rw [e1]; show (Lib.join xs [32]).length ≤ _; omega)
  rw [List.length_map, e1] at q
  refine q.mono ?_
  rintro e w' ⟨rfl, hF⟩
  exact ⟨rfl, Fr.below hF⟩
end Go.Proofs.YtlnliiihcajboaaDoor.Walks
