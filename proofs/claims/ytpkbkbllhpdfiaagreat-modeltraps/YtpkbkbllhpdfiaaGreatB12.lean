/- RNew: Contract of the document's New. RNewA: Contract of the document's New, any row; contract of the program's Trace. KnownP: Chapter 11's known run, by plain numbers. -/
import Derived.Test.YtpkbkbllhpdfiaaGreatB11
import Derived.Test.YtpkbkbllhpdfiaaGreatB07
import Derived.Deep.OwnRows
import Derived.Test.YtpkbkbllhpdfiaaGreatB03
namespace Go.Proofs.YtpkbkbllhpdfiaaGreat.M
open Go.ChangeShapes Go.WideShapes Go.ChangeAt Go.RowKit Go.Proofs.YtpkbkbllhpdfiaaGreat.Walks Go.Proofs.YtpkbkbllhpdfiaaGreat.Mod
set_option linter.unusedVariables false
set_option maxRecDepth 100000 in
set_option maxHeartbeats 400000 in
theorem rnew_long (A : Option Addr) (n cap : Nat) (hn : (1024 : Int) < n) (w : World) :
    Calls Tryz.prog 21 #[.slice A n cap] w fun e w' => e = .returned (.pointer none) ∧ w' = w := by
  go_enter Tryz.func21, Tryz.ntmps21
  go_wp2_with fail
  go_ret
  exact ⟨rfl, rfl⟩
theorem made_u32 (n k : Nat) (h : k < n) : (madeCells #[Value.int .u32 0] n)[k]? = some (.int .u32 0) := by simp [madeCells, h, Nat.mod_one]
theorem made_size (n : Nat) : (madeCells #[Value.int .u32 0] n).size = n := by simp [madeCells]
theorem info36b : (Tryz.prog.info? 36).map (fun i => (i.zero, i.size, i.bytes)) = some (some (.int .u32 0), 1, 4) := by kernel_rfl
theorem make1024 (w : World) : (Instr.makeSlice 23 (.int .i64 1024) (.int .i64 1024)).run Tryz.prog w = .ok (.slice (some ⟨w.heap.size, 0, none⟩) 1024 1024) (w.alloc (.cells (madeCells #[.int .u32 0] 1024) 36)) :=
  run_make_row' (P := Tryz.prog) 23 36 (.int .u32 0) 4 Tryz.underlying23 info36b rfl .i64 .i64 1024 (by omega) (by omega) w
/-- memory behind a copy: n words, zeros behind them -/
def memR (c : List Value) (zs : Nat → Int) (n : Nat) : Array Value := (c.take 0 ++ (rowV zs n ++ c.drop (0 + n))).toArray
theorem memR_at (c : Array Value) (zs : Nat → Int) (n k : Nat) (hc : ∀ k, k < 1024 → c[k]? = some (.int .u32 0)) (hk : k < 1024) : (memR c.toList zs n)[k]? = some (.int .u32 (iniM zs n k)) := by
  unfold memR iniM
  rw [List.getElem?_toArray, List.take_zero, List.nil_append]
  by_cases h : k < n
  · rw [if_pos h, List.getElem?_append_left (by rw [rowV_len]; exact h), rowV_at _ _ _ h]
  · rw [if_neg h, List.getElem?_append_right (by rw [rowV_len]; omega), rowV_len, List.getElem?_drop, show 0 + n + (k - n) = k by omega]
    have := hc k hk
    simpa using this
set_option maxRecDepth 100000 in
theorem rat_ini (zs : Nat → Int) (n : Nat) (w W2 : World) (c : Array Value) (hc : ∀ k, k < 1024 → c[k]? = some (.int .u32 0)) (hm : W2.heap[w.heap.size]? = some (.cells #[.int .u32 0, .int .u32 0, .int .u32 0, .int .u32 0, .int .u32 0, .int .u32 0, .int .u32 0, .int .u32 0, .int .u32 0, .int .u32 0, .int .u32 0, .int .u32 0, .int .u32 0, .int .u32 0, .int .u32 0, .int .u32 0, .int .u32 0, .int .u32 0, .int .u32 0, .int .u32 0, .int .u32 0, .int .u32 0, .int .u32 0, .int .u32 0, .int .u32 0, .int .u32 0, .int .u32 0, .int .u32 0, .int .u32 0, .int .u32 0, .int .u32 0, .int .u32 0, .int .u32 0, .int .u32 0, .int .u32 0, .int .u32 0, .int .u32 0, .int .u32 0, .slice (some ⟨w.heap.size + 1, 0, none⟩) 1024 1024, .slice none 0 0, .bool false, .int .u32 0, .int .i64 0] 77 (0, 0))) (hr : W2.heap[w.heap.size + 1]? = some (.cells (memR c.toList zs n) 36 (0, 0))) : RAt w.heap.size (w.heap.size + 1) (ini zs n) (.slice none 0 0) W2 := by
  have e : ∀ k, W2.cell? ⟨w.heap.size, k, none⟩ = (#[.int .u32 0, .int .u32 0, .int .u32 0, .int .u32 0, .int .u32 0, .int .u32 0, .int .u32 0, .int .u32 0, .int .u32 0, .int .u32 0, .int .u32 0, .int .u32 0, .int .u32 0, .int .u32 0, .int .u32 0, .int .u32 0, .int .u32 0, .int .u32 0, .int .u32 0, .int .u32 0, .int .u32 0, .int .u32 0, .int .u32 0, .int .u32 0, .int .u32 0, .int .u32 0, .int .u32 0, .int .u32 0, .int .u32 0, .int .u32 0, .int .u32 0, .int .u32 0, .int .u32 0, .int .u32 0, .int .u32 0, .int .u32 0, .int .u32 0, .int .u32 0, .slice (some ⟨w.heap.size + 1, 0, none⟩) 1024 1024, .slice none 0 0, .bool false, .int .u32 0, .int .i64 0] : Array Value)[k]? := fun k => cell_of_row W2 _ k _ 77 (0, 0) hm
  have f : ∀ k, W2.frozen? ⟨w.heap.size, k, none⟩ = false := fun k => by simp [World.frozen?, hm]
  have e' : ∀ k, W2.cell? ⟨w.heap.size + 1, k, none⟩ = (memR c.toList zs n)[k]? := fun k => cell_of_row W2 _ k _ 36 (0, 0) hr
  have f' : ∀ k, W2.frozen? ⟨w.heap.size + 1, k, none⟩ = false := fun k => by simp [World.frozen?, hr]
  have z : ∀ k, k < 38 → (#[.int .u32 0, .int .u32 0, .int .u32 0, .int .u32 0, .int .u32 0, .int .u32 0, .int .u32 0, .int .u32 0, .int .u32 0, .int .u32 0, .int .u32 0, .int .u32 0, .int .u32 0, .int .u32 0, .int .u32 0, .int .u32 0, .int .u32 0, .int .u32 0, .int .u32 0, .int .u32 0, .int .u32 0, .int .u32 0, .int .u32 0, .int .u32 0, .int .u32 0, .int .u32 0, .int .u32 0, .int .u32 0, .int .u32 0, .int .u32 0, .int .u32 0, .int .u32 0, .int .u32 0, .int .u32 0, .int .u32 0, .int .u32 0, .int .u32 0, .int .u32 0, .slice (some ⟨w.heap.size + 1, 0, none⟩) 1024 1024, .slice none 0 0, .bool false, .int .u32 0, .int .i64 0] : Array Value)[k]? = some (.int .u32 0) := by
    intro k hk
    have : ∀ k : Fin 38, ([Value.int .u32 0, Value.int .u32 0, Value.int .u32 0, Value.int .u32 0, Value.int .u32 0, Value.int .u32 0, Value.int .u32 0, Value.int .u32 0, Value.int .u32 0, Value.int .u32 0, Value.int .u32 0, Value.int .u32 0, Value.int .u32 0, Value.int .u32 0, Value.int .u32 0, Value.int .u32 0, Value.int .u32 0, Value.int .u32 0, Value.int .u32 0, Value.int .u32 0, Value.int .u32 0, Value.int .u32 0, Value.int .u32 0, Value.int .u32 0, Value.int .u32 0, Value.int .u32 0, Value.int .u32 0, Value.int .u32 0, Value.int .u32 0, Value.int .u32 0, Value.int .u32 0, Value.int .u32 0, Value.int .u32 0, Value.int .u32 0, Value.int .u32 0, Value.int .u32 0, Value.int .u32 0, Value.int .u32 0] : List Value)[k.val]? = some (.int .u32 0) := by
      intro k
      have h := List.getElem?_replicate (n := 38) (a := Value.int .u32 0) (i := k.val)
      rw [if_pos k.isLt] at h
      exact h
    have h := this ⟨k, hk⟩
    have l : (#[.int .u32 0, .int .u32 0, .int .u32 0, .int .u32 0, .int .u32 0, .int .u32 0, .int .u32 0, .int .u32 0, .int .u32 0, .int .u32 0, .int .u32 0, .int .u32 0, .int .u32 0, .int .u32 0, .int .u32 0, .int .u32 0, .int .u32 0, .int .u32 0, .int .u32 0, .int .u32 0, .int .u32 0, .int .u32 0, .int .u32 0, .int .u32 0, .int .u32 0, .int .u32 0, .int .u32 0, .int .u32 0, .int .u32 0, .int .u32 0, .int .u32 0, .int .u32 0, .int .u32 0, .int .u32 0, .int .u32 0, .int .u32 0, .int .u32 0, .int .u32 0, .slice (some ⟨w.heap.size + 1, 0, none⟩) 1024 1024, .slice none 0 0, .bool false, .int .u32 0, .int .i64 0] : Array Value).toList = [Value.int .u32 0, Value.int .u32 0, Value.int .u32 0, Value.int .u32 0, Value.int .u32 0, Value.int .u32 0, Value.int .u32 0, Value.int .u32 0, Value.int .u32 0, Value.int .u32 0, Value.int .u32 0, Value.int .u32 0, Value.int .u32 0, Value.int .u32 0, Value.int .u32 0, Value.int .u32 0, Value.int .u32 0, Value.int .u32 0, Value.int .u32 0, Value.int .u32 0, Value.int .u32 0, Value.int .u32 0, Value.int .u32 0, Value.int .u32 0, Value.int .u32 0, Value.int .u32 0, Value.int .u32 0, Value.int .u32 0, Value.int .u32 0, Value.int .u32 0, Value.int .u32 0, Value.int .u32 0, Value.int .u32 0, Value.int .u32 0, Value.int .u32 0, Value.int .u32 0, Value.int .u32 0, Value.int .u32 0] ++ [.slice (some ⟨w.heap.size + 1, 0, none⟩) 1024 1024, .slice none 0 0, .bool false, .int .u32 0, .int .i64 0] := rfl
    rw [← Array.getElem?_toList, l, List.getElem?_append_left hk]
    exact h
  refine ⟨by rw [e]; exact z 0 (by decide), fun k hk => by rw [e]; exact z (1 + k) (by omega), fun k hk => by rw [e]; exact z (33 + k) (by omega), by rw [e]; rfl, fun k hk => by rw [e']; exact memR_at c zs n k hc hk, by rw [e]; rfl, by rw [e]; rfl, by rw [e]; rfl, by rw [e]; rfl, fun k _ => f k, fun k _ => f' k, by omega, World.ownsRow_nil _ _ _ _, by simp [Value.ownBlock], by simp [Value.ownBlock]⟩
set_option maxRecDepth 100000 in
set_option maxHeartbeats 400000 in
theorem rnew_some (b o n cap : Nat) (zs : Nat → Int) (hn : (n : Int) ≤ 1024) (w : World) (hb : Hid (b < w.heap.size)) (hc : Hid (∀ j, j < n → w.cell? ⟨b, o + j, none⟩ = some (.int .u32 (zs j)))) :
    Calls Tryz.prog 21 #[.slice (some ⟨b, o, none⟩) n cap] w fun e w' => e = .returned (.pointer (some ⟨w.heap.size, 0, none⟩)) ∧ RAt w.heap.size (w.heap.size + 1) (ini zs n) (.slice none 0 0) w' ∧ Fr w w' := by
  obtain ⟨c, hc0, hcs, hcz⟩ : ∃ c : Array Value, madeCells #[Value.int .u32 0] 1024 = c ∧ Hid (∀ k : Nat, k < 1024 → c[k]? = some (Value.int .u32 0)) ∧ Hid (c.size = 1024) := ⟨_, rfl, made_u32 1024, made_size 1024⟩
  have MK := make1024
  rw [hc0] at MK
  have hg : Hid (((w.alloc (.cells #[.int .u32 0, .int .u32 0, .int .u32 0, .int .u32 0, .int .u32 0, .int .u32 0, .int .u32 0, .int .u32 0, .int .u32 0, .int .u32 0, .int .u32 0, .int .u32 0, .int .u32 0, .int .u32 0, .int .u32 0, .int .u32 0, .int .u32 0, .int .u32 0, .int .u32 0, .int .u32 0, .int .u32 0, .int .u32 0, .int .u32 0, .int .u32 0, .int .u32 0, .int .u32 0, .int .u32 0, .int .u32 0, .int .u32 0, .int .u32 0, .int .u32 0, .int .u32 0, .int .u32 0, .int .u32 0, .int .u32 0, .int .u32 0, .int .u32 0, .int .u32 0, .slice (some ⟨w.heap.size + 1, 0, none⟩) 1024 1024, .slice none 0 0, .bool false, .int .u32 0, .int .i64 0] 77)).alloc (.cells c 36)).heap[w.heap.size + 1]? = some (.cells c 36 (0, 0))) := heap_alloc2_new w _ _
  have n9 : n ≤ 1024 := by omega
  have hl : Hid ((rowV zs n).length = Nat.min n 1024) := (rowV_len zs n).trans (Nat.min_eq_left n9).symm
  have N9 := hid n9
  clear n9
  have hs : Hid (∀ j u, (rowV zs n)[j]? = some u → ((w.alloc (.cells #[.int .u32 0, .int .u32 0, .int .u32 0, .int .u32 0, .int .u32 0, .int .u32 0, .int .u32 0, .int .u32 0, .int .u32 0, .int .u32 0, .int .u32 0, .int .u32 0, .int .u32 0, .int .u32 0, .int .u32 0, .int .u32 0, .int .u32 0, .int .u32 0, .int .u32 0, .int .u32 0, .int .u32 0, .int .u32 0, .int .u32 0, .int .u32 0, .int .u32 0, .int .u32 0, .int .u32 0, .int .u32 0, .int .u32 0, .int .u32 0, .int .u32 0, .int .u32 0, .int .u32 0, .int .u32 0, .int .u32 0, .int .u32 0, .int .u32 0, .int .u32 0, .slice (some ⟨w.heap.size + 1, 0, none⟩) 1024 1024, .slice none 0 0, .bool false, .int .u32 0, .int .i64 0] 77)).alloc (.cells c 36)).cell? ((⟨b, o, none⟩ : Addr).add j) = some u) := fun j u h => by
    have jl : j < n := by have := (List.getElem?_eq_some_iff.1 h).1; rwa [rowV_len] at this
    rw [rowV_at _ _ _ jl] at h
    rw [Addr.add_lit, (((Fr.refl w).alloc _).alloc _).cell _ _ hb.out, hc.out j jl]
    exact h
  have hf : Hid (0 + (rowV zs n).length ≤ c.size) := by unfold Hid; rw [rowV_len, hcz.out]; have := N9.out; omega
  have h1 := hid (rowV_one zs n)
  have i36 : (Tryz.prog.info? 36).map (·.size) = some 1 := by kernel_rfl
  obtain ⟨W2, R, HM, HR, HF⟩ : ∃ W2, (Builtin.copy_ #[23, 23] 3 #[.slice (some ⟨w.heap.size + 1, 0, none⟩) 1024 1024, .slice (some ⟨b, o, none⟩) n cap]).run Tryz.prog ((w.alloc (.cells #[.int .u32 0, .int .u32 0, .int .u32 0, .int .u32 0, .int .u32 0, .int .u32 0, .int .u32 0, .int .u32 0, .int .u32 0, .int .u32 0, .int .u32 0, .int .u32 0, .int .u32 0, .int .u32 0, .int .u32 0, .int .u32 0, .int .u32 0, .int .u32 0, .int .u32 0, .int .u32 0, .int .u32 0, .int .u32 0, .int .u32 0, .int .u32 0, .int .u32 0, .int .u32 0, .int .u32 0, .int .u32 0, .int .u32 0, .int .u32 0, .int .u32 0, .int .u32 0, .int .u32 0, .int .u32 0, .int .u32 0, .int .u32 0, .int .u32 0, .int .u32 0, .slice (some ⟨w.heap.size + 1, 0, none⟩) 1024 1024, .slice none 0 0, .bool false, .int .u32 0, .int .i64 0] 77)).alloc (.cells c 36)) = .ok (.int .i64 n) W2 ∧ Hid (W2.heap[w.heap.size]? = some (.cells #[.int .u32 0, .int .u32 0, .int .u32 0, .int .u32 0, .int .u32 0, .int .u32 0, .int .u32 0, .int .u32 0, .int .u32 0, .int .u32 0, .int .u32 0, .int .u32 0, .int .u32 0, .int .u32 0, .int .u32 0, .int .u32 0, .int .u32 0, .int .u32 0, .int .u32 0, .int .u32 0, .int .u32 0, .int .u32 0, .int .u32 0, .int .u32 0, .int .u32 0, .int .u32 0, .int .u32 0, .int .u32 0, .int .u32 0, .int .u32 0, .int .u32 0, .int .u32 0, .int .u32 0, .int .u32 0, .int .u32 0, .int .u32 0, .int .u32 0, .int .u32 0, .slice (some ⟨w.heap.size + 1, 0, none⟩) 1024 1024, .slice none 0 0, .bool false, .int .u32 0, .int .i64 0] 77 (0, 0))) ∧ Hid (W2.heap[w.heap.size + 1]? = some (.cells (memR c.toList zs n) 36 (0, 0))) ∧ Hid (Fr w W2) := by
    have r := run_copy_row (P := Tryz.prog) ((w.alloc (.cells #[.int .u32 0, .int .u32 0, .int .u32 0, .int .u32 0, .int .u32 0, .int .u32 0, .int .u32 0, .int .u32 0, .int .u32 0, .int .u32 0, .int .u32 0, .int .u32 0, .int .u32 0, .int .u32 0, .int .u32 0, .int .u32 0, .int .u32 0, .int .u32 0, .int .u32 0, .int .u32 0, .int .u32 0, .int .u32 0, .int .u32 0, .int .u32 0, .int .u32 0, .int .u32 0, .int .u32 0, .int .u32 0, .int .u32 0, .int .u32 0, .int .u32 0, .int .u32 0, .int .u32 0, .int .u32 0, .int .u32 0, .int .u32 0, .int .u32 0, .int .u32 0, .slice (some ⟨w.heap.size + 1, 0, none⟩) 1024 1024, .slice none 0 0, .bool false, .int .u32 0, .int .i64 0] 77)).alloc (.cells c 36)) 23 23 3 36 (w.heap.size + 1) 0 1024 1024 ⟨b, o, none⟩ n cap c 36 (rowV zs n) Tryz.underlying23 i36 hg.out hl.out hs.out hf.out h1.out
    rw [rowV_len] at r
    refine ⟨_, r, ?_, ?_, ?_⟩
    · exact (setRow_other _ _ w.heap.size _ (by omega)).trans (heap_alloc2_old w _ _)
    · have e := setRow_heap ((w.alloc (.cells #[.int .u32 0, .int .u32 0, .int .u32 0, .int .u32 0, .int .u32 0, .int .u32 0, .int .u32 0, .int .u32 0, .int .u32 0, .int .u32 0, .int .u32 0, .int .u32 0, .int .u32 0, .int .u32 0, .int .u32 0, .int .u32 0, .int .u32 0, .int .u32 0, .int .u32 0, .int .u32 0, .int .u32 0, .int .u32 0, .int .u32 0, .int .u32 0, .int .u32 0, .int .u32 0, .int .u32 0, .int .u32 0, .int .u32 0, .int .u32 0, .int .u32 0, .int .u32 0, .int .u32 0, .int .u32 0, .int .u32 0, .int .u32 0, .int .u32 0, .int .u32 0, .slice (some ⟨w.heap.size + 1, 0, none⟩) 1024 1024, .slice none 0 0, .bool false, .int .u32 0, .int .i64 0] 77)).alloc (.cells c 36)) (w.heap.size + 1) c (c.toList.take 0 ++ rowV zs n ++ c.toList.drop (0 + n)).toArray 36 (0, 0) hg.out
      unfold Hid memR
      rw [← List.append_assoc]
      exact e
    · refine ⟨rfl, rfl, by simp [World.setRow]; omega, fun k hk => ?_⟩
      exact (setRow_other _ _ k _ (by omega)).trans ((((Fr.refl w).alloc _).alloc _).block k hk)
  clear hc0
  go_enter Tryz.func21, Tryz.ntmps21
  go_wp2_with fail
  go_ret
  exact ⟨rfl, rat_ini zs n w _ c hcs.out HM.out HR.out, HF.out⟩
end Go.Proofs.YtpkbkbllhpdfiaaGreat.M
namespace Go.Proofs.YtpkbkbllhpdfiaaGreat.M
open Go.ChangeShapes Go.WideShapes Go.ChangeAt Go.RowKit Go.Proofs.YtpkbkbllhpdfiaaGreat.Walks Go.Proofs.YtpkbkbllhpdfiaaGreat.Mod
set_option linter.unusedVariables false
set_option maxRecDepth 100000 in
set_option maxHeartbeats 400000 in
theorem rnew_none (zs : Nat → Int) (A : Option Addr) (cap : Nat) (w : World) :
    Calls Tryz.prog 21 #[.slice A 0 cap] w fun e w' => e = .returned (.pointer (some ⟨w.heap.size, 0, none⟩)) ∧ RAt w.heap.size (w.heap.size + 1) (ini zs 0) (.slice none 0 0) w' ∧ Fr w w' := by
  obtain ⟨c, hc0, hcs⟩ : ∃ c : Array Value, madeCells #[Value.int .u32 0] 1024 = c ∧ Hid (∀ k : Nat, k < 1024 → c[k]? = some (Value.int .u32 0)) := ⟨_, rfl, made_u32 1024⟩
  have MK := make1024
  rw [hc0] at MK
  have i36 : (Tryz.prog.info? 36).map (·.size) = some 1 := by kernel_rfl
  have R : (Builtin.copy_ #[23, 23] 3 #[.slice (some ⟨w.heap.size + 1, 0, none⟩) 1024 1024, .slice A 0 cap]).run Tryz.prog ((w.alloc (.cells #[.int .u32 0, .int .u32 0, .int .u32 0, .int .u32 0, .int .u32 0, .int .u32 0, .int .u32 0, .int .u32 0, .int .u32 0, .int .u32 0, .int .u32 0, .int .u32 0, .int .u32 0, .int .u32 0, .int .u32 0, .int .u32 0, .int .u32 0, .int .u32 0, .int .u32 0, .int .u32 0, .int .u32 0, .int .u32 0, .int .u32 0, .int .u32 0, .int .u32 0, .int .u32 0, .int .u32 0, .int .u32 0, .int .u32 0, .int .u32 0, .int .u32 0, .int .u32 0, .int .u32 0, .int .u32 0, .int .u32 0, .int .u32 0, .int .u32 0, .int .u32 0, .slice (some ⟨w.heap.size + 1, 0, none⟩) 1024 1024, .slice none 0 0, .bool false, .int .u32 0, .int .i64 0] 77)).alloc (.cells c 36)) = .ok (.int .i64 0) ((w.alloc (.cells #[.int .u32 0, .int .u32 0, .int .u32 0, .int .u32 0, .int .u32 0, .int .u32 0, .int .u32 0, .int .u32 0, .int .u32 0, .int .u32 0, .int .u32 0, .int .u32 0, .int .u32 0, .int .u32 0, .int .u32 0, .int .u32 0, .int .u32 0, .int .u32 0, .int .u32 0, .int .u32 0, .int .u32 0, .int .u32 0, .int .u32 0, .int .u32 0, .int .u32 0, .int .u32 0, .int .u32 0, .int .u32 0, .int .u32 0, .int .u32 0, .int .u32 0, .int .u32 0, .int .u32 0, .int .u32 0, .int .u32 0, .int .u32 0, .int .u32 0, .int .u32 0, .slice (some ⟨w.heap.size + 1, 0, none⟩) 1024 1024, .slice none 0 0, .bool false, .int .u32 0, .int .i64 0] 77)).alloc (.cells c 36)) :=
    run_copy_none (P := Tryz.prog) _ 23 23 3 36 (some ⟨w.heap.size + 1, 0, none⟩) A 1024 1024 0 cap Tryz.underlying23 i36 rfl
  have e : memR c.toList zs 0 = c := by
    unfold memR rowV
    simp
  clear hc0
  go_enter Tryz.func21, Tryz.ntmps21
  go_wp2_with fail
  go_ret
  exact ⟨rfl, rat_ini zs 0 w _ c hcs.out (heap_alloc2_old w _ _) (by rw [e]; exact heap_alloc2_new w _ _), ((Fr.refl w).alloc _).alloc _⟩
/-- a machine of the document, of a row of words -/
theorem rnew_as (A : Option Addr) (n cap : Nat) (zs : Nat → Int) (hn : n ≤ 1024) (w : World) (h : WordsIn w A n zs) :
    Calls Tryz.prog 21 #[.slice A n cap] w fun e w' => e = .returned (.pointer (some ⟨w.heap.size, 0, none⟩)) ∧ RAt w.heap.size (w.heap.size + 1) (ini zs n) (.slice none 0 0) w' ∧ Fr w w' := by
  by_cases e : n = 0
  · subst e
    exact rnew_none zs A cap w
  · obtain ⟨b, o, rfl, hb, _⟩ := h 0 (by omega)
    refine rnew_some b o n cap zs (by omega) w hb ?_
    intro j hj
    obtain ⟨b', o', h1, _, h3, _⟩ := h j hj
    simp at h1
    obtain ⟨rfl, rfl⟩ := h1
    exact h3
/-- the program's Trace: a row of its own -/
theorem clone_own (v : Value) (t : List Int) (hl : t.length ≤ 100000) (w : World) (h : w.ownsRow 0 36 1 v t.length (t.map (Value.int .u32))) :
    Calls Tryz.prog 36 #[v] w fun e w' => ∃ v', e = .returned v' ∧ w'.ownsRow w.heap.size 36 1 v' t.length (t.map (Value.int .u32)) ∧ Fr w w' := by
  rcases h.2 with ⟨rfl, hn⟩ | ⟨g, cap, cur, rfl, _, hg, _⟩
  · have e : t = [] := List.eq_nil_of_length_eq_zero hn
    subst e
    refine (clone_nil w).mono ?_
    rintro e w' ⟨rfl, rfl⟩
    exact ⟨_, rfl, World.ownsRow_nil _ _ _ _, Fr.refl _⟩
  · refine (clone_some g 0 t.length cap t rfl hl w ?_ ?_).mono ?_
    · intro j u hu
      have := h.cells (g := g) rfl j u hu
      rw [Addr.add_lit] at this
      exact this
    · exact (own_lt h rfl)
    · rintro e w' ⟨v', rfl, h1, h2, _⟩
      exact ⟨v', rfl, h1, h2⟩
set_option maxHeartbeats 400000 in
theorem trace_as (B : Nat) (s : St) (v : Value) (hl : Hid (s.t.length ≤ 100000)) (w : World) (hM : Hid (MAt B s v w)) :
    Calls Tryz.prog 20 #[.pointer (some ⟨B, 0, none⟩)] w fun e w' => ∃ v', e = .returned v' ∧ w'.ownsRow w.heap.size 36 1 v' s.t.length (s.t.map (Value.int .u32)) ∧ Fr w w' := by
  have c0 := hM.out.t
  go_enter Tryz.func20, Tryz.ntmps20
  go_wp2_with fail
  refine (clone_own v s.t hl.out _ hM.out.tr).mono ?_
  rintro e w1 ⟨v', rfl, hO, hF⟩
  go_wp2_with fail
  go_ret
  exact ⟨_, rfl, hO, hF⟩
end Go.Proofs.YtpkbkbllhpdfiaaGreat.M
namespace Go.Proofs.YtpkbkbllhpdfiaaGreat.M
open Go.ChangeShapes Go.WideShapes Go.ChangeAt Go.RowKit Go.Proofs.YtpkbkbllhpdfiaaGreat.Mod
set_option linter.unusedVariables false
/-- the words of the known run -/
def kw : List Int := [695, 80904851, 268439479, 1019795, 6266915, 268439479, 5214099, 6266915]
/-- the machine that it begins with -/
def ks : St := ini (fun j => kw.getD j 0) 8
theorem en_is (o d a b n v : Int) (h : Num.Ok (Num.fm o) d a b n) (e : Num.wd o d a b n = v) : Num.En o d a b n v true := ⟨⟨fun _ => h, fun _ => rfl⟩, fun _ => e.symm, fun x => absurd x (by decide)⟩
theorem en1 : Num.En 1 5 0 0 0 695 true := en_is _ _ _ _ _ _ (by have f : Num.fm 1 = 7 := (by decide +kernel); unfold Num.Ok; omega) (by decide +kernel)
theorem en2 : Num.En 19 5 5 0 77 80904851 true := en_is _ _ _ _ _ _ (by have f : Num.fm 19 = 3 := (by decide +kernel); unfold Num.Ok; omega) (by decide +kernel)
theorem en3 : Num.En 1 31 0 0 268435456 268439479 true := en_is _ _ _ _ _ _ (by have f : Num.fm 1 = 7 := (by decide +kernel); unfold Num.Ok; omega) (by decide +kernel)
theorem en4 : Num.En 19 31 31 0 0 1019795 true := en_is _ _ _ _ _ _ (by have f : Num.fm 19 = 3 := (by decide +kernel); unfold Num.Ok; omega) (by decide +kernel)
theorem en5 : Num.En 18 0 31 5 0 6266915 true := en_is _ _ _ _ _ _ (by have f : Num.fm 18 = 5 := (by decide +kernel); unfold Num.Ok; omega) (by decide +kernel)
theorem en6 : Num.En 19 31 31 0 4 5214099 true := en_is _ _ _ _ _ _ (by have f : Num.fm 19 = 3 := (by decide +kernel); unfold Num.Ok; omega) (by decide +kernel)
theorem k_did : did 100 ks = 8 := by decide +kernel
theorem k_h : (its 100 ks).h = true := by decide +kernel
theorem k_x : (its 100 ks).x = 77 := by decide +kernel
theorem k_t : (its 100 ks).t = [77] := by decide +kernel
theorem k_n : (its 100 ks).n = 8 := by decide +kernel
theorem k_r : (its 100 ks).r 5 = 77 := by decide +kernel
theorem k_w : ∀ j, j < 8 → W32 (kw.getD j 0) := by unfold W32; decide +kernel
end Go.Proofs.YtpkbkbllhpdfiaaGreat.M
