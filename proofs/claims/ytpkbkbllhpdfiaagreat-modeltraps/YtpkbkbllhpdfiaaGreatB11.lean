/- New: Contract of the program's New. -/
import Derived.Test.YtpkbkbllhpdfiaaGreatB10
import Derived.Test.YtpkbkbllhpdfiaaGreatB03
import Derived.Laws.CopyOwn
namespace Go.Proofs.YtpkbkbllhpdfiaaGreat.M
open Go.ChangeShapes Go.WideShapes Go.ChangeAt Go.RowKit Go.Proofs.YtpkbkbllhpdfiaaGreat.Walks Go.Proofs.YtpkbkbllhpdfiaaGreat.Mod
set_option linter.unusedVariables false
/-- a row of words lies in memory -/
def WordsIn (w : World) (A : Option Addr) (n : Nat) (zs : Nat → Int) : Prop := ∀ j, j < n → ∃ b o, A = some ⟨b, o, none⟩ ∧ b < w.heap.size ∧ w.cell? ⟨b, o + j, none⟩ = some (.int .u32 (zs j)) ∧ W32 (zs j)
theorem WordsIn.fr {w w' : World} {A : Option Addr} {n : Nat} {zs : Nat → Int} (h : WordsIn w A n zs) (F : Fr w w') : WordsIn w' A n zs := fun j hj => by
  obtain ⟨b, o, h1, h2, h3, h4⟩ := h j hj
  exact ⟨b, o, h1, Nat.lt_of_lt_of_le h2 F.size, by rw [F.cell b _ h2]; exact h3, h4⟩
/-- memory that holds n words of zs, zeros behind them -/
def iniM (zs : Nat → Int) (n : Nat) : Nat → Int := fun k => if k < n then zs k else 0
/-- a machine at its beginning -/
def ini (zs : Nat → Int) (n : Nat) : St := ⟨0, fun _ => 0, fun _ => 0, iniM zs n, [], 0, false, 0⟩
theorem ini_inv (zs : Nat → Int) (n : Nat) (h : ∀ j, j < n → W32 (zs j)) : Inv (ini zs n) :=
  ⟨W32.zero, rfl, fun _ _ => W32.zero, rfl, fun _ _ => W32.zero, rfl, rfl, fun i _ => by
    show W32 (if i < n then zs i else 0)
    by_cases e : i < n
    · rw [if_pos e]; exact h i e
    · rw [if_neg e]; exact W32.zero, Int.le_refl _, Int.le_refl _⟩
theorem z68 : Tryz.zeroCells68.toList = List.replicate 1062 (Value.int .u32 0) ++ [.slice none 0 0, .int .i64 0, .bool false, .int .u32 0] := by kernel_rfl
theorem z68_size : Tryz.zeroCells68.size = 1066 := by kernel_rfl
set_option maxRecDepth 100000 in
set_option maxHeartbeats 400000 in
theorem new_long (A : Option Addr) (n cap : Nat) (hn : (1024 : Int) < n) (w : World) :
    Calls Tryz.prog 12 #[.slice A n cap] w fun e w' => e = .returned (.tuple #[.pointer none, .int .i64 3]) ∧ w' = w := by
  go_enter Tryz.func12, Tryz.ntmps12
  go_wp2_with fail
  go_ret2
  exact ⟨rfl, rfl⟩
/-- the words of a row, as cells -/
def rowV (zs : Nat → Int) (n : Nat) : List Value := (List.range n).map fun k => .int .u32 (zs k)
theorem rowV_len (zs : Nat → Int) (n : Nat) : (rowV zs n).length = n := by simp [rowV]
theorem rowV_at (zs : Nat → Int) (n k : Nat) (h : k < n) : (rowV zs n)[k]? = some (.int .u32 (zs k)) := by simp [rowV, h]
theorem rowV_one (zs : Nat → Int) (n : Nat) : ∀ u ∈ rowV zs n, u.oneCell' = true := by
  intro u hu
  obtain ⟨k, _, rfl⟩ := List.mem_map.1 hu
  rfl
/-- the cells of a machine at its beginning -/
def iniR (Z : List Value) (zs : Nat → Int) (n : Nat) : Array Value := (Z.take 38 ++ (rowV zs n ++ Z.drop (38 + n))).toArray
theorem iniC_at (zs : Nat → Int) (n k : Nat) (hn : n ≤ 1024) : (iniR Tryz.zeroCells68.toList zs n)[k]? = if k < 38 then Tryz.zeroCells68.toList[k]? else if k < 38 + n then some (.int .u32 (zs (k - 38))) else Tryz.zeroCells68.toList[k]? := by
  have l : Tryz.zeroCells68.toList.length = 1066 := z68_size
  have t : (Tryz.zeroCells68.toList.take 38).length = 38 := by rw [List.length_take]; omega
  unfold iniR
  rw [List.getElem?_toArray]
  by_cases h : k < 38
  · rw [if_pos h, List.getElem?_append_left (by omega), List.getElem?_take, if_pos h]
  · rw [if_neg h, List.getElem?_append_right (by omega), t]
    by_cases h2 : k < 38 + n
    · rw [if_pos h2, List.getElem?_append_left (by rw [rowV_len]; omega), rowV_at _ _ _ (by omega)]
    · rw [if_neg h2, List.getElem?_append_right (by rw [rowV_len]; omega), rowV_len, List.getElem?_drop]
      congr 1
      omega
theorem z68_low (k : Nat) (h : k < 1062) : Tryz.zeroCells68.toList[k]? = some (.int .u32 0) := by
  rw [z68, List.getElem?_append_left (by rw [List.length_replicate]; exact h), List.getElem?_replicate, if_pos h]
theorem z68_high (k : Nat) : Tryz.zeroCells68.toList[1062 + k]? = [Value.slice none 0 0, .int .i64 0, .bool false, .int .u32 0][k]? := by
  rw [z68, List.getElem?_append_right (by rw [List.length_replicate]; omega), List.length_replicate, Nat.add_sub_cancel_left]
/-- a machine is there -/
theorem mat_ini (zs : Nat → Int) (n : Nat) (hn : n ≤ 1024) (w : World) (B : Nat) (h : w.heap[B]? = some (.cells (iniR Tryz.zeroCells68.toList zs n) 68 (0, 0))) : MAt B (ini zs n) (.slice none 0 0) w := by
  have c : ∀ k, w.cell? ⟨B, k, none⟩ = (iniR Tryz.zeroCells68.toList zs n)[k]? := fun k => cell_of_row w B k _ 68 (0, 0) h
  have f : ∀ k, w.frozen? ⟨B, k, none⟩ = false := fun k => by simp [World.frozen?, h]
  refine ⟨?_, fun k hk => ?_, fun k hk => ?_, fun k hk => ?_, ?_, ?_, ?_, ?_, fun k _ => f k, World.ownsRow_nil _ _ _ _, by simp [Value.ownBlock]⟩
  · rw [c, iniC_at _ _ _ hn, if_pos (by decide), z68_low _ (by decide)]; rfl
  · rw [c, iniC_at _ _ _ hn, if_pos (by omega), z68_low _ (by omega)]; rfl
  · rw [c, iniC_at _ _ _ hn, if_pos (by omega), z68_low _ (by omega)]; rfl
  · rw [c, iniC_at _ _ _ hn, if_neg (by omega)]
    show _ = some (Value.int .u32 (if k < n then zs k else 0))
    by_cases e : k < n
    · rw [if_pos (by omega), if_pos e, Nat.add_sub_cancel_left]
    · rw [if_neg (by omega), if_neg e, z68_low _ (by omega)]
  · rw [c, iniC_at _ _ _ hn, if_neg (by decide), if_neg (by omega)]; exact z68_high 0
  · rw [c, iniC_at _ _ _ hn, if_neg (by decide), if_neg (by omega)]; exact z68_high 1
  · rw [c, iniC_at _ _ _ hn, if_neg (by decide), if_neg (by omega)]; exact z68_high 2
  · rw [c, iniC_at _ _ _ hn, if_neg (by decide), if_neg (by omega)]; exact z68_high 3
set_option maxRecDepth 100000 in
set_option maxHeartbeats 400000 in
theorem new_some (b o n cap : Nat) (zs : Nat → Int) (hn : (n : Int) ≤ 1024) (w : World) (hb : Hid (b < w.heap.size)) (hc : Hid (∀ j, j < n → w.cell? ⟨b, o + j, none⟩ = some (.int .u32 (zs j)))) :
    Calls Tryz.prog 12 #[.slice (some ⟨b, o, none⟩) n cap] w fun e w' => e = .returned (.tuple #[.pointer (some ⟨w.heap.size, 0, none⟩), .int .i64 0]) ∧ MAt w.heap.size (ini zs n) (.slice none 0 0) w' ∧ Fr w w' := by
  have hg : Hid ((w.alloc (.cells Tryz.zeroCells68 68)).heap[w.heap.size]? = some (.cells Tryz.zeroCells68 68 (0, 0))) := heap_alloc_new w _
  have n9 : n ≤ 1024 := by omega
  have hl : Hid ((rowV zs n).length = Nat.min n 1024) := (rowV_len zs n).trans (Nat.min_eq_left n9).symm
  have N9 := hid n9
  clear n9
  have hs : Hid (∀ j u, (rowV zs n)[j]? = some u → (w.alloc (.cells Tryz.zeroCells68 68)).cell? ((⟨b, o, none⟩ : Addr).add j) = some u) := fun j u h => by
    have jl : j < n := by have := (List.getElem?_eq_some_iff.1 h).1; rwa [rowV_len] at this
    rw [rowV_at _ _ _ jl] at h
    rw [Addr.add_lit, ((Fr.refl w).alloc _).cell _ _ hb.out, hc.out j jl]
    exact h
  have hf : Hid (38 + (rowV zs n).length ≤ Tryz.zeroCells68.size) := by unfold Hid; rw [rowV_len, z68_size]; omega
  have h1 := hid (rowV_one zs n)
  have i36 : (Tryz.prog.info? 36).map (·.size) = some 1 := by kernel_rfl
  obtain ⟨W2, R, HR, HF⟩ : ∃ W2, (Builtin.copy_ #[23, 23] 3 #[.slice (some ⟨w.heap.size, 38, none⟩) 1024 1024, .slice (some ⟨b, o, none⟩) n cap]).run Tryz.prog (w.alloc (.cells Tryz.zeroCells68 68)) = .ok (.int .i64 n) W2 ∧ Hid (W2.heap[w.heap.size]? = some (.cells (iniR Tryz.zeroCells68.toList zs n) 68 (0, 0))) ∧ Hid (Fr w W2) := by
    have r := run_copy_row (P := Tryz.prog) (w.alloc (.cells Tryz.zeroCells68 68)) 23 23 3 36 w.heap.size 38 1024 1024 ⟨b, o, none⟩ n cap Tryz.zeroCells68 68 (rowV zs n) Tryz.underlying23 i36 hg.out hl.out hs.out hf.out h1.out
    rw [rowV_len] at r
    refine ⟨_, r, ?_, ?_⟩
    · have e := setRow_heap (w.alloc (.cells Tryz.zeroCells68 68)) w.heap.size Tryz.zeroCells68 (Tryz.zeroCells68.toList.take 38 ++ rowV zs n ++ Tryz.zeroCells68.toList.drop (38 + n)).toArray 68 (0, 0) hg.out
      unfold Hid iniR
      rw [← List.append_assoc]
      exact e
    · refine ⟨rfl, rfl, by simp [World.setRow], fun k hk => ?_⟩
      exact (setRow_other _ _ k _ (by omega)).trans (((Fr.refl w).alloc _).block k hk)
  go_enter Tryz.func12, Tryz.ntmps12
  go_wp2_with fail
  go_ret2
  exact ⟨rfl, mat_ini zs n N9.out _ _ HR.out, HF.out⟩
set_option maxRecDepth 100000 in
set_option maxHeartbeats 400000 in
theorem new_none (zs : Nat → Int) (A : Option Addr) (cap : Nat) (w : World) :
    Calls Tryz.prog 12 #[.slice A 0 cap] w fun e w' => e = .returned (.tuple #[.pointer (some ⟨w.heap.size, 0, none⟩), .int .i64 0]) ∧ MAt w.heap.size (ini zs 0) (.slice none 0 0) w' ∧ Fr w w' := by
  have i36 : (Tryz.prog.info? 36).map (·.size) = some 1 := by kernel_rfl
  have R : (Builtin.copy_ #[23, 23] 3 #[.slice (some ⟨w.heap.size, 38, none⟩) 1024 1024, .slice A 0 cap]).run Tryz.prog (w.alloc (.cells Tryz.zeroCells68 68)) = .ok (.int .i64 0) (w.alloc (.cells Tryz.zeroCells68 68)) :=
    run_copy_none (P := Tryz.prog) (w.alloc (.cells Tryz.zeroCells68 68)) 23 23 3 36 (some ⟨w.heap.size, 38, none⟩) A 1024 1024 0 cap Tryz.underlying23 i36 rfl
  have e : iniR Tryz.zeroCells68.toList zs 0 = Tryz.zeroCells68 := by
    unfold iniR rowV
    simp
  go_enter Tryz.func12, Tryz.ntmps12
  go_wp2_with fail
  go_ret2
  exact ⟨rfl, mat_ini zs 0 (by decide) _ _ (by rw [e]; exact heap_alloc_new w _), (Fr.refl w).alloc _⟩
/-- a machine of a row of words -/
theorem new_as (A : Option Addr) (n cap : Nat) (zs : Nat → Int) (hn : n ≤ 1024) (w : World) (h : WordsIn w A n zs) :
    Calls Tryz.prog 12 #[.slice A n cap] w fun e w' => e = .returned (.tuple #[.pointer (some ⟨w.heap.size, 0, none⟩), .int .i64 0]) ∧ MAt w.heap.size (ini zs n) (.slice none 0 0) w' ∧ Fr w w' := by
  by_cases e : n = 0
  · subst e
    exact new_none zs A cap w
  · obtain ⟨b, o, rfl, hb, _⟩ := h 0 (by omega)
    refine new_some b o n cap zs (by omega) w hb ?_
    intro j hj
    obtain ⟨b', o', h1, _, h3, _⟩ := h j hj
    simp at h1
    obtain ⟨rfl, rfl⟩ := h1
    exact h3
end Go.Proofs.YtpkbkbllhpdfiaaGreat.M
