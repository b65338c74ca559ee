/- Same: Contract of the law's same: a machine of the program and one of the document that are alike. Two: A machine of the program and one of the document side by side. Play: Contract of the law's play: the program's machine does what the document's does, for any image. -/
import Derived.Test.YtpkbkbllhpdfiaaGreatB13
import Derived.Test.YtpkbkbllhpdfiaaGreatB12
import Derived.Test.YtpkbkbllhpdfiaaGreatB18
import Derived.Test.YtpkbkbllhpdfiaaGreatB24
namespace Go.Proofs.YtpkbkbllhpdfiaaGreat.M
open Go.ChangeShapes Go.WideShapes Go.ChangeAt Go.RowKit Go.Proofs.YtpkbkbllhpdfiaaGreat.Walks Go.Proofs.YtpkbkbllhpdfiaaGreat.Mod
set_option linter.unusedVariables false
theorem own_rowIn {w : World} {base : Nat} {v : Value} {t : List Int} (h : w.ownsRow base 36 1 v t.length (t.map (Value.int .u32))) : ∃ A cap, v = .slice A t.length cap ∧ RowIn w A t.length (fun j => t.getD j 0) := by
  rcases h.2 with ⟨rfl, hn⟩ | ⟨g, cap, cur, rfl, h2, h3, h4⟩
  · exact ⟨none, 0, by rw [hn], fun j hj => by omega⟩
  · refine ⟨some ⟨g, 0, none⟩, cap, rfl, fun j hj => ⟨g, rfl, (h.lt g rfl).2, ?_⟩⟩
    have := h.cells (g := g) rfl j (.int .u32 (t.getD j 0)) (by simp [List.getElem?_map, List.getElem?_eq_getElem hj, List.getD])
    rw [Addr.add_lit, Nat.zero_add] at this
    exact this
theorem own_rowM {w : World} {base g cap : Nat} {f : Nat → Int} (h : w.ownsRow base 36 1 (.slice (some ⟨g, 0, none⟩) 1024 cap) 1024 ((rowI f 1024).map (.int .u32))) : RowIn w (some ⟨g, 0, none⟩) 1024 f := fun j hj => by
  refine ⟨g, rfl, (h.lt g rfl).2, ?_⟩
  have := h.cells (g := g) rfl j (.int .u32 (f j)) (by rw [List.getElem?_map, rowI_at, if_pos hj]; rfl)
  rw [Addr.add_lit, Nat.zero_add] at this
  exact this
theorem cells39 (s : St) (v : Value) : Cells39 (stL s v).toArray s v := by
  refine ⟨rfl, fun k hk => ?_, fun k hk => ?_, rfl⟩
  · rcases k with _ | _ | _ | _ | _ | _ | _ | _ | _ | _ | _ | _ | _ | _ | _ | _ | _ | _ | _ | _ | _ | _ | _ | _ | _ | _ | _ | _ | _ | _ | _ | _ | _ <;> first | rfl | omega
  · rcases k with _ | _ | _ | _ | _ | _ <;> first | rfl | omega
theorem RAt.rowM {B C : Nat} {s : St} {v : Value} {w : World} (h : RAt B C s v w) : RowIn w (some ⟨C, 0, none⟩) 1024 s.m := fun j hj => ⟨C, rfl, h.ltc, h.m j hj⟩
theorem RAt.row39 {B C : Nat} {s : St} {v : Value} {w : World} (h : RAt B C s v w) : w.rangeAt B 0 (stL s (.slice (some ⟨C, 0, none⟩) 1024 1024)) := by
  intro j u hu
  have hj : j < 39 := (List.getElem?_eq_some_iff.1 hu).1
  have k := cells39 s (.slice (some ⟨C, 0, none⟩) 1024 1024)
  rw [Nat.zero_add]
  have hu' : ((stL s (.slice (some ⟨C, 0, none⟩) 1024 1024)).toArray)[j]? = some u := by rw [← hu]; simp
  by_cases e0 : j = 0
  · subst e0; rw [k.p] at hu'; injection hu' with e; subst e; exact h.pc
  by_cases e1 : j < 33
  · obtain ⟨i, rfl⟩ : ∃ i, j = 1 + i := ⟨j - 1, by omega⟩
    rw [k.r i (by omega)] at hu'; injection hu' with e; subst e; exact h.r i (by omega)
  by_cases e2 : j < 38
  · obtain ⟨i, rfl⟩ : ∃ i, j = 33 + i := ⟨j - 33, by omega⟩
    rw [k.c i (by omega)] at hu'; injection hu' with e; subst e; exact h.c i (by omega)
  · obtain rfl : j = 38 := by omega
    rw [k.t] at hu'; injection hu' with e; subst e; exact h.l
theorem ld39 {B C : Nat} {s : St} {v : Value} {w : World} (h : RAt B C s v w) : (loadVar 44 ⟨B, 0, none⟩).run Tryz.prog w = .ok (.agg (stL s (.slice (some ⟨C, 0, none⟩) 1024 1024)).toArray) w :=
  run_loadVar_mid w B 0 44 _ _ h.row39 Tryz.underlying44 rfl size44
theorem upon_thenV {α : Type} {P : Program} {o : Oper} {a : Act} {K : Act → World → Prop} {Q : Exit → Act → World → Prop} {c : Result α} {f : α → World → Result Next} {v : α} {W : World} (h : c = .ok v W) (g : Oper.upon P o a K Q (f v W)) : Oper.upon P o a K Q (c.andThen f) := by
  rw [h]; exact g
theorem sameS {B2 C2 : Nat} {s : St} {v2 : Value} {w w' : World} (h : RAt B2 C2 s v2 w) (k : Fr w w') : w'.rangeAt B2 0 (stL s (.slice (some ⟨C2, 0, none⟩) 1024 1024)) ∧ w'.cell? ⟨B2, 39, none⟩ = some v2 ∧ w'.cell? ⟨B2, 40, none⟩ = some (.bool s.h) ∧ w'.cell? ⟨B2, 41, none⟩ = some (.int .u32 s.x) ∧ w'.cell? ⟨B2, 42, none⟩ = some (.int .i64 s.n) ∧ Fr w w' := by
  have m := h.fr k
  exact ⟨m.row39, m.t, m.h, m.x, m.n, k⟩
set_option maxRecDepth 100000 in
set_option maxHeartbeats 1000000 in
theorem same_as (B B2 C2 : Nat) (s : St) (v v2 : Value) (hl : (s.t.length : Int) ≤ 100000) (w : World) (hM : Hid (MAt B s v w)) (hR : Hid (RAt B2 C2 s v2 w)) :
    Calls Tryz.prog 23 #[.pointer (some ⟨B, 0, none⟩), .pointer (some ⟨B2, 0, none⟩)] w fun e w' => e = .returned (.bool true) ∧ Fr w w' := by
  obtain ⟨A2, c2, rfl, hr2⟩ := own_rowIn hR.out.tr
  have RI := hid hr2
  clear hr2
  go_enter Tryz.func23, Tryz.ntmps23
  go_wp2_with fail
  refine (halted_as B s v _ hM).mono ?_; rintro e w1 ⟨rfl, hA1⟩
  have F1 : Hid (Fr w w1) := (Fr.refl w).alike hA1
  clear hA1
  go_wp2_with fail
  refine (trace_as B s v (by unfold Hid; omega) _ (hM.out.fr F1.out)).mono ?_; rintro e w2 ⟨v1, rfl, hO, hF⟩
  obtain ⟨A1, c1, rfl, hr1⟩ := own_rowIn hO
  have F2 : Hid (Fr w w2) := F1.out.trans hF
  have P1 := hid hr1
  have P2 := hid (RI.out.fr F2.out)
  have M2 := hid (hM.out.fr F2.out)
  have R2 := hid (hR.out.fr F2.out)
  clear hO hF hr1 F1
  generalize hn : s.t.length = n at *
  go_wp2_with fail
  refine wp_region_noPanic ?_
  refine wp_region_held_drew (S := fun w' => w'.rangeAt B2 0 (stL s (.slice (some ⟨C2, 0, none⟩) 1024 1024)) ∧ w'.cell? ⟨B2, 39, none⟩ = some (.slice A2 n c2) ∧ w'.cell? ⟨B2, 40, none⟩ = some (.bool s.h) ∧ w'.cell? ⟨B2, 41, none⟩ = some (.int .u32 s.x) ∧ w'.cell? ⟨B2, 42, none⟩ = some (.int .i64 s.n) ∧ Fr w w') (by kernel_rfl) ?_ (fun hHeld => ?_)
  · exact sameS hR.out (F2.out.alike ⟨rfl, rfl, rfl⟩)
  refine wpAnyH_take (i := 0) (oi := { dst := some 15, op := Op.move (Operand.tmp 5), type := 36, pos := "law.go:37", after := #[], guard := none }) (v := ?_) rfl (by kernel_rfl) (by kernel_rfl) (by kernel_rfl) (fun _ _ _ h => h) (Or.inl ⟨by rfl, ?_⟩) (by assumption) ?_
  rotate_left
  · intro w hSw
    try dsimp only at hSw
    go_simp
    try with_reducible rfl
  try simp only [Act.put, List.setIfInBounds_toArray, List.set_cons_zero, List.set_cons_succ]
  refine wpAnyH_take (i := 1) (oi := { dst := some 16, op := Op.move (Operand.tmp 1), type := 53, pos := "law.go:37", after := #[], guard := none }) (v := ?_) rfl (by kernel_rfl) (by kernel_rfl) (by kernel_rfl) (fun _ _ _ h => h) (Or.inl ⟨by rfl, ?_⟩) (by assumption) ?_
  rotate_left
  · intro w hSw
    try dsimp only at hSw
    go_simp
    try with_reducible rfl
  try simp only [Act.put, List.setIfInBounds_toArray, List.set_cons_zero, List.set_cons_succ]
  refine wpAnyH_take (i := 2) (oi := { dst := some 17, op := Op.nilCheck (Operand.tmp 16), type := 0, pos := "law.go:37", after := #[{ on := 1, ground := Ground.data }], guard := none }) (v := ?_) rfl (by kernel_rfl) (by kernel_rfl) (by kernel_rfl) (fun _ _ _ h => h) (Or.inl ⟨by rfl, ?_⟩) (by assumption) ?_
  rotate_left
  · intro w hSw
    try dsimp only at hSw
    go_simp
    try with_reducible rfl
  try simp only [Act.put, List.setIfInBounds_toArray, List.set_cons_zero, List.set_cons_succ]
  refine wpAnyH_take (i := 3) (oi := { dst := some 18, op := Op.fieldAddr 77 (Operand.tmp 17) 3, type := 0, pos := "law.go:37", after := #[{ on := 2, ground := Ground.data }], guard := none }) (v := ?_) rfl (by kernel_rfl) (by kernel_rfl) (by kernel_rfl) (fun _ _ _ h => h) (Or.inl ⟨by rfl, ?_⟩) (by assumption) ?_
  rotate_left
  · intro w hSw
    try dsimp only at hSw
    go_simp
    try with_reducible rfl
  try simp only [Act.put, List.setIfInBounds_toArray, List.set_cons_zero, List.set_cons_succ]
  refine wpAnyH_take (i := 4) (oi := { dst := some 19, op := Op.load 36 (Operand.tmp 18), type := 36, pos := "law.go:37", after := #[{ on := 3, ground := Ground.data }], guard := none }) (v := ?_) rfl (by kernel_rfl) (by kernel_rfl) (by kernel_rfl) (fun _ _ _ h => h) (Or.inl ⟨by rfl, ?_⟩) (by assumption) ?_
  rotate_left
  · intro w hSw
    try dsimp only at hSw
    go_simp
    try with_reducible rfl
  try simp only [Act.put, List.setIfInBounds_toArray, List.set_cons_zero, List.set_cons_succ]
  refine wpAnyH_take (i := 5) (oi := { dst := some 20, op := Op.binOp BinOp.eql 36 (Operand.tmp 15) (Operand.tmp 19) 36, type := 4, pos := "law.go:37", after := #[{ on := 0, ground := Ground.data }, { on := 4, ground := Ground.data }], guard := none }) (v := ?_) rfl (by kernel_rfl) (by kernel_rfl) (by kernel_rfl) (fun _ _ _ h => h) (Or.inl ⟨by rfl, ?_⟩) (by assumption) ?_
  rotate_left
  · intro w hSw
    try dsimp only at hSw
    go_simp
    try with_reducible rfl
  try simp only [Act.put, List.setIfInBounds_toArray, List.set_cons_zero, List.set_cons_succ]
  refine wpAnyH_take (i := 6) (oi := { dst := some 21, op := Op.move (Operand.tmp 20), type := 4, pos := "law.go:37", after := #[{ on := 5, ground := Ground.data }], guard := none }) (v := ?_) rfl (by kernel_rfl) (by kernel_rfl) (by kernel_rfl) (fun _ _ _ h => h) (Or.inl ⟨by rfl, ?_⟩) (by assumption) ?_
  rotate_left
  · intro w hSw
    try dsimp only at hSw
    go_simp
    try with_reducible rfl
  try simp only [Act.put, List.setIfInBounds_toArray, List.set_cons_zero, List.set_cons_succ]
  refine wpAnyH_take (i := 7) (oi := { dst := some 22, op := Op.move (Operand.tmp 6), type := 4, pos := "law.go:37", after := #[{ on := 6, ground := Ground.guard }], guard := some (6, true) }) (v := ?_) rfl (by kernel_rfl) (by kernel_rfl) (by kernel_rfl) (fun _ _ _ h => h) (Or.inl ⟨by rfl, ?_⟩) (by assumption) ?_
  rotate_left
  · intro w hSw
    try dsimp only at hSw
    go_simp
    try with_reducible rfl
  try simp only [Act.put, List.setIfInBounds_toArray, List.set_cons_zero, List.set_cons_succ]
  refine wpAnyH_take (i := 8) (oi := { dst := some 23, op := Op.move (Operand.tmp 1), type := 53, pos := "law.go:37", after := #[{ on := 6, ground := Ground.guard }], guard := some (6, true) }) (v := ?_) rfl (by kernel_rfl) (by kernel_rfl) (by kernel_rfl) (fun _ _ _ h => h) (Or.inl ⟨by rfl, ?_⟩) (by assumption) ?_
  rotate_left
  · intro w hSw
    try dsimp only at hSw
    go_simp
    try with_reducible rfl
  try simp only [Act.put, List.setIfInBounds_toArray, List.set_cons_zero, List.set_cons_succ]
  refine wpAnyH_take (i := 9) (oi := { dst := some 24, op := Op.nilCheck (Operand.tmp 23), type := 0, pos := "law.go:37", after := #[{ on := 8, ground := Ground.data }, { on := 6, ground := Ground.guard }], guard := some (6, true) }) (v := ?_) rfl (by kernel_rfl) (by kernel_rfl) (by kernel_rfl) (fun _ _ _ h => h) (Or.inl ⟨by rfl, ?_⟩) (by assumption) ?_
  rotate_left
  · intro w hSw
    try dsimp only at hSw
    go_simp
    try with_reducible rfl
  try simp only [Act.put, List.setIfInBounds_toArray, List.set_cons_zero, List.set_cons_succ]
  refine wpAnyH_take (i := 10) (oi := { dst := some 25, op := Op.fieldAddr 77 (Operand.tmp 24) 2, type := 0, pos := "law.go:37", after := #[{ on := 9, ground := Ground.data }, { on := 6, ground := Ground.guard }], guard := some (6, true) }) (v := ?_) rfl (by kernel_rfl) (by kernel_rfl) (by kernel_rfl) (fun _ _ _ h => h) (Or.inl ⟨by rfl, ?_⟩) (by assumption) ?_
  rotate_left
  · intro w hSw
    try dsimp only at hSw
    go_simp
    try with_reducible rfl
  try simp only [Act.put, List.setIfInBounds_toArray, List.set_cons_zero, List.set_cons_succ]
  refine wpAnyH_take (i := 11) (oi := { dst := some 26, op := Op.load 4 (Operand.tmp 25), type := 4, pos := "law.go:37", after := #[{ on := 10, ground := Ground.data }, { on := 6, ground := Ground.guard }], guard := some (6, true) }) (v := ?_) rfl (by kernel_rfl) (by kernel_rfl) (by kernel_rfl) (fun _ _ _ h => h) (Or.inl ⟨by rfl, ?_⟩) (by assumption) ?_
  rotate_left
  · intro w hSw
    try dsimp only at hSw
    go_simp
    try with_reducible rfl
  try simp only [Act.put, List.setIfInBounds_toArray, List.set_cons_zero, List.set_cons_succ]
  refine wpAnyH_take (i := 12) (oi := { dst := some 27, op := Op.binOp BinOp.eql 4 (Operand.tmp 22) (Operand.tmp 26) 4, type := 4, pos := "law.go:37", after := #[{ on := 7, ground := Ground.data }, { on := 11, ground := Ground.data }, { on := 6, ground := Ground.guard }], guard := some (6, true) }) (v := ?_) rfl (by kernel_rfl) (by kernel_rfl) (by kernel_rfl) (fun _ _ _ h => h) (Or.inl ⟨by rfl, ?_⟩) (by assumption) ?_
  rotate_left
  · intro w hSw
    try dsimp only at hSw
    go_simp
    try with_reducible rfl
  try simp only [Act.put, List.setIfInBounds_toArray, List.set_cons_zero, List.set_cons_succ]
  refine wpAnyH_take (i := 13) (oi := { dst := some 28, op := Op.pick (Operand.tmp 21) (Operand.tmp 27) (Operand.const (Value.bool false)), type := 4, pos := "law.go:37", after := #[{ on := 6, ground := Ground.data }, { on := 12, ground := Ground.data }], guard := none }) (v := ?_) rfl (by kernel_rfl) (by kernel_rfl) (by kernel_rfl) (fun _ _ _ h => h) (Or.inl ⟨by rfl, ?_⟩) (by assumption) ?_
  rotate_left
  · intro w hSw
    try dsimp only at hSw
    go_simp
    try with_reducible rfl
  try simp only [Act.put, List.setIfInBounds_toArray, List.set_cons_zero, List.set_cons_succ]
  refine wpAnyH_take (i := 14) (oi := { dst := some 29, op := Op.move (Operand.tmp 28), type := 4, pos := "law.go:37", after := #[{ on := 13, ground := Ground.data }, { on := 6, ground := Ground.chain }], guard := none }) (v := ?_) rfl (by kernel_rfl) (by kernel_rfl) (by kernel_rfl) (fun _ _ _ h => h) (Or.inl ⟨by rfl, ?_⟩) (by assumption) ?_
  rotate_left
  · intro w hSw
    try dsimp only at hSw
    go_simp
    try with_reducible rfl
  try simp only [Act.put, List.setIfInBounds_toArray, List.set_cons_zero, List.set_cons_succ]
  refine wpAnyH_take (i := 15) (oi := { dst := some 30, op := Op.move (Operand.tmp 7), type := 23, pos := "law.go:37", after := #[{ on := 14, ground := Ground.guard }], guard := some (14, true) }) (v := ?_) rfl (by kernel_rfl) (by kernel_rfl) (by kernel_rfl) (fun _ _ _ h => h) (Or.inl ⟨by rfl, ?_⟩) (by assumption) ?_
  rotate_left
  · intro w hSw
    try dsimp only at hSw
    go_simp
    try with_reducible rfl
  try simp only [Act.put, List.setIfInBounds_toArray, List.set_cons_zero, List.set_cons_succ]
  refine wpAnyH_take (i := 16) (oi := { dst := some 31, op := Op.call { callee := Callee.builtin Builtin.len, args := #[Operand.tmp 30], argTypes := #[23] }, type := 3, pos := "law.go:37", after := #[{ on := 15, ground := Ground.data }, { on := 14, ground := Ground.guard }], guard := some (14, true) }) (v := ?_) rfl (by kernel_rfl) (by kernel_rfl) (by kernel_rfl) (fun _ _ _ h => h) (Or.inl ⟨by rfl, ?_⟩) (by assumption) ?_
  rotate_left
  · intro w hSw
    try dsimp only at hSw
    go_simp
    try with_reducible rfl
  try simp only [Act.put, List.setIfInBounds_toArray, List.set_cons_zero, List.set_cons_succ]
  refine wpAnyH_take (i := 17) (oi := { dst := some 32, op := Op.move (Operand.tmp 1), type := 53, pos := "law.go:37", after := #[{ on := 14, ground := Ground.guard }], guard := some (14, true) }) (v := ?_) rfl (by kernel_rfl) (by kernel_rfl) (by kernel_rfl) (fun _ _ _ h => h) (Or.inl ⟨by rfl, ?_⟩) (by assumption) ?_
  rotate_left
  · intro w hSw
    try dsimp only at hSw
    go_simp
    try with_reducible rfl
  try simp only [Act.put, List.setIfInBounds_toArray, List.set_cons_zero, List.set_cons_succ]
  refine wpAnyH_take (i := 18) (oi := { dst := some 33, op := Op.nilCheck (Operand.tmp 32), type := 0, pos := "law.go:37", after := #[{ on := 17, ground := Ground.data }, { on := 14, ground := Ground.guard }], guard := some (14, true) }) (v := ?_) rfl (by kernel_rfl) (by kernel_rfl) (by kernel_rfl) (fun _ _ _ h => h) (Or.inl ⟨by rfl, ?_⟩) (by assumption) ?_
  rotate_left
  · intro w hSw
    try dsimp only at hSw
    go_simp
    try with_reducible rfl
  try simp only [Act.put, List.setIfInBounds_toArray, List.set_cons_zero, List.set_cons_succ]
  refine wpAnyH_take (i := 19) (oi := { dst := some 34, op := Op.fieldAddr 77 (Operand.tmp 33) 1, type := 0, pos := "law.go:37", after := #[{ on := 18, ground := Ground.data }, { on := 14, ground := Ground.guard }], guard := some (14, true) }) (v := ?_) rfl (by kernel_rfl) (by kernel_rfl) (by kernel_rfl) (fun _ _ _ h => h) (Or.inl ⟨by rfl, ?_⟩) (by assumption) ?_
  rotate_left
  · intro w hSw
    try dsimp only at hSw
    go_simp
    try with_reducible rfl
  try simp only [Act.put, List.setIfInBounds_toArray, List.set_cons_zero, List.set_cons_succ]
  refine wpAnyH_take (i := 20) (oi := { dst := some 35, op := Op.load 23 (Operand.tmp 34), type := 23, pos := "law.go:37", after := #[{ on := 19, ground := Ground.data }, { on := 14, ground := Ground.guard }], guard := some (14, true) }) (v := ?_) rfl (by kernel_rfl) (by kernel_rfl) (by kernel_rfl) (fun _ _ _ h => h) (Or.inl ⟨by rfl, ?_⟩) (by assumption) ?_
  rotate_left
  · intro w hSw
    try dsimp only at hSw
    go_simp
    try with_reducible rfl
  try simp only [Act.put, List.setIfInBounds_toArray, List.set_cons_zero, List.set_cons_succ]
  refine wpAnyH_take (i := 21) (oi := { dst := some 36, op := Op.call { callee := Callee.builtin Builtin.len, args := #[Operand.tmp 35], argTypes := #[23] }, type := 3, pos := "law.go:37", after := #[{ on := 20, ground := Ground.data }, { on := 14, ground := Ground.guard }], guard := some (14, true) }) (v := ?_) rfl (by kernel_rfl) (by kernel_rfl) (by kernel_rfl) (fun _ _ _ h => h) (Or.inl ⟨by rfl, ?_⟩) (by assumption) ?_
  rotate_left
  · intro w hSw
    try dsimp only at hSw
    go_simp
    try with_reducible rfl
  try simp only [Act.put, List.setIfInBounds_toArray, List.set_cons_zero, List.set_cons_succ]
  refine wpAnyH_take (i := 22) (oi := { dst := some 37, op := Op.binOp BinOp.eql 3 (Operand.tmp 31) (Operand.tmp 36) 3, type := 4, pos := "law.go:37", after := #[{ on := 16, ground := Ground.data }, { on := 21, ground := Ground.data }, { on := 14, ground := Ground.guard }], guard := some (14, true) }) (v := ?_) rfl (by kernel_rfl) (by kernel_rfl) (by kernel_rfl) (fun _ _ _ h => h) (Or.inl ⟨by rfl, ?_⟩) (by assumption) ?_
  rotate_left
  · intro w hSw
    try dsimp only at hSw
    go_simp
    try with_reducible rfl
  try simp only [Act.put, List.setIfInBounds_toArray, List.set_cons_zero, List.set_cons_succ]
  refine wpAnyH_take (i := 23) (oi := { dst := some 38, op := Op.pick (Operand.tmp 29) (Operand.tmp 37) (Operand.const (Value.bool false)), type := 4, pos := "law.go:37", after := #[{ on := 14, ground := Ground.data }, { on := 22, ground := Ground.data }], guard := none }) (v := ?_) rfl (by kernel_rfl) (by kernel_rfl) (by kernel_rfl) (fun _ _ _ h => h) (Or.inl ⟨by rfl, ?_⟩) (by assumption) ?_
  rotate_left
  · intro w hSw
    try dsimp only at hSw
    go_simp
    try with_reducible rfl
  try simp only [Act.put, List.setIfInBounds_toArray, List.set_cons_zero, List.set_cons_succ]
  refine wpAnyH_take (i := 24) (oi := { dst := some 39, op := Op.move (Operand.tmp 38), type := 4, pos := "law.go:37", after := #[{ on := 23, ground := Ground.data }, { on := 14, ground := Ground.chain }], guard := none }) (v := ?_) rfl (by kernel_rfl) (by kernel_rfl) (by kernel_rfl) (fun _ _ _ h => h) (Or.inl ⟨by rfl, ?_⟩) (by assumption) ?_
  rotate_left
  · intro w hSw
    try dsimp only at hSw
    go_simp
    try with_reducible rfl
  try simp only [Act.put, List.setIfInBounds_toArray, List.set_cons_zero, List.set_cons_succ]
  refine wpAnyH_take (i := 25) (oi := { dst := some 40, op := Op.move (Operand.tmp 7), type := 23, pos := "law.go:37", after := #[{ on := 24, ground := Ground.guard }], guard := some (24, true) }) (v := ?_) rfl (by kernel_rfl) (by kernel_rfl) (by kernel_rfl) (fun _ _ _ h => h) (Or.inl ⟨by rfl, ?_⟩) (by assumption) ?_
  rotate_left
  · intro w hSw
    try dsimp only at hSw
    go_simp
    try with_reducible rfl
  try simp only [Act.put, List.setIfInBounds_toArray, List.set_cons_zero, List.set_cons_succ]
  refine wpAnyH_take (i := 26) (oi := { dst := some 41, op := Op.move (Operand.tmp 1), type := 53, pos := "law.go:37", after := #[{ on := 24, ground := Ground.guard }], guard := some (24, true) }) (v := ?_) rfl (by kernel_rfl) (by kernel_rfl) (by kernel_rfl) (fun _ _ _ h => h) (Or.inl ⟨by rfl, ?_⟩) (by assumption) ?_
  rotate_left
  · intro w hSw
    try dsimp only at hSw
    go_simp
    try with_reducible rfl
  try simp only [Act.put, List.setIfInBounds_toArray, List.set_cons_zero, List.set_cons_succ]
  refine wpAnyH_take (i := 27) (oi := { dst := some 42, op := Op.nilCheck (Operand.tmp 41), type := 0, pos := "law.go:37", after := #[{ on := 26, ground := Ground.data }, { on := 24, ground := Ground.guard }], guard := some (24, true) }) (v := ?_) rfl (by kernel_rfl) (by kernel_rfl) (by kernel_rfl) (fun _ _ _ h => h) (Or.inl ⟨by rfl, ?_⟩) (by assumption) ?_
  rotate_left
  · intro w hSw
    try dsimp only at hSw
    go_simp
    try with_reducible rfl
  try simp only [Act.put, List.setIfInBounds_toArray, List.set_cons_zero, List.set_cons_succ]
  refine wpAnyH_take (i := 28) (oi := { dst := some 43, op := Op.fieldAddr 77 (Operand.tmp 42) 1, type := 0, pos := "law.go:37", after := #[{ on := 27, ground := Ground.data }, { on := 24, ground := Ground.guard }], guard := some (24, true) }) (v := ?_) rfl (by kernel_rfl) (by kernel_rfl) (by kernel_rfl) (fun _ _ _ h => h) (Or.inl ⟨by rfl, ?_⟩) (by assumption) ?_
  rotate_left
  · intro w hSw
    try dsimp only at hSw
    go_simp
    try with_reducible rfl
  try simp only [Act.put, List.setIfInBounds_toArray, List.set_cons_zero, List.set_cons_succ]
  refine wpAnyH_take (i := 29) (oi := { dst := some 44, op := Op.load 23 (Operand.tmp 43), type := 23, pos := "law.go:37", after := #[{ on := 28, ground := Ground.data }, { on := 24, ground := Ground.guard }], guard := some (24, true) }) (v := ?_) rfl (by kernel_rfl) (by kernel_rfl) (by kernel_rfl) (fun _ _ _ h => h) (Or.inl ⟨by rfl, ?_⟩) (by assumption) ?_
  rotate_left
  · intro w hSw
    try dsimp only at hSw
    go_simp
    try with_reducible rfl
  try simp only [Act.put, List.setIfInBounds_toArray, List.set_cons_zero, List.set_cons_succ]
  refine wpAnyH_ready (rs := [30]) (by kernel_rfl) (by simp) ?_
  refine AllReadyH.cons (o := { dst := some 45, op := Op.call { callee := Callee.value (Operand.func 41), args := #[Operand.tmp 40, Operand.tmp 44], argTypes := #[23, 23] }, type := 4, pos := "law.go:37", after := #[{ on := 25, ground := Ground.data }, { on := 29, ground := Ground.data }, { on := 24, ground := Ground.chain }, { on := 24, ground := Ground.guard }], guard := some (24, true) }) rfl (fun K hK => ?_) AllReadyH.nil
  go_simp
  refine (prefix_as A1 A2 n c1 c2 (fun j => s.t.getD j 0) hl _ (by exact P1.out.alike ⟨rfl, rfl, rfl⟩) (by exact P2.out.alike ⟨rfl, rfl, rfl⟩)).mono ?_; rintro e w3 ⟨rfl, hA3⟩
  have F3 : Hid (Fr w w3) := (F2.out.alike (w' := w2.drew) ⟨rfl, rfl, rfl⟩).alike hA3
  have M3 := hid (hM.out.fr F3.out)
  clear hA3
  go_wp2_with fail
  refine hK.out _ _ ?_ (fun hHeld => ?_)
  · exact sameS hR.out F3.out
  clear hK K
  try simp only [Act.put, List.setIfInBounds_toArray, List.set_cons_zero, List.set_cons_succ]
  refine wpAnyH_take (i := 31) (oi := { dst := some 46, op := Op.pick (Operand.tmp 39) (Operand.tmp 45) (Operand.const (Value.bool false)), type := 4, pos := "law.go:37", after := #[{ on := 24, ground := Ground.data }, { on := 30, ground := Ground.data }], guard := none }) (v := ?_) rfl (by kernel_rfl) (by kernel_rfl) (by kernel_rfl) (fun _ _ _ h => h) (Or.inl ⟨by rfl, ?_⟩) (by assumption) ?_
  rotate_left
  · intro w hSw
    try dsimp only at hSw
    go_simp
    try with_reducible rfl
  try simp only [Act.put, List.setIfInBounds_toArray, List.set_cons_zero, List.set_cons_succ]
  refine wpAnyH_take (i := 32) (oi := { dst := some 47, op := Op.move (Operand.tmp 46), type := 4, pos := "law.go:37", after := #[{ on := 31, ground := Ground.data }, { on := 30, ground := Ground.chain }], guard := none }) (v := ?_) rfl (by kernel_rfl) (by kernel_rfl) (by kernel_rfl) (fun _ _ _ h => h) (Or.inl ⟨by rfl, ?_⟩) (by assumption) ?_
  rotate_left
  · intro w hSw
    try dsimp only at hSw
    go_simp
    try with_reducible rfl
  try simp only [Act.put, List.setIfInBounds_toArray, List.set_cons_zero, List.set_cons_succ]
  refine wpAnyH_take (i := 33) (oi := { dst := some 48, op := Op.move (Operand.tmp 0), type := 30, pos := "law.go:37", after := #[{ on := 32, ground := Ground.guard }], guard := some (32, true) }) (v := ?_) rfl (by kernel_rfl) (by kernel_rfl) (by kernel_rfl) (fun _ _ _ h => h) (Or.inl ⟨by rfl, ?_⟩) (by assumption) ?_
  rotate_left
  · intro w hSw
    try dsimp only at hSw
    go_simp
    try with_reducible rfl
  try simp only [Act.put, List.setIfInBounds_toArray, List.set_cons_zero, List.set_cons_succ]
  refine wpAnyH_take (i := 35) (oi := { dst := some 50, op := Op.move (Operand.tmp 1), type := 53, pos := "law.go:37", after := #[{ on := 32, ground := Ground.guard }], guard := some (32, true) }) (v := ?_) rfl (by kernel_rfl) (by kernel_rfl) (by kernel_rfl) (fun _ _ _ h => h) (Or.inl ⟨by rfl, ?_⟩) (by assumption) ?_
  rotate_left
  · intro w hSw
    try dsimp only at hSw
    go_simp
    try with_reducible rfl
  try simp only [Act.put, List.setIfInBounds_toArray, List.set_cons_zero, List.set_cons_succ]
  refine wpAnyH_take (i := 36) (oi := { dst := some 51, op := Op.nilCheck (Operand.tmp 50), type := 0, pos := "law.go:37", after := #[{ on := 35, ground := Ground.data }, { on := 32, ground := Ground.guard }], guard := some (32, true) }) (v := ?_) rfl (by kernel_rfl) (by kernel_rfl) (by kernel_rfl) (fun _ _ _ h => h) (Or.inl ⟨by rfl, ?_⟩) (by assumption) ?_
  rotate_left
  · intro w hSw
    try dsimp only at hSw
    go_simp
    try with_reducible rfl
  try simp only [Act.put, List.setIfInBounds_toArray, List.set_cons_zero, List.set_cons_succ]
  refine wpAnyH_take (i := 37) (oi := { dst := some 52, op := Op.fieldAddr 77 (Operand.tmp 51) 4, type := 0, pos := "law.go:37", after := #[{ on := 36, ground := Ground.data }, { on := 32, ground := Ground.guard }], guard := some (32, true) }) (v := ?_) rfl (by kernel_rfl) (by kernel_rfl) (by kernel_rfl) (fun _ _ _ h => h) (Or.inl ⟨by rfl, ?_⟩) (by assumption) ?_
  rotate_left
  · intro w hSw
    try dsimp only at hSw
    go_simp
    try with_reducible rfl
  try simp only [Act.put, List.setIfInBounds_toArray, List.set_cons_zero, List.set_cons_succ]
  refine wpAnyH_take (i := 38) (oi := { dst := some 53, op := Op.load 3 (Operand.tmp 52), type := 3, pos := "law.go:37", after := #[{ on := 37, ground := Ground.data }, { on := 32, ground := Ground.guard }], guard := some (32, true) }) (v := ?_) rfl (by kernel_rfl) (by kernel_rfl) (by kernel_rfl) (fun _ _ _ h => h) (Or.inl ⟨by rfl, ?_⟩) (by assumption) ?_
  rotate_left
  · intro w hSw
    try dsimp only at hSw
    go_simp
    try with_reducible rfl
  try simp only [Act.put, List.setIfInBounds_toArray, List.set_cons_zero, List.set_cons_succ]
  refine wpAnyH_ready (rs := [34]) (by kernel_rfl) (by simp) ?_
  refine AllReadyH.cons (o := { dst := some 49, op := Op.call { callee := Callee.value (Operand.func 19), args := #[Operand.tmp 48], argTypes := #[30] }, type := 3, pos := "law.go:37", after := #[{ on := 33, ground := Ground.data }, { on := 32, ground := Ground.chain }, { on := 32, ground := Ground.guard }], guard := some (32, true) }) rfl (fun K hK => ?_) AllReadyH.nil
  go_simp
  refine (steps_as B s v _ M3).mono ?_; rintro e w4 ⟨rfl, e4⟩
  obtain rfl := e4
  go_wp2_with fail
  refine hK.out _ _ ?_ (fun hHeld => ?_)
  · exact sameS hR.out F3.out
  clear hK K
  try simp only [Act.put, List.setIfInBounds_toArray, List.set_cons_zero, List.set_cons_succ]
  refine wpAnyH_take (i := 39) (oi := { dst := some 54, op := Op.binOp BinOp.eql 3 (Operand.tmp 49) (Operand.tmp 53) 3, type := 4, pos := "law.go:37", after := #[{ on := 34, ground := Ground.data }, { on := 38, ground := Ground.data }, { on := 32, ground := Ground.guard }], guard := some (32, true) }) (v := ?_) rfl (by kernel_rfl) (by kernel_rfl) (by kernel_rfl) (fun _ _ _ h => h) (Or.inl ⟨by rfl, ?_⟩) (by assumption) ?_
  rotate_left
  · intro w hSw
    try dsimp only at hSw
    go_simp
    try with_reducible rfl
  try simp only [Act.put, List.setIfInBounds_toArray, List.set_cons_zero, List.set_cons_succ]
  refine wpAnyH_take (i := 40) (oi := { dst := some 55, op := Op.pick (Operand.tmp 47) (Operand.tmp 54) (Operand.const (Value.bool false)), type := 4, pos := "law.go:37", after := #[{ on := 32, ground := Ground.data }, { on := 39, ground := Ground.data }], guard := none }) (v := ?_) rfl (by kernel_rfl) (by kernel_rfl) (by kernel_rfl) (fun _ _ _ h => h) (Or.inl ⟨by rfl, ?_⟩) (by assumption) ?_
  rotate_left
  · intro w hSw
    try dsimp only at hSw
    go_simp
    try with_reducible rfl
  try simp only [Act.put, List.setIfInBounds_toArray, List.set_cons_zero, List.set_cons_succ]
  refine wpAnyH_take (i := 41) (oi := { dst := some 56, op := Op.move (Operand.tmp 55), type := 4, pos := "law.go:37", after := #[{ on := 40, ground := Ground.data }, { on := 34, ground := Ground.chain }], guard := none }) (v := ?_) rfl (by kernel_rfl) (by kernel_rfl) (by kernel_rfl) (fun _ _ _ h => h) (Or.inl ⟨by rfl, ?_⟩) (by assumption) ?_
  rotate_left
  · intro w hSw
    try dsimp only at hSw
    go_simp
    try with_reducible rfl
  try simp only [Act.put, List.setIfInBounds_toArray, List.set_cons_zero, List.set_cons_succ]
  refine wpAnyH_take (i := 42) (oi := { dst := some 57, op := Op.move (Operand.tmp 0), type := 30, pos := "law.go:37", after := #[{ on := 41, ground := Ground.guard }], guard := some (41, true) }) (v := ?_) rfl (by kernel_rfl) (by kernel_rfl) (by kernel_rfl) (fun _ _ _ h => h) (Or.inl ⟨by rfl, ?_⟩) (by assumption) ?_
  rotate_left
  · intro w hSw
    try dsimp only at hSw
    go_simp
    try with_reducible rfl
  try simp only [Act.put, List.setIfInBounds_toArray, List.set_cons_zero, List.set_cons_succ]
  refine wpAnyH_take (i := 44) (oi := { dst := some 59, op := Op.move (Operand.tmp 1), type := 53, pos := "law.go:37", after := #[{ on := 41, ground := Ground.guard }], guard := some (41, true) }) (v := ?_) rfl (by kernel_rfl) (by kernel_rfl) (by kernel_rfl) (fun _ _ _ h => h) (Or.inl ⟨by rfl, ?_⟩) (by assumption) ?_
  rotate_left
  · intro w hSw
    try dsimp only at hSw
    go_simp
    try with_reducible rfl
  try simp only [Act.put, List.setIfInBounds_toArray, List.set_cons_zero, List.set_cons_succ]
  refine wpAnyH_take (i := 45) (oi := { dst := some 60, op := Op.nilCheck (Operand.tmp 59), type := 0, pos := "law.go:37", after := #[{ on := 44, ground := Ground.data }, { on := 41, ground := Ground.guard }], guard := some (41, true) }) (v := ?_) rfl (by kernel_rfl) (by kernel_rfl) (by kernel_rfl) (fun _ _ _ h => h) (Or.inl ⟨by rfl, ?_⟩) (by assumption) ?_
  rotate_left
  · intro w hSw
    try dsimp only at hSw
    go_simp
    try with_reducible rfl
  try simp only [Act.put, List.setIfInBounds_toArray, List.set_cons_zero, List.set_cons_succ]
  refine wpAnyH_take (i := 46) (oi := { dst := some 61, op := Op.fieldAddr 77 (Operand.tmp 60) 0, type := 0, pos := "law.go:37", after := #[{ on := 45, ground := Ground.data }, { on := 41, ground := Ground.guard }], guard := some (41, true) }) (v := ?_) rfl (by kernel_rfl) (by kernel_rfl) (by kernel_rfl) (fun _ _ _ h => h) (Or.inl ⟨by rfl, ?_⟩) (by assumption) ?_
  rotate_left
  · intro w hSw
    try dsimp only at hSw
    go_simp
    try with_reducible rfl
  try simp only [Act.put, List.setIfInBounds_toArray, List.set_cons_zero, List.set_cons_succ]
  refine wpAnyH_take (i := 47) (oi := { dst := some 62, op := Op.load 44 (Operand.tmp 61), type := 44, pos := "law.go:37", after := #[{ on := 46, ground := Ground.data }, { on := 41, ground := Ground.guard }], guard := some (41, true) }) (v := _) rfl (by kernel_rfl) (by kernel_rfl) (by kernel_rfl) (fun _ _ _ h => h) (yieldsIf_load_mid (by rfl) 44 _ rfl B2 0 rfl (stL s (.slice (some ⟨C2, 0, none⟩) 1024 1024)) _ (fun w hw => hw.1) Tryz.underlying44 rfl size44) (by assumption) ?_
  try simp only [Act.put, List.setIfInBounds_toArray, List.set_cons_zero, List.set_cons_succ]
  refine wpAnyH_ready (rs := [43]) (by kernel_rfl) (by simp) ?_
  refine AllReadyH.cons (o := { dst := some 58, op := Op.call { callee := Callee.value (Operand.func 16), args := #[Operand.tmp 57], argTypes := #[30] }, type := 44, pos := "law.go:37", after := #[{ on := 42, ground := Ground.data }, { on := 41, ground := Ground.chain }, { on := 41, ground := Ground.guard }], guard := some (41, true) }) rfl (fun K hK => ?_) AllReadyH.nil
  go_simp
  refine (state_as B s v _ M3).mono ?_; rintro e w5 ⟨v5, rfl, hO5, hn5, hF5⟩
  obtain ⟨g5, cap5, rfl, hg5⟩ := own_form hO5 hn5
  have F5 : Hid (Fr w w5) := F3.out.trans hF5
  have R5 := hid (hR.out.fr F5.out)
  have O5 := hid hO5
  clear hO5 hn5 hF5 hg5
  go_wp2_with fail
  refine hK.out _ _ ?_ (fun hHeld => ?_)
  · exact sameS hR.out F5.out
  clear hK K
  try simp only [Act.put, List.setIfInBounds_toArray, List.set_cons_zero, List.set_cons_succ]
  refine wpAnyH_ready (rs := [48]) (by kernel_rfl) (by simp) ?_
  refine AllReadyH.cons (o := { dst := some 63, op := Op.call { callee := Callee.value (Operand.func 18), args := #[Operand.tmp 58, Operand.tmp 62], argTypes := #[44, 44] }, type := 4, pos := "law.go:37", after := #[{ on := 43, ground := Ground.data }, { on := 47, ground := Ground.data }, { on := 43, ground := Ground.chain }, { on := 41, ground := Ground.guard }], guard := some (41, true) }) rfl (fun K hK => ?_) AllReadyH.nil
  go_simp
  refine (states_of s _ _ _ _ _ _ (cells39 s _) (cells39 s _) _ (own_rowM O5.out) (RAt.rowM R5.out)).mono ?_; rintro e w6 ⟨rfl, hF6⟩
  have F6 : Hid (Fr w w6) := F5.out.trans hF6
  clear hF6
  go_wp2_with fail
  refine hK.out _ _ ?_ (fun hHeld => ?_)
  · exact sameS hR.out F6.out
  clear hK K
  try simp only [Act.put, List.setIfInBounds_toArray, List.set_cons_zero, List.set_cons_succ]
  refine wpAnyH_take (i := 49) (oi := { dst := some 64, op := Op.pick (Operand.tmp 56) (Operand.tmp 63) (Operand.const (Value.bool false)), type := 4, pos := "law.go:37", after := #[{ on := 41, ground := Ground.data }, { on := 48, ground := Ground.data }], guard := none }) (v := ?_) rfl (by kernel_rfl) (by kernel_rfl) (by kernel_rfl) (fun _ _ _ h => h) (Or.inl ⟨by rfl, ?_⟩) (by assumption) ?_
  rotate_left
  · intro w hSw
    try dsimp only at hSw
    go_simp
    try with_reducible rfl
  try simp only [Act.put, List.setIfInBounds_toArray, List.set_cons_zero, List.set_cons_succ]
  refine wpAnyH_take (i := 50) (oi := { dst := some 4, op := Op.assign (Operand.tmp 64), type := 4, pos := "law.go:37", after := #[{ on := 49, ground := Ground.data }, { on := 48, ground := Ground.chain }, { on := 0, ground := Ground.phase }, { on := 1, ground := Ground.phase }, { on := 2, ground := Ground.phase }, { on := 3, ground := Ground.phase }, { on := 4, ground := Ground.phase }, { on := 5, ground := Ground.phase }, { on := 6, ground := Ground.phase }, { on := 7, ground := Ground.phase }, { on := 8, ground := Ground.phase }, { on := 9, ground := Ground.phase }, { on := 10, ground := Ground.phase }, { on := 11, ground := Ground.phase }, { on := 12, ground := Ground.phase }, { on := 13, ground := Ground.phase }, { on := 14, ground := Ground.phase }, { on := 15, ground := Ground.phase }, { on := 16, ground := Ground.phase }, { on := 17, ground := Ground.phase }, { on := 18, ground := Ground.phase }, { on := 19, ground := Ground.phase }, { on := 20, ground := Ground.phase }, { on := 21, ground := Ground.phase }, { on := 22, ground := Ground.phase }, { on := 23, ground := Ground.phase }, { on := 24, ground := Ground.phase }, { on := 25, ground := Ground.phase }, { on := 26, ground := Ground.phase }, { on := 27, ground := Ground.phase }, { on := 28, ground := Ground.phase }, { on := 29, ground := Ground.phase }, { on := 30, ground := Ground.phase }, { on := 31, ground := Ground.phase }, { on := 32, ground := Ground.phase }, { on := 33, ground := Ground.phase }, { on := 34, ground := Ground.phase }, { on := 35, ground := Ground.phase }, { on := 36, ground := Ground.phase }, { on := 37, ground := Ground.phase }, { on := 38, ground := Ground.phase }, { on := 39, ground := Ground.phase }, { on := 40, ground := Ground.phase }, { on := 41, ground := Ground.phase }, { on := 42, ground := Ground.phase }, { on := 43, ground := Ground.phase }, { on := 44, ground := Ground.phase }, { on := 45, ground := Ground.phase }, { on := 46, ground := Ground.phase }, { on := 47, ground := Ground.phase }, { on := 48, ground := Ground.phase }, { on := 49, ground := Ground.phase }], guard := none }) (v := ?_) rfl (by kernel_rfl) (by kernel_rfl) (by kernel_rfl) (fun _ _ _ h => h) (Or.inl ⟨by rfl, ?_⟩) (by assumption) ?_
  rotate_left
  · intro w hSw
    try dsimp only at hSw
    go_simp
    try with_reducible rfl
  try simp only [Act.put, List.setIfInBounds_toArray, List.set_cons_zero, List.set_cons_succ]
  refine wpAnyH_done (by kernel_rfl) ?_ _
  refine NoPanic.normal ?_
  go_wp2_with fail
  go_ret
  exact ⟨rfl, F6.out⟩
end Go.Proofs.YtpkbkbllhpdfiaaGreat.M
namespace Go.Proofs.YtpkbkbllhpdfiaaGreat.M
open Go.ChangeShapes Go.WideShapes Go.ChangeAt Go.RowKit Go.Proofs.YtpkbkbllhpdfiaaGreat.Walks Go.Proofs.YtpkbkbllhpdfiaaGreat.Mod
set_option linter.unusedVariables false
/-- what a step tells, did it step, and what is behind it -/
def nx (s : St) : Rt × Bool × St := if s.h = true then (⟨0, 0, 0, false, 0, 0, 0⟩, false, s) else (s.stp.1, true, s.stp.2)
theorem its_nx (d : Nat) (s : St) : its (d + 1) s = (nx (its d s)).2.2 := by
  rw [its_succ]
  unfold nx
  by_cases h : (its d s).h = true
  · rw [if_pos h, if_pos h]
  · rw [if_neg h, if_neg h]
theorem step_any (B : Nat) (s : St) (v : Value) (I : Inv s) (n1 : s.n ≤ 100000) (q : Rt) (g : Bool) (s' : St) (E : Hid (nx s = (q, g, s'))) (w : World) (hM : Hid (MAt B s v w)) :
    Calls Tryz.prog 15 #[.pointer (some ⟨B, 0, none⟩)] w fun e w' => e = .returned (.tuple #[.agg (rc q.pc q.v q.d q.s q.a q.y q.k), .bool g]) ∧ Nxt B v s' w w' := by
  have E := E.out
  unfold nx at E
  by_cases h : s.h = true
  · rw [if_pos h] at E
    injection E with e1 e2
    injection e2 with e2 e3
    subst e1; subst e2; subst e3
    refine (step_halted B s v h w hM).mono ?_
    rintro e w' ⟨rfl, hN⟩
    exact ⟨rfl, hN.nxt⟩
  · rw [if_neg h] at E
    injection E with e1 e2
    injection e2 with e2 e3
    subst e2
    exact step_as B s v I (by simpa using h) n1 q s' (by unfold Hid; rw [← e1, ← e3]) w hM
theorem rstep_any (B C : Nat) (s : St) (v : Value) (I : Inv s) (n1 : s.n ≤ 100000) (q : Rt) (g : Bool) (s' : St) (E : Hid (nx s = (q, g, s'))) (w : World) (hM : Hid (RAt B C s v w)) :
    Calls Tryz.prog 22 #[.pointer (some ⟨B, 0, none⟩)] w fun e w' => e = .returned (.tuple #[.agg (rc q.pc q.v q.d q.s q.a q.y q.k), .bool g]) ∧ RNxt B C v s' w w' := by
  have E := E.out
  unfold nx at E
  by_cases h : s.h = true
  · rw [if_pos h] at E
    injection E with e1 e2
    injection e2 with e2 e3
    subst e1; subst e2; subst e3
    refine (rstep_halted B C s v h w hM).mono ?_
    rintro e w' ⟨rfl, hN⟩
    exact ⟨rfl, hN.nxt⟩
  · rw [if_neg h] at E
    injection E with e1 e2
    injection e2 with e2 e3
    subst e2
    exact rstep_as B C s v I (by simpa using h) n1 q s' (by unfold Hid; rw [← e1, ← e3]) w hM
/-- both lie in new memory, and apart -/
structure Two (w0 : World) (B B2 C2 : Nat) (s t : St) (v v2 : Value) (w : World) : Prop where
  m : MAt B s v w
  r : RAt B2 C2 t v2 w
  fr : Fr w0 w
  b : w0.heap.size ≤ B
  b2 : w0.heap.size ≤ B2
  c2 : w0.heap.size ≤ C2
  n1 : B ≠ B2
  n2 : B ≠ C2
  hv : ∀ g, v.ownBlock = some g → w0.heap.size ≤ g ∧ g ≠ B2 ∧ g ≠ C2 ∧ v2.ownBlock ≠ some g
  hw : ∀ g, v2.ownBlock = some g → w0.heap.size ≤ g ∧ g ≠ B
theorem Two.frame {w0 : World} {B B2 C2 : Nat} {s t : St} {v v2 : Value} {w w' : World} (h : Two w0 B B2 C2 s t v v2 w) (k : Fr w w') : Two w0 B B2 C2 s t v v2 w' :=
  ⟨h.m.fr k, h.r.fr k, h.fr.trans k, h.b, h.b2, h.c2, h.n1, h.n2, h.hv, h.hw⟩
theorem Two.step {w0 : World} {B B2 C2 : Nat} {s s' t : St} {v v2 : Value} {w w' : World} (h : Two w0 B B2 C2 s t v v2 w) (k : Nxt B v s' w w') : ∃ v', Two w0 B B2 C2 s' t v' v2 w' := by
  obtain ⟨v', hm, hc, hv⟩ := k
  have lb := h.r.lt
  have lc := h.r.ltc
  refine ⟨v', hm, h.r.block (hc.block B2 lb (Ne.symm h.n1) fun e => (h.hv _ e).2.1 rfl) (hc.block C2 lc (Ne.symm h.n2) fun e => (h.hv _ e).2.2.1 rfl) (fun g e => hc.block g (own_lt h.r.tr e) (h.hw g e).2 fun e' => (h.hv g e').2.2.2 e),
    ⟨hc.os.trans h.fr.os, hc.output.trans h.fr.output, Nat.le_trans h.fr.size hc.size, fun i hi => ?_⟩, h.b, h.b2, h.c2, h.n1, h.n2, fun g e => ?_, h.hw⟩
  · have := h.b
    exact (hc.block i (Nat.lt_of_lt_of_le hi h.fr.size) (by omega) fun e => by have := (h.hv i e).1; omega).trans (h.fr.block i hi)
  · rcases hv with e1 | ⟨g', e1, e2⟩
    · rw [e] at e1
      exact h.hv g e1.symm
    · rw [e] at e1
      injection e1 with e1
      subst e1
      refine ⟨Nat.le_trans h.fr.size e2, by omega, by omega, fun e3 => ?_⟩
      have := own_lt h.r.tr e3
      omega
theorem Two.rstep {w0 : World} {B B2 C2 : Nat} {s t t' : St} {v v2 : Value} {w w' : World} (h : Two w0 B B2 C2 s t v v2 w) (k : RNxt B2 C2 v2 t' w w') : ∃ v2', Two w0 B B2 C2 s t' v v2' w' := by
  obtain ⟨v', hm, hc, hv⟩ := k
  have lb := h.m.lt
  refine ⟨v', h.m.block (hc.block B lb h.n1 h.n2) (fun g e => hc.block g (own_lt h.m.tr e) (h.hv g e).2.1 (h.hv g e).2.2.1), hm,
    ⟨hc.os.trans h.fr.os, hc.output.trans h.fr.output, Nat.le_trans h.fr.size hc.size, fun i hi => ?_⟩, h.b, h.b2, h.c2, h.n1, h.n2, fun g e => ?_, fun g e => ?_⟩
  · have := h.b2
    have := h.c2
    exact (hc.block i (Nat.lt_of_lt_of_le hi h.fr.size) (by omega) (by omega)).trans (h.fr.block i hi)
  · obtain ⟨a1, a2, a3, a4⟩ := h.hv g e
    refine ⟨a1, a2, a3, fun e3 => ?_⟩
    rcases hv with e1 | ⟨g', e1, e2⟩
    · rw [e3] at e1
      exact a4 e1.symm
    · rw [e3] at e1
      injection e1 with e1
      subst e1
      have := own_lt h.m.tr e
      omega
  · rcases hv with e1 | ⟨g', e1, e2⟩
    · rw [e] at e1
      exact h.hw g e1.symm
    · rw [e] at e1
      injection e1 with e1
      subst e1
      exact ⟨Nat.le_trans h.fr.size e2, by omega⟩
theorem Two.new {w w1 w2 : World} {s : St} (hM : MAt w.heap.size s (.slice none 0 0) w1) (hF : Fr w w1) (hR : RAt w1.heap.size (w1.heap.size + 1) s (.slice none 0 0) w2) (hF2 : Fr w1 w2) :
    Two w w.heap.size w1.heap.size (w1.heap.size + 1) s s (.slice none 0 0) (.slice none 0 0) w2 := by
  have := hM.lt
  have := hF.size
  exact ⟨hM.fr hF2, hR, hF.trans hF2, Nat.le_refl _, by omega, by omega, by omega, by omega, fun g e => by simp [Value.ownBlock] at e, fun g e => by simp [Value.ownBlock] at e⟩
end Go.Proofs.YtpkbkbllhpdfiaaGreat.M
namespace Go.Proofs.YtpkbkbllhpdfiaaGreat.M
open Go.ChangeShapes Go.WideShapes Go.ChangeAt Go.RowKit Go.Proofs.YtpkbkbllhpdfiaaGreat.Walks Go.Proofs.YtpkbkbllhpdfiaaGreat.Mod
set_option linter.unusedVariables false
set_option maxHeartbeats 400000 in
theorem play_long (A : Option Addr) (n cap : Nat) (k : Int) (hn : (1024 : Int) < n) (w : World) :
    Calls Tryz.prog 7 #[.slice A n cap, .int .i64 k] w fun e w' => e = .returned (.bool true) ∧ Fr w w' := by
  go_enter Tryz.func7, Tryz.ntmps7
  go_wp2_with fail
  refine (new_long A n cap hn _).mono ?_; rintro e w1 ⟨rfl, rfl⟩
  go_wp2_with fail
  refine (rnew_long A n cap hn _).mono ?_; rintro e w1 ⟨rfl, rfl⟩
  go_wp2_with fail
  go_loopw [8] (fun t wr => t = .int .i64 0 ∧ Hid (wr = w1)) (fun t _ => 0)
  case atStart => exact ⟨rfl, rfl⟩
  case round =>
    obtain ⟨rfl, HD⟩ := hrel
    by_cases hlt : 0 < k
    · go_wp2_with fail
      go_ret
      exact ⟨rfl, by rw [HD.out]; exact Fr.refl _⟩
    · go_wp2_with fail
      go_ret
      exact ⟨rfl, by rw [HD.out]; exact Fr.refl _⟩
theorem box_kept {B C : Nat} {s t : St} {v : Value} {w w' : World} {p x d : Int} {g : Bool} {a y k : Int} (h : RAt B C s v w) (hN : RNxt B C v t (w.alloc (.cells (rc p x d g a y k) 38)) w') :
    w'.cell? ⟨w.heap.size, 0, none⟩ = some (.int .u32 p) ∧ w'.cell? ⟨w.heap.size, 1, none⟩ = some (.int .u32 x) ∧ w'.cell? ⟨w.heap.size, 2, none⟩ = some (.int .i64 d) ∧ w'.cell? ⟨w.heap.size, 3, none⟩ = some (.bool g) ∧ w'.cell? ⟨w.heap.size, 4, none⟩ = some (.int .u32 a) ∧ w'.cell? ⟨w.heap.size, 5, none⟩ = some (.int .u32 y) ∧ w'.cell? ⟨w.heap.size, 6, none⟩ = some (.int .i64 k) ∧ w.heap.size < w'.heap.size := by
  obtain ⟨v', _, hc, _⟩ := hN
  have l1 := h.lt
  have l2 := h.ltc
  have e : ∀ o, w'.cell? ⟨w.heap.size, o, none⟩ = (rc p x d g a y k)[o]? := fun o => by
    rw [hc.cell w.heap.size o (by simp) (by omega) (by omega), World.cell?_alloc_at _ _ _ _ rfl]
  have := hc.size
  exact ⟨e 0, e 1, e 2, e 3, e 4, e 5, e 6, by simp at this; omega⟩
set_option maxRecDepth 100000 in
set_option maxHeartbeats 600000 in
theorem play_short (A : Option Addr) (n cap k : Nat) (zs : Nat → Int) (hn : n ≤ 1024) (hk : (k : Int) ≤ 1000) (w : World) (hW : Hid (WordsIn w A n zs)) :
    Calls Tryz.prog 7 #[.slice A n cap, .int .i64 (k : Int)] w fun e w' => e = .returned (.bool true) ∧ Fr w w' := by
  obtain ⟨s, hs⟩ : ∃ s, ini zs n = s := ⟨_, rfl⟩
  have I : Hid (Inv s) := by
    rw [← hs]
    exact ini_inv zs n fun j hj => by obtain ⟨_, _, _, _, _, h⟩ := hW.out j hj; exact h
  have n0 : Hid (s.n = 0) := by unfold Hid; rw [← hs]; rfl
  have HS := hid hs
  clear hs
  go_enter Tryz.func7, Tryz.ntmps7
  go_wp2_with fail
  refine (new_as A n cap zs hn _ hW.out).mono ?_; rintro e w1 ⟨rfl, hM, hF⟩
  go_wp2_with fail
  refine (rnew_as A n cap zs hn _ (hW.out.fr hF)).mono ?_; rintro e w2 ⟨rfl, hR, hF2⟩
  rw [HS.out] at hM hR
  have T0 := hid (Two.new hM hF hR hF2)
  clear hM hF hR hF2
  generalize w1.heap.size + 1 = C2 at *
  generalize w1.heap.size = B2 at *
  generalize hB : w.heap.size = B at *
  go_wp2_with fail
  go_loopw [8] (fun t wr => ∃ d : Nat, (d : Int) ≤ k ∧ t = .int .i64 d ∧ Hid (∃ v v2, Two w B B2 C2 (its d s) (its d s) v v2 wr)) (fun t _ => k - (intOf t).toNat)
  case atStart => exact ⟨0, by omega, rfl, _, _, T0.out⟩
  case round =>
    obtain ⟨d, hd, rfl, HD⟩ := hrel
    rename_i wr
    obtain ⟨v, v2, hT⟩ := HD.out
    have T := hid hT
    have ND : Hid ((its d s).n ≤ 100000) := by
      have a1 := its_n d s
      have a2 := did_le d s
      have a3 := n0.out
      unfold Hid
      omega
    have ID := hid (its_inv d I.out)
    have LD : Hid (((its d s).t.length : Int) ≤ 100000) := Int.le_trans ID.out.t ND.out
    clear hT HD
    by_cases hlt : (d : Int) < k
    · obtain ⟨q, g, s', E⟩ : ∃ q g s', nx (its d s) = (q, g, s') := ⟨_, _, _, rfl⟩
      have e1 : Hid (its (d + 1) s = s') := by unfold Hid; rw [its_nx, E]
      have EE := hid E
      clear E
      obtain ⟨q1, q2, q3, q4, q5, q6, q7⟩ := q
      obtain ⟨m, hm⟩ : ∃ m, (d : Int).tmod 16 = m := ⟨_, rfl⟩
      by_cases h16 : m = 0
      · subst h16
        go_wp2_with fail
        refine (step_any B _ v ID.out ND.out _ g s' EE _ (T.out.m)).mono ?_; rintro e w3 ⟨rfl, hN⟩
        obtain ⟨v', hT'⟩ := T.out.step hN
        have T1 := hid hT'
        clear hT' hN T
        go_wp2_with fail
        have F3 : Hid (Fr w3 (w3.alloc (.cells (rc q1 q2 q3 q4 q5 q6 q7) 38))) := (Fr.refl _).alloc _
        refine (rstep_any B2 C2 _ v2 ID.out ND.out _ g s' EE _ (by exact T1.out.r.fr F3.out)).mono ?_; rintro e w4 ⟨rfl, hN⟩
        obtain ⟨v2', hT'⟩ := (T1.out.frame F3.out).rstep hN
        have T2 := hid hT'
        obtain ⟨c0, c1, c2, c3, c4, c5, c6, l4⟩ := box_kept T1.out.r hN
        clear hT' hN T1 F3
        go_wp2_with fail
        have LD2 : Hid (((its (d + 1) s).t.length : Int) ≤ 100000) := by
          have a1 := its_n (d + 1) s
          have a2 := did_le (d + 1) s
          have a3 := n0.out
          have a4 := (its_inv (d + 1) I.out).t
          unfold Hid
          omega
        rw [e1.out] at LD2
        refine (same_as B B2 C2 s' v' v2' LD2.out _ (by exact T2.out.m.alloc _) (by exact T2.out.r.alloc _)).mono ?_; rintro e w5 ⟨rfl, hF⟩
        have T5 := hid ((T2.out.frame ((Fr.refl _).alloc _)).frame hF)
        clear hF T2
        go_wp2_with fail
        exact ⟨⟨d + 1, by omega, by rw [Int.natCast_add]; rfl, v', v2', by rw [e1.out]; exact T5.out⟩, by simp [intOf]; omega⟩
      · have h16b : (m == 0) = false := by simpa using h16
        go_wp2_with fail
        refine (step_any B _ v ID.out ND.out _ g s' EE _ (T.out.m)).mono ?_; rintro e w3 ⟨rfl, hN⟩
        obtain ⟨v', hT'⟩ := T.out.step hN
        have T1 := hid hT'
        clear hT' hN T
        go_wp2_with fail
        have F3 : Hid (Fr w3 (w3.alloc (.cells (rc q1 q2 q3 q4 q5 q6 q7) 38))) := (Fr.refl _).alloc _
        refine (rstep_any B2 C2 _ v2 ID.out ND.out _ g s' EE _ (by exact T1.out.r.fr F3.out)).mono ?_; rintro e w4 ⟨rfl, hN⟩
        obtain ⟨v2', hT'⟩ := (T1.out.frame F3.out).rstep hN
        have T2 := hid hT'
        obtain ⟨c0, c1, c2, c3, c4, c5, c6, l4⟩ := box_kept T1.out.r hN
        clear hT' hN T1 F3
        go_wp2_with fail
        exact ⟨⟨d + 1, by omega, by rw [Int.natCast_add]; rfl, v', v2', by rw [e1.out]; exact T2.out.frame ((Fr.refl _).alloc _)⟩, by simp [intOf]; omega⟩
    · go_wp2_with fail
      refine (same_as B B2 C2 _ v v2 LD.out _ T.out.m T.out.r).mono ?_; rintro e w3 ⟨rfl, hF⟩
      go_wp2_with fail
      go_ret
      exact ⟨rfl, T.out.fr.trans hF⟩
/-- play, whatever the image -/
theorem play_as (A : Option Addr) (n cap k : Nat) (zs : Nat → Int) (hk : (k : Int) ≤ 1000) (w : World) (hW : Hid (WordsIn w A n zs)) :
    Calls Tryz.prog 7 #[.slice A n cap, .int .i64 (k : Int)] w fun e w' => e = .returned (.bool true) ∧ Fr w w' := by
  by_cases hn : n ≤ 1024
  · exact play_short A n cap k zs hn hk w hW
  · exact play_long A n cap k (by omega) w
end Go.Proofs.YtpkbkbllhpdfiaaGreat.M
