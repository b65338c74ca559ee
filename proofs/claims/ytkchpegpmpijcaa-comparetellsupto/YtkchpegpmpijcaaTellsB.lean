/- CompareTells: its walk. -/
import Derived.Test.YtkchpegpmpijcaaBoxes
import Derived.Deep.RegionHeld3
import Derived.BigQuiet
import Derived.Deep.QuietTactic
namespace Go.Proofs.Ytkchpegpmpijcaa.M
open Go.ChangeShapes Go.WideShapes Go.ChangeAt Go.RowKit Go.Proofs.Ytkchpegpmpijcaa.Walks
set_option linter.unusedVariables false
set_option maxRecDepth 100000 in
set_option maxHeartbeats 4000000 in
theorem ct_none (B P Q : Option Addr) (lb lp lq cb cp cq : Nat) (f g : Nat → Rt) (x y : Nat → Int) (s t : Ss) (n : Int) (w : World) (hA : Hid (RIn w none 0 f)) (hB : Hid (RIn w B lb g)) (nB : Hid (B = none → lb = 0 ∧ cb = 0)) (hP : Hid (WIn w P lp x)) (nP : Hid (P = none → lp = 0 ∧ cp = 0)) (hQ : Hid (WIn w Q lq y)) (nQ : Hid (Q = none → lq = 0 ∧ cq = 0)) (hS : Hid (s.In w)) (hT : Hid (t.In w))
    (hb : Hid (0 + lb + lp + lq ≤ 1048576)) :
    Calls Try.prog 4 #[.slice none 0 0, .slice B lb cb, .slice P lp cp, .slice Q lq cq, .agg s.cs.toArray, .agg t.cs.toArray, .int .i64 n] w fun e w' => e = .returned (.bool true) ∧ Fr w w' := by
  have X := two_a w s.cs t.cs 32 32
  have Y := two_b w s.cs t.cs 32 32
  have F0 : Hid (Fr w ((w.alloc (.cells s.cs.toArray 32)).alloc (.cells t.cs.toArray 32))) := ((Fr.refl w).alloc _).alloc _
  have X0 := hid X
  have Y0 := hid Y
  clear X Y
  go_enter Try.func4, Try.ntmps4
  go_wp2_with (first
    | (refine load_want (by rfl) 32 _ rfl (w.heap.size + 1) 0 rfl t.cs _ Y0.out Try.underlying32 rfl (by rw [Ss.len]; exact size32) ?_)
    | (refine wpList_box _ _ (by rfl) rfl _ _ rfl t (w.heap.size + 1 + 1) (by simp) rfl rfl ?_))
  intro W4 T4 F4 th4
  have S4 := hid (SAt.of (range_fr X0.out F4.out (by simp; omega)))
  have FW4 := hid (F0.out.trans F4.out)
  have s38 := S4.out.l
  have t38 := T4.out.l
  have z38 : W4.frozen? ⟨w.heap.size + 1 + 1, 38, none⟩ = false := by have := (th4.out 38 (by omega)).2; rwa [Nat.zero_add] at this
  have LW4 : Hid (w.heap.size + 1 + 1 < W4.heap.size) := T4.out.lt
  have R5 : Hid ((W4.setCell ⟨w.heap.size + 1 + 1, 38, none⟩ (.slice s.A s.n s.k)).rangeAt w.heap.size 1 (wl s.r 32) ∧ (W4.setCell ⟨w.heap.size + 1 + 1, 38, none⟩ (.slice s.A s.n s.k)).cell? ⟨w.heap.size, 38, none⟩ = some (.slice s.A s.n s.k)) := by
    have F := (Fr.refl (w.alloc (.cells s.cs.toArray 32))).alloc (.cells t.cs.toArray 32)
    have G : Fr ((w.alloc (.cells s.cs.toArray 32)).alloc (.cells t.cs.toArray 32)) (W4.setCell ⟨w.heap.size + 1 + 1, 38, none⟩ (.slice s.A s.n s.k)) := F4.out.setCell (by simp) _
    have H := SAt.of (range_fr X0.out G (by simp; omega))
    exact ⟨H.r, H.l⟩
  have U5 := hid (Turned.of s.A s.n s.k T4.out th4.out)
  have G5 : Hid (Fr ((w.alloc (.cells s.cs.toArray 32)).alloc (.cells t.cs.toArray 32)) (W4.setCell ⟨w.heap.size + 1 + 1, 38, none⟩ (.slice s.A s.n s.k))) := F4.out.setCell (by simp) _
  go_wp2_with fail
  refine wp_region_noPanic ?_
  refine wp_region_held_drew (S := fun w' => w'.rangeAt w.heap.size 1 (wl s.r 32) ∧ w'.cell? ⟨w.heap.size, 38, none⟩ = some (.slice s.A s.n s.k)) (by kernel_rfl) ?_ (fun hHeld => ?_)
  · exact ⟨S4.out.r, S4.out.l⟩
  refine wpAnyH_take (i := 0) (oi := { dst := some 31, op := Op.fieldAddr 32 (Operand.tmp 11) 3, type := 0, pos := "law.go:76", after := #[], guard := none }) (v := ?_) rfl (by kernel_rfl) (by kernel_rfl) (by kernel_rfl) (fun _ _ _ h => h) (Or.inl ⟨by rfl, ?_⟩) (by assumption) ?_
  rotate_left
  · intro w hSw
    try dsimp only at hSw
    go_simp
    try with_reducible rfl
  try simp only [Act.put, List.setIfInBounds_toArray, List.set_cons_zero, List.set_cons_succ]
  refine wpAnyH_take (i := 1) (oi := { dst := some 32, op := Op.load 28 (Operand.tmp 31), type := 28, pos := "law.go:76", after := #[{ on := 0, ground := Ground.data }], guard := none }) (v := ?_) rfl (by kernel_rfl) (by kernel_rfl) (by kernel_rfl) (fun _ _ _ h => h) (Or.inl ⟨by rfl, ?_⟩) (by assumption) ?_
  rotate_left
  · intro w hSw
    try dsimp only at hSw
    have e := hSw.2
    go_simp
    try with_reducible rfl
  try simp only [Act.put, List.setIfInBounds_toArray, List.set_cons_zero, List.set_cons_succ]
  refine wpAnyH_take (i := 2) (oi := { dst := some 33, op := Op.fieldAddr 32 (Operand.tmp 11) 1, type := 0, pos := "law.go:76", after := #[{ on := 5, ground := Ground.gcOnly Departure.lateStores }], guard := none }) (v := ?_) rfl (by kernel_rfl) (by kernel_rfl) (by kernel_rfl) (fun _ _ _ h => h) (Or.inl ⟨by rfl, ?_⟩) (by assumption) ?_
  rotate_left
  · intro w hSw
    try dsimp only at hSw
    go_simp
    try with_reducible rfl
  try simp only [Act.put, List.setIfInBounds_toArray, List.set_cons_zero, List.set_cons_succ]
  refine wpAnyH_take (i := 3) (oi := { dst := some 34, op := Op.load 29 (Operand.tmp 33), type := 29, pos := "law.go:76", after := #[{ on := 2, ground := Ground.data }, { on := 5, ground := Ground.gcOnly Departure.lateStores }], guard := none }) (v := _) rfl (by kernel_rfl) (by kernel_rfl) (by kernel_rfl) (fun _ _ _ h => h) (yieldsIf_load_mid (by rfl) 29 _ rfl w.heap.size 1 rfl (wl s.r 32) _ (fun w hw => hw.1) Try.underlying29 rfl (by rw [wl_len]; exact size29)) (by assumption) ?_
  try simp only [Act.put, List.setIfInBounds_toArray, List.set_cons_zero, List.set_cons_succ]
  refine wpAnyH_take (i := 4) (oi := { dst := some 35, op := Op.fieldAddr 32 (Operand.tmp 16) 3, type := 0, pos := "law.go:76", after := #[{ on := 0, ground := Ground.phase }, { on := 1, ground := Ground.phase }, { on := 2, ground := Ground.textOnly Departure.lateStores }, { on := 3, ground := Ground.textOnly Departure.lateStores }], guard := none }) (v := ?_) rfl (by kernel_rfl) (by kernel_rfl) (by kernel_rfl) (fun _ _ _ h => h) (Or.inl ⟨by rfl, ?_⟩) (by assumption) ?_
  rotate_left
  · intro w hSw
    try dsimp only at hSw
    go_simp
    try with_reducible rfl
  try simp only [Act.put, List.setIfInBounds_toArray, List.set_cons_zero, List.set_cons_succ]
  refine wpAnyH_ready (rs := [5]) (by kernel_rfl) (by simp) ?_
  refine AllReadyH.cons (o := { dst := none, op := Op.store 28 (Operand.tmp 35) (Operand.tmp 32), type := 0, pos := "law.go:76", after := #[{ on := 4, ground := Ground.data }, { on := 1, ground := Ground.data }, { on := 0, ground := Ground.phase }, { on := 1, ground := Ground.phase }, { on := 2, ground := Ground.textOnly Departure.lateStores }, { on := 3, ground := Ground.textOnly Departure.lateStores }], guard := none }) rfl (fun K hK => ?_) AllReadyH.nil
  go_simp
  refine hK.out _ _ ?_ (fun hHeld => ?_)
  · exact R5.out
  clear hK K
  try simp only [Act.put, List.setIfInBounds_toArray, List.set_cons_zero, List.set_cons_succ]
  refine wpAnyH_take (i := 6) (oi := { dst := some 36, op := Op.fieldAddr 32 (Operand.tmp 16) 1, type := 0, pos := "law.go:76", after := #[{ on := 0, ground := Ground.phase }, { on := 1, ground := Ground.phase }, { on := 2, ground := Ground.phase }, { on := 3, ground := Ground.phase }, { on := 4, ground := Ground.phase }, { on := 5, ground := Ground.phase }], guard := none }) (v := ?_) rfl (by kernel_rfl) (by kernel_rfl) (by kernel_rfl) (fun _ _ _ h => h) (Or.inl ⟨by rfl, ?_⟩) (by assumption) ?_
  rotate_left
  · intro w hSw
    try dsimp only at hSw
    go_simp
    try with_reducible rfl
  try simp only [Act.put, List.setIfInBounds_toArray, List.set_cons_zero, List.set_cons_succ]
  refine wpAnyH_ready (rs := [7]) (by kernel_rfl) (by simp) ?_
  refine AllReadyH.cons (o := { dst := none, op := Op.store 29 (Operand.tmp 36) (Operand.tmp 34), type := 0, pos := "law.go:76", after := #[{ on := 6, ground := Ground.data }, { on := 3, ground := Ground.data }, { on := 5, ground := Ground.chain }, { on := 0, ground := Ground.phase }, { on := 1, ground := Ground.phase }, { on := 2, ground := Ground.phase }, { on := 3, ground := Ground.phase }, { on := 4, ground := Ground.phase }, { on := 5, ground := Ground.phase }], guard := none }) rfl (fun K hK => ?_) AllReadyH.nil
  refine if_yes (by rfl) ?_
  refine wp_regs ((w.alloc (.cells s.cs.toArray 32)).alloc (.cells t.cs.toArray 32)) _ (w.heap.size + 1 + 1) t s.r s.A s.n s.k s.m (by exact U5.out.alike ⟨rfl, rfl, rfl⟩) (by exact G5.out.alike ⟨rfl, rfl, rfl⟩) (by simp) _ _ rfl rfl rfl ?_
  intro W6 XX F6
  refine hK.out _ _ ?_ (fun hHeld => ?_)
  · exact ⟨(SAt.of (range_fr X0.out F6.out (by simp; omega))).r, (SAt.of (range_fr X0.out F6.out (by simp; omega))).l⟩
  clear hK K
  simp only [Act.put]
  refine wpAnyH_done (by kernel_rfl) ?_ _
  refine NoPanic.normal ?_
  have KP : Hid (∀ W : World, Fr W6 W → (W.rangeAt w.heap.size 0 s.cs ∧ W.rangeAt (w.heap.size + 1) 0 t.cs ∧ W.rangeAt (w.heap.size + 1 + 1) 0 (Ss.cs ⟨t.pc, s.r, t.c, s.A, s.n, s.k, s.m⟩) ∧ Fr W6 W)) := fun W F => ⟨range_fr X0.out (F6.out.trans F) (by simp; omega), range_fr Y0.out (F6.out.trans F) (by simp), range_fr XX.out.a F XX.out.lt, F⟩
  have A6 := hid (hA.out.fr (F0.out.trans F6.out))
  have B6 := hid (hB.out.fr (F0.out.trans F6.out))
  have P6 := hid (hP.out.fr (F0.out.trans F6.out))
  have Q6 := hid (hQ.out.fr (F0.out.trans F6.out))
  have S6 := hid (hS.out.fr (F0.out.trans F6.out))
  have T6 := hid (hT.out.fr (F0.out.trans F6.out))
  have X6 : Hid ((⟨t.pc, s.r, t.c, s.A, s.n, s.k, s.m⟩ : Ss).In W6) := S6.out
  have HB := hb.out
  have lb2 : (lb : Int) ≤ 1048576 := by omega
  have lp2 : (lp : Int) ≤ 1048576 := by omega
  have lq2 : (lq : Int) ≤ 1048576 := by omega
  clear HB R5 U5 G5 s38 t38 z38 LW4 S4 T4 F4 th4 FW4 hA hB hP hQ hS hT
  go_wp2_with fail
  refine wp_region_noPanic ?_
  refine wp_region_held_drew (S := fun w' => w'.rangeAt w.heap.size 0 s.cs ∧ w'.rangeAt (w.heap.size + 1) 0 t.cs ∧ w'.rangeAt (w.heap.size + 1 + 1) 0 (Ss.cs ⟨t.pc, s.r, t.c, s.A, s.n, s.k, s.m⟩) ∧ Fr W6 w') (by kernel_rfl) ?_ (fun hHeld => ?_)
  · exact KP.out _ ((Fr.refl W6).alike ⟨rfl, rfl, rfl⟩)
  refine wpAnyH_take (i := 0) (oi := { dst := some 37, op := Op.move (Operand.tmp 0), type := 26, pos := "law.go:77", after := #[], guard := none }) (v := ?_) rfl (by kernel_rfl) (by kernel_rfl) (by kernel_rfl) (fun _ _ _ h => h) (Or.inl ⟨by rfl, ?_⟩) (by assumption) ?_
  rotate_left
  · intro w hSw
    try dsimp only at hSw
    go_simp
    try with_reducible rfl
  try simp only [Act.put, List.setIfInBounds_toArray, List.set_cons_zero, List.set_cons_succ]
  refine wpAnyH_take (i := 1) (oi := { dst := some 38, op := Op.move (Operand.tmp 1), type := 26, pos := "law.go:77", after := #[], guard := none }) (v := ?_) rfl (by kernel_rfl) (by kernel_rfl) (by kernel_rfl) (fun _ _ _ h => h) (Or.inl ⟨by rfl, ?_⟩) (by assumption) ?_
  rotate_left
  · intro w hSw
    try dsimp only at hSw
    go_simp
    try with_reducible rfl
  try simp only [Act.put, List.setIfInBounds_toArray, List.set_cons_zero, List.set_cons_succ]
  refine wpAnyH_take (i := 2) (oi := { dst := some 39, op := Op.move (Operand.tmp 2), type := 28, pos := "law.go:77", after := #[], guard := none }) (v := ?_) rfl (by kernel_rfl) (by kernel_rfl) (by kernel_rfl) (fun _ _ _ h => h) (Or.inl ⟨by rfl, ?_⟩) (by assumption) ?_
  rotate_left
  · intro w hSw
    try dsimp only at hSw
    go_simp
    try with_reducible rfl
  try simp only [Act.put, List.setIfInBounds_toArray, List.set_cons_zero, List.set_cons_succ]
  refine wpAnyH_take (i := 3) (oi := { dst := some 40, op := Op.move (Operand.tmp 3), type := 28, pos := "law.go:77", after := #[], guard := none }) (v := ?_) rfl (by kernel_rfl) (by kernel_rfl) (by kernel_rfl) (fun _ _ _ h => h) (Or.inl ⟨by rfl, ?_⟩) (by assumption) ?_
  rotate_left
  · intro w hSw
    try dsimp only at hSw
    go_simp
    try with_reducible rfl
  try simp only [Act.put, List.setIfInBounds_toArray, List.set_cons_zero, List.set_cons_succ]
  refine wpAnyH_take (i := 4) (oi := { dst := some 41, op := Op.load 32 (Operand.tmp 11), type := 32, pos := "law.go:77", after := #[], guard := none }) (v := _) rfl (by kernel_rfl) (by kernel_rfl) (by kernel_rfl) (fun _ _ _ h => h) (yieldsIf_load_mid (by rfl) 32 _ rfl w.heap.size 0 rfl s.cs _ (fun w hw => hw.1) Try.underlying32 rfl (by rw [Ss.len]; exact size32)) (by assumption) ?_
  try simp only [Act.put, List.setIfInBounds_toArray, List.set_cons_zero, List.set_cons_succ]
  refine wpAnyH_take (i := 5) (oi := { dst := some 42, op := Op.load 32 (Operand.tmp 12), type := 32, pos := "law.go:77", after := #[], guard := none }) (v := _) rfl (by kernel_rfl) (by kernel_rfl) (by kernel_rfl) (fun _ _ _ h => h) (yieldsIf_load_mid (by rfl) 32 _ rfl (w.heap.size + 1) 0 rfl t.cs _ (fun w hw => hw.2.1) Try.underlying32 rfl (by rw [Ss.len]; exact size32)) (by assumption) ?_
  try simp only [Act.put, List.setIfInBounds_toArray, List.set_cons_zero, List.set_cons_succ]
  refine wpAnyH_ready (rs := [6]) (by kernel_rfl) (by simp) ?_
  refine AllReadyH.cons (o := { dst := some 43, op := Op.call { callee := Callee.value (Operand.func 7), args := #[Operand.tmp 37, Operand.tmp 38, Operand.tmp 39, Operand.tmp 40, Operand.tmp 41, Operand.tmp 42], argTypes := #[26, 26, 28, 28, 32, 32] }, type := 4, pos := "law.go:77", after := #[{ on := 0, ground := Ground.data }, { on := 1, ground := Ground.data }, { on := 2, ground := Ground.data }, { on := 3, ground := Ground.data }, { on := 4, ground := Ground.data }, { on := 5, ground := Ground.data }], guard := none }) rfl (fun K hK => ?_) AllReadyH.nil
  go_simp
  refine (same_as none B P Q 0 lb lp lq 0 cb cp cq f g x y s t (by omega) (by omega) (by omega) (by omega) _ (by exact A6.out.fr ((Fr.refl W6).alike (w' := W6.drew) ⟨rfl, rfl, rfl⟩)) (by exact B6.out.fr ((Fr.refl W6).alike (w' := W6.drew) ⟨rfl, rfl, rfl⟩)) (by exact P6.out.fr ((Fr.refl W6).alike (w' := W6.drew) ⟨rfl, rfl, rfl⟩)) (by exact Q6.out.fr ((Fr.refl W6).alike (w' := W6.drew) ⟨rfl, rfl, rfl⟩)) (by exact S6.out.fr ((Fr.refl W6).alike (w' := W6.drew) ⟨rfl, rfl, rfl⟩)) (by exact T6.out.fr ((Fr.refl W6).alike (w' := W6.drew) ⟨rfl, rfl, rfl⟩))).mono ?_; rintro e u1 ⟨rfl, hF⟩
  have V1 : Hid (Fr W6 u1) := ((Fr.refl W6).alike (w' := W6.drew) ⟨rfl, rfl, rfl⟩).trans hF
  clear hF
  go_wp2_with fail
  refine hK.out _ _ ?_ (fun hHeld => ?_)
  · exact KP.out _ V1.out
  clear hK K
  try simp only [Act.put, List.setIfInBounds_toArray, List.set_cons_zero, List.set_cons_succ]
  refine wpAnyH_take (i := 7) (oi := { dst := some 44, op := Op.move (Operand.tmp 43), type := 4, pos := "law.go:77", after := #[{ on := 6, ground := Ground.data }, { on := 6, ground := Ground.chain }], guard := none }) (v := ?_) rfl (by kernel_rfl) (by kernel_rfl) (by kernel_rfl) (fun _ _ _ h => h) (Or.inl ⟨by rfl, ?_⟩) (by assumption) ?_
  rotate_left
  · intro w hSw
    try dsimp only at hSw
    go_simp
    try with_reducible rfl
  try simp only [Act.put, List.setIfInBounds_toArray, List.set_cons_zero, List.set_cons_succ]
  refine wpAnyH_take (i := 8) (oi := { dst := some 45, op := Op.move (Operand.tmp 0), type := 26, pos := "law.go:77", after := #[{ on := 7, ground := Ground.guard }], guard := some (7, true) }) (v := ?_) rfl (by kernel_rfl) (by kernel_rfl) (by kernel_rfl) (fun _ _ _ h => h) (Or.inl ⟨by rfl, ?_⟩) (by assumption) ?_
  rotate_left
  · intro w hSw
    try dsimp only at hSw
    go_simp
    try with_reducible rfl
  try simp only [Act.put, List.setIfInBounds_toArray, List.set_cons_zero, List.set_cons_succ]
  refine wpAnyH_take (i := 9) (oi := { dst := some 46, op := Op.move (Operand.tmp 0), type := 26, pos := "law.go:77", after := #[{ on := 7, ground := Ground.guard }], guard := some (7, true) }) (v := ?_) rfl (by kernel_rfl) (by kernel_rfl) (by kernel_rfl) (fun _ _ _ h => h) (Or.inl ⟨by rfl, ?_⟩) (by assumption) ?_
  rotate_left
  · intro w hSw
    try dsimp only at hSw
    go_simp
    try with_reducible rfl
  try simp only [Act.put, List.setIfInBounds_toArray, List.set_cons_zero, List.set_cons_succ]
  refine wpAnyH_take (i := 10) (oi := { dst := some 47, op := Op.move (Operand.tmp 15), type := 3, pos := "law.go:77", after := #[{ on := 7, ground := Ground.guard }], guard := some (7, true) }) (v := ?_) rfl (by kernel_rfl) (by kernel_rfl) (by kernel_rfl) (fun _ _ _ h => h) (Or.inl ⟨by rfl, ?_⟩) (by assumption) ?_
  rotate_left
  · intro w hSw
    try dsimp only at hSw
    go_simp
    try with_reducible rfl
  try simp only [Act.put, List.setIfInBounds_toArray, List.set_cons_zero, List.set_cons_succ]
  refine wpAnyH_take (i := 11) (oi := { dst := some 48, op := Op.slice 26 (Operand.tmp 46) none (some (Operand.tmp 47)) none, type := 26, pos := "law.go:77", after := #[{ on := 9, ground := Ground.data }, { on := 10, ground := Ground.data }, { on := 7, ground := Ground.guard }], guard := some (7, true) }) (v := ?_) rfl (by kernel_rfl) (by kernel_rfl) (by kernel_rfl) (fun _ _ _ h => h) (Or.inl ⟨by rfl, ?_⟩) (by assumption) ?_
  rotate_left
  · intro w hSw
    try dsimp only at hSw
    go_simp
    try with_reducible rfl
  try simp only [Act.put, List.setIfInBounds_toArray, List.set_cons_zero, List.set_cons_succ]
  refine wpAnyH_take (i := 12) (oi := { dst := some 49, op := Op.move (Operand.tmp 3), type := 28, pos := "law.go:77", after := #[{ on := 7, ground := Ground.guard }], guard := some (7, true) }) (v := ?_) rfl (by kernel_rfl) (by kernel_rfl) (by kernel_rfl) (fun _ _ _ h => h) (Or.inl ⟨by rfl, ?_⟩) (by assumption) ?_
  rotate_left
  · intro w hSw
    try dsimp only at hSw
    go_simp
    try with_reducible rfl
  try simp only [Act.put, List.setIfInBounds_toArray, List.set_cons_zero, List.set_cons_succ]
  refine wpAnyH_take (i := 14) (oi := { dst := some 51, op := Op.move (Operand.tmp 3), type := 28, pos := "law.go:77", after := #[{ on := 7, ground := Ground.guard }], guard := some (7, true) }) (v := ?_) rfl (by kernel_rfl) (by kernel_rfl) (by kernel_rfl) (fun _ _ _ h => h) (Or.inl ⟨by rfl, ?_⟩) (by assumption) ?_
  rotate_left
  · intro w hSw
    try dsimp only at hSw
    go_simp
    try with_reducible rfl
  try simp only [Act.put, List.setIfInBounds_toArray, List.set_cons_zero, List.set_cons_succ]
  refine wpAnyH_take (i := 16) (oi := { dst := some 53, op := Op.move (Operand.tmp 2), type := 28, pos := "law.go:77", after := #[{ on := 7, ground := Ground.guard }], guard := some (7, true) }) (v := ?_) rfl (by kernel_rfl) (by kernel_rfl) (by kernel_rfl) (fun _ _ _ h => h) (Or.inl ⟨by rfl, ?_⟩) (by assumption) ?_
  rotate_left
  · intro w hSw
    try dsimp only at hSw
    go_simp
    try with_reducible rfl
  try simp only [Act.put, List.setIfInBounds_toArray, List.set_cons_zero, List.set_cons_succ]
  refine wpAnyH_take (i := 18) (oi := { dst := some 55, op := Op.load 32 (Operand.tmp 11), type := 32, pos := "law.go:77", after := #[{ on := 7, ground := Ground.guard }], guard := some (7, true) }) (v := _) rfl (by kernel_rfl) (by kernel_rfl) (by kernel_rfl) (fun _ _ _ h => h) (yieldsIf_load_mid (by rfl) 32 _ rfl w.heap.size 0 rfl s.cs _ (fun w hw => hw.1) Try.underlying32 rfl (by rw [Ss.len]; exact size32)) (by assumption) ?_
  try simp only [Act.put, List.setIfInBounds_toArray, List.set_cons_zero, List.set_cons_succ]
  refine wpAnyH_take (i := 19) (oi := { dst := some 56, op := Op.load 32 (Operand.tmp 16), type := 32, pos := "law.go:77", after := #[{ on := 7, ground := Ground.guard }], guard := some (7, true) }) (v := _) rfl (by kernel_rfl) (by kernel_rfl) (by kernel_rfl) (fun _ _ _ h => h) (yieldsIf_load_mid (by rfl) 32 _ rfl (w.heap.size + 1 + 1) 0 rfl (Ss.cs ⟨t.pc, s.r, t.c, s.A, s.n, s.k, s.m⟩) _ (fun w hw => hw.2.2.1) Try.underlying32 rfl (by rw [Ss.len]; exact size32)) (by assumption) ?_
  try simp only [Act.put, List.setIfInBounds_toArray, List.set_cons_zero, List.set_cons_succ]
  refine wpAnyH_ready (rs := [13]) (by kernel_rfl) (by simp) ?_
  refine AllReadyH.cons (o := { dst := some 50, op := Op.buildSlice 28 0 #[], type := 28, pos := "law.go:77", after := #[{ on := 7, ground := Ground.guard }], guard := some (7, true) }) rfl (fun K hK => ?_) AllReadyH.nil
  go_simp
  refine hK.out _ _ ?_ (fun hHeld => ?_)
  · exact KP.out _ (V1.out.alloc _)
  clear hK K
  try simp only [Act.put, List.setIfInBounds_toArray, List.set_cons_zero, List.set_cons_succ]
  refine wpAnyH_ready (rs := [15]) (by kernel_rfl) (by simp) ?_
  refine AllReadyH.cons (o := { dst := some 52, op := Op.call { callee := Callee.builtin Builtin.append, args := #[Operand.tmp 50, Operand.tmp 51], argTypes := #[28, 28] }, type := 28, pos := "law.go:77", after := #[{ on := 13, ground := Ground.data }, { on := 14, ground := Ground.data }, { on := 7, ground := Ground.chain }, { on := 7, ground := Ground.guard }], guard := some (7, true) }) rfl (fun K hK => ?_) AllReadyH.nil
  refine if_yes (by rfl) ?_
  refine wp_app22 W6 _ _ _ rfl _ _ _ rfl (by exact OwnW.new W6 u1 V1.out (fun _ => 0)) Q lq cq y rfl (by exact Q6.out.fr (V1.out.alloc _)) (nQ.out) (by omega) (by exact V1.out.alloc _) ?_
  intro v2 u2 O2 hF
  rw [Nat.zero_add, show catW (fun _ => 0) y 0 = y from funext fun j => by simp [catW]] at O2
  have V2 : Hid (Fr W6 u2) := hF
  clear hF
  obtain ⟨g2, c2, rfl, hw2, -, -⟩ := O2.words
  have W2' := hid hw2
  have P2' := hid O2
  clear hw2 O2
  refine hK.out _ _ ?_ (fun hHeld => ?_)
  · exact KP.out _ V2.out
  clear hK K
  try simp only [Act.put, List.setIfInBounds_toArray, List.set_cons_zero, List.set_cons_succ]
  refine wpAnyH_ready (rs := [17]) (by kernel_rfl) (by simp) ?_
  refine AllReadyH.cons (o := { dst := some 54, op := Op.call { callee := Callee.builtin Builtin.append, args := #[Operand.tmp 52, Operand.tmp 53], argTypes := #[28, 28] }, type := 28, pos := "law.go:77", after := #[{ on := 15, ground := Ground.data }, { on := 16, ground := Ground.data }, { on := 15, ground := Ground.chain }, { on := 7, ground := Ground.guard }], guard := some (7, true) }) rfl (fun K hK => ?_) AllReadyH.nil
  refine if_yes (by rfl) ?_
  refine wp_app22 W6 _ _ _ rfl _ _ _ rfl (by exact P2'.out) P lp cp x rfl (by exact P6.out.fr V2.out) (nP.out) (by omega) (by exact V2.out) ?_
  intro v3 u3 O3 hF
  have V3 : Hid (Fr W6 u3) := hF
  clear hF
  obtain ⟨g3, c3, rfl, hw3, -, -⟩ := O3.words
  have W3' := hid hw3
  have P3' := hid O3
  clear hw3 O3
  refine hK.out _ _ ?_ (fun hHeld => ?_)
  · exact KP.out _ V3.out
  clear hK K
  try simp only [Act.put, List.setIfInBounds_toArray, List.set_cons_zero, List.set_cons_succ]
  refine wpAnyH_ready (rs := [20]) (by kernel_rfl) (by simp) ?_
  refine AllReadyH.cons (o := { dst := some 57, op := Op.call { callee := Callee.value (Operand.func 7), args := #[Operand.tmp 45, Operand.tmp 48, Operand.tmp 49, Operand.tmp 54, Operand.tmp 55, Operand.tmp 56], argTypes := #[26, 26, 28, 28, 32, 32] }, type := 4, pos := "law.go:77", after := #[{ on := 8, ground := Ground.data }, { on := 11, ground := Ground.data }, { on := 12, ground := Ground.data }, { on := 17, ground := Ground.data }, { on := 18, ground := Ground.data }, { on := 19, ground := Ground.data }, { on := 17, ground := Ground.chain }, { on := 7, ground := Ground.guard }], guard := some (7, true) }) rfl (fun K hK => ?_) AllReadyH.nil
  go_simp
  refine (same_as none none Q (some ⟨g3, 0, none⟩) 0 0 lq (lq + lp) 0 0 cq c3 f f y (catW y x lq) s ⟨t.pc, s.r, t.c, s.A, s.n, s.k, s.m⟩ (by omega) (by omega) (by omega) (by omega) _ (by exact A6.out.fr V3.out) (by exact (A6.out.fr V3.out).less (by omega)) (by exact Q6.out.fr V3.out) (by exact W3'.out) (by exact S6.out.fr V3.out) (by exact X6.out.fr V3.out)).mono ?_; rintro e u4 ⟨rfl, hF⟩
  have V4 : Hid (Fr W6 u4) := V3.out.trans hF
  clear hF
  go_wp2_with fail
  refine hK.out _ _ ?_ (fun hHeld => ?_)
  · exact KP.out _ V4.out
  clear hK K
  try simp only [Act.put, List.setIfInBounds_toArray, List.set_cons_zero, List.set_cons_succ]
  refine wpAnyH_take (i := 21) (oi := { dst := some 58, op := Op.pick (Operand.tmp 44) (Operand.tmp 57) (Operand.const (Value.bool false)), type := 4, pos := "law.go:77", after := #[{ on := 7, ground := Ground.data }, { on := 20, ground := Ground.data }], guard := none }) (v := ?_) rfl (by kernel_rfl) (by kernel_rfl) (by kernel_rfl) (fun _ _ _ h => h) (Or.inl ⟨by rfl, ?_⟩) (by assumption) ?_
  rotate_left
  · intro w hSw
    try dsimp only at hSw
    go_simp
    try with_reducible rfl
  try simp only [Act.put, List.setIfInBounds_toArray, List.set_cons_zero, List.set_cons_succ]
  refine wpAnyH_take (i := 22) (oi := { dst := some 59, op := Op.move (Operand.tmp 58), type := 4, pos := "law.go:77", after := #[{ on := 21, ground := Ground.data }, { on := 20, ground := Ground.chain }], guard := none }) (v := ?_) rfl (by kernel_rfl) (by kernel_rfl) (by kernel_rfl) (fun _ _ _ h => h) (Or.inl ⟨by rfl, ?_⟩) (by assumption) ?_
  rotate_left
  · intro w hSw
    try dsimp only at hSw
    go_simp
    try with_reducible rfl
  try simp only [Act.put, List.setIfInBounds_toArray, List.set_cons_zero, List.set_cons_succ]
  refine wpAnyH_take (i := 23) (oi := { dst := some 60, op := Op.move (Operand.tmp 0), type := 26, pos := "law.go:77", after := #[{ on := 22, ground := Ground.guard }], guard := some (22, true) }) (v := ?_) rfl (by kernel_rfl) (by kernel_rfl) (by kernel_rfl) (fun _ _ _ h => h) (Or.inl ⟨by rfl, ?_⟩) (by assumption) ?_
  rotate_left
  · intro w hSw
    try dsimp only at hSw
    go_simp
    try with_reducible rfl
  try simp only [Act.put, List.setIfInBounds_toArray, List.set_cons_zero, List.set_cons_succ]
  refine wpAnyH_take (i := 25) (oi := { dst := some 62, op := Op.move (Operand.tmp 0), type := 26, pos := "law.go:77", after := #[{ on := 22, ground := Ground.guard }], guard := some (22, true) }) (v := ?_) rfl (by kernel_rfl) (by kernel_rfl) (by kernel_rfl) (fun _ _ _ h => h) (Or.inl ⟨by rfl, ?_⟩) (by assumption) ?_
  rotate_left
  · intro w hSw
    try dsimp only at hSw
    go_simp
    try with_reducible rfl
  try simp only [Act.put, List.setIfInBounds_toArray, List.set_cons_zero, List.set_cons_succ]
  refine wpAnyH_take (i := 26) (oi := { dst := some 63, op := Op.move (Operand.tmp 15), type := 3, pos := "law.go:77", after := #[{ on := 22, ground := Ground.guard }], guard := some (22, true) }) (v := ?_) rfl (by kernel_rfl) (by kernel_rfl) (by kernel_rfl) (fun _ _ _ h => h) (Or.inl ⟨by rfl, ?_⟩) (by assumption) ?_
  rotate_left
  · intro w hSw
    try dsimp only at hSw
    go_simp
    try with_reducible rfl
  try simp only [Act.put, List.setIfInBounds_toArray, List.set_cons_zero, List.set_cons_succ]
  refine wpAnyH_take (i := 27) (oi := { dst := some 64, op := Op.slice 26 (Operand.tmp 62) none (some (Operand.tmp 63)) none, type := 26, pos := "law.go:77", after := #[{ on := 25, ground := Ground.data }, { on := 26, ground := Ground.data }, { on := 22, ground := Ground.guard }], guard := some (22, true) }) (v := ?_) rfl (by kernel_rfl) (by kernel_rfl) (by kernel_rfl) (fun _ _ _ h => h) (Or.inl ⟨by rfl, ?_⟩) (by assumption) ?_
  rotate_left
  · intro w hSw
    try dsimp only at hSw
    go_simp
    try with_reducible rfl
  try simp only [Act.put, List.setIfInBounds_toArray, List.set_cons_zero, List.set_cons_succ]
  refine wpAnyH_take (i := 29) (oi := { dst := some 66, op := Op.move (Operand.tmp 1), type := 26, pos := "law.go:77", after := #[{ on := 22, ground := Ground.guard }], guard := some (22, true) }) (v := ?_) rfl (by kernel_rfl) (by kernel_rfl) (by kernel_rfl) (fun _ _ _ h => h) (Or.inl ⟨by rfl, ?_⟩) (by assumption) ?_
  rotate_left
  · intro w hSw
    try dsimp only at hSw
    go_simp
    try with_reducible rfl
  try simp only [Act.put, List.setIfInBounds_toArray, List.set_cons_zero, List.set_cons_succ]
  refine wpAnyH_take (i := 31) (oi := { dst := some 68, op := Op.move (Operand.tmp 2), type := 28, pos := "law.go:77", after := #[{ on := 22, ground := Ground.guard }], guard := some (22, true) }) (v := ?_) rfl (by kernel_rfl) (by kernel_rfl) (by kernel_rfl) (fun _ _ _ h => h) (Or.inl ⟨by rfl, ?_⟩) (by assumption) ?_
  rotate_left
  · intro w hSw
    try dsimp only at hSw
    go_simp
    try with_reducible rfl
  try simp only [Act.put, List.setIfInBounds_toArray, List.set_cons_zero, List.set_cons_succ]
  refine wpAnyH_take (i := 32) (oi := { dst := some 69, op := Op.move (Operand.tmp 2), type := 28, pos := "law.go:77", after := #[{ on := 22, ground := Ground.guard }], guard := some (22, true) }) (v := ?_) rfl (by kernel_rfl) (by kernel_rfl) (by kernel_rfl) (fun _ _ _ h => h) (Or.inl ⟨by rfl, ?_⟩) (by assumption) ?_
  rotate_left
  · intro w hSw
    try dsimp only at hSw
    go_simp
    try with_reducible rfl
  try simp only [Act.put, List.setIfInBounds_toArray, List.set_cons_zero, List.set_cons_succ]
  refine wpAnyH_take (i := 33) (oi := { dst := some 70, op := Op.load 32 (Operand.tmp 11), type := 32, pos := "law.go:77", after := #[{ on := 22, ground := Ground.guard }], guard := some (22, true) }) (v := _) rfl (by kernel_rfl) (by kernel_rfl) (by kernel_rfl) (fun _ _ _ h => h) (yieldsIf_load_mid (by rfl) 32 _ rfl w.heap.size 0 rfl s.cs _ (fun w hw => hw.1) Try.underlying32 rfl (by rw [Ss.len]; exact size32)) (by assumption) ?_
  try simp only [Act.put, List.setIfInBounds_toArray, List.set_cons_zero, List.set_cons_succ]
  refine wpAnyH_take (i := 34) (oi := { dst := some 71, op := Op.load 32 (Operand.tmp 11), type := 32, pos := "law.go:77", after := #[{ on := 22, ground := Ground.guard }], guard := some (22, true) }) (v := _) rfl (by kernel_rfl) (by kernel_rfl) (by kernel_rfl) (fun _ _ _ h => h) (yieldsIf_load_mid (by rfl) 32 _ rfl w.heap.size 0 rfl s.cs _ (fun w hw => hw.1) Try.underlying32 rfl (by rw [Ss.len]; exact size32)) (by assumption) ?_
  try simp only [Act.put, List.setIfInBounds_toArray, List.set_cons_zero, List.set_cons_succ]
  refine wpAnyH_ready (rs := [24]) (by kernel_rfl) (by simp) ?_
  refine AllReadyH.cons (o := { dst := some 61, op := Op.buildSlice 26 0 #[], type := 26, pos := "law.go:77", after := #[{ on := 22, ground := Ground.guard }], guard := some (22, true) }) rfl (fun K hK => ?_) AllReadyH.nil
  go_simp
  refine hK.out _ _ ?_ (fun hHeld => ?_)
  · exact KP.out _ (V4.out.alloc _)
  clear hK K
  try simp only [Act.put, List.setIfInBounds_toArray, List.set_cons_zero, List.set_cons_succ]
  refine wpAnyH_ready (rs := [28]) (by kernel_rfl) (by simp) ?_
  refine AllReadyH.cons (o := { dst := some 65, op := Op.call { callee := Callee.builtin Builtin.append, args := #[Operand.tmp 61, Operand.tmp 64], argTypes := #[26, 26] }, type := 26, pos := "law.go:77", after := #[{ on := 24, ground := Ground.data }, { on := 27, ground := Ground.data }, { on := 22, ground := Ground.chain }, { on := 22, ground := Ground.guard }], guard := some (22, true) }) rfl (fun K hK => ?_) AllReadyH.nil
  refine if_yes (by rfl) ?_
  refine wp_app24 W6 _ _ _ rfl _ _ _ rfl (by exact OwnR.new W6 u4 V4.out (fun _ => a0)) none 0 0 f rfl (by exact (A6.out.fr (V4.out.alloc _)).less (by omega)) (fun _ => ⟨rfl, rfl⟩) (by omega) (by exact V4.out.alloc _) ?_
  intro v5 u5 O5 hF
  rw [show cat (fun _ => a0) f 0 = f from funext fun j => by simp [cat]] at O5
  have V5 : Hid (Fr W6 u5) := hF
  clear hF
  obtain ⟨g5, c5, rfl, hw5, -, -⟩ := O5.rows
  have W5' := hid hw5
  have P5' := hid O5
  clear hw5 O5
  refine hK.out _ _ ?_ (fun hHeld => ?_)
  · exact KP.out _ V5.out
  clear hK K
  try simp only [Act.put, List.setIfInBounds_toArray, List.set_cons_zero, List.set_cons_succ]
  refine wpAnyH_ready (rs := [30]) (by kernel_rfl) (by simp) ?_
  refine AllReadyH.cons (o := { dst := some 67, op := Op.call { callee := Callee.builtin Builtin.append, args := #[Operand.tmp 65, Operand.tmp 66], argTypes := #[26, 26] }, type := 26, pos := "law.go:77", after := #[{ on := 28, ground := Ground.data }, { on := 29, ground := Ground.data }, { on := 28, ground := Ground.chain }, { on := 22, ground := Ground.guard }], guard := some (22, true) }) rfl (fun K hK => ?_) AllReadyH.nil
  refine if_yes (by rfl) ?_
  refine wp_app24 W6 _ _ _ rfl _ _ _ rfl (by exact P5'.out) B lb cb g rfl (by exact B6.out.fr V5.out) (nB.out) (by omega) (by exact V5.out) ?_
  intro v6 u6 O6 hF
  rw [Nat.zero_add] at O6
  have V6 : Hid (Fr W6 u6) := hF
  clear hF
  obtain ⟨g6, c6, rfl, hw6, -, -⟩ := O6.rows
  have W6' := hid hw6
  have P6' := hid O6
  clear hw6 O6
  refine hK.out _ _ ?_ (fun hHeld => ?_)
  · exact KP.out _ V6.out
  clear hK K
  try simp only [Act.put, List.setIfInBounds_toArray, List.set_cons_zero, List.set_cons_succ]
  refine wpAnyH_ready (rs := [35]) (by kernel_rfl) (by simp) ?_
  refine AllReadyH.cons (o := { dst := some 72, op := Op.call { callee := Callee.value (Operand.func 7), args := #[Operand.tmp 60, Operand.tmp 67, Operand.tmp 68, Operand.tmp 69, Operand.tmp 70, Operand.tmp 71], argTypes := #[26, 26, 28, 28, 32, 32] }, type := 4, pos := "law.go:77", after := #[{ on := 23, ground := Ground.data }, { on := 30, ground := Ground.data }, { on := 31, ground := Ground.data }, { on := 32, ground := Ground.data }, { on := 33, ground := Ground.data }, { on := 34, ground := Ground.data }, { on := 30, ground := Ground.chain }, { on := 22, ground := Ground.guard }], guard := some (22, true) }) rfl (fun K hK => ?_) AllReadyH.nil
  go_simp
  refine (same_as none (some ⟨g6, 0, none⟩) P P 0 lb lp lp 0 c6 cp cp f (cat f g 0) x x s s (by omega) (by omega) (by omega) (by omega) _ (by exact A6.out.fr V6.out) (by exact W6'.out) (by exact P6.out.fr V6.out) (by exact P6.out.fr V6.out) (by exact S6.out.fr V6.out) (by exact S6.out.fr V6.out)).mono ?_; rintro e u7 ⟨rfl, hF⟩
  have V7 : Hid (Fr W6 u7) := V6.out.trans hF
  clear hF
  go_wp2_with fail
  refine hK.out _ _ ?_ (fun hHeld => ?_)
  · exact KP.out _ V7.out
  clear hK K
  try simp only [Act.put, List.setIfInBounds_toArray, List.set_cons_zero, List.set_cons_succ]
  refine wpAnyH_take (i := 36) (oi := { dst := some 73, op := Op.pick (Operand.tmp 59) (Operand.tmp 72) (Operand.const (Value.bool false)), type := 4, pos := "law.go:77", after := #[{ on := 22, ground := Ground.data }, { on := 35, ground := Ground.data }], guard := none }) (v := ?_) rfl (by kernel_rfl) (by kernel_rfl) (by kernel_rfl) (fun _ _ _ h => h) (Or.inl ⟨by rfl, ?_⟩) (by assumption) ?_
  rotate_left
  · intro w hSw
    try dsimp only at hSw
    go_simp
    try with_reducible rfl
  try simp only [Act.put, List.setIfInBounds_toArray, List.set_cons_zero, List.set_cons_succ]
  refine wpAnyH_take (i := 37) (oi := { dst := some 74, op := Op.move (Operand.tmp 73), type := 4, pos := "law.go:77", after := #[{ on := 36, ground := Ground.data }, { on := 35, ground := Ground.chain }], guard := none }) (v := ?_) rfl (by kernel_rfl) (by kernel_rfl) (by kernel_rfl) (fun _ _ _ h => h) (Or.inl ⟨by rfl, ?_⟩) (by assumption) ?_
  rotate_left
  · intro w hSw
    try dsimp only at hSw
    go_simp
    try with_reducible rfl
  try simp only [Act.put, List.setIfInBounds_toArray, List.set_cons_zero, List.set_cons_succ]
  refine wpAnyH_take (i := 38) (oi := { dst := some 75, op := Op.move (Operand.tmp 0), type := 26, pos := "law.go:77", after := #[{ on := 37, ground := Ground.guard }], guard := some (37, true) }) (v := ?_) rfl (by kernel_rfl) (by kernel_rfl) (by kernel_rfl) (fun _ _ _ h => h) (Or.inl ⟨by rfl, ?_⟩) (by assumption) ?_
  rotate_left
  · intro w hSw
    try dsimp only at hSw
    go_simp
    try with_reducible rfl
  try simp only [Act.put, List.setIfInBounds_toArray, List.set_cons_zero, List.set_cons_succ]
  refine wpAnyH_take (i := 39) (oi := { dst := some 76, op := Op.call { callee := Callee.builtin Builtin.len, args := #[Operand.tmp 75], argTypes := #[26] }, type := 3, pos := "law.go:77", after := #[{ on := 38, ground := Ground.data }, { on := 37, ground := Ground.guard }], guard := some (37, true) }) (v := ?_) rfl (by kernel_rfl) (by kernel_rfl) (by kernel_rfl) (fun _ _ _ h => h) (Or.inl ⟨by rfl, ?_⟩) (by assumption) ?_
  rotate_left
  · intro w hSw
    try dsimp only at hSw
    go_simp
    try with_reducible rfl
  try simp only [Act.put, List.setIfInBounds_toArray, List.set_cons_zero, List.set_cons_succ]
  refine wpAnyH_take (i := 40) (oi := { dst := some 77, op := Op.binOp BinOp.eql 3 (Operand.tmp 76) (Operand.const (Value.int IntKind.i64 0)) 3, type := 4, pos := "law.go:77", after := #[{ on := 39, ground := Ground.data }, { on := 37, ground := Ground.guard }], guard := some (37, true) }) (v := ?_) rfl (by kernel_rfl) (by kernel_rfl) (by kernel_rfl) (fun _ _ _ h => h) (Or.inl ⟨by rfl, ?_⟩) (by assumption) ?_
  rotate_left
  · intro w hSw
    try dsimp only at hSw
    go_simp
    try with_reducible rfl
  try simp only [Act.put, List.setIfInBounds_toArray, List.set_cons_zero, List.set_cons_succ]
  refine wpAnyH_take (i := 41) (oi := { dst := some 78, op := Op.move (Operand.tmp 77), type := 4, pos := "law.go:77", after := #[{ on := 40, ground := Ground.data }, { on := 37, ground := Ground.chain }, { on := 37, ground := Ground.guard }], guard := some (37, true) }) (v := ?_) rfl (by kernel_rfl) (by kernel_rfl) (by kernel_rfl) (fun _ _ _ h => h) (Or.inl ⟨by rfl, ?_⟩) (by assumption) ?_
  rotate_left
  · intro w hSw
    try dsimp only at hSw
    go_simp
    try with_reducible rfl
  try simp only [Act.put, List.setIfInBounds_toArray, List.set_cons_zero, List.set_cons_succ]
  refine wpAnyH_take (i := 42) (oi := { dst := some 79, op := Op.move (Operand.tmp 0), type := 26, pos := "law.go:77", after := #[{ on := 41, ground := Ground.guard }], guard := some (41, false) }) (v := undef) rfl (by kernel_rfl) (by kernel_rfl) (by kernel_rfl) (fun _ _ _ h => h) (Or.inr ⟨by rfl, rfl⟩) (by assumption) ?_
  try simp only [Act.put, List.setIfInBounds_toArray, List.set_cons_zero, List.set_cons_succ]
  refine wpAnyH_take (i := 43) (oi := { dst := some 80, op := Op.indexAddr 26 (Operand.tmp 79) (Operand.const (Value.int IntKind.i64 0)), type := 0, pos := "law.go:77", after := #[{ on := 42, ground := Ground.data }, { on := 41, ground := Ground.guard }], guard := some (41, false) }) (v := undef) rfl (by kernel_rfl) (by kernel_rfl) (by kernel_rfl) (fun _ _ _ h => h) (Or.inr ⟨by rfl, rfl⟩) (by assumption) ?_
  try simp only [Act.put, List.setIfInBounds_toArray, List.set_cons_zero, List.set_cons_succ]
  refine wpAnyH_take (i := 44) (oi := { dst := some 81, op := Op.load 24 (Operand.tmp 80), type := 24, pos := "law.go:77", after := #[{ on := 43, ground := Ground.data }, { on := 41, ground := Ground.guard }], guard := some (41, false) }) (v := undef) rfl (by kernel_rfl) (by kernel_rfl) (by kernel_rfl) (fun _ _ _ h => h) (Or.inr ⟨by rfl, rfl⟩) (by assumption) ?_
  try simp only [Act.put, List.setIfInBounds_toArray, List.set_cons_zero, List.set_cons_succ]
  refine wpAnyH_take (i := 45) (oi := { dst := some 82, op := Op.move (Operand.tmp 0), type := 26, pos := "law.go:77", after := #[{ on := 41, ground := Ground.guard }], guard := some (41, false) }) (v := undef) rfl (by kernel_rfl) (by kernel_rfl) (by kernel_rfl) (fun _ _ _ h => h) (Or.inr ⟨by rfl, rfl⟩) (by assumption) ?_
  try simp only [Act.put, List.setIfInBounds_toArray, List.set_cons_zero, List.set_cons_succ]
  refine wpAnyH_take (i := 46) (oi := { dst := some 83, op := Op.move (Operand.tmp 15), type := 3, pos := "law.go:77", after := #[{ on := 41, ground := Ground.guard }], guard := some (41, false) }) (v := undef) rfl (by kernel_rfl) (by kernel_rfl) (by kernel_rfl) (fun _ _ _ h => h) (Or.inr ⟨by rfl, rfl⟩) (by assumption) ?_
  try simp only [Act.put, List.setIfInBounds_toArray, List.set_cons_zero, List.set_cons_succ]
  refine wpAnyH_take (i := 47) (oi := { dst := some 84, op := Op.indexAddr 26 (Operand.tmp 82) (Operand.tmp 83), type := 0, pos := "law.go:77", after := #[{ on := 45, ground := Ground.data }, { on := 46, ground := Ground.data }, { on := 41, ground := Ground.guard }], guard := some (41, false) }) (v := undef) rfl (by kernel_rfl) (by kernel_rfl) (by kernel_rfl) (fun _ _ _ h => h) (Or.inr ⟨by rfl, rfl⟩) (by assumption) ?_
  try simp only [Act.put, List.setIfInBounds_toArray, List.set_cons_zero, List.set_cons_succ]
  refine wpAnyH_take (i := 48) (oi := { dst := some 85, op := Op.load 24 (Operand.tmp 84), type := 24, pos := "law.go:77", after := #[{ on := 47, ground := Ground.data }, { on := 41, ground := Ground.guard }], guard := some (41, false) }) (v := undef) rfl (by kernel_rfl) (by kernel_rfl) (by kernel_rfl) (fun _ _ _ h => h) (Or.inr ⟨by rfl, rfl⟩) (by assumption) ?_
  try simp only [Act.put, List.setIfInBounds_toArray, List.set_cons_zero, List.set_cons_succ]
  refine wpAnyH_take (i := 50) (oi := { dst := some 87, op := Op.move (Operand.tmp 0), type := 26, pos := "law.go:77", after := #[{ on := 41, ground := Ground.guard }], guard := some (41, false) }) (v := undef) rfl (by kernel_rfl) (by kernel_rfl) (by kernel_rfl) (fun _ _ _ h => h) (Or.inr ⟨by rfl, rfl⟩) (by assumption) ?_
  try simp only [Act.put, List.setIfInBounds_toArray, List.set_cons_zero, List.set_cons_succ]
  refine wpAnyH_take (i := 51) (oi := { dst := some 88, op := Op.indexAddr 26 (Operand.tmp 87) (Operand.const (Value.int IntKind.i64 0)), type := 0, pos := "law.go:77", after := #[{ on := 50, ground := Ground.data }, { on := 41, ground := Ground.guard }], guard := some (41, false) }) (v := undef) rfl (by kernel_rfl) (by kernel_rfl) (by kernel_rfl) (fun _ _ _ h => h) (Or.inr ⟨by rfl, rfl⟩) (by assumption) ?_
  try simp only [Act.put, List.setIfInBounds_toArray, List.set_cons_zero, List.set_cons_succ]
  refine wpAnyH_take (i := 52) (oi := { dst := some 89, op := Op.load 24 (Operand.tmp 88), type := 24, pos := "law.go:77", after := #[{ on := 51, ground := Ground.data }, { on := 41, ground := Ground.guard }], guard := some (41, false) }) (v := undef) rfl (by kernel_rfl) (by kernel_rfl) (by kernel_rfl) (fun _ _ _ h => h) (Or.inr ⟨by rfl, rfl⟩) (by assumption) ?_
  try simp only [Act.put, List.setIfInBounds_toArray, List.set_cons_zero, List.set_cons_succ]
  refine wpAnyH_take (i := 53) (oi := { dst := some 90, op := Op.move (Operand.tmp 0), type := 26, pos := "law.go:77", after := #[{ on := 41, ground := Ground.guard }], guard := some (41, false) }) (v := undef) rfl (by kernel_rfl) (by kernel_rfl) (by kernel_rfl) (fun _ _ _ h => h) (Or.inr ⟨by rfl, rfl⟩) (by assumption) ?_
  try simp only [Act.put, List.setIfInBounds_toArray, List.set_cons_zero, List.set_cons_succ]
  refine wpAnyH_take (i := 54) (oi := { dst := some 91, op := Op.move (Operand.tmp 15), type := 3, pos := "law.go:77", after := #[{ on := 41, ground := Ground.guard }], guard := some (41, false) }) (v := undef) rfl (by kernel_rfl) (by kernel_rfl) (by kernel_rfl) (fun _ _ _ h => h) (Or.inr ⟨by rfl, rfl⟩) (by assumption) ?_
  try simp only [Act.put, List.setIfInBounds_toArray, List.set_cons_zero, List.set_cons_succ]
  refine wpAnyH_take (i := 55) (oi := { dst := some 92, op := Op.indexAddr 26 (Operand.tmp 90) (Operand.tmp 91), type := 0, pos := "law.go:77", after := #[{ on := 53, ground := Ground.data }, { on := 54, ground := Ground.data }, { on := 41, ground := Ground.guard }], guard := some (41, false) }) (v := undef) rfl (by kernel_rfl) (by kernel_rfl) (by kernel_rfl) (fun _ _ _ h => h) (Or.inr ⟨by rfl, rfl⟩) (by assumption) ?_
  try simp only [Act.put, List.setIfInBounds_toArray, List.set_cons_zero, List.set_cons_succ]
  refine wpAnyH_take (i := 56) (oi := { dst := some 93, op := Op.load 24 (Operand.tmp 92), type := 24, pos := "law.go:77", after := #[{ on := 55, ground := Ground.data }, { on := 41, ground := Ground.guard }], guard := some (41, false) }) (v := undef) rfl (by kernel_rfl) (by kernel_rfl) (by kernel_rfl) (fun _ _ _ h => h) (Or.inr ⟨by rfl, rfl⟩) (by assumption) ?_
  try simp only [Act.put, List.setIfInBounds_toArray, List.set_cons_zero, List.set_cons_succ]
  refine wpAnyH_take (i := 57) (oi := { dst := some 94, op := Op.binOp BinOp.eql 24 (Operand.tmp 89) (Operand.tmp 93) 24, type := 4, pos := "law.go:77", after := #[{ on := 52, ground := Ground.data }, { on := 56, ground := Ground.data }, { on := 41, ground := Ground.guard }], guard := some (41, false) }) (v := undef) rfl (by kernel_rfl) (by kernel_rfl) (by kernel_rfl) (fun _ _ _ h => h) (Or.inr ⟨by rfl, rfl⟩) (by assumption) ?_
  try simp only [Act.put, List.setIfInBounds_toArray, List.set_cons_zero, List.set_cons_succ]
  refine wpAnyH_ready (rs := [49]) (by kernel_rfl) (by simp) ?_
  refine AllReadyH.cons (o := { dst := some 86, op := Op.call { callee := Callee.value (Operand.func 6), args := #[Operand.tmp 81, Operand.tmp 85], argTypes := #[24, 24] }, type := 4, pos := "law.go:77", after := #[{ on := 44, ground := Ground.data }, { on := 48, ground := Ground.data }, { on := 41, ground := Ground.chain }, { on := 41, ground := Ground.guard }], guard := some (41, false) }) rfl (fun K hK => ?_) AllReadyH.nil
  refine if_no (by rfl) ?_
  refine hK.out _ _ (by assumption) (fun hHeld => ?_)
  clear hK K
  try simp only [Act.put, List.setIfInBounds_toArray, List.set_cons_zero, List.set_cons_succ]
  refine wpAnyH_take (i := 58) (oi := { dst := some 95, op := Op.binOp BinOp.eql 4 (Operand.tmp 86) (Operand.tmp 94) 4, type := 4, pos := "law.go:77", after := #[{ on := 49, ground := Ground.data }, { on := 57, ground := Ground.data }, { on := 41, ground := Ground.guard }], guard := some (41, false) }) (v := undef) rfl (by kernel_rfl) (by kernel_rfl) (by kernel_rfl) (fun _ _ _ h => h) (Or.inr ⟨by rfl, rfl⟩) (by assumption) ?_
  try simp only [Act.put, List.setIfInBounds_toArray, List.set_cons_zero, List.set_cons_succ]
  refine wpAnyH_take (i := 59) (oi := { dst := some 96, op := Op.pick (Operand.tmp 78) (Operand.const (Value.bool true)) (Operand.tmp 95), type := 4, pos := "law.go:77", after := #[{ on := 41, ground := Ground.data }, { on := 58, ground := Ground.data }, { on := 37, ground := Ground.guard }], guard := some (37, true) }) (v := ?_) rfl (by kernel_rfl) (by kernel_rfl) (by kernel_rfl) (fun _ _ _ h => h) (Or.inl ⟨by rfl, ?_⟩) (by assumption) ?_
  rotate_left
  · intro w hSw
    try dsimp only at hSw
    go_simp
    try with_reducible rfl
  try simp only [Act.put, List.setIfInBounds_toArray, List.set_cons_zero, List.set_cons_succ]
  refine wpAnyH_take (i := 60) (oi := { dst := some 97, op := Op.pick (Operand.tmp 74) (Operand.tmp 96) (Operand.const (Value.bool false)), type := 4, pos := "law.go:77", after := #[{ on := 37, ground := Ground.data }, { on := 59, ground := Ground.data }], guard := none }) (v := ?_) rfl (by kernel_rfl) (by kernel_rfl) (by kernel_rfl) (fun _ _ _ h => h) (Or.inl ⟨by rfl, ?_⟩) (by assumption) ?_
  rotate_left
  · intro w hSw
    try dsimp only at hSw
    go_simp
    try with_reducible rfl
  try simp only [Act.put, List.setIfInBounds_toArray, List.set_cons_zero, List.set_cons_succ]
  refine wpAnyH_take (i := 61) (oi := { dst := some 98, op := Op.move (Operand.tmp 97), type := 4, pos := "law.go:77", after := #[{ on := 60, ground := Ground.data }, { on := 49, ground := Ground.chain }], guard := none }) (v := ?_) rfl (by kernel_rfl) (by kernel_rfl) (by kernel_rfl) (fun _ _ _ h => h) (Or.inl ⟨by rfl, ?_⟩) (by assumption) ?_
  rotate_left
  · intro w hSw
    try dsimp only at hSw
    go_simp
    try with_reducible rfl
  try simp only [Act.put, List.setIfInBounds_toArray, List.set_cons_zero, List.set_cons_succ]
  refine wpAnyH_ready (rs := [62]) (by kernel_rfl) (by simp) ?_
  refine AllReadyH.cons (o := { dst := some 99, op := Op.call { callee := Callee.value (Operand.func 9), args := #[], argTypes := #[] }, type := 4, pos := "law.go:77", after := #[{ on := 61, ground := Ground.chain }, { on := 61, ground := Ground.guard }], guard := some (61, true) }) rfl (fun K hK => ?_) AllReadyH.nil
  go_simp
  refine (known_as _).mono ?_; rintro e u9 ⟨rfl, hF⟩
  have V9 : Hid (Fr W6 u9) := V7.out.trans hF
  clear hF
  go_wp2_with fail
  refine hK.out _ _ ?_ (fun hHeld => ?_)
  · exact KP.out _ V9.out
  clear hK K
  try simp only [Act.put, List.setIfInBounds_toArray, List.set_cons_zero, List.set_cons_succ]
  refine wpAnyH_take (i := 63) (oi := { dst := some 100, op := Op.pick (Operand.tmp 98) (Operand.tmp 99) (Operand.const (Value.bool false)), type := 4, pos := "law.go:77", after := #[{ on := 61, ground := Ground.data }, { on := 62, ground := Ground.data }], guard := none }) (v := ?_) rfl (by kernel_rfl) (by kernel_rfl) (by kernel_rfl) (fun _ _ _ h => h) (Or.inl ⟨by rfl, ?_⟩) (by assumption) ?_
  rotate_left
  · intro w hSw
    try dsimp only at hSw
    go_simp
    try with_reducible rfl
  try simp only [Act.put, List.setIfInBounds_toArray, List.set_cons_zero, List.set_cons_succ]
  refine wpAnyH_take (i := 64) (oi := { dst := some 14, op := Op.assign (Operand.tmp 100), type := 4, pos := "law.go:77", after := ([{ on := 63, ground := Ground.data }, { on := 62, ground := Ground.chain }, { on := 0, ground := Ground.phase }, { on := 1, ground := Ground.phase }, { on := 2, ground := Ground.phase }, { on := 3, ground := Ground.phase }, { on := 4, ground := Ground.phase }, { on := 5, ground := Ground.phase }, { on := 6, ground := Ground.phase }, { on := 7, ground := Ground.phase }, { on := 8, ground := Ground.phase }, { on := 9, ground := Ground.phase }, { on := 10, ground := Ground.phase }, { on := 11, ground := Ground.phase }, { on := 12, ground := Ground.phase }, { on := 13, ground := Ground.phase }, { on := 14, ground := Ground.phase }, { on := 15, ground := Ground.phase }, { on := 16, ground := Ground.phase }, { on := 17, ground := Ground.phase }, { on := 18, ground := Ground.phase }, { on := 19, ground := Ground.phase }, { on := 20, ground := Ground.phase }, { on := 21, ground := Ground.phase }, { on := 22, ground := Ground.phase }, { on := 23, ground := Ground.phase }, { on := 24, ground := Ground.phase }, { on := 25, ground := Ground.phase }, { on := 26, ground := Ground.phase }, { on := 27, ground := Ground.phase }, { on := 28, ground := Ground.phase }, { on := 29, ground := Ground.phase }, { on := 30, ground := Ground.phase }].append [{ on := 31, ground := Ground.phase }, { on := 32, ground := Ground.phase }, { on := 33, ground := Ground.phase }, { on := 34, ground := Ground.phase }, { on := 35, ground := Ground.phase }, { on := 36, ground := Ground.phase }, { on := 37, ground := Ground.phase }, { on := 38, ground := Ground.phase }, { on := 39, ground := Ground.phase }, { on := 40, ground := Ground.phase }, { on := 41, ground := Ground.phase }, { on := 42, ground := Ground.phase }, { on := 43, ground := Ground.phase }, { on := 44, ground := Ground.phase }, { on := 45, ground := Ground.phase }, { on := 46, ground := Ground.phase }, { on := 47, ground := Ground.phase }, { on := 48, ground := Ground.phase }, { on := 49, ground := Ground.phase }, { on := 50, ground := Ground.phase }, { on := 51, ground := Ground.phase }, { on := 52, ground := Ground.phase }, { on := 53, ground := Ground.phase }, { on := 54, ground := Ground.phase }, { on := 55, ground := Ground.phase }, { on := 56, ground := Ground.phase }, { on := 57, ground := Ground.phase }, { on := 58, ground := Ground.phase }, { on := 59, ground := Ground.phase }, { on := 60, ground := Ground.phase }, { on := 61, ground := Ground.phase }, { on := 62, ground := Ground.phase }, { on := 63, ground := Ground.phase }]).toArray, guard := none }) (v := ?_) rfl (by kernel_rfl) (by kernel_rfl) (by kernel_rfl) (fun _ _ _ h => h) (Or.inl ⟨by rfl, ?_⟩) (by assumption) ?_
  rotate_left
  · intro w hSw
    try dsimp only at hSw
    go_simp
    try with_reducible rfl
  try simp only [Act.put, List.setIfInBounds_toArray, List.set_cons_zero, List.set_cons_succ]
  refine wpAnyH_done (by kernel_rfl) ?_ _
  refine NoPanic.normal ?_
  go_wp2_with fail
  go_ret
  exact ⟨rfl, (F0.out.trans F6.out).trans V9.out⟩
end Go.Proofs.Ytkchpegpmpijcaa.M
