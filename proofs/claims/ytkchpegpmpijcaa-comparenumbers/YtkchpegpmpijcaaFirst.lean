/- Contract of the program's First. -/
import Derived.Test.YtkchpegpmpijcaaFst
import Derived.Deep.RegionHeld3
namespace Go.Proofs.Ytkchpegpmpijcaa.M
open Go.ChangeShapes Go.WideShapes Go.ChangeAt Go.RowKit Go.Proofs.Ytkchpegpmpijcaa.Walks
set_option linter.unusedVariables false
set_option maxRecDepth 100000 in
set_option maxHeartbeats 1000000 in
theorem first_as (A B : Option Addr) (n m ca cb : Nat) (f g : Nat → Rt) (hn : (n : Int) ≤ 1000000000000000) (hm : (m : Int) ≤ 1000000000000000) (w : World) (hA : Hid (RIn w A n f)) (hB : Hid (RIn w B m g)) :
    Calls Try.prog 11 #[.slice A n ca, .slice B m cb] w fun e w' => (∃ v, e = .returned (.int .i64 v) ∧ IsFst (fun j => (f j).eq (g j)) n m v) ∧ Fr w w' := by
  by_cases h : (m : Int) < n
  · have hle : (m : Int) ≤ n := by omega
    go_enter Try.func11, Try.ntmps11
    go_wp2_with fail
    go_loopw [13] (fun t wr => ∃ d : Nat, (d : Int) ≤ m ∧ t = .int .i64 d ∧ Hid ((∀ j, j < d → (f j).eq (g j) = true) ∧ Fr w wr)) (fun t _ => m - (intOf t).toNat)
    case atStart => exact ⟨0, by omega, rfl, fun j hj => by omega, Fr.refl w⟩
    case round =>
      obtain ⟨d, hd, rfl, HD⟩ := hrel
      rename_i wr
      by_cases hlt : (d : Int) < m
      · obtain ⟨a, oa, rfl, a1, a2⟩ := hA.out d (by omega)
        obtain ⟨b, ob, rfl, b1, b2⟩ := hB.out d (by omega)
        have dn : (d : Int) < n := by omega
        have dm : (d : Int) < m := by omega
        have keep : ∀ W : World, Fr w W → (W.rangeAt a (oa + d * 7) (f d).cs ∧ W.rangeAt b (ob + d * 7) (g d).cs ∧ Fr w W) := fun W F => ⟨range_fr a2 F a1, range_fr b2 F b1, F⟩
        have KP := hid keep
        clear a1 b1 a2 b2 keep
        cases ce : (f d).eq (g d) with
        | true =>
          have e := hid ce
          clear ce
          go_wp2_with fail
          refine wp_region_noPanic ?_
          refine wp_region_held_drew (S := fun w' => w'.rangeAt a (oa + d * 7) (f d).cs ∧ w'.rangeAt b (ob + d * 7) (g d).cs ∧ Fr w w') (by kernel_rfl) ?_ (fun hHeld => ?_)
          · exact KP.out _ (HD.out.2.alike ⟨rfl, rfl, rfl⟩)
          refine wpAnyH_take (i := 0) (oi := { dst := some 16, op := Op.move (Operand.tmp 0), type := 26, pos := "compare.go:35", after := #[], guard := none }) (v := ?_) rfl (by kernel_rfl) (by kernel_rfl) (by kernel_rfl) (fun _ _ _ h => h) (Or.inl ⟨by rfl, ?_⟩) (by assumption) ?_
          rotate_left
          · intro w hSw
            try dsimp only at hSw
            go_simp
            try with_reducible rfl
          try simp only [Act.put, List.setIfInBounds_toArray, List.set_cons_zero, List.set_cons_succ]
          refine wpAnyH_take (i := 1) (oi := { dst := some 17, op := Op.move (Operand.tmp 6), type := 3, pos := "compare.go:35", after := #[], guard := none }) (v := ?_) rfl (by kernel_rfl) (by kernel_rfl) (by kernel_rfl) (fun _ _ _ h => h) (Or.inl ⟨by rfl, ?_⟩) (by assumption) ?_
          rotate_left
          · intro w hSw
            try dsimp only at hSw
            go_simp
            try with_reducible rfl
          try simp only [Act.put, List.setIfInBounds_toArray, List.set_cons_zero, List.set_cons_succ]
          refine wpAnyH_take (i := 2) (oi := { dst := some 18, op := Op.indexAddr 26 (Operand.tmp 16) (Operand.tmp 17), type := 0, pos := "compare.go:35", after := #[{ on := 0, ground := Ground.data }, { on := 1, ground := Ground.data }], guard := none }) (v := ?_) rfl (by kernel_rfl) (by kernel_rfl) (by kernel_rfl) (fun _ _ _ h => h) (Or.inl ⟨by rfl, ?_⟩) (by assumption) ?_
          rotate_left
          · intro w hSw
            try dsimp only at hSw
            go_simp
            try with_reducible rfl
          try simp only [Act.put, List.setIfInBounds_toArray, List.set_cons_zero, List.set_cons_succ]
          refine wpAnyH_take (i := 3) (oi := { dst := some 19, op := Op.load 24 (Operand.tmp 18), type := 24, pos := "compare.go:35", after := #[{ on := 2, ground := Ground.data }], guard := none }) (v := _) rfl (by kernel_rfl) (by kernel_rfl) (by kernel_rfl) (fun _ _ _ h => h) (yieldsIf_load_mid (by rfl) 24 _ rfl a (oa + d * 7) rfl (f d).cs _ (fun w hw => hw.1) Try.underlying24 rfl size24) (by assumption) ?_
          try simp only [Act.put, List.setIfInBounds_toArray, List.set_cons_zero, List.set_cons_succ]
          refine wpAnyH_take (i := 4) (oi := { dst := some 20, op := Op.move (Operand.tmp 1), type := 26, pos := "compare.go:35", after := #[], guard := none }) (v := ?_) rfl (by kernel_rfl) (by kernel_rfl) (by kernel_rfl) (fun _ _ _ h => h) (Or.inl ⟨by rfl, ?_⟩) (by assumption) ?_
          rotate_left
          · intro w hSw
            try dsimp only at hSw
            go_simp
            try with_reducible rfl
          try simp only [Act.put, List.setIfInBounds_toArray, List.set_cons_zero, List.set_cons_succ]
          refine wpAnyH_take (i := 5) (oi := { dst := some 21, op := Op.move (Operand.tmp 6), type := 3, pos := "compare.go:35", after := #[], guard := none }) (v := ?_) rfl (by kernel_rfl) (by kernel_rfl) (by kernel_rfl) (fun _ _ _ h => h) (Or.inl ⟨by rfl, ?_⟩) (by assumption) ?_
          rotate_left
          · intro w hSw
            try dsimp only at hSw
            go_simp
            try with_reducible rfl
          try simp only [Act.put, List.setIfInBounds_toArray, List.set_cons_zero, List.set_cons_succ]
          refine wpAnyH_take (i := 6) (oi := { dst := some 22, op := Op.indexAddr 26 (Operand.tmp 20) (Operand.tmp 21), type := 0, pos := "compare.go:35", after := #[{ on := 4, ground := Ground.data }, { on := 5, ground := Ground.data }], guard := none }) (v := ?_) rfl (by kernel_rfl) (by kernel_rfl) (by kernel_rfl) (fun _ _ _ h => h) (Or.inl ⟨by rfl, ?_⟩) (by assumption) ?_
          rotate_left
          · intro w hSw
            try dsimp only at hSw
            go_simp
            try with_reducible rfl
          try simp only [Act.put, List.setIfInBounds_toArray, List.set_cons_zero, List.set_cons_succ]
          refine wpAnyH_take (i := 7) (oi := { dst := some 23, op := Op.load 24 (Operand.tmp 22), type := 24, pos := "compare.go:35", after := #[{ on := 6, ground := Ground.data }], guard := none }) (v := _) rfl (by kernel_rfl) (by kernel_rfl) (by kernel_rfl) (fun _ _ _ h => h) (yieldsIf_load_mid (by rfl) 24 _ rfl b (ob + d * 7) rfl (g d).cs _ (fun w hw => hw.2.1) Try.underlying24 rfl size24) (by assumption) ?_
          try simp only [Act.put, List.setIfInBounds_toArray, List.set_cons_zero, List.set_cons_succ]
          refine wpAnyH_ready (rs := [8]) (by kernel_rfl) (by simp) ?_
          refine AllReadyH.cons (o := { dst := some 24, op := Op.call { callee := Callee.value (Operand.func 6), args := #[Operand.tmp 19, Operand.tmp 23], argTypes := #[24, 24] }, type := 4, pos := "compare.go:35", after := #[{ on := 3, ground := Ground.data }, { on := 7, ground := Ground.data }], guard := none }) rfl (fun K hK => ?_) AllReadyH.nil
          go_simp
          refine (same_is (f d) (g d) true e _).mono ?_; rintro e1 w1 ⟨rfl, hF⟩
          have F1 : Hid (Fr w w1) := (HD.out.2.alike (w' := wr.drew) ⟨rfl, rfl, rfl⟩).trans hF
          clear hF
          go_wp2_with fail
          refine hK.out _ _ ?_ (fun hHeld => ?_)
          · exact KP.out _ F1.out
          clear hK K
          try simp only [Act.put, List.setIfInBounds_toArray, List.set_cons_zero, List.set_cons_succ]
          refine wpAnyH_take (i := 9) (oi := { dst := some 25, op := Op.unOp UnOp.not 4 (Operand.tmp 24), type := 4, pos := "compare.go:35", after := #[{ on := 8, ground := Ground.data }], guard := none }) (v := ?_) rfl (by kernel_rfl) (by kernel_rfl) (by kernel_rfl) (fun _ _ _ h => h) (Or.inl ⟨by rfl, ?_⟩) (by assumption) ?_
          rotate_left
          · intro w hSw
            try dsimp only at hSw
            go_simp
            try with_reducible rfl
          try simp only [Act.put, List.setIfInBounds_toArray, List.set_cons_zero, List.set_cons_succ]
          refine wpAnyH_done (by kernel_rfl) ?_ _
          refine NoPanic.normal ?_
          go_wp2_with fail
          refine ⟨⟨d + 1, by omega, by rw [Int.natCast_add]; rfl, fun j hj => ?_, F1.out⟩, by simp [intOf]; omega⟩
          by_cases x : j = d
          · rw [x]; exact e.out
          · exact HD.out.1 j (by omega)
        | false =>
          have e := hid ce
          clear ce
          go_wp2_with fail
          refine wp_region_noPanic ?_
          refine wp_region_held_drew (S := fun w' => w'.rangeAt a (oa + d * 7) (f d).cs ∧ w'.rangeAt b (ob + d * 7) (g d).cs ∧ Fr w w') (by kernel_rfl) ?_ (fun hHeld => ?_)
          · exact KP.out _ (HD.out.2.alike ⟨rfl, rfl, rfl⟩)
          refine wpAnyH_take (i := 0) (oi := { dst := some 16, op := Op.move (Operand.tmp 0), type := 26, pos := "compare.go:35", after := #[], guard := none }) (v := ?_) rfl (by kernel_rfl) (by kernel_rfl) (by kernel_rfl) (fun _ _ _ h => h) (Or.inl ⟨by rfl, ?_⟩) (by assumption) ?_
          rotate_left
          · intro w hSw
            try dsimp only at hSw
            go_simp
            try with_reducible rfl
          try simp only [Act.put, List.setIfInBounds_toArray, List.set_cons_zero, List.set_cons_succ]
          refine wpAnyH_take (i := 1) (oi := { dst := some 17, op := Op.move (Operand.tmp 6), type := 3, pos := "compare.go:35", after := #[], guard := none }) (v := ?_) rfl (by kernel_rfl) (by kernel_rfl) (by kernel_rfl) (fun _ _ _ h => h) (Or.inl ⟨by rfl, ?_⟩) (by assumption) ?_
          rotate_left
          · intro w hSw
            try dsimp only at hSw
            go_simp
            try with_reducible rfl
          try simp only [Act.put, List.setIfInBounds_toArray, List.set_cons_zero, List.set_cons_succ]
          refine wpAnyH_take (i := 2) (oi := { dst := some 18, op := Op.indexAddr 26 (Operand.tmp 16) (Operand.tmp 17), type := 0, pos := "compare.go:35", after := #[{ on := 0, ground := Ground.data }, { on := 1, ground := Ground.data }], guard := none }) (v := ?_) rfl (by kernel_rfl) (by kernel_rfl) (by kernel_rfl) (fun _ _ _ h => h) (Or.inl ⟨by rfl, ?_⟩) (by assumption) ?_
          rotate_left
          · intro w hSw
            try dsimp only at hSw
            go_simp
            try with_reducible rfl
          try simp only [Act.put, List.setIfInBounds_toArray, List.set_cons_zero, List.set_cons_succ]
          refine wpAnyH_take (i := 3) (oi := { dst := some 19, op := Op.load 24 (Operand.tmp 18), type := 24, pos := "compare.go:35", after := #[{ on := 2, ground := Ground.data }], guard := none }) (v := _) rfl (by kernel_rfl) (by kernel_rfl) (by kernel_rfl) (fun _ _ _ h => h) (yieldsIf_load_mid (by rfl) 24 _ rfl a (oa + d * 7) rfl (f d).cs _ (fun w hw => hw.1) Try.underlying24 rfl size24) (by assumption) ?_
          try simp only [Act.put, List.setIfInBounds_toArray, List.set_cons_zero, List.set_cons_succ]
          refine wpAnyH_take (i := 4) (oi := { dst := some 20, op := Op.move (Operand.tmp 1), type := 26, pos := "compare.go:35", after := #[], guard := none }) (v := ?_) rfl (by kernel_rfl) (by kernel_rfl) (by kernel_rfl) (fun _ _ _ h => h) (Or.inl ⟨by rfl, ?_⟩) (by assumption) ?_
          rotate_left
          · intro w hSw
            try dsimp only at hSw
            go_simp
            try with_reducible rfl
          try simp only [Act.put, List.setIfInBounds_toArray, List.set_cons_zero, List.set_cons_succ]
          refine wpAnyH_take (i := 5) (oi := { dst := some 21, op := Op.move (Operand.tmp 6), type := 3, pos := "compare.go:35", after := #[], guard := none }) (v := ?_) rfl (by kernel_rfl) (by kernel_rfl) (by kernel_rfl) (fun _ _ _ h => h) (Or.inl ⟨by rfl, ?_⟩) (by assumption) ?_
          rotate_left
          · intro w hSw
            try dsimp only at hSw
            go_simp
            try with_reducible rfl
          try simp only [Act.put, List.setIfInBounds_toArray, List.set_cons_zero, List.set_cons_succ]
          refine wpAnyH_take (i := 6) (oi := { dst := some 22, op := Op.indexAddr 26 (Operand.tmp 20) (Operand.tmp 21), type := 0, pos := "compare.go:35", after := #[{ on := 4, ground := Ground.data }, { on := 5, ground := Ground.data }], guard := none }) (v := ?_) rfl (by kernel_rfl) (by kernel_rfl) (by kernel_rfl) (fun _ _ _ h => h) (Or.inl ⟨by rfl, ?_⟩) (by assumption) ?_
          rotate_left
          · intro w hSw
            try dsimp only at hSw
            go_simp
            try with_reducible rfl
          try simp only [Act.put, List.setIfInBounds_toArray, List.set_cons_zero, List.set_cons_succ]
          refine wpAnyH_take (i := 7) (oi := { dst := some 23, op := Op.load 24 (Operand.tmp 22), type := 24, pos := "compare.go:35", after := #[{ on := 6, ground := Ground.data }], guard := none }) (v := _) rfl (by kernel_rfl) (by kernel_rfl) (by kernel_rfl) (fun _ _ _ h => h) (yieldsIf_load_mid (by rfl) 24 _ rfl b (ob + d * 7) rfl (g d).cs _ (fun w hw => hw.2.1) Try.underlying24 rfl size24) (by assumption) ?_
          try simp only [Act.put, List.setIfInBounds_toArray, List.set_cons_zero, List.set_cons_succ]
          refine wpAnyH_ready (rs := [8]) (by kernel_rfl) (by simp) ?_
          refine AllReadyH.cons (o := { dst := some 24, op := Op.call { callee := Callee.value (Operand.func 6), args := #[Operand.tmp 19, Operand.tmp 23], argTypes := #[24, 24] }, type := 4, pos := "compare.go:35", after := #[{ on := 3, ground := Ground.data }, { on := 7, ground := Ground.data }], guard := none }) rfl (fun K hK => ?_) AllReadyH.nil
          go_simp
          refine (same_is (f d) (g d) false e _).mono ?_; rintro e1 w1 ⟨rfl, hF⟩
          have F1 : Hid (Fr w w1) := (HD.out.2.alike (w' := wr.drew) ⟨rfl, rfl, rfl⟩).trans hF
          clear hF
          go_wp2_with fail
          refine hK.out _ _ ?_ (fun hHeld => ?_)
          · exact KP.out _ F1.out
          clear hK K
          try simp only [Act.put, List.setIfInBounds_toArray, List.set_cons_zero, List.set_cons_succ]
          refine wpAnyH_take (i := 9) (oi := { dst := some 25, op := Op.unOp UnOp.not 4 (Operand.tmp 24), type := 4, pos := "compare.go:35", after := #[{ on := 8, ground := Ground.data }], guard := none }) (v := ?_) rfl (by kernel_rfl) (by kernel_rfl) (by kernel_rfl) (fun _ _ _ h => h) (Or.inl ⟨by rfl, ?_⟩) (by assumption) ?_
          rotate_left
          · intro w hSw
            try dsimp only at hSw
            go_simp
            try with_reducible rfl
          try simp only [Act.put, List.setIfInBounds_toArray, List.set_cons_zero, List.set_cons_succ]
          refine wpAnyH_done (by kernel_rfl) ?_ _
          refine NoPanic.normal ?_
          go_wp2_with fail
          go_ret
          exact ⟨⟨_, rfl, .inr ⟨d, rfl, HD.out.1, by omega, by omega, .inl ⟨by omega, by omega, e.out⟩⟩⟩, F1.out⟩
      · obtain rfl : m = d := by omega
        have x : ¬ (n : Int) = m := by omega
        go_wp2_with fail
        go_ret
        exact ⟨⟨_, rfl, .inr ⟨m, rfl, HD.out.1, by omega, by omega, .inr ⟨by omega, by omega⟩⟩⟩, HD.out.2⟩
  · have hle : (n : Int) ≤ m := by omega
    go_enter Try.func11, Try.ntmps11
    go_wp2_with fail
    go_loopw [13] (fun t wr => ∃ d : Nat, (d : Int) ≤ n ∧ t = .int .i64 d ∧ Hid ((∀ j, j < d → (f j).eq (g j) = true) ∧ Fr w wr)) (fun t _ => n - (intOf t).toNat)
    case atStart => exact ⟨0, by omega, rfl, fun j hj => by omega, Fr.refl w⟩
    case round =>
      obtain ⟨d, hd, rfl, HD⟩ := hrel
      rename_i wr
      by_cases hlt : (d : Int) < n
      · obtain ⟨a, oa, rfl, a1, a2⟩ := hA.out d (by omega)
        obtain ⟨b, ob, rfl, b1, b2⟩ := hB.out d (by omega)
        have dn : (d : Int) < n := by omega
        have dm : (d : Int) < m := by omega
        have keep : ∀ W : World, Fr w W → (W.rangeAt a (oa + d * 7) (f d).cs ∧ W.rangeAt b (ob + d * 7) (g d).cs ∧ Fr w W) := fun W F => ⟨range_fr a2 F a1, range_fr b2 F b1, F⟩
        have KP := hid keep
        clear a1 b1 a2 b2 keep
        cases ce : (f d).eq (g d) with
        | true =>
          have e := hid ce
          clear ce
          go_wp2_with fail
          refine wp_region_noPanic ?_
          refine wp_region_held_drew (S := fun w' => w'.rangeAt a (oa + d * 7) (f d).cs ∧ w'.rangeAt b (ob + d * 7) (g d).cs ∧ Fr w w') (by kernel_rfl) ?_ (fun hHeld => ?_)
          · exact KP.out _ (HD.out.2.alike ⟨rfl, rfl, rfl⟩)
          refine wpAnyH_take (i := 0) (oi := { dst := some 16, op := Op.move (Operand.tmp 0), type := 26, pos := "compare.go:35", after := #[], guard := none }) (v := ?_) rfl (by kernel_rfl) (by kernel_rfl) (by kernel_rfl) (fun _ _ _ h => h) (Or.inl ⟨by rfl, ?_⟩) (by assumption) ?_
          rotate_left
          · intro w hSw
            try dsimp only at hSw
            go_simp
            try with_reducible rfl
          try simp only [Act.put, List.setIfInBounds_toArray, List.set_cons_zero, List.set_cons_succ]
          refine wpAnyH_take (i := 1) (oi := { dst := some 17, op := Op.move (Operand.tmp 6), type := 3, pos := "compare.go:35", after := #[], guard := none }) (v := ?_) rfl (by kernel_rfl) (by kernel_rfl) (by kernel_rfl) (fun _ _ _ h => h) (Or.inl ⟨by rfl, ?_⟩) (by assumption) ?_
          rotate_left
          · intro w hSw
            try dsimp only at hSw
            go_simp
            try with_reducible rfl
          try simp only [Act.put, List.setIfInBounds_toArray, List.set_cons_zero, List.set_cons_succ]
          refine wpAnyH_take (i := 2) (oi := { dst := some 18, op := Op.indexAddr 26 (Operand.tmp 16) (Operand.tmp 17), type := 0, pos := "compare.go:35", after := #[{ on := 0, ground := Ground.data }, { on := 1, ground := Ground.data }], guard := none }) (v := ?_) rfl (by kernel_rfl) (by kernel_rfl) (by kernel_rfl) (fun _ _ _ h => h) (Or.inl ⟨by rfl, ?_⟩) (by assumption) ?_
          rotate_left
          · intro w hSw
            try dsimp only at hSw
            go_simp
            try with_reducible rfl
          try simp only [Act.put, List.setIfInBounds_toArray, List.set_cons_zero, List.set_cons_succ]
          refine wpAnyH_take (i := 3) (oi := { dst := some 19, op := Op.load 24 (Operand.tmp 18), type := 24, pos := "compare.go:35", after := #[{ on := 2, ground := Ground.data }], guard := none }) (v := _) rfl (by kernel_rfl) (by kernel_rfl) (by kernel_rfl) (fun _ _ _ h => h) (yieldsIf_load_mid (by rfl) 24 _ rfl a (oa + d * 7) rfl (f d).cs _ (fun w hw => hw.1) Try.underlying24 rfl size24) (by assumption) ?_
          try simp only [Act.put, List.setIfInBounds_toArray, List.set_cons_zero, List.set_cons_succ]
          refine wpAnyH_take (i := 4) (oi := { dst := some 20, op := Op.move (Operand.tmp 1), type := 26, pos := "compare.go:35", after := #[], guard := none }) (v := ?_) rfl (by kernel_rfl) (by kernel_rfl) (by kernel_rfl) (fun _ _ _ h => h) (Or.inl ⟨by rfl, ?_⟩) (by assumption) ?_
          rotate_left
          · intro w hSw
            try dsimp only at hSw
            go_simp
            try with_reducible rfl
          try simp only [Act.put, List.setIfInBounds_toArray, List.set_cons_zero, List.set_cons_succ]
          refine wpAnyH_take (i := 5) (oi := { dst := some 21, op := Op.move (Operand.tmp 6), type := 3, pos := "compare.go:35", after := #[], guard := none }) (v := ?_) rfl (by kernel_rfl) (by kernel_rfl) (by kernel_rfl) (fun _ _ _ h => h) (Or.inl ⟨by rfl, ?_⟩) (by assumption) ?_
          rotate_left
          · intro w hSw
            try dsimp only at hSw
            go_simp
            try with_reducible rfl
          try simp only [Act.put, List.setIfInBounds_toArray, List.set_cons_zero, List.set_cons_succ]
          refine wpAnyH_take (i := 6) (oi := { dst := some 22, op := Op.indexAddr 26 (Operand.tmp 20) (Operand.tmp 21), type := 0, pos := "compare.go:35", after := #[{ on := 4, ground := Ground.data }, { on := 5, ground := Ground.data }], guard := none }) (v := ?_) rfl (by kernel_rfl) (by kernel_rfl) (by kernel_rfl) (fun _ _ _ h => h) (Or.inl ⟨by rfl, ?_⟩) (by assumption) ?_
          rotate_left
          · intro w hSw
            try dsimp only at hSw
            go_simp
            try with_reducible rfl
          try simp only [Act.put, List.setIfInBounds_toArray, List.set_cons_zero, List.set_cons_succ]
          refine wpAnyH_take (i := 7) (oi := { dst := some 23, op := Op.load 24 (Operand.tmp 22), type := 24, pos := "compare.go:35", after := #[{ on := 6, ground := Ground.data }], guard := none }) (v := _) rfl (by kernel_rfl) (by kernel_rfl) (by kernel_rfl) (fun _ _ _ h => h) (yieldsIf_load_mid (by rfl) 24 _ rfl b (ob + d * 7) rfl (g d).cs _ (fun w hw => hw.2.1) Try.underlying24 rfl size24) (by assumption) ?_
          try simp only [Act.put, List.setIfInBounds_toArray, List.set_cons_zero, List.set_cons_succ]
          refine wpAnyH_ready (rs := [8]) (by kernel_rfl) (by simp) ?_
          refine AllReadyH.cons (o := { dst := some 24, op := Op.call { callee := Callee.value (Operand.func 6), args := #[Operand.tmp 19, Operand.tmp 23], argTypes := #[24, 24] }, type := 4, pos := "compare.go:35", after := #[{ on := 3, ground := Ground.data }, { on := 7, ground := Ground.data }], guard := none }) rfl (fun K hK => ?_) AllReadyH.nil
          go_simp
          refine (same_is (f d) (g d) true e _).mono ?_; rintro e1 w1 ⟨rfl, hF⟩
          have F1 : Hid (Fr w w1) := (HD.out.2.alike (w' := wr.drew) ⟨rfl, rfl, rfl⟩).trans hF
          clear hF
          go_wp2_with fail
          refine hK.out _ _ ?_ (fun hHeld => ?_)
          · exact KP.out _ F1.out
          clear hK K
          try simp only [Act.put, List.setIfInBounds_toArray, List.set_cons_zero, List.set_cons_succ]
          refine wpAnyH_take (i := 9) (oi := { dst := some 25, op := Op.unOp UnOp.not 4 (Operand.tmp 24), type := 4, pos := "compare.go:35", after := #[{ on := 8, ground := Ground.data }], guard := none }) (v := ?_) rfl (by kernel_rfl) (by kernel_rfl) (by kernel_rfl) (fun _ _ _ h => h) (Or.inl ⟨by rfl, ?_⟩) (by assumption) ?_
          rotate_left
          · intro w hSw
            try dsimp only at hSw
            go_simp
            try with_reducible rfl
          try simp only [Act.put, List.setIfInBounds_toArray, List.set_cons_zero, List.set_cons_succ]
          refine wpAnyH_done (by kernel_rfl) ?_ _
          refine NoPanic.normal ?_
          go_wp2_with fail
          refine ⟨⟨d + 1, by omega, by rw [Int.natCast_add]; rfl, fun j hj => ?_, F1.out⟩, by simp [intOf]; omega⟩
          by_cases x : j = d
          · rw [x]; exact e.out
          · exact HD.out.1 j (by omega)
        | false =>
          have e := hid ce
          clear ce
          go_wp2_with fail
          refine wp_region_noPanic ?_
          refine wp_region_held_drew (S := fun w' => w'.rangeAt a (oa + d * 7) (f d).cs ∧ w'.rangeAt b (ob + d * 7) (g d).cs ∧ Fr w w') (by kernel_rfl) ?_ (fun hHeld => ?_)
          · exact KP.out _ (HD.out.2.alike ⟨rfl, rfl, rfl⟩)
          refine wpAnyH_take (i := 0) (oi := { dst := some 16, op := Op.move (Operand.tmp 0), type := 26, pos := "compare.go:35", after := #[], guard := none }) (v := ?_) rfl (by kernel_rfl) (by kernel_rfl) (by kernel_rfl) (fun _ _ _ h => h) (Or.inl ⟨by rfl, ?_⟩) (by assumption) ?_
          rotate_left
          · intro w hSw
            try dsimp only at hSw
            go_simp
            try with_reducible rfl
          try simp only [Act.put, List.setIfInBounds_toArray, List.set_cons_zero, List.set_cons_succ]
          refine wpAnyH_take (i := 1) (oi := { dst := some 17, op := Op.move (Operand.tmp 6), type := 3, pos := "compare.go:35", after := #[], guard := none }) (v := ?_) rfl (by kernel_rfl) (by kernel_rfl) (by kernel_rfl) (fun _ _ _ h => h) (Or.inl ⟨by rfl, ?_⟩) (by assumption) ?_
          rotate_left
          · intro w hSw
            try dsimp only at hSw
            go_simp
            try with_reducible rfl
          try simp only [Act.put, List.setIfInBounds_toArray, List.set_cons_zero, List.set_cons_succ]
          refine wpAnyH_take (i := 2) (oi := { dst := some 18, op := Op.indexAddr 26 (Operand.tmp 16) (Operand.tmp 17), type := 0, pos := "compare.go:35", after := #[{ on := 0, ground := Ground.data }, { on := 1, ground := Ground.data }], guard := none }) (v := ?_) rfl (by kernel_rfl) (by kernel_rfl) (by kernel_rfl) (fun _ _ _ h => h) (Or.inl ⟨by rfl, ?_⟩) (by assumption) ?_
          rotate_left
          · intro w hSw
            try dsimp only at hSw
            go_simp
            try with_reducible rfl
          try simp only [Act.put, List.setIfInBounds_toArray, List.set_cons_zero, List.set_cons_succ]
          refine wpAnyH_take (i := 3) (oi := { dst := some 19, op := Op.load 24 (Operand.tmp 18), type := 24, pos := "compare.go:35", after := #[{ on := 2, ground := Ground.data }], guard := none }) (v := _) rfl (by kernel_rfl) (by kernel_rfl) (by kernel_rfl) (fun _ _ _ h => h) (yieldsIf_load_mid (by rfl) 24 _ rfl a (oa + d * 7) rfl (f d).cs _ (fun w hw => hw.1) Try.underlying24 rfl size24) (by assumption) ?_
          try simp only [Act.put, List.setIfInBounds_toArray, List.set_cons_zero, List.set_cons_succ]
          refine wpAnyH_take (i := 4) (oi := { dst := some 20, op := Op.move (Operand.tmp 1), type := 26, pos := "compare.go:35", after := #[], guard := none }) (v := ?_) rfl (by kernel_rfl) (by kernel_rfl) (by kernel_rfl) (fun _ _ _ h => h) (Or.inl ⟨by rfl, ?_⟩) (by assumption) ?_
          rotate_left
          · intro w hSw
            try dsimp only at hSw
            go_simp
            try with_reducible rfl
          try simp only [Act.put, List.setIfInBounds_toArray, List.set_cons_zero, List.set_cons_succ]
          refine wpAnyH_take (i := 5) (oi := { dst := some 21, op := Op.move (Operand.tmp 6), type := 3, pos := "compare.go:35", after := #[], guard := none }) (v := ?_) rfl (by kernel_rfl) (by kernel_rfl) (by kernel_rfl) (fun _ _ _ h => h) (Or.inl ⟨by rfl, ?_⟩) (by assumption) ?_
          rotate_left
          · intro w hSw
            try dsimp only at hSw
            go_simp
            try with_reducible rfl
          try simp only [Act.put, List.setIfInBounds_toArray, List.set_cons_zero, List.set_cons_succ]
          refine wpAnyH_take (i := 6) (oi := { dst := some 22, op := Op.indexAddr 26 (Operand.tmp 20) (Operand.tmp 21), type := 0, pos := "compare.go:35", after := #[{ on := 4, ground := Ground.data }, { on := 5, ground := Ground.data }], guard := none }) (v := ?_) rfl (by kernel_rfl) (by kernel_rfl) (by kernel_rfl) (fun _ _ _ h => h) (Or.inl ⟨by rfl, ?_⟩) (by assumption) ?_
          rotate_left
          · intro w hSw
            try dsimp only at hSw
            go_simp
            try with_reducible rfl
          try simp only [Act.put, List.setIfInBounds_toArray, List.set_cons_zero, List.set_cons_succ]
          refine wpAnyH_take (i := 7) (oi := { dst := some 23, op := Op.load 24 (Operand.tmp 22), type := 24, pos := "compare.go:35", after := #[{ on := 6, ground := Ground.data }], guard := none }) (v := _) rfl (by kernel_rfl) (by kernel_rfl) (by kernel_rfl) (fun _ _ _ h => h) (yieldsIf_load_mid (by rfl) 24 _ rfl b (ob + d * 7) rfl (g d).cs _ (fun w hw => hw.2.1) Try.underlying24 rfl size24) (by assumption) ?_
          try simp only [Act.put, List.setIfInBounds_toArray, List.set_cons_zero, List.set_cons_succ]
          refine wpAnyH_ready (rs := [8]) (by kernel_rfl) (by simp) ?_
          refine AllReadyH.cons (o := { dst := some 24, op := Op.call { callee := Callee.value (Operand.func 6), args := #[Operand.tmp 19, Operand.tmp 23], argTypes := #[24, 24] }, type := 4, pos := "compare.go:35", after := #[{ on := 3, ground := Ground.data }, { on := 7, ground := Ground.data }], guard := none }) rfl (fun K hK => ?_) AllReadyH.nil
          go_simp
          refine (same_is (f d) (g d) false e _).mono ?_; rintro e1 w1 ⟨rfl, hF⟩
          have F1 : Hid (Fr w w1) := (HD.out.2.alike (w' := wr.drew) ⟨rfl, rfl, rfl⟩).trans hF
          clear hF
          go_wp2_with fail
          refine hK.out _ _ ?_ (fun hHeld => ?_)
          · exact KP.out _ F1.out
          clear hK K
          try simp only [Act.put, List.setIfInBounds_toArray, List.set_cons_zero, List.set_cons_succ]
          refine wpAnyH_take (i := 9) (oi := { dst := some 25, op := Op.unOp UnOp.not 4 (Operand.tmp 24), type := 4, pos := "compare.go:35", after := #[{ on := 8, ground := Ground.data }], guard := none }) (v := ?_) rfl (by kernel_rfl) (by kernel_rfl) (by kernel_rfl) (fun _ _ _ h => h) (Or.inl ⟨by rfl, ?_⟩) (by assumption) ?_
          rotate_left
          · intro w hSw
            try dsimp only at hSw
            go_simp
            try with_reducible rfl
          try simp only [Act.put, List.setIfInBounds_toArray, List.set_cons_zero, List.set_cons_succ]
          refine wpAnyH_done (by kernel_rfl) ?_ _
          refine NoPanic.normal ?_
          go_wp2_with fail
          go_ret
          exact ⟨⟨_, rfl, .inr ⟨d, rfl, HD.out.1, by omega, by omega, .inl ⟨by omega, by omega, e.out⟩⟩⟩, F1.out⟩
      · obtain rfl : n = d := by omega
        by_cases x : (n : Int) = m
        · obtain rfl : n = m := by omega
          go_wp2_with fail
          go_ret
          exact ⟨⟨_, rfl, .inl ⟨rfl, rfl, HD.out.1⟩⟩, HD.out.2⟩
        · go_wp2_with fail
          go_ret
          exact ⟨⟨_, rfl, .inr ⟨n, rfl, HD.out.1, by omega, by omega, .inr ⟨by omega, by omega⟩⟩⟩, HD.out.2⟩
end Go.Proofs.Ytkchpegpmpijcaa.M
