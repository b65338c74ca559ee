/- CompareNumbers: its walk. -/
import Derived.Test.YtkchpegpmpijcaaStores
import Derived.Deep.RegionHeld3
import Derived.Deep.CutRange
import Derived.Deep.CutBlock
import Derived.BigQuiet
import Derived.Deep.QuietTactic
namespace Go.Proofs.Ytkchpegpmpijcaa.M
open Go.ChangeShapes Go.WideShapes Go.ChangeAt Go.RowKit Go.Proofs.Ytkchpegpmpijcaa.Walks
set_option linter.unusedVariables false
theorem range_alike {W W' : World} {b o : Nat} {cs : List Value} (h : W.rangeAt b o cs) (e : W'.Alike W) : W'.rangeAt b o cs := range_block h (by rw [e.1])
theorem there_alike {W W' : World} {b n : Nat} (h : W.there b 0 n) (e : W'.Alike W) : W'.there b 0 n := fun j hj => by
  have hb : W'.heap[b]? = W.heap[b]? := by rw [e.1]
  rw [World.cell?_of_block (w := W) hb, World.frozen?_of_block (w := W) hb]; exact h j hj
theorem win_second (W : World) (o : Obj) (f : Nat → Int) (n : Nat) : WIn ((W.alloc o).alloc (.cells (wl f n).toArray 22)) (some ⟨W.heap.size + 1, 0, none⟩) n f := by
  have h := WIn.new (W.alloc o) f n _ rfl 22
  rwa [size1] at h
/-- a state of two words of memory -/
def sM (b : Nat) (v : Int) : Ss := ⟨0, fun _ => 0, fun _ => 0, some ⟨b, 0, none⟩, 2, 2, fun j => if j = 0 then 1 else v⟩
theorem eq_st (a b : Nat) : (sM a 2).eq (sM b 3) = false := by rfl
theorem eq_ss (a : Nat) : (sM a 2).eq (sM a 2) = true := by rfl
theorem eq_su (a : Nat) : (sM a 2).eq ⟨0, fun i => if i = 7 then 1 else 0, fun _ => 0, some ⟨a, 0, none⟩, 2, 2, fun j => if j = 0 then 1 else 2⟩ = false := by rfl
theorem eq_sv (a : Nat) : (sM a 2).eq ⟨0, fun _ => 0, fun i => if i = 4 then 1 else 0, some ⟨a, 0, none⟩, 2, 2, fun j => if j = 0 then 1 else 2⟩ = false := by rfl
theorem eq_sp (a b : Nat) : (sM a 2).eq ⟨0, fun _ => 0, fun _ => 0, some ⟨b, 0, none⟩, 1, 1, fun _ => 1⟩ = false := by rfl
theorem In.but {b c : Nat} {v : Int} {W W' : World} (h : (sM c v).In W) (U : But b W W') (e : c ≠ b) : (sM c v).In W' := ⟨h.1, fun j hj => by
  obtain ⟨b', o, e1, h1, h2⟩ := h.2 j hj
  have e2 : c = b' := by
    have := congrArg (fun a => a.map Addr.block) e1
    simpa [sM] using this
  subst e2
  refine ⟨c, o, e1, Nat.lt_of_lt_of_le h1 U.size, ?_⟩
  rw [World.cell?_of_block (w := W) (U.block c h1 e)]
  exact h2⟩
theorem four (W : World) : ((((W.alloc (.cells (wl (fun j => if j = 0 then 1 else 2) 2).toArray 22)).alloc (.cells (wl (fun j => if j = 0 then 1 else 3) 2).toArray 22)).alloc (.cells (zS 0).cs.toArray 32)).alloc (.cells (zS 0).cs.toArray 32)).there (W.heap.size + 1 + 1) 0 39 ∧
    ((((W.alloc (.cells (wl (fun j => if j = 0 then 1 else 2) 2).toArray 22)).alloc (.cells (wl (fun j => if j = 0 then 1 else 3) 2).toArray 22)).alloc (.cells (zS 0).cs.toArray 32)).alloc (.cells (zS 0).cs.toArray 32)).there (W.heap.size + 1 + 1 + 1) 0 39 ∧
    (sM W.heap.size 2).In ((((W.alloc (.cells (wl (fun j => if j = 0 then 1 else 2) 2).toArray 22)).alloc (.cells (wl (fun j => if j = 0 then 1 else 3) 2).toArray 22)).alloc (.cells (zS 0).cs.toArray 32)).alloc (.cells (zS 0).cs.toArray 32)) ∧
    (sM (W.heap.size + 1) 3).In ((((W.alloc (.cells (wl (fun j => if j = 0 then 1 else 2) 2).toArray 22)).alloc (.cells (wl (fun j => if j = 0 then 1 else 3) 2).toArray 22)).alloc (.cells (zS 0).cs.toArray 32)).alloc (.cells (zS 0).cs.toArray 32)) := by
  generalize h1 : W.alloc (.cells (wl (fun j => if j = 0 then 1 else 2) 2).toArray 22) = W1
  have s1 : W1.heap.size = W.heap.size + 1 := by rw [← h1]; exact size1 _ _
  have a1 : WIn W1 (some ⟨W.heap.size, 0, none⟩) 2 (fun j => if j = 0 then 1 else 2) := by rw [← h1]; exact WIn.new W _ 2 _ rfl 22
  clear h1
  generalize h2 : W1.alloc (.cells (wl (fun j => if j = 0 then 1 else 3) 2).toArray 22) = W2
  have s2 : W2.heap.size = W.heap.size + 1 + 1 := by rw [← h2, size1, s1]
  have f2 : Fr W1 W2 := by rw [← h2]; exact (Fr.refl _).alloc _
  have a2 : WIn W2 (some ⟨W.heap.size + 1, 0, none⟩) 2 (fun j => if j = 0 then 1 else 3) := by rw [← h2, ← s1]; exact WIn.new W1 _ 2 _ rfl 22
  clear h2
  generalize h3 : W2.alloc (.cells (zS 0).cs.toArray 32) = W3
  have s3 : W3.heap.size = W.heap.size + 1 + 1 + 1 := by rw [← h3, size1, s2]
  have f3 : Fr W2 W3 := by rw [← h3]; exact (Fr.refl _).alloc _
  have t3 : W3.there (W.heap.size + 1 + 1) 0 39 := by rw [← h3, ← s2]; have := there_new W2 (zS 0).cs 32; rwa [Ss.len] at this
  clear h3
  have f4 : Fr W3 (W3.alloc (.cells (zS 0).cs.toArray 32)) := (Fr.refl _).alloc _
  have t4 : (W3.alloc (.cells (zS 0).cs.toArray 32)).there (W.heap.size + 1 + 1 + 1) 0 39 := by rw [← s3]; have := there_new W3 (zS 0).cs 32; rwa [Ss.len] at this
  exact ⟨there_fr t3 f4 (by omega), t4, ⟨show ((2 : Nat) : Int) ≤ _ by decide, a1.fr (f2.trans (f3.trans f4))⟩, ⟨show ((2 : Nat) : Int) ≤ _ by decide, a2.fr (f3.trans f4)⟩⟩
def baseR : Rt := ⟨4, 5, 6, true, 8, 9, 3⟩
set_option maxRecDepth 100000 in
set_option maxHeartbeats 16000000 in
theorem numbers (w : World) : Calls Try.prog 3 #[] w fun e w' => e = .returned (.bool true) ∧ Fr w w' := by
  have KB : Hid (∀ W : World, Fr (w.alloc (.cells baseR.cs.toArray 24)) W → W.rangeAt w.heap.size 0 baseR.cs) := fun W F => range_fr (range_new w baseR.cs 24) F (by simp)
  have F0 : Hid (Fr w (w.alloc (.cells baseR.cs.toArray 24))) := (Fr.refl w).alloc _
  go_enter Try.func3, Try.ntmps3
  go_wp2_with fail
  go_loopw [2] (fun t wr => ∃ d : Nat, (d : Int) ≤ 8 ∧ t = .int .i64 d ∧ Hid (Fr (w.alloc (.cells baseR.cs.toArray 24)) wr)) (fun t _ => 8 - (intOf t).toNat)
  case atStart => exact ⟨0, by omega, rfl, Fr.refl _⟩
  case round =>
    obtain ⟨d, hd, rfl, HD⟩ := hrel
    rename_i wr
    obtain ⟨wq, hwq⟩ : ∃ u, u = wr := ⟨_, rfl⟩
    subst hwq
    by_cases hlt : (d : Int) < 8
    · have CC := hid (cells7 (KB.out _ HD.out))
      have x0 : wq.cell? ⟨w.heap.size, 0, none⟩ = some (.int .u32 4) := CC.out.1
      have x1 : wq.cell? ⟨w.heap.size, 1, none⟩ = some (.int .u32 5) := CC.out.2.1
      have x2 : wq.cell? ⟨w.heap.size, 2, none⟩ = some (.int .i64 6) := CC.out.2.2.1
      have x3 : wq.cell? ⟨w.heap.size, 3, none⟩ = some (.bool true) := CC.out.2.2.2.1
      have x4 : wq.cell? ⟨w.heap.size, 4, none⟩ = some (.int .u32 8) := CC.out.2.2.2.2.1
      have x5 : wq.cell? ⟨w.heap.size, 5, none⟩ = some (.int .u32 9) := CC.out.2.2.2.2.2.1
      have x6 : wq.cell? ⟨w.heap.size, 6, none⟩ = some (.int .i64 3) := CC.out.2.2.2.2.2.2
      have LB : w.heap.size < wq.heap.size := by have := HD.out.size; simp at this; omega
      go_upto_block 2 with fail
      go_cut [3] from 12 to 110 (fun s wx => s = .pointer (some ⟨wq.heap.size, 0, none⟩) ∧ ∃ x : Rt, Hid (wx.rangeAt wq.heap.size 0 x.cs ∧ Fr wq wx ∧ wq.heap.size < wx.heap.size ∧ baseR.eq x = ((d : Int) == 7)))
      case first =>
        have dd : d = 0 ∨ d = 1 ∨ d = 2 ∨ d = 3 ∨ d = 4 ∨ d = 5 ∨ d = 6 ∨ d = 7 := by omega
        clear hd hlt
        rcases dd with rfl | rfl | rfl | rfl | rfl | rfl | rfl | rfl
        · go_wp2_with fail
          go_meet
          exact ⟨rfl, ⟨5, 5, 6, true, 8, 9, 3⟩, ⟨range_new wq (Rt.cs ⟨5, 5, 6, true, 8, 9, 3⟩) 24, (Fr.refl wq).alloc _, by simp, rfl⟩⟩
        · go_wp2_with fail
          go_meet
          exact ⟨rfl, ⟨4, 6, 6, true, 8, 9, 3⟩, ⟨range_new wq (Rt.cs ⟨4, 6, 6, true, 8, 9, 3⟩) 24, (Fr.refl wq).alloc _, by simp, rfl⟩⟩
        · go_wp2_with fail
          go_meet
          exact ⟨rfl, ⟨4, 5, 7, true, 8, 9, 3⟩, ⟨range_new wq (Rt.cs ⟨4, 5, 7, true, 8, 9, 3⟩) 24, (Fr.refl wq).alloc _, by simp, rfl⟩⟩
        · go_wp2_with fail
          go_meet
          exact ⟨rfl, ⟨4, 5, 6, false, 8, 9, 3⟩, ⟨range_new wq (Rt.cs ⟨4, 5, 6, false, 8, 9, 3⟩) 24, (Fr.refl wq).alloc _, by simp, rfl⟩⟩
        · go_wp2_with fail
          go_meet
          exact ⟨rfl, ⟨4, 5, 6, true, 9, 9, 3⟩, ⟨range_new wq (Rt.cs ⟨4, 5, 6, true, 9, 9, 3⟩) 24, (Fr.refl wq).alloc _, by simp, rfl⟩⟩
        · go_wp2_with fail
          go_meet
          exact ⟨rfl, ⟨4, 5, 6, true, 8, 10, 3⟩, ⟨range_new wq (Rt.cs ⟨4, 5, 6, true, 8, 10, 3⟩) 24, (Fr.refl wq).alloc _, by simp, rfl⟩⟩
        · go_wp2_with fail
          go_meet
          exact ⟨rfl, ⟨4, 5, 6, true, 8, 9, 4⟩, ⟨range_new wq (Rt.cs ⟨4, 5, 6, true, 8, 9, 4⟩) 24, (Fr.refl wq).alloc _, by simp, rfl⟩⟩
        · go_wp2_with fail
          go_meet
          exact ⟨rfl, ⟨4, 5, 6, true, 8, 9, 3⟩, ⟨range_new wq (Rt.cs ⟨4, 5, 6, true, 8, 9, 3⟩) 24, (Fr.refl wq).alloc _, by simp, rfl⟩⟩
      case rest =>
        obtain ⟨rfl, x, HX⟩ := hcut
        obtain ⟨c, hc⟩ : ∃ c, baseR.eq x = c := ⟨_, rfl⟩
        have E1 := hid hc
        have E2 : Hid (x.eq baseR = c) := by unfold Hid; rw [Rt.eq_symm]; exact hc
        have e7 : ((d : Int) == 7) = c := by rw [← hc]; exact HX.out.2.2.2.symm
        have FW : Hid (Fr (w.alloc (.cells baseR.cs.toArray 24)) wc) := HD.out.trans HX.out.2.1
        have KX : Hid (∀ W : World, Fr wc W → (W.rangeAt w.heap.size 0 baseR.cs ∧ W.rangeAt wq.heap.size 0 x.cs ∧ Fr (w.alloc (.cells baseR.cs.toArray 24)) W)) := fun W F => ⟨KB.out W (FW.out.trans F), range_fr HX.out.1 F HX.out.2.2.1, FW.out.trans F⟩
        clear hc x0 x1 x2 x3 x4 x5 x6 CC HX
        go_wp2_with (first
  | (refine load_want (by rfl) 24 _ rfl w.heap.size 0 rfl baseR.cs _ (KX.out _ (Fr.refl wc)).1 Try.underlying24 rfl size24 ?_)
  | (refine load_want (by rfl) 24 _ rfl wq.heap.size 0 rfl x.cs _ (KX.out _ (Fr.refl wc)).2.1 Try.underlying24 rfl size24 ?_))
        refine (same_is baseR x c E1 _).mono ?_; rintro e u1 ⟨rfl, hF⟩
        have V1 := hid hF
        clear hF
        go_wp2_with (first
  | (refine load_want (by rfl) 24 _ rfl w.heap.size 0 rfl baseR.cs _ (KX.out _ V1.out).1 Try.underlying24 rfl size24 ?_)
  | (refine load_want (by rfl) 24 _ rfl wq.heap.size 0 rfl x.cs _ (KX.out _ V1.out).2.1 Try.underlying24 rfl size24 ?_))
        refine (same_is x baseR c E2 _).mono ?_; rintro e u2 ⟨rfl, hF⟩
        have V2 : Hid (Fr wc u2) := V1.out.trans hF
        clear hF
        go_wp2_with fail
        clear e7
        obtain ⟨z1, hz1⟩ : ∃ z, IntKind.u32.wrap (bits .and .i64 (d : Int) 1) = z := ⟨_, rfl⟩
        obtain ⟨v, hv⟩ : ∃ v, IntKind.u32.wrap (3 + z1) = v := ⟨_, rfl⟩
        have wd : IntKind.u32.wrap (d : Int) = d := by
          have dd : d = 0 ∨ d = 1 ∨ d = 2 ∨ d = 3 ∨ d = 4 ∨ d = 5 ∨ d = 6 ∨ d = 7 := by omega
          rcases dd with rfl | rfl | rfl | rfl | rfl | rfl | rfl | rfl <;> decide
        have Z1 := hid hz1
        have ZV := hid hv
        have WD := hid wd
        clear hz1 hv wd
        go_loopw [4, 5, 6] (fun t a b wi => ∃ i : Nat, (i : Int) ≤ 4 ∧ t = .int .i64 i ∧ Hid (Fr wc wi)) (fun t _ _ _ => 4 - (intOf t).toNat)
        case atStart => exact ⟨0, by omega, rfl, V2.out⟩
        case round =>
          obtain ⟨i, hi, rfl, VI⟩ := hrel
          obtain ⟨wi, hwi⟩ : ∃ u, u = wr := ⟨_, rfl⟩
          subst hwi
          by_cases hl4 : (i : Int) < 4
          · have di : i = 0 ∨ i = 1 ∨ i = 2 ∨ i = 3 := by omega
            have K26 : Hid (∀ W : World, Fr wi W → (W.cell? ⟨w.heap.size, 0, none⟩ = some (.int .u32 4) ∧ W.cell? ⟨w.heap.size, 1, none⟩ = some (.int .u32 5) ∧ W.cell? ⟨w.heap.size, 2, none⟩ = some (.int .i64 6) ∧ W.cell? ⟨w.heap.size, 3, none⟩ = some (.bool true) ∧ W.cell? ⟨w.heap.size, 4, none⟩ = some (.int .u32 8) ∧ W.cell? ⟨w.heap.size, 5, none⟩ = some (.int .u32 9) ∧ W.cell? ⟨w.heap.size, 6, none⟩ = some (.int .i64 3) ∧ Fr wi W)) := fun W F => by
              have C := cells7 (KX.out W (VI.out.trans F)).1
              exact ⟨C.1, C.2.1, C.2.2.1, C.2.2.2.1, C.2.2.2.2.1, C.2.2.2.2.2.1, C.2.2.2.2.2.2, F⟩
            have F2 : Hid (Fr wi ((wi.alloc (.cells (rl (fun _ => baseR) 4).toArray 24)).alloc (.cells (rl (fun _ => baseR) 4).toArray 24))) := ((Fr.refl wi).alloc _).alloc _
            have R1 := hid (two_a wi (rl (fun _ => baseR) 4) (rl (fun _ => baseR) 4) 24 24)
            have R2 := hid (two_b wi (rl (fun _ => baseR) 4) (rl (fun _ => baseR) 4) 24 24)
            have T1 : Hid (((wi.alloc (.cells (rl (fun _ => baseR) 4).toArray 24)).alloc (.cells (rl (fun _ => baseR) 4).toArray 24)).there wi.heap.size 0 (4 * 7)) := there_fr (there_new wi (rl (fun _ => baseR) 4) 24) ((Fr.refl _).alloc _) (by simp)
            have T2 : Hid (((wi.alloc (.cells (rl (fun _ => baseR) 4).toArray 24)).alloc (.cells (rl (fun _ => baseR) 4).toArray 24)).there (wi.heap.size + 1) 0 (4 * 7)) := by have h := there_new (wi.alloc (.cells (rl (fun _ => baseR) 4).toArray 24)) (rl (fun _ => baseR) 4) 24; rw [size1] at h; exact h
            have hz1 := Z1.out
            have hv := ZV.out
            have wd := WD.out
            have k0 : IntKind.i64.wrap 0 = 0 := by decide
            have k1 : IntKind.i64.wrap 1 = 1 := by decide
            have k2 : IntKind.i64.wrap 2 = 2 := by decide
            have k3 : IntKind.i64.wrap 3 = 3 := by decide
            have k4 : IntKind.i64.wrap 4 = 4 := by decide
            have q0 : IntKind.u32.wrap 0 = 0 := by decide
            have q1 : IntKind.u32.wrap 1 = 1 := by decide
            have q2 : IntKind.u32.wrap 2 = 2 := by decide
            have q3 : IntKind.u32.wrap 3 = 3 := by decide
            have kp : IntKind.i64.wrap ((i : Int) + 1) = ((i + 1 : Nat) : Int) := by
              rcases di with rfl | rfl | rfl | rfl <;> decide
            have m4 : (i : Int).tmod 4 = (i : Int) := by
              rcases di with rfl | rfl | rfl | rfl <;> decide
            have qi : IntKind.u32.wrap (i : Int) = (i : Int) := by
              rcases di with rfl | rfl | rfl | rfl <;> decide
            obtain ⟨p, hp⟩ : ∃ p, i + 1 = p := ⟨_, rfl⟩
            rw [hp] at kp
            have p4 : p ≤ 4 := by omega
            have i3 : i ≤ 3 := by omega
            have p4' : (p : Int) ≤ 4 := by omega
            have i3' : (i : Int) ≤ 3 := by omega
            have HPP := hid hp
            clear hp di
            go_wp2_with fail
            refine wp_region_noPanic ?_
            refine wp_region_held_drew (S := fun w' => w'.cell? ⟨w.heap.size, 0, none⟩ = some (.int .u32 4) ∧ w'.cell? ⟨w.heap.size, 1, none⟩ = some (.int .u32 5) ∧ w'.cell? ⟨w.heap.size, 2, none⟩ = some (.int .i64 6) ∧ w'.cell? ⟨w.heap.size, 3, none⟩ = some (.bool true) ∧ w'.cell? ⟨w.heap.size, 4, none⟩ = some (.int .u32 8) ∧ w'.cell? ⟨w.heap.size, 5, none⟩ = some (.int .u32 9) ∧ w'.cell? ⟨w.heap.size, 6, none⟩ = some (.int .i64 3) ∧ Fr wi w') (by kernel_rfl) ?_ (fun hHeld => ?_)
            · exact K26.out _ ((Fr.refl wi).alike ⟨rfl, rfl, rfl⟩)
            refine wpAnyH_take (i := 0) (oi := { dst := some 75, op := Op.load 24 (Operand.tmp 1), type := 24, pos := "law.go:54", after := #[], guard := none }) (v := ?_) rfl (by kernel_rfl) (by kernel_rfl) (by kernel_rfl) (fun _ _ _ h => h) (Or.inl ⟨by rfl, ?_⟩) (by assumption) ?_
            rotate_left
            · intro w hSw
              try dsimp only at hSw
              obtain ⟨x0, x1, x2, x3, x4, x5, x6, _⟩ := hSw
              go_simp
              try with_reducible rfl
            try simp only [Act.put, List.setIfInBounds_toArray, List.set_cons_zero, List.set_cons_succ]
            refine wpAnyH_take (i := 1) (oi := { dst := some 76, op := Op.load 24 (Operand.tmp 1), type := 24, pos := "law.go:54", after := #[], guard := none }) (v := ?_) rfl (by kernel_rfl) (by kernel_rfl) (by kernel_rfl) (fun _ _ _ h => h) (Or.inl ⟨by rfl, ?_⟩) (by assumption) ?_
            rotate_left
            · intro w hSw
              try dsimp only at hSw
              obtain ⟨x0, x1, x2, x3, x4, x5, x6, _⟩ := hSw
              go_simp
              try with_reducible rfl
            try simp only [Act.put, List.setIfInBounds_toArray, List.set_cons_zero, List.set_cons_succ]
            refine wpAnyH_take (i := 2) (oi := { dst := some 77, op := Op.load 24 (Operand.tmp 1), type := 24, pos := "law.go:54", after := #[], guard := none }) (v := ?_) rfl (by kernel_rfl) (by kernel_rfl) (by kernel_rfl) (fun _ _ _ h => h) (Or.inl ⟨by rfl, ?_⟩) (by assumption) ?_
            rotate_left
            · intro w hSw
              try dsimp only at hSw
              obtain ⟨x0, x1, x2, x3, x4, x5, x6, _⟩ := hSw
              go_simp
              try with_reducible rfl
            try simp only [Act.put, List.setIfInBounds_toArray, List.set_cons_zero, List.set_cons_succ]
            refine wpAnyH_take (i := 3) (oi := { dst := some 78, op := Op.load 24 (Operand.tmp 1), type := 24, pos := "law.go:54", after := #[], guard := none }) (v := ?_) rfl (by kernel_rfl) (by kernel_rfl) (by kernel_rfl) (fun _ _ _ h => h) (Or.inl ⟨by rfl, ?_⟩) (by assumption) ?_
            rotate_left
            · intro w hSw
              try dsimp only at hSw
              obtain ⟨x0, x1, x2, x3, x4, x5, x6, _⟩ := hSw
              go_simp
              try with_reducible rfl
            try simp only [Act.put, List.setIfInBounds_toArray, List.set_cons_zero, List.set_cons_succ]
            refine wpAnyH_take (i := 5) (oi := { dst := some 80, op := Op.load 24 (Operand.tmp 1), type := 24, pos := "law.go:54", after := #[{ on := 10, ground := Ground.gcOnly Departure.lateStores }], guard := none }) (v := ?_) rfl (by kernel_rfl) (by kernel_rfl) (by kernel_rfl) (fun _ _ _ h => h) (Or.inl ⟨by rfl, ?_⟩) (by assumption) ?_
            rotate_left
            · intro w hSw
              try dsimp only at hSw
              obtain ⟨x0, x1, x2, x3, x4, x5, x6, _⟩ := hSw
              go_simp
              try with_reducible rfl
            try simp only [Act.put, List.setIfInBounds_toArray, List.set_cons_zero, List.set_cons_succ]
            refine wpAnyH_take (i := 6) (oi := { dst := some 81, op := Op.load 24 (Operand.tmp 1), type := 24, pos := "law.go:54", after := #[{ on := 10, ground := Ground.gcOnly Departure.lateStores }], guard := none }) (v := ?_) rfl (by kernel_rfl) (by kernel_rfl) (by kernel_rfl) (fun _ _ _ h => h) (Or.inl ⟨by rfl, ?_⟩) (by assumption) ?_
            rotate_left
            · intro w hSw
              try dsimp only at hSw
              obtain ⟨x0, x1, x2, x3, x4, x5, x6, _⟩ := hSw
              go_simp
              try with_reducible rfl
            try simp only [Act.put, List.setIfInBounds_toArray, List.set_cons_zero, List.set_cons_succ]
            refine wpAnyH_take (i := 7) (oi := { dst := some 82, op := Op.load 24 (Operand.tmp 1), type := 24, pos := "law.go:54", after := #[{ on := 10, ground := Ground.gcOnly Departure.lateStores }], guard := none }) (v := ?_) rfl (by kernel_rfl) (by kernel_rfl) (by kernel_rfl) (fun _ _ _ h => h) (Or.inl ⟨by rfl, ?_⟩) (by assumption) ?_
            rotate_left
            · intro w hSw
              try dsimp only at hSw
              obtain ⟨x0, x1, x2, x3, x4, x5, x6, _⟩ := hSw
              go_simp
              try with_reducible rfl
            try simp only [Act.put, List.setIfInBounds_toArray, List.set_cons_zero, List.set_cons_succ]
            refine wpAnyH_take (i := 8) (oi := { dst := some 83, op := Op.load 24 (Operand.tmp 1), type := 24, pos := "law.go:54", after := #[{ on := 10, ground := Ground.gcOnly Departure.lateStores }], guard := none }) (v := ?_) rfl (by kernel_rfl) (by kernel_rfl) (by kernel_rfl) (fun _ _ _ h => h) (Or.inl ⟨by rfl, ?_⟩) (by assumption) ?_
            rotate_left
            · intro w hSw
              try dsimp only at hSw
              obtain ⟨x0, x1, x2, x3, x4, x5, x6, _⟩ := hSw
              go_simp
              try with_reducible rfl
            try simp only [Act.put, List.setIfInBounds_toArray, List.set_cons_zero, List.set_cons_succ]
            refine wpAnyH_ready (rs := [4, 9]) (by kernel_rfl) (by simp) ?_
            refine AllReadyH.cons (o := { dst := some 79, op := Op.buildSlice 26 4 #[(0, Operand.tmp 75), (1, Operand.tmp 76), (2, Operand.tmp 77), (3, Operand.tmp 78)], type := 26, pos := "law.go:54", after := #[{ on := 0, ground := Ground.data }, { on := 1, ground := Ground.data }, { on := 2, ground := Ground.data }, { on := 3, ground := Ground.data }], guard := none }) rfl (fun K hK => ?_) (AllReadyH.cons (o := { dst := some 84, op := Op.buildSlice 26 4 #[(0, Operand.tmp 80), (1, Operand.tmp 81), (2, Operand.tmp 82), (3, Operand.tmp 83)], type := 26, pos := "law.go:54", after := #[{ on := 5, ground := Ground.data }, { on := 6, ground := Ground.data }, { on := 7, ground := Ground.data }, { on := 8, ground := Ground.data }, { on := 10, ground := Ground.gcOnly Departure.lateStores }], guard := none }) rfl (fun K hK => ?_) AllReadyH.nil)
            · skip
              go_simp
              refine hK.out _ _ ?_ (fun hHeld => ?_)
              · exact K26.out _ (Fr.alike (w := wi.alloc (.cells (rl (fun _ => baseR) 4).toArray 24)) ((Fr.refl wi).alloc _) ⟨rfl, rfl, rfl⟩)
              clear hK K
              try simp only [Act.put, List.setIfInBounds_toArray, List.set_cons_zero, List.set_cons_succ]
              refine wpAnyH_take (i := 10) (oi := { dst := some 5, op := Op.assign (Operand.tmp 79), type := 26, pos := "law.go:54", after := #[{ on := 4, ground := Ground.data }, { on := 0, ground := Ground.phase }, { on := 1, ground := Ground.phase }, { on := 2, ground := Ground.phase }, { on := 3, ground := Ground.phase }, { on := 4, ground := Ground.phase }, { on := 5, ground := Ground.textOnly Departure.lateStores }, { on := 6, ground := Ground.textOnly Departure.lateStores }, { on := 7, ground := Ground.textOnly Departure.lateStores }, { on := 8, ground := Ground.textOnly Departure.lateStores }, { on := 9, ground := Ground.textOnly Departure.lateStores }], guard := none }) (v := ?_) rfl (by kernel_rfl) (by kernel_rfl) (by kernel_rfl) (fun _ _ _ h => h) (Or.inl ⟨by rfl, ?_⟩) (by assumption) ?_
              rotate_left
              · intro w hSw
                try dsimp only at hSw
                go_simp
                try with_reducible rfl
              try simp only [Act.put, List.setIfInBounds_toArray, List.set_cons_zero, List.set_cons_succ]
              refine wpAnyH_ready (rs := [9]) (by kernel_rfl) (by simp) ?_
              refine AllReadyH.cons (o := { dst := some 84, op := Op.buildSlice 26 4 #[(0, Operand.tmp 80), (1, Operand.tmp 81), (2, Operand.tmp 82), (3, Operand.tmp 83)], type := 26, pos := "law.go:54", after := #[{ on := 5, ground := Ground.data }, { on := 6, ground := Ground.data }, { on := 7, ground := Ground.data }, { on := 8, ground := Ground.data }, { on := 10, ground := Ground.gcOnly Departure.lateStores }], guard := none }) rfl (fun K hK => ?_) AllReadyH.nil
              go_simp
              refine hK.out _ _ ?_ (fun hHeld => ?_)
              · exact K26.out _ (Fr.alike (w := ((wi.alloc (.cells (rl (fun _ => baseR) 4).toArray 24)).alloc (.cells (rl (fun _ => baseR) 4).toArray 24))) F2.out ⟨rfl, rfl, rfl⟩)
              clear hK K
              try simp only [Act.put, List.setIfInBounds_toArray, List.set_cons_zero, List.set_cons_succ]
              refine wpAnyH_take (i := 11) (oi := { dst := some 6, op := Op.assign (Operand.tmp 84), type := 26, pos := "law.go:54", after := #[{ on := 9, ground := Ground.data }, { on := 10, ground := Ground.chain }, { on := 0, ground := Ground.phase }, { on := 1, ground := Ground.phase }, { on := 2, ground := Ground.phase }, { on := 3, ground := Ground.phase }, { on := 4, ground := Ground.phase }, { on := 5, ground := Ground.phase }, { on := 6, ground := Ground.phase }, { on := 7, ground := Ground.phase }, { on := 8, ground := Ground.phase }, { on := 9, ground := Ground.phase }, { on := 10, ground := Ground.phase }], guard := none }) (v := ?_) rfl (by kernel_rfl) (by kernel_rfl) (by kernel_rfl) (fun _ _ _ h => h) (Or.inl ⟨by rfl, ?_⟩) (by assumption) ?_
              rotate_left
              · intro w hSw
                try dsimp only at hSw
                go_simp
                try with_reducible rfl
              try simp only [Act.put, List.setIfInBounds_toArray, List.set_cons_zero, List.set_cons_succ]
              refine wpAnyH_done (by kernel_rfl) ?_ _
              refine NoPanic.normal ?_
              go_wp2_with (first
                | (refine load_want (by rfl) 24 _ rfl wq.heap.size 0 rfl x.cs _ (KX.out _ (by exact VI.out.trans (Fr.alike (w := ((wi.alloc (.cells (rl (fun _ => baseR) 4).toArray 24)).alloc (.cells (rl (fun _ => baseR) 4).toArray 24))) F2.out ⟨rfl, rfl, rfl⟩))).2.1 Try.underlying24 rfl size24 ?_)
                | (refine wpList_put _ (wi.heap.size + 1) 4 i (fun _ => baseR) x (by exact range_alike R2.out ⟨rfl, rfl, rfl⟩) (by exact there_alike T2.out ⟨rfl, rfl, rfl⟩) (by omega) rfl _ _ rfl _ rfl rfl rfl ?_))
              intro W5 HP HBt
              obtain ⟨h5, HP⟩ : ∃ h', Hid (W5.rangeAt (wi.heap.size + 1) 0 (rl h' 4)) := ⟨_, HP⟩
              have FI : Hid (Fr wi W5) := HBt.out.fr (Fr.alike (w := ((wi.alloc (.cells (rl (fun _ => baseR) 4).toArray 24)).alloc (.cells (rl (fun _ => baseR) 4).toArray 24))) F2.out ⟨rfl, rfl, rfl⟩) (by simp)
              have L5 : wi.heap.size + 1 < W5.heap.size := by
                have := HBt.out.size
                have e : ((wi.alloc (.cells (rl (fun _ => baseR) 4).toArray 24)).alloc (.cells (rl (fun _ => baseR) 4).toArray 24)).heap.size = wi.heap.size + 1 + 1 := by simp
                have e' : ((wi.alloc (.cells (rl (fun _ => baseR) 4).toArray 24)).alloc (.cells (rl (fun _ => baseR) 4).toArray 24)).heap.size ≤ W5.heap.size := this
                omega
              have RA5 : Hid (RIn W5 (some ⟨wi.heap.size, 0, none⟩) 4 (fun _ => baseR)) := RIn.of (range_block R1.out (HBt.out.block wi.heap.size (by show wi.heap.size < ((wi.alloc (.cells (rl (fun _ => baseR) 4).toArray 24)).alloc (.cells (rl (fun _ => baseR) 4).toArray 24)).heap.size; simp; omega) (by omega))) (by omega)
              have RB5 : Hid (RIn W5 (some ⟨(wi.heap.size + 1), 0, none⟩) 4 h5) := RIn.of HP.out (by omega)
              clear HP HBt
              go_wp2_with fail
              refine wp_region_noPanic ?_
              refine wp_region_held_drew (S := fun w' => Fr W5 w') (by kernel_rfl) ?_ (fun hHeld => ?_)
              · exact (Fr.refl W5).alike ⟨rfl, rfl, rfl⟩
              refine wpAnyH_take (i := 0) (oi := { dst := some 89, op := Op.move (Operand.tmp 5), type := 26, pos := "law.go:56", after := #[], guard := none }) (v := ?_) rfl (by kernel_rfl) (by kernel_rfl) (by kernel_rfl) (fun _ _ _ h => h) (Or.inl ⟨by rfl, ?_⟩) (by assumption) ?_
              rotate_left
              · intro w hSw
                try dsimp only at hSw
                go_simp
                try with_reducible rfl
              try simp only [Act.put, List.setIfInBounds_toArray, List.set_cons_zero, List.set_cons_succ]
              refine wpAnyH_take (i := 1) (oi := { dst := some 90, op := Op.move (Operand.tmp 6), type := 26, pos := "law.go:56", after := #[], guard := none }) (v := ?_) rfl (by kernel_rfl) (by kernel_rfl) (by kernel_rfl) (fun _ _ _ h => h) (Or.inl ⟨by rfl, ?_⟩) (by assumption) ?_
              rotate_left
              · intro w hSw
                try dsimp only at hSw
                go_simp
                try with_reducible rfl
              try simp only [Act.put, List.setIfInBounds_toArray, List.set_cons_zero, List.set_cons_succ]
              refine wpAnyH_take (i := 2) (oi := { dst := some 91, op := Op.move (Operand.tmp 4), type := 3, pos := "law.go:56", after := #[], guard := none }) (v := ?_) rfl (by kernel_rfl) (by kernel_rfl) (by kernel_rfl) (fun _ _ _ h => h) (Or.inl ⟨by rfl, ?_⟩) (by assumption) ?_
              rotate_left
              · intro w hSw
                try dsimp only at hSw
                go_simp
                try with_reducible rfl
              try simp only [Act.put, List.setIfInBounds_toArray, List.set_cons_zero, List.set_cons_succ]
              refine wpAnyH_take (i := 3) (oi := { dst := some 92, op := Op.binOp BinOp.add 3 (Operand.tmp 91) (Operand.const (Value.int IntKind.i64 1)) 3, type := 3, pos := "law.go:56", after := #[{ on := 2, ground := Ground.data }], guard := none }) (v := ?_) rfl (by kernel_rfl) (by kernel_rfl) (by kernel_rfl) (fun _ _ _ h => h) (Or.inl ⟨by rfl, ?_⟩) (by assumption) ?_
              rotate_left
              · intro w hSw
                try dsimp only at hSw
                go_simp
                try with_reducible rfl
              try simp only [Act.put, List.setIfInBounds_toArray, List.set_cons_zero, List.set_cons_succ]
              refine wpAnyH_take (i := 4) (oi := { dst := some 93, op := Op.slice 26 (Operand.tmp 90) none (some (Operand.tmp 92)) none, type := 26, pos := "law.go:56", after := #[{ on := 1, ground := Ground.data }, { on := 3, ground := Ground.data }], guard := none }) (v := ?_) rfl (by kernel_rfl) (by kernel_rfl) (by kernel_rfl) (fun _ _ _ h => h) (Or.inl ⟨by rfl, ?_⟩) (by assumption) ?_
              rotate_left
              · intro w hSw
                try dsimp only at hSw
                go_simp
                try with_reducible rfl
              try simp only [Act.put, List.setIfInBounds_toArray, List.set_cons_zero, List.set_cons_succ]
              refine wpAnyH_take (i := 6) (oi := { dst := some 95, op := Op.move (Operand.tmp 4), type := 3, pos := "law.go:56", after := #[], guard := none }) (v := ?_) rfl (by kernel_rfl) (by kernel_rfl) (by kernel_rfl) (fun _ _ _ h => h) (Or.inl ⟨by rfl, ?_⟩) (by assumption) ?_
              rotate_left
              · intro w hSw
                try dsimp only at hSw
                go_simp
                try with_reducible rfl
              try simp only [Act.put, List.setIfInBounds_toArray, List.set_cons_zero, List.set_cons_succ]
              refine wpAnyH_take (i := 7) (oi := { dst := some 96, op := Op.binOp BinOp.rem 3 (Operand.tmp 95) (Operand.const (Value.int IntKind.i64 4)) 3, type := 3, pos := "law.go:56", after := #[{ on := 6, ground := Ground.data }], guard := none }) (v := ?_) rfl (by kernel_rfl) (by kernel_rfl) (by kernel_rfl) (fun _ _ _ h => h) (Or.inl ⟨by rfl, ?_⟩) (by assumption) ?_
              rotate_left
              · intro w hSw
                try dsimp only at hSw
                go_simp
                try with_reducible rfl
              try simp only [Act.put, List.setIfInBounds_toArray, List.set_cons_zero, List.set_cons_succ]
              refine wpAnyH_take (i := 9) (oi := { dst := some 98, op := Op.move (Operand.tmp 2), type := 3, pos := "law.go:56", after := #[], guard := none }) (v := ?_) rfl (by kernel_rfl) (by kernel_rfl) (by kernel_rfl) (fun _ _ _ h => h) (Or.inl ⟨by rfl, ?_⟩) (by assumption) ?_
              rotate_left
              · intro w hSw
                try dsimp only at hSw
                go_simp
                try with_reducible rfl
              try simp only [Act.put, List.setIfInBounds_toArray, List.set_cons_zero, List.set_cons_succ]
              refine wpAnyH_take (i := 10) (oi := { dst := some 99, op := Op.binOp BinOp.and 3 (Operand.tmp 98) (Operand.const (Value.int IntKind.i64 1)) 3, type := 3, pos := "law.go:56", after := #[{ on := 9, ground := Ground.data }], guard := none }) (v := ?_) rfl (by kernel_rfl) (by kernel_rfl) (by kernel_rfl) (fun _ _ _ h => h) (Or.inl ⟨by rfl, ?_⟩) (by assumption) ?_
              rotate_left
              · intro w hSw
                try dsimp only at hSw
                go_simp
                try with_reducible rfl
              try simp only [Act.put, List.setIfInBounds_toArray, List.set_cons_zero, List.set_cons_succ]
              refine wpAnyH_take (i := 11) (oi := { dst := some 100, op := Op.convert 3 22 (Operand.tmp 99), type := 22, pos := "law.go:56", after := #[{ on := 10, ground := Ground.data }], guard := none }) (v := ?_) rfl (by kernel_rfl) (by kernel_rfl) (by kernel_rfl) (fun _ _ _ h => h) (Or.inl ⟨by rfl, ?_⟩) (by assumption) ?_
              rotate_left
              · intro w hSw
                try dsimp only at hSw
                go_simp
                try with_reducible rfl
              try simp only [Act.put, List.setIfInBounds_toArray, List.set_cons_zero, List.set_cons_succ]
              refine wpAnyH_take (i := 12) (oi := { dst := some 101, op := Op.binOp BinOp.add 22 (Operand.const (Value.int IntKind.u32 3)) (Operand.tmp 100) 22, type := 22, pos := "law.go:56", after := #[{ on := 11, ground := Ground.data }], guard := none }) (v := ?_) rfl (by kernel_rfl) (by kernel_rfl) (by kernel_rfl) (fun _ _ _ h => h) (Or.inl ⟨by rfl, ?_⟩) (by assumption) ?_
              rotate_left
              · intro w hSw
                try dsimp only at hSw
                go_simp
                try with_reducible rfl
              try simp only [Act.put, List.setIfInBounds_toArray, List.set_cons_zero, List.set_cons_succ]
              refine wpAnyH_take (i := 14) (oi := { dst := some 103, op := Op.move (Operand.tmp 4), type := 3, pos := "law.go:56", after := #[], guard := none }) (v := ?_) rfl (by kernel_rfl) (by kernel_rfl) (by kernel_rfl) (fun _ _ _ h => h) (Or.inl ⟨by rfl, ?_⟩) (by assumption) ?_
              rotate_left
              · intro w hSw
                try dsimp only at hSw
                go_simp
                try with_reducible rfl
              try simp only [Act.put, List.setIfInBounds_toArray, List.set_cons_zero, List.set_cons_succ]
              refine wpAnyH_take (i := 15) (oi := { dst := some 104, op := Op.convert 3 22 (Operand.tmp 103), type := 22, pos := "law.go:56", after := #[{ on := 14, ground := Ground.data }], guard := none }) (v := ?_) rfl (by kernel_rfl) (by kernel_rfl) (by kernel_rfl) (fun _ _ _ h => h) (Or.inl ⟨by rfl, ?_⟩) (by assumption) ?_
              rotate_left
              · intro w hSw
                try dsimp only at hSw
                go_simp
                try with_reducible rfl
              try simp only [Act.put, List.setIfInBounds_toArray, List.set_cons_zero, List.set_cons_succ]
              refine wpAnyH_take (i := 16) (oi := { dst := some 105, op := Op.build 32 #[(0, Operand.tmp 104)], type := 32, pos := "law.go:56", after := #[{ on := 15, ground := Ground.data }], guard := none }) (v := ?_) rfl (by kernel_rfl) (by kernel_rfl) (by kernel_rfl) (fun _ _ _ h => h) (Or.inl ⟨by rfl, ?_⟩) (by assumption) ?_
              rotate_left
              · intro w hSw
                try dsimp only at hSw
                go_simp
                try with_reducible rfl
              try simp only [Act.put, List.setIfInBounds_toArray, List.set_cons_zero, List.set_cons_succ]
              refine wpAnyH_take (i := 17) (oi := { dst := some 106, op := Op.move (Operand.tmp 2), type := 3, pos := "law.go:56", after := #[], guard := none }) (v := ?_) rfl (by kernel_rfl) (by kernel_rfl) (by kernel_rfl) (fun _ _ _ h => h) (Or.inl ⟨by rfl, ?_⟩) (by assumption) ?_
              rotate_left
              · intro w hSw
                try dsimp only at hSw
                go_simp
                try with_reducible rfl
              try simp only [Act.put, List.setIfInBounds_toArray, List.set_cons_zero, List.set_cons_succ]
              refine wpAnyH_take (i := 18) (oi := { dst := some 107, op := Op.convert 3 22 (Operand.tmp 106), type := 22, pos := "law.go:56", after := #[{ on := 17, ground := Ground.data }], guard := none }) (v := ?_) rfl (by kernel_rfl) (by kernel_rfl) (by kernel_rfl) (fun _ _ _ h => h) (Or.inl ⟨by rfl, ?_⟩) (by assumption) ?_
              rotate_left
              · intro w hSw
                try dsimp only at hSw
                go_simp
                try with_reducible rfl
              try simp only [Act.put, List.setIfInBounds_toArray, List.set_cons_zero, List.set_cons_succ]
              refine wpAnyH_take (i := 19) (oi := { dst := some 108, op := Op.build 32 #[(0, Operand.tmp 107)], type := 32, pos := "law.go:56", after := #[{ on := 18, ground := Ground.data }], guard := none }) (v := ?_) rfl (by kernel_rfl) (by kernel_rfl) (by kernel_rfl) (fun _ _ _ h => h) (Or.inl ⟨by rfl, ?_⟩) (by assumption) ?_
              rotate_left
              · intro w hSw
                try dsimp only at hSw
                go_simp
                try with_reducible rfl
              try simp only [Act.put, List.setIfInBounds_toArray, List.set_cons_zero, List.set_cons_succ]
              refine wpAnyH_ready (rs := [5, 13]) (by kernel_rfl) (by simp) ?_
              refine AllReadyH.cons (o := { dst := some 94, op := Op.buildSlice 28 3 #[(0, Operand.const (Value.int IntKind.u32 1)), (1, Operand.const (Value.int IntKind.u32 2)), (2, Operand.const (Value.int IntKind.u32 3))], type := 28, pos := "law.go:56", after := #[], guard := none }) rfl (fun K hK => ?_) (AllReadyH.cons (o := { dst := some 102, op := Op.buildSlice 28 3 #[(0, Operand.const (Value.int IntKind.u32 1)), (1, Operand.const (Value.int IntKind.u32 2)), (2, Operand.tmp 101)], type := 28, pos := "law.go:56", after := #[{ on := 12, ground := Ground.data }], guard := none }) rfl (fun K hK => ?_) AllReadyH.nil)
              · skip
                go_simp
                refine hK.out _ _ ?_ (fun hHeld => ?_)
                · exact (Fr.alike (w := (W5.alloc (.cells (wl (tri 1 2 3) 3).toArray 22))) ((Fr.refl W5).alloc _) ⟨rfl, rfl, rfl⟩)
                clear hK K
                try simp only [Act.put, List.setIfInBounds_toArray, List.set_cons_zero, List.set_cons_succ]
                refine wpAnyH_take (i := 8) (oi := { dst := some 97, op := Op.slice 28 (Operand.tmp 94) none (some (Operand.tmp 96)) none, type := 28, pos := "law.go:56", after := #[{ on := 5, ground := Ground.data }, { on := 7, ground := Ground.data }], guard := none }) (v := ?_) rfl (by kernel_rfl) (by kernel_rfl) (by kernel_rfl) (fun _ _ _ h => h) (Or.inl ⟨by rfl, ?_⟩) (by assumption) ?_
                rotate_left
                · intro w hSw
                  try dsimp only at hSw
                  go_simp
                  try with_reducible rfl
                try simp only [Act.put, List.setIfInBounds_toArray, List.set_cons_zero, List.set_cons_succ]
                refine wpAnyH_ready (rs := [13]) (by kernel_rfl) (by simp) ?_
                refine AllReadyH.cons (o := { dst := some 102, op := Op.buildSlice 28 3 #[(0, Operand.const (Value.int IntKind.u32 1)), (1, Operand.const (Value.int IntKind.u32 2)), (2, Operand.tmp 101)], type := 28, pos := "law.go:56", after := #[{ on := 12, ground := Ground.data }], guard := none }) rfl (fun K hK => ?_) AllReadyH.nil
                go_simp
                refine hK.out _ _ ?_ (fun hHeld => ?_)
                · exact (Fr.alike (w := ((W5.alloc (.cells (wl (tri 1 2 3) 3).toArray 22)).alloc (.cells (wl (tri 1 2 v) 3).toArray 22))) (((Fr.refl W5).alloc _).alloc _) ⟨rfl, rfl, rfl⟩)
                clear hK K
                try simp only [Act.put, List.setIfInBounds_toArray, List.set_cons_zero, List.set_cons_succ]
                refine wpAnyH_ready (rs := [20]) (by kernel_rfl) (by simp) ?_
                refine AllReadyH.cons (o := { dst := some 109, op := Op.call { callee := Callee.value (Operand.func 7), args := #[Operand.tmp 89, Operand.tmp 93, Operand.tmp 97, Operand.tmp 102, Operand.tmp 105, Operand.tmp 108], argTypes := #[26, 26, 28, 28, 32, 32] }, type := 4, pos := "law.go:56", after := #[{ on := 0, ground := Ground.data }, { on := 4, ground := Ground.data }, { on := 8, ground := Ground.data }, { on := 13, ground := Ground.data }, { on := 16, ground := Ground.data }, { on := 19, ground := Ground.data }], guard := none }) rfl (fun K hK => ?_) AllReadyH.nil
                go_simp
                refine (sameL_lit (some ⟨wi.heap.size, 0, none⟩) (some ⟨(wi.heap.size + 1), 0, none⟩) (some ⟨W5.heap.size, 0, none⟩) (some ⟨(W5.heap.size + 1), 0, none⟩) _ _ _ _ _ _ _ _ (fun _ => baseR) h5 (tri 1 2 3) (tri 1 2 v) (zS _) (zS _) _ _ (by rw [zS_cs]) (by rw [zS_cs]) (by omega) (by omega) (by omega) (by omega) _ (by exact RA5.out.fr (Fr.alike (w := ((W5.alloc (.cells (wl (tri 1 2 3) 3).toArray 22)).alloc (.cells (wl (tri 1 2 v) 3).toArray 22))) (((Fr.refl W5).alloc _).alloc _) ⟨rfl, rfl, rfl⟩)) (by exact (RB5.out.fr (Fr.alike (w := ((W5.alloc (.cells (wl (tri 1 2 3) 3).toArray 22)).alloc (.cells (wl (tri 1 2 v) 3).toArray 22))) (((Fr.refl W5).alloc _).alloc _) ⟨rfl, rfl, rfl⟩)).less (by omega)) (by exact WIn.less ((WIn.new W5 (tri 1 2 3) 3 _ rfl 22).fr (Fr.alike (w := ((W5.alloc (.cells (wl (tri 1 2 3) 3).toArray 22)).alloc (.cells (wl (tri 1 2 v) 3).toArray 22))) ((Fr.refl (W5.alloc (.cells (wl (tri 1 2 3) 3).toArray 22))).alloc _) ⟨rfl, rfl, rfl⟩)) (by omega)) (by exact (win_second W5 _ (tri 1 2 v) 3).alike (w' := _) ⟨rfl, rfl, rfl⟩) (by exact zS_in _ _) (by exact zS_in _ _)).mono ?_; rintro e u8 ⟨rfl, hF⟩
                have V8 : Hid (Fr W5 u8) := Fr.trans (by exact (Fr.alike (w := ((W5.alloc (.cells (wl (tri 1 2 3) 3).toArray 22)).alloc (.cells (wl (tri 1 2 v) 3).toArray 22))) (((Fr.refl W5).alloc _).alloc _) ⟨rfl, rfl, rfl⟩)) hF
                clear hF
                go_wp2_with fail
                refine hK.out _ _ ?_ (fun hHeld => ?_)
                · exact V8.out
                clear hK K
                try simp only [Act.put, List.setIfInBounds_toArray, List.set_cons_zero, List.set_cons_succ]
                refine wpAnyH_take (i := 21) (oi := { dst := some 110, op := Op.unOp UnOp.not 4 (Operand.tmp 109), type := 4, pos := "law.go:56", after := #[{ on := 20, ground := Ground.data }], guard := none }) (v := ?_) rfl (by kernel_rfl) (by kernel_rfl) (by kernel_rfl) (fun _ _ _ h => h) (Or.inl ⟨by rfl, ?_⟩) (by assumption) ?_
                rotate_left
                · intro w hSw
                  try dsimp only at hSw
                  go_simp
                  try with_reducible rfl
                try simp only [Act.put, List.setIfInBounds_toArray, List.set_cons_zero, List.set_cons_succ]
                refine wpAnyH_done (by kernel_rfl) ?_ _
                refine NoPanic.normal ?_
                go_wp2_with fail
                exact ⟨⟨p, by omega, rfl, VI.out.trans (FI.out.trans V8.out)⟩, by have := HPP.out; simp [intOf]; omega⟩
              · skip
                go_simp
                refine hK.out _ _ ?_ (fun hHeld => ?_)
                · exact (Fr.alike (w := (W5.alloc (.cells (wl (tri 1 2 v) 3).toArray 22))) ((Fr.refl W5).alloc _) ⟨rfl, rfl, rfl⟩)
                clear hK K
                try simp only [Act.put, List.setIfInBounds_toArray, List.set_cons_zero, List.set_cons_succ]
                refine wpAnyH_ready (rs := [5]) (by kernel_rfl) (by simp) ?_
                refine AllReadyH.cons (o := { dst := some 94, op := Op.buildSlice 28 3 #[(0, Operand.const (Value.int IntKind.u32 1)), (1, Operand.const (Value.int IntKind.u32 2)), (2, Operand.const (Value.int IntKind.u32 3))], type := 28, pos := "law.go:56", after := #[], guard := none }) rfl (fun K hK => ?_) AllReadyH.nil
                go_simp
                refine hK.out _ _ ?_ (fun hHeld => ?_)
                · exact (Fr.alike (w := ((W5.alloc (.cells (wl (tri 1 2 v) 3).toArray 22)).alloc (.cells (wl (tri 1 2 3) 3).toArray 22))) (((Fr.refl W5).alloc _).alloc _) ⟨rfl, rfl, rfl⟩)
                clear hK K
                try simp only [Act.put, List.setIfInBounds_toArray, List.set_cons_zero, List.set_cons_succ]
                refine wpAnyH_take (i := 8) (oi := { dst := some 97, op := Op.slice 28 (Operand.tmp 94) none (some (Operand.tmp 96)) none, type := 28, pos := "law.go:56", after := #[{ on := 5, ground := Ground.data }, { on := 7, ground := Ground.data }], guard := none }) (v := ?_) rfl (by kernel_rfl) (by kernel_rfl) (by kernel_rfl) (fun _ _ _ h => h) (Or.inl ⟨by rfl, ?_⟩) (by assumption) ?_
                rotate_left
                · intro w hSw
                  try dsimp only at hSw
                  go_simp
                  try with_reducible rfl
                try simp only [Act.put, List.setIfInBounds_toArray, List.set_cons_zero, List.set_cons_succ]
                refine wpAnyH_ready (rs := [20]) (by kernel_rfl) (by simp) ?_
                refine AllReadyH.cons (o := { dst := some 109, op := Op.call { callee := Callee.value (Operand.func 7), args := #[Operand.tmp 89, Operand.tmp 93, Operand.tmp 97, Operand.tmp 102, Operand.tmp 105, Operand.tmp 108], argTypes := #[26, 26, 28, 28, 32, 32] }, type := 4, pos := "law.go:56", after := #[{ on := 0, ground := Ground.data }, { on := 4, ground := Ground.data }, { on := 8, ground := Ground.data }, { on := 13, ground := Ground.data }, { on := 16, ground := Ground.data }, { on := 19, ground := Ground.data }], guard := none }) rfl (fun K hK => ?_) AllReadyH.nil
                go_simp
                refine (sameL_lit (some ⟨wi.heap.size, 0, none⟩) (some ⟨(wi.heap.size + 1), 0, none⟩) (some ⟨(W5.heap.size + 1), 0, none⟩) (some ⟨W5.heap.size, 0, none⟩) _ _ _ _ _ _ _ _ (fun _ => baseR) h5 (tri 1 2 3) (tri 1 2 v) (zS _) (zS _) _ _ (by rw [zS_cs]) (by rw [zS_cs]) (by omega) (by omega) (by omega) (by omega) _ (by exact RA5.out.fr (Fr.alike (w := ((W5.alloc (.cells (wl (tri 1 2 v) 3).toArray 22)).alloc (.cells (wl (tri 1 2 3) 3).toArray 22))) (((Fr.refl W5).alloc _).alloc _) ⟨rfl, rfl, rfl⟩)) (by exact (RB5.out.fr (Fr.alike (w := ((W5.alloc (.cells (wl (tri 1 2 v) 3).toArray 22)).alloc (.cells (wl (tri 1 2 3) 3).toArray 22))) (((Fr.refl W5).alloc _).alloc _) ⟨rfl, rfl, rfl⟩)).less (by omega)) (by exact WIn.less ((win_second W5 _ (tri 1 2 3) 3).alike (w' := _) ⟨rfl, rfl, rfl⟩) (by omega)) (by exact (WIn.new W5 (tri 1 2 v) 3 _ rfl 22).fr (Fr.alike (w := ((W5.alloc (.cells (wl (tri 1 2 v) 3).toArray 22)).alloc (.cells (wl (tri 1 2 3) 3).toArray 22))) ((Fr.refl (W5.alloc (.cells (wl (tri 1 2 v) 3).toArray 22))).alloc _) ⟨rfl, rfl, rfl⟩)) (by exact zS_in _ _) (by exact zS_in _ _)).mono ?_; rintro e u8 ⟨rfl, hF⟩
                have V8 : Hid (Fr W5 u8) := Fr.trans (by exact (Fr.alike (w := ((W5.alloc (.cells (wl (tri 1 2 v) 3).toArray 22)).alloc (.cells (wl (tri 1 2 3) 3).toArray 22))) (((Fr.refl W5).alloc _).alloc _) ⟨rfl, rfl, rfl⟩)) hF
                clear hF
                go_wp2_with fail
                refine hK.out _ _ ?_ (fun hHeld => ?_)
                · exact V8.out
                clear hK K
                try simp only [Act.put, List.setIfInBounds_toArray, List.set_cons_zero, List.set_cons_succ]
                refine wpAnyH_take (i := 21) (oi := { dst := some 110, op := Op.unOp UnOp.not 4 (Operand.tmp 109), type := 4, pos := "law.go:56", after := #[{ on := 20, ground := Ground.data }], guard := none }) (v := ?_) rfl (by kernel_rfl) (by kernel_rfl) (by kernel_rfl) (fun _ _ _ h => h) (Or.inl ⟨by rfl, ?_⟩) (by assumption) ?_
                rotate_left
                · intro w hSw
                  try dsimp only at hSw
                  go_simp
                  try with_reducible rfl
                try simp only [Act.put, List.setIfInBounds_toArray, List.set_cons_zero, List.set_cons_succ]
                refine wpAnyH_done (by kernel_rfl) ?_ _
                refine NoPanic.normal ?_
                go_wp2_with fail
                exact ⟨⟨p, by omega, rfl, VI.out.trans (FI.out.trans V8.out)⟩, by have := HPP.out; simp [intOf]; omega⟩
            · skip
              go_simp
              refine hK.out _ _ ?_ (fun hHeld => ?_)
              · exact K26.out _ (Fr.alike (w := wi.alloc (.cells (rl (fun _ => baseR) 4).toArray 24)) ((Fr.refl wi).alloc _) ⟨rfl, rfl, rfl⟩)
              clear hK K
              try simp only [Act.put, List.setIfInBounds_toArray, List.set_cons_zero, List.set_cons_succ]
              refine wpAnyH_ready (rs := [4]) (by kernel_rfl) (by simp) ?_
              refine AllReadyH.cons (o := { dst := some 79, op := Op.buildSlice 26 4 #[(0, Operand.tmp 75), (1, Operand.tmp 76), (2, Operand.tmp 77), (3, Operand.tmp 78)], type := 26, pos := "law.go:54", after := #[{ on := 0, ground := Ground.data }, { on := 1, ground := Ground.data }, { on := 2, ground := Ground.data }, { on := 3, ground := Ground.data }], guard := none }) rfl (fun K hK => ?_) AllReadyH.nil
              go_simp
              refine hK.out _ _ ?_ (fun hHeld => ?_)
              · exact K26.out _ (Fr.alike (w := ((wi.alloc (.cells (rl (fun _ => baseR) 4).toArray 24)).alloc (.cells (rl (fun _ => baseR) 4).toArray 24))) F2.out ⟨rfl, rfl, rfl⟩)
              clear hK K
              try simp only [Act.put, List.setIfInBounds_toArray, List.set_cons_zero, List.set_cons_succ]
              refine wpAnyH_take (i := 10) (oi := { dst := some 5, op := Op.assign (Operand.tmp 79), type := 26, pos := "law.go:54", after := #[{ on := 4, ground := Ground.data }, { on := 0, ground := Ground.phase }, { on := 1, ground := Ground.phase }, { on := 2, ground := Ground.phase }, { on := 3, ground := Ground.phase }, { on := 4, ground := Ground.phase }, { on := 5, ground := Ground.textOnly Departure.lateStores }, { on := 6, ground := Ground.textOnly Departure.lateStores }, { on := 7, ground := Ground.textOnly Departure.lateStores }, { on := 8, ground := Ground.textOnly Departure.lateStores }, { on := 9, ground := Ground.textOnly Departure.lateStores }], guard := none }) (v := ?_) rfl (by kernel_rfl) (by kernel_rfl) (by kernel_rfl) (fun _ _ _ h => h) (Or.inl ⟨by rfl, ?_⟩) (by assumption) ?_
              rotate_left
              · intro w hSw
                try dsimp only at hSw
                go_simp
                try with_reducible rfl
              try simp only [Act.put, List.setIfInBounds_toArray, List.set_cons_zero, List.set_cons_succ]
              refine wpAnyH_take (i := 11) (oi := { dst := some 6, op := Op.assign (Operand.tmp 84), type := 26, pos := "law.go:54", after := #[{ on := 9, ground := Ground.data }, { on := 10, ground := Ground.chain }, { on := 0, ground := Ground.phase }, { on := 1, ground := Ground.phase }, { on := 2, ground := Ground.phase }, { on := 3, ground := Ground.phase }, { on := 4, ground := Ground.phase }, { on := 5, ground := Ground.phase }, { on := 6, ground := Ground.phase }, { on := 7, ground := Ground.phase }, { on := 8, ground := Ground.phase }, { on := 9, ground := Ground.phase }, { on := 10, ground := Ground.phase }], guard := none }) (v := ?_) rfl (by kernel_rfl) (by kernel_rfl) (by kernel_rfl) (fun _ _ _ h => h) (Or.inl ⟨by rfl, ?_⟩) (by assumption) ?_
              rotate_left
              · intro w hSw
                try dsimp only at hSw
                go_simp
                try with_reducible rfl
              try simp only [Act.put, List.setIfInBounds_toArray, List.set_cons_zero, List.set_cons_succ]
              refine wpAnyH_done (by kernel_rfl) ?_ _
              refine NoPanic.normal ?_
              go_wp2_with (first
                | (refine load_want (by rfl) 24 _ rfl wq.heap.size 0 rfl x.cs _ (KX.out _ (by exact VI.out.trans (Fr.alike (w := ((wi.alloc (.cells (rl (fun _ => baseR) 4).toArray 24)).alloc (.cells (rl (fun _ => baseR) 4).toArray 24))) F2.out ⟨rfl, rfl, rfl⟩))).2.1 Try.underlying24 rfl size24 ?_)
                | (refine wpList_put _ wi.heap.size 4 i (fun _ => baseR) x (by exact range_alike R1.out ⟨rfl, rfl, rfl⟩) (by exact there_alike T1.out ⟨rfl, rfl, rfl⟩) (by omega) rfl _ _ rfl _ rfl rfl rfl ?_))
              intro W5 HP HBt
              obtain ⟨h5, HP⟩ : ∃ h', Hid (W5.rangeAt wi.heap.size 0 (rl h' 4)) := ⟨_, HP⟩
              have FI : Hid (Fr wi W5) := HBt.out.fr (Fr.alike (w := ((wi.alloc (.cells (rl (fun _ => baseR) 4).toArray 24)).alloc (.cells (rl (fun _ => baseR) 4).toArray 24))) F2.out ⟨rfl, rfl, rfl⟩) (by exact Nat.le_refl _)
              have L5 : wi.heap.size + 1 < W5.heap.size := by
                have := HBt.out.size
                have e : ((wi.alloc (.cells (rl (fun _ => baseR) 4).toArray 24)).alloc (.cells (rl (fun _ => baseR) 4).toArray 24)).heap.size = wi.heap.size + 1 + 1 := by simp
                have e' : ((wi.alloc (.cells (rl (fun _ => baseR) 4).toArray 24)).alloc (.cells (rl (fun _ => baseR) 4).toArray 24)).heap.size ≤ W5.heap.size := this
                omega
              have RA5 : Hid (RIn W5 (some ⟨(wi.heap.size + 1), 0, none⟩) 4 (fun _ => baseR)) := RIn.of (range_block R2.out (HBt.out.block (wi.heap.size + 1) (by show (wi.heap.size + 1) < ((wi.alloc (.cells (rl (fun _ => baseR) 4).toArray 24)).alloc (.cells (rl (fun _ => baseR) 4).toArray 24)).heap.size; simp) (by omega))) (by omega)
              have RB5 : Hid (RIn W5 (some ⟨wi.heap.size, 0, none⟩) 4 h5) := RIn.of HP.out (by omega)
              clear HP HBt
              go_wp2_with fail
              refine wp_region_noPanic ?_
              refine wp_region_held_drew (S := fun w' => Fr W5 w') (by kernel_rfl) ?_ (fun hHeld => ?_)
              · exact (Fr.refl W5).alike ⟨rfl, rfl, rfl⟩
              refine wpAnyH_take (i := 0) (oi := { dst := some 89, op := Op.move (Operand.tmp 5), type := 26, pos := "law.go:56", after := #[], guard := none }) (v := ?_) rfl (by kernel_rfl) (by kernel_rfl) (by kernel_rfl) (fun _ _ _ h => h) (Or.inl ⟨by rfl, ?_⟩) (by assumption) ?_
              rotate_left
              · intro w hSw
                try dsimp only at hSw
                go_simp
                try with_reducible rfl
              try simp only [Act.put, List.setIfInBounds_toArray, List.set_cons_zero, List.set_cons_succ]
              refine wpAnyH_take (i := 1) (oi := { dst := some 90, op := Op.move (Operand.tmp 6), type := 26, pos := "law.go:56", after := #[], guard := none }) (v := ?_) rfl (by kernel_rfl) (by kernel_rfl) (by kernel_rfl) (fun _ _ _ h => h) (Or.inl ⟨by rfl, ?_⟩) (by assumption) ?_
              rotate_left
              · intro w hSw
                try dsimp only at hSw
                go_simp
                try with_reducible rfl
              try simp only [Act.put, List.setIfInBounds_toArray, List.set_cons_zero, List.set_cons_succ]
              refine wpAnyH_take (i := 2) (oi := { dst := some 91, op := Op.move (Operand.tmp 4), type := 3, pos := "law.go:56", after := #[], guard := none }) (v := ?_) rfl (by kernel_rfl) (by kernel_rfl) (by kernel_rfl) (fun _ _ _ h => h) (Or.inl ⟨by rfl, ?_⟩) (by assumption) ?_
              rotate_left
              · intro w hSw
                try dsimp only at hSw
                go_simp
                try with_reducible rfl
              try simp only [Act.put, List.setIfInBounds_toArray, List.set_cons_zero, List.set_cons_succ]
              refine wpAnyH_take (i := 3) (oi := { dst := some 92, op := Op.binOp BinOp.add 3 (Operand.tmp 91) (Operand.const (Value.int IntKind.i64 1)) 3, type := 3, pos := "law.go:56", after := #[{ on := 2, ground := Ground.data }], guard := none }) (v := ?_) rfl (by kernel_rfl) (by kernel_rfl) (by kernel_rfl) (fun _ _ _ h => h) (Or.inl ⟨by rfl, ?_⟩) (by assumption) ?_
              rotate_left
              · intro w hSw
                try dsimp only at hSw
                go_simp
                try with_reducible rfl
              try simp only [Act.put, List.setIfInBounds_toArray, List.set_cons_zero, List.set_cons_succ]
              refine wpAnyH_take (i := 4) (oi := { dst := some 93, op := Op.slice 26 (Operand.tmp 90) none (some (Operand.tmp 92)) none, type := 26, pos := "law.go:56", after := #[{ on := 1, ground := Ground.data }, { on := 3, ground := Ground.data }], guard := none }) (v := ?_) rfl (by kernel_rfl) (by kernel_rfl) (by kernel_rfl) (fun _ _ _ h => h) (Or.inl ⟨by rfl, ?_⟩) (by assumption) ?_
              rotate_left
              · intro w hSw
                try dsimp only at hSw
                go_simp
                try with_reducible rfl
              try simp only [Act.put, List.setIfInBounds_toArray, List.set_cons_zero, List.set_cons_succ]
              refine wpAnyH_take (i := 6) (oi := { dst := some 95, op := Op.move (Operand.tmp 4), type := 3, pos := "law.go:56", after := #[], guard := none }) (v := ?_) rfl (by kernel_rfl) (by kernel_rfl) (by kernel_rfl) (fun _ _ _ h => h) (Or.inl ⟨by rfl, ?_⟩) (by assumption) ?_
              rotate_left
              · intro w hSw
                try dsimp only at hSw
                go_simp
                try with_reducible rfl
              try simp only [Act.put, List.setIfInBounds_toArray, List.set_cons_zero, List.set_cons_succ]
              refine wpAnyH_take (i := 7) (oi := { dst := some 96, op := Op.binOp BinOp.rem 3 (Operand.tmp 95) (Operand.const (Value.int IntKind.i64 4)) 3, type := 3, pos := "law.go:56", after := #[{ on := 6, ground := Ground.data }], guard := none }) (v := ?_) rfl (by kernel_rfl) (by kernel_rfl) (by kernel_rfl) (fun _ _ _ h => h) (Or.inl ⟨by rfl, ?_⟩) (by assumption) ?_
              rotate_left
              · intro w hSw
                try dsimp only at hSw
                go_simp
                try with_reducible rfl
              try simp only [Act.put, List.setIfInBounds_toArray, List.set_cons_zero, List.set_cons_succ]
              refine wpAnyH_take (i := 9) (oi := { dst := some 98, op := Op.move (Operand.tmp 2), type := 3, pos := "law.go:56", after := #[], guard := none }) (v := ?_) rfl (by kernel_rfl) (by kernel_rfl) (by kernel_rfl) (fun _ _ _ h => h) (Or.inl ⟨by rfl, ?_⟩) (by assumption) ?_
              rotate_left
              · intro w hSw
                try dsimp only at hSw
                go_simp
                try with_reducible rfl
              try simp only [Act.put, List.setIfInBounds_toArray, List.set_cons_zero, List.set_cons_succ]
              refine wpAnyH_take (i := 10) (oi := { dst := some 99, op := Op.binOp BinOp.and 3 (Operand.tmp 98) (Operand.const (Value.int IntKind.i64 1)) 3, type := 3, pos := "law.go:56", after := #[{ on := 9, ground := Ground.data }], guard := none }) (v := ?_) rfl (by kernel_rfl) (by kernel_rfl) (by kernel_rfl) (fun _ _ _ h => h) (Or.inl ⟨by rfl, ?_⟩) (by assumption) ?_
              rotate_left
              · intro w hSw
                try dsimp only at hSw
                go_simp
                try with_reducible rfl
              try simp only [Act.put, List.setIfInBounds_toArray, List.set_cons_zero, List.set_cons_succ]
              refine wpAnyH_take (i := 11) (oi := { dst := some 100, op := Op.convert 3 22 (Operand.tmp 99), type := 22, pos := "law.go:56", after := #[{ on := 10, ground := Ground.data }], guard := none }) (v := ?_) rfl (by kernel_rfl) (by kernel_rfl) (by kernel_rfl) (fun _ _ _ h => h) (Or.inl ⟨by rfl, ?_⟩) (by assumption) ?_
              rotate_left
              · intro w hSw
                try dsimp only at hSw
                go_simp
                try with_reducible rfl
              try simp only [Act.put, List.setIfInBounds_toArray, List.set_cons_zero, List.set_cons_succ]
              refine wpAnyH_take (i := 12) (oi := { dst := some 101, op := Op.binOp BinOp.add 22 (Operand.const (Value.int IntKind.u32 3)) (Operand.tmp 100) 22, type := 22, pos := "law.go:56", after := #[{ on := 11, ground := Ground.data }], guard := none }) (v := ?_) rfl (by kernel_rfl) (by kernel_rfl) (by kernel_rfl) (fun _ _ _ h => h) (Or.inl ⟨by rfl, ?_⟩) (by assumption) ?_
              rotate_left
              · intro w hSw
                try dsimp only at hSw
                go_simp
                try with_reducible rfl
              try simp only [Act.put, List.setIfInBounds_toArray, List.set_cons_zero, List.set_cons_succ]
              refine wpAnyH_take (i := 14) (oi := { dst := some 103, op := Op.move (Operand.tmp 4), type := 3, pos := "law.go:56", after := #[], guard := none }) (v := ?_) rfl (by kernel_rfl) (by kernel_rfl) (by kernel_rfl) (fun _ _ _ h => h) (Or.inl ⟨by rfl, ?_⟩) (by assumption) ?_
              rotate_left
              · intro w hSw
                try dsimp only at hSw
                go_simp
                try with_reducible rfl
              try simp only [Act.put, List.setIfInBounds_toArray, List.set_cons_zero, List.set_cons_succ]
              refine wpAnyH_take (i := 15) (oi := { dst := some 104, op := Op.convert 3 22 (Operand.tmp 103), type := 22, pos := "law.go:56", after := #[{ on := 14, ground := Ground.data }], guard := none }) (v := ?_) rfl (by kernel_rfl) (by kernel_rfl) (by kernel_rfl) (fun _ _ _ h => h) (Or.inl ⟨by rfl, ?_⟩) (by assumption) ?_
              rotate_left
              · intro w hSw
                try dsimp only at hSw
                go_simp
                try with_reducible rfl
              try simp only [Act.put, List.setIfInBounds_toArray, List.set_cons_zero, List.set_cons_succ]
              refine wpAnyH_take (i := 16) (oi := { dst := some 105, op := Op.build 32 #[(0, Operand.tmp 104)], type := 32, pos := "law.go:56", after := #[{ on := 15, ground := Ground.data }], guard := none }) (v := ?_) rfl (by kernel_rfl) (by kernel_rfl) (by kernel_rfl) (fun _ _ _ h => h) (Or.inl ⟨by rfl, ?_⟩) (by assumption) ?_
              rotate_left
              · intro w hSw
                try dsimp only at hSw
                go_simp
                try with_reducible rfl
              try simp only [Act.put, List.setIfInBounds_toArray, List.set_cons_zero, List.set_cons_succ]
              refine wpAnyH_take (i := 17) (oi := { dst := some 106, op := Op.move (Operand.tmp 2), type := 3, pos := "law.go:56", after := #[], guard := none }) (v := ?_) rfl (by kernel_rfl) (by kernel_rfl) (by kernel_rfl) (fun _ _ _ h => h) (Or.inl ⟨by rfl, ?_⟩) (by assumption) ?_
              rotate_left
              · intro w hSw
                try dsimp only at hSw
                go_simp
                try with_reducible rfl
              try simp only [Act.put, List.setIfInBounds_toArray, List.set_cons_zero, List.set_cons_succ]
              refine wpAnyH_take (i := 18) (oi := { dst := some 107, op := Op.convert 3 22 (Operand.tmp 106), type := 22, pos := "law.go:56", after := #[{ on := 17, ground := Ground.data }], guard := none }) (v := ?_) rfl (by kernel_rfl) (by kernel_rfl) (by kernel_rfl) (fun _ _ _ h => h) (Or.inl ⟨by rfl, ?_⟩) (by assumption) ?_
              rotate_left
              · intro w hSw
                try dsimp only at hSw
                go_simp
                try with_reducible rfl
              try simp only [Act.put, List.setIfInBounds_toArray, List.set_cons_zero, List.set_cons_succ]
              refine wpAnyH_take (i := 19) (oi := { dst := some 108, op := Op.build 32 #[(0, Operand.tmp 107)], type := 32, pos := "law.go:56", after := #[{ on := 18, ground := Ground.data }], guard := none }) (v := ?_) rfl (by kernel_rfl) (by kernel_rfl) (by kernel_rfl) (fun _ _ _ h => h) (Or.inl ⟨by rfl, ?_⟩) (by assumption) ?_
              rotate_left
              · intro w hSw
                try dsimp only at hSw
                go_simp
                try with_reducible rfl
              try simp only [Act.put, List.setIfInBounds_toArray, List.set_cons_zero, List.set_cons_succ]
              refine wpAnyH_ready (rs := [5, 13]) (by kernel_rfl) (by simp) ?_
              refine AllReadyH.cons (o := { dst := some 94, op := Op.buildSlice 28 3 #[(0, Operand.const (Value.int IntKind.u32 1)), (1, Operand.const (Value.int IntKind.u32 2)), (2, Operand.const (Value.int IntKind.u32 3))], type := 28, pos := "law.go:56", after := #[], guard := none }) rfl (fun K hK => ?_) (AllReadyH.cons (o := { dst := some 102, op := Op.buildSlice 28 3 #[(0, Operand.const (Value.int IntKind.u32 1)), (1, Operand.const (Value.int IntKind.u32 2)), (2, Operand.tmp 101)], type := 28, pos := "law.go:56", after := #[{ on := 12, ground := Ground.data }], guard := none }) rfl (fun K hK => ?_) AllReadyH.nil)
              · skip
                go_simp
                refine hK.out _ _ ?_ (fun hHeld => ?_)
                · exact (Fr.alike (w := (W5.alloc (.cells (wl (tri 1 2 3) 3).toArray 22))) ((Fr.refl W5).alloc _) ⟨rfl, rfl, rfl⟩)
                clear hK K
                try simp only [Act.put, List.setIfInBounds_toArray, List.set_cons_zero, List.set_cons_succ]
                refine wpAnyH_take (i := 8) (oi := { dst := some 97, op := Op.slice 28 (Operand.tmp 94) none (some (Operand.tmp 96)) none, type := 28, pos := "law.go:56", after := #[{ on := 5, ground := Ground.data }, { on := 7, ground := Ground.data }], guard := none }) (v := ?_) rfl (by kernel_rfl) (by kernel_rfl) (by kernel_rfl) (fun _ _ _ h => h) (Or.inl ⟨by rfl, ?_⟩) (by assumption) ?_
                rotate_left
                · intro w hSw
                  try dsimp only at hSw
                  go_simp
                  try with_reducible rfl
                try simp only [Act.put, List.setIfInBounds_toArray, List.set_cons_zero, List.set_cons_succ]
                refine wpAnyH_ready (rs := [13]) (by kernel_rfl) (by simp) ?_
                refine AllReadyH.cons (o := { dst := some 102, op := Op.buildSlice 28 3 #[(0, Operand.const (Value.int IntKind.u32 1)), (1, Operand.const (Value.int IntKind.u32 2)), (2, Operand.tmp 101)], type := 28, pos := "law.go:56", after := #[{ on := 12, ground := Ground.data }], guard := none }) rfl (fun K hK => ?_) AllReadyH.nil
                go_simp
                refine hK.out _ _ ?_ (fun hHeld => ?_)
                · exact (Fr.alike (w := ((W5.alloc (.cells (wl (tri 1 2 3) 3).toArray 22)).alloc (.cells (wl (tri 1 2 v) 3).toArray 22))) (((Fr.refl W5).alloc _).alloc _) ⟨rfl, rfl, rfl⟩)
                clear hK K
                try simp only [Act.put, List.setIfInBounds_toArray, List.set_cons_zero, List.set_cons_succ]
                refine wpAnyH_ready (rs := [20]) (by kernel_rfl) (by simp) ?_
                refine AllReadyH.cons (o := { dst := some 109, op := Op.call { callee := Callee.value (Operand.func 7), args := #[Operand.tmp 89, Operand.tmp 93, Operand.tmp 97, Operand.tmp 102, Operand.tmp 105, Operand.tmp 108], argTypes := #[26, 26, 28, 28, 32, 32] }, type := 4, pos := "law.go:56", after := #[{ on := 0, ground := Ground.data }, { on := 4, ground := Ground.data }, { on := 8, ground := Ground.data }, { on := 13, ground := Ground.data }, { on := 16, ground := Ground.data }, { on := 19, ground := Ground.data }], guard := none }) rfl (fun K hK => ?_) AllReadyH.nil
                go_simp
                refine (sameL_lit (some ⟨(wi.heap.size + 1), 0, none⟩) (some ⟨wi.heap.size, 0, none⟩) (some ⟨W5.heap.size, 0, none⟩) (some ⟨(W5.heap.size + 1), 0, none⟩) _ _ _ _ _ _ _ _ (fun _ => baseR) h5 (tri 1 2 3) (tri 1 2 v) (zS _) (zS _) _ _ (by rw [zS_cs]) (by rw [zS_cs]) (by omega) (by omega) (by omega) (by omega) _ (by exact RA5.out.fr (Fr.alike (w := ((W5.alloc (.cells (wl (tri 1 2 3) 3).toArray 22)).alloc (.cells (wl (tri 1 2 v) 3).toArray 22))) (((Fr.refl W5).alloc _).alloc _) ⟨rfl, rfl, rfl⟩)) (by exact (RB5.out.fr (Fr.alike (w := ((W5.alloc (.cells (wl (tri 1 2 3) 3).toArray 22)).alloc (.cells (wl (tri 1 2 v) 3).toArray 22))) (((Fr.refl W5).alloc _).alloc _) ⟨rfl, rfl, rfl⟩)).less (by omega)) (by exact WIn.less ((WIn.new W5 (tri 1 2 3) 3 _ rfl 22).fr (Fr.alike (w := ((W5.alloc (.cells (wl (tri 1 2 3) 3).toArray 22)).alloc (.cells (wl (tri 1 2 v) 3).toArray 22))) ((Fr.refl (W5.alloc (.cells (wl (tri 1 2 3) 3).toArray 22))).alloc _) ⟨rfl, rfl, rfl⟩)) (by omega)) (by exact (win_second W5 _ (tri 1 2 v) 3).alike (w' := _) ⟨rfl, rfl, rfl⟩) (by exact zS_in _ _) (by exact zS_in _ _)).mono ?_; rintro e u8 ⟨rfl, hF⟩
                have V8 : Hid (Fr W5 u8) := Fr.trans (by exact (Fr.alike (w := ((W5.alloc (.cells (wl (tri 1 2 3) 3).toArray 22)).alloc (.cells (wl (tri 1 2 v) 3).toArray 22))) (((Fr.refl W5).alloc _).alloc _) ⟨rfl, rfl, rfl⟩)) hF
                clear hF
                go_wp2_with fail
                refine hK.out _ _ ?_ (fun hHeld => ?_)
                · exact V8.out
                clear hK K
                try simp only [Act.put, List.setIfInBounds_toArray, List.set_cons_zero, List.set_cons_succ]
                refine wpAnyH_take (i := 21) (oi := { dst := some 110, op := Op.unOp UnOp.not 4 (Operand.tmp 109), type := 4, pos := "law.go:56", after := #[{ on := 20, ground := Ground.data }], guard := none }) (v := ?_) rfl (by kernel_rfl) (by kernel_rfl) (by kernel_rfl) (fun _ _ _ h => h) (Or.inl ⟨by rfl, ?_⟩) (by assumption) ?_
                rotate_left
                · intro w hSw
                  try dsimp only at hSw
                  go_simp
                  try with_reducible rfl
                try simp only [Act.put, List.setIfInBounds_toArray, List.set_cons_zero, List.set_cons_succ]
                refine wpAnyH_done (by kernel_rfl) ?_ _
                refine NoPanic.normal ?_
                go_wp2_with fail
                exact ⟨⟨p, by omega, rfl, VI.out.trans (FI.out.trans V8.out)⟩, by have := HPP.out; simp [intOf]; omega⟩
              · skip
                go_simp
                refine hK.out _ _ ?_ (fun hHeld => ?_)
                · exact (Fr.alike (w := (W5.alloc (.cells (wl (tri 1 2 v) 3).toArray 22))) ((Fr.refl W5).alloc _) ⟨rfl, rfl, rfl⟩)
                clear hK K
                try simp only [Act.put, List.setIfInBounds_toArray, List.set_cons_zero, List.set_cons_succ]
                refine wpAnyH_ready (rs := [5]) (by kernel_rfl) (by simp) ?_
                refine AllReadyH.cons (o := { dst := some 94, op := Op.buildSlice 28 3 #[(0, Operand.const (Value.int IntKind.u32 1)), (1, Operand.const (Value.int IntKind.u32 2)), (2, Operand.const (Value.int IntKind.u32 3))], type := 28, pos := "law.go:56", after := #[], guard := none }) rfl (fun K hK => ?_) AllReadyH.nil
                go_simp
                refine hK.out _ _ ?_ (fun hHeld => ?_)
                · exact (Fr.alike (w := ((W5.alloc (.cells (wl (tri 1 2 v) 3).toArray 22)).alloc (.cells (wl (tri 1 2 3) 3).toArray 22))) (((Fr.refl W5).alloc _).alloc _) ⟨rfl, rfl, rfl⟩)
                clear hK K
                try simp only [Act.put, List.setIfInBounds_toArray, List.set_cons_zero, List.set_cons_succ]
                refine wpAnyH_take (i := 8) (oi := { dst := some 97, op := Op.slice 28 (Operand.tmp 94) none (some (Operand.tmp 96)) none, type := 28, pos := "law.go:56", after := #[{ on := 5, ground := Ground.data }, { on := 7, ground := Ground.data }], guard := none }) (v := ?_) rfl (by kernel_rfl) (by kernel_rfl) (by kernel_rfl) (fun _ _ _ h => h) (Or.inl ⟨by rfl, ?_⟩) (by assumption) ?_
                rotate_left
                · intro w hSw
                  try dsimp only at hSw
                  go_simp
                  try with_reducible rfl
                try simp only [Act.put, List.setIfInBounds_toArray, List.set_cons_zero, List.set_cons_succ]
                refine wpAnyH_ready (rs := [20]) (by kernel_rfl) (by simp) ?_
                refine AllReadyH.cons (o := { dst := some 109, op := Op.call { callee := Callee.value (Operand.func 7), args := #[Operand.tmp 89, Operand.tmp 93, Operand.tmp 97, Operand.tmp 102, Operand.tmp 105, Operand.tmp 108], argTypes := #[26, 26, 28, 28, 32, 32] }, type := 4, pos := "law.go:56", after := #[{ on := 0, ground := Ground.data }, { on := 4, ground := Ground.data }, { on := 8, ground := Ground.data }, { on := 13, ground := Ground.data }, { on := 16, ground := Ground.data }, { on := 19, ground := Ground.data }], guard := none }) rfl (fun K hK => ?_) AllReadyH.nil
                go_simp
                refine (sameL_lit (some ⟨(wi.heap.size + 1), 0, none⟩) (some ⟨wi.heap.size, 0, none⟩) (some ⟨(W5.heap.size + 1), 0, none⟩) (some ⟨W5.heap.size, 0, none⟩) _ _ _ _ _ _ _ _ (fun _ => baseR) h5 (tri 1 2 3) (tri 1 2 v) (zS _) (zS _) _ _ (by rw [zS_cs]) (by rw [zS_cs]) (by omega) (by omega) (by omega) (by omega) _ (by exact RA5.out.fr (Fr.alike (w := ((W5.alloc (.cells (wl (tri 1 2 v) 3).toArray 22)).alloc (.cells (wl (tri 1 2 3) 3).toArray 22))) (((Fr.refl W5).alloc _).alloc _) ⟨rfl, rfl, rfl⟩)) (by exact (RB5.out.fr (Fr.alike (w := ((W5.alloc (.cells (wl (tri 1 2 v) 3).toArray 22)).alloc (.cells (wl (tri 1 2 3) 3).toArray 22))) (((Fr.refl W5).alloc _).alloc _) ⟨rfl, rfl, rfl⟩)).less (by omega)) (by exact WIn.less ((win_second W5 _ (tri 1 2 3) 3).alike (w' := _) ⟨rfl, rfl, rfl⟩) (by omega)) (by exact (WIn.new W5 (tri 1 2 v) 3 _ rfl 22).fr (Fr.alike (w := ((W5.alloc (.cells (wl (tri 1 2 v) 3).toArray 22)).alloc (.cells (wl (tri 1 2 3) 3).toArray 22))) ((Fr.refl (W5.alloc (.cells (wl (tri 1 2 v) 3).toArray 22))).alloc _) ⟨rfl, rfl, rfl⟩)) (by exact zS_in _ _) (by exact zS_in _ _)).mono ?_; rintro e u8 ⟨rfl, hF⟩
                have V8 : Hid (Fr W5 u8) := Fr.trans (by exact (Fr.alike (w := ((W5.alloc (.cells (wl (tri 1 2 v) 3).toArray 22)).alloc (.cells (wl (tri 1 2 3) 3).toArray 22))) (((Fr.refl W5).alloc _).alloc _) ⟨rfl, rfl, rfl⟩)) hF
                clear hF
                go_wp2_with fail
                refine hK.out _ _ ?_ (fun hHeld => ?_)
                · exact V8.out
                clear hK K
                try simp only [Act.put, List.setIfInBounds_toArray, List.set_cons_zero, List.set_cons_succ]
                refine wpAnyH_take (i := 21) (oi := { dst := some 110, op := Op.unOp UnOp.not 4 (Operand.tmp 109), type := 4, pos := "law.go:56", after := #[{ on := 20, ground := Ground.data }], guard := none }) (v := ?_) rfl (by kernel_rfl) (by kernel_rfl) (by kernel_rfl) (fun _ _ _ h => h) (Or.inl ⟨by rfl, ?_⟩) (by assumption) ?_
                rotate_left
                · intro w hSw
                  try dsimp only at hSw
                  go_simp
                  try with_reducible rfl
                try simp only [Act.put, List.setIfInBounds_toArray, List.set_cons_zero, List.set_cons_succ]
                refine wpAnyH_done (by kernel_rfl) ?_ _
                refine NoPanic.normal ?_
                go_wp2_with fail
                exact ⟨⟨p, by omega, rfl, VI.out.trans (FI.out.trans V8.out)⟩, by have := HPP.out; simp [intOf]; omega⟩
          · obtain rfl : i = 4 := by omega
            go_wp2_with fail
            exact ⟨⟨d + 1, by omega, by rw [Int.natCast_add]; rfl, FW.out.trans VI.out⟩, by simp [intOf]; omega⟩
    · obtain rfl : d = 8 := by omega
      have HDW := F0.out.trans HD.out
      clear HD KB
      have FQ := hid (four wq)
      have FA : Hid (Fr wq ((((wq.alloc (.cells (wl (fun j => if j = 0 then 1 else 2) 2).toArray 22)).alloc (.cells (wl (fun j => if j = 0 then 1 else 3) 2).toArray 22)).alloc (.cells (zS 0).cs.toArray 32)).alloc (.cells (zS 0).cs.toArray 32))) := (((Fr.refl wq).alloc _).alloc _).alloc _ |>.alloc _
      have SQ : Hid (((((wq.alloc (.cells (wl (fun j => if j = 0 then 1 else 2) 2).toArray 22)).alloc (.cells (wl (fun j => if j = 0 then 1 else 3) 2).toArray 22)).alloc (.cells (zS 0).cs.toArray 32)).alloc (.cells (zS 0).cs.toArray 32)).heap.size = wq.heap.size + 1 + 1 + 1 + 1) := by unfold Hid; simp
      go_wp2_with (first | (refine wpList_st _ (wq.heap.size + 1 + 1) (by exact FQ.out.1) rfl _ _ rfl (sM wq.heap.size 2) _ rfl rfl rfl ?_))
      intro W5 S5 U5 T5
      have X5 := hid (U5.out.there FQ.out.2.1 (by omega) (by have := SQ.out; show _ < ((((wq.alloc (.cells (wl (fun j => if j = 0 then 1 else 2) 2).toArray 22)).alloc (.cells (wl (fun j => if j = 0 then 1 else 3) 2).toArray 22)).alloc (.cells (zS 0).cs.toArray 32)).alloc (.cells (zS 0).cs.toArray 32)).heap.size; omega))
      have F5 : Hid (Fr wq W5) := U5.out.fr FA.out (by omega)
      have I5 := hid (In.but FQ.out.2.2.1 U5.out (by omega))
      have J5 := hid (In.but FQ.out.2.2.2 U5.out (by omega))
      go_wp2_with (first | (refine wpList_st _ (wq.heap.size + 1 + 1 + 1) X5.out rfl _ _ rfl (sM (wq.heap.size + 1) 3) _ rfl rfl rfl ?_))
      intro W6 S6 U6 T6
      have S6' := hid (U6.out.sat S5.out (by omega))
      have F6 : Hid (Fr wq W6) := U6.out.fr F5.out (by omega)
      have I6 := hid (In.but I5.out U6.out (by omega))
      have J6 := hid (In.but J5.out U6.out (by omega))
      clear FQ FA SQ S5 U5 T5 X5 I5 J5 F5 U6 T6
      go_wp2_with (first
        | (refine load_want (by rfl) 32 _ rfl (wq.heap.size + 1 + 1) 0 rfl (sM wq.heap.size 2).cs _ S6'.out.a Try.underlying32 rfl (by rw [Ss.len]; exact size32) ?_)
        | (refine wpList_box W6 _ (by rfl) rfl _ _ rfl (sM wq.heap.size 2) W6.heap.size rfl rfl rfl ?_))
      intro W7 S7 F7 T7
      have c8 : W7.cell? ⟨W6.heap.size, 8, none⟩ = some (.int .u32 0) := S7.out.r 7 _ rfl
      have z8 : W7.frozen? ⟨W6.heap.size, 8, none⟩ = false := (T7.out 8 (by omega)).2
      have U7 : Hid (SAt (W7.setCell ⟨W6.heap.size, 8, none⟩ (.int .u32 1)) W6.heap.size (⟨0, fun i => if i = 7 then 1 else 0, fun _ => 0, some ⟨wq.heap.size, 0, none⟩, 2, 2, fun j => if j = 0 then 1 else 2⟩ : Ss)) := sat_reg S7.out T7.out 7 (by omega) 1
      have G7 : Hid (Fr W6 (W7.setCell ⟨W6.heap.size, 8, none⟩ (.int .u32 1))) := F7.out.setCell (Nat.le_refl _) _
      go_upto_region 33 with fail
      generalize W7.setCell ⟨W6.heap.size, 8, none⟩ (.int .u32 1) = W8 at *
      clear c8 z8 S7 F7 T7
      go_wp2_with (first
        | (refine load_want (by rfl) 32 _ rfl (wq.heap.size + 1 + 1) 0 rfl (sM wq.heap.size 2).cs _ (S6'.out.fr G7.out).a Try.underlying32 rfl (by rw [Ss.len]; exact size32) ?_)
        | (refine wpList_box W8 _ (by rfl) rfl _ _ rfl (sM wq.heap.size 2) W8.heap.size rfl rfl rfl ?_))
      intro W10 S10 F10 T10
      have c37 : W10.cell? ⟨W8.heap.size, 37, none⟩ = some (.int .u32 0) := S10.out.c 4 _ rfl
      have z37 : W10.frozen? ⟨W8.heap.size, 37, none⟩ = false := (T10.out 37 (by omega)).2
      have U10 : Hid (SAt (W10.setCell ⟨W8.heap.size, 37, none⟩ (.int .u32 1)) W8.heap.size (⟨0, fun _ => 0, fun i => if i = 4 then 1 else 0, some ⟨wq.heap.size, 0, none⟩, 2, 2, fun j => if j = 0 then 1 else 2⟩ : Ss)) := sat_csr S10.out T10.out 4 (by omega) 1
      have G10 : Hid (Fr W8 (W10.setCell ⟨W8.heap.size, 37, none⟩ (.int .u32 1))) := F10.out.setCell (Nat.le_refl _) _
      go_upto_region 35 with fail
      generalize W10.setCell ⟨W8.heap.size, 37, none⟩ (.int .u32 1) = WF at *
      clear c37 z37 S10 F10 T10
      have GF : Hid (Fr W6 WF) := G7.out.trans G10.out
      have KF : Hid (∀ W : World, Fr WF W → (W.rangeAt (wq.heap.size + 1 + 1) 0 (sM wq.heap.size 2).cs ∧ W.rangeAt (wq.heap.size + 1 + 1 + 1) 0 (sM (wq.heap.size + 1) 3).cs ∧ W.rangeAt W6.heap.size 0 (⟨0, fun i => if i = 7 then 1 else 0, fun _ => 0, some ⟨wq.heap.size, 0, none⟩, 2, 2, fun j => if j = 0 then 1 else 2⟩ : Ss).cs ∧ W.rangeAt W8.heap.size 0 (⟨0, fun _ => 0, fun i => if i = 4 then 1 else 0, some ⟨wq.heap.size, 0, none⟩, 2, 2, fun j => if j = 0 then 1 else 2⟩ : Ss).cs ∧ (sM wq.heap.size 2).In W ∧ (sM (wq.heap.size + 1) 3).In W)) := fun W F =>
        ⟨(S6'.out.fr (GF.out.trans F)).a, (S6.out.fr (GF.out.trans F)).a, (U7.out.fr (G10.out.trans F)).a, (U10.out.fr F).a, I6.out.fr (GF.out.trans F), J6.out.fr (GF.out.trans F)⟩
      have Y0 : Hid (Fr WF WF) := Fr.refl _
      have FX : Hid (Fr w WF) := HDW.trans (F6.out.trans GF.out)
      clear U7 G7 U10 G10 S6 S6' I6 J6 GF
      go_wp2_with (first
        | (refine load_want (by rfl) 32 _ rfl (wq.heap.size + 1 + 1) 0 rfl (sM wq.heap.size 2).cs _ (KF.out _ Y0.out).1 Try.underlying32 rfl (by rw [Ss.len]; exact size32) ?_)
        | (refine load_want (by rfl) 32 _ rfl (wq.heap.size + 1 + 1 + 1) 0 rfl (sM (wq.heap.size + 1) 3).cs _ (KF.out _ Y0.out).2.1 Try.underlying32 rfl (by rw [Ss.len]; exact size32) ?_))
      refine (states_as (sM wq.heap.size 2) (sM (wq.heap.size + 1) 3) false (eq_st _ _) _ (by exact (KF.out _ Y0.out).2.2.2.2.1) (by exact (KF.out _ Y0.out).2.2.2.2.2)).mono ?_; rintro e y1 ⟨rfl, hF⟩
      have Y1 : Hid (Fr WF y1) := Y0.out.trans hF
      clear hF
      go_wp2_with (first
        | (refine load_want (by rfl) 32 _ rfl (wq.heap.size + 1 + 1) 0 rfl (sM wq.heap.size 2).cs _ (KF.out _ Y1.out).1 Try.underlying32 rfl (by rw [Ss.len]; exact size32) ?_)
        | (refine load_want (by rfl) 32 _ rfl W6.heap.size 0 rfl (⟨0, fun i => if i = 7 then 1 else 0, fun _ => 0, some ⟨wq.heap.size, 0, none⟩, 2, 2, fun j => if j = 0 then 1 else 2⟩ : Ss).cs _ (KF.out _ Y1.out).2.2.1 Try.underlying32 rfl (by rw [Ss.len]; exact size32) ?_))
      refine (states_as (sM wq.heap.size 2) (⟨0, fun i => if i = 7 then 1 else 0, fun _ => 0, some ⟨wq.heap.size, 0, none⟩, 2, 2, fun j => if j = 0 then 1 else 2⟩ : Ss) false (eq_su _) _ (by exact (KF.out _ Y1.out).2.2.2.2.1) (by exact (KF.out _ Y1.out).2.2.2.2.1)).mono ?_; rintro e y2 ⟨rfl, hF⟩
      have Y2 : Hid (Fr WF y2) := Y1.out.trans hF
      clear hF
      go_wp2_with (first
        | (refine load_want (by rfl) 32 _ rfl (wq.heap.size + 1 + 1) 0 rfl (sM wq.heap.size 2).cs _ (KF.out _ Y2.out).1 Try.underlying32 rfl (by rw [Ss.len]; exact size32) ?_)
        | (refine load_want (by rfl) 32 _ rfl W8.heap.size 0 rfl (⟨0, fun _ => 0, fun i => if i = 4 then 1 else 0, some ⟨wq.heap.size, 0, none⟩, 2, 2, fun j => if j = 0 then 1 else 2⟩ : Ss).cs _ (KF.out _ Y2.out).2.2.2.1 Try.underlying32 rfl (by rw [Ss.len]; exact size32) ?_))
      refine (states_as (sM wq.heap.size 2) (⟨0, fun _ => 0, fun i => if i = 4 then 1 else 0, some ⟨wq.heap.size, 0, none⟩, 2, 2, fun j => if j = 0 then 1 else 2⟩ : Ss) false (eq_sv _) _ (by exact (KF.out _ Y2.out).2.2.2.2.1) (by exact (KF.out _ Y2.out).2.2.2.2.1)).mono ?_; rintro e y3 ⟨rfl, hF⟩
      have Y3 : Hid (Fr WF y3) := Y2.out.trans hF
      clear hF
      go_wp2_with (first
        | (refine load_want (by rfl) 32 _ rfl (wq.heap.size + 1 + 1) 0 rfl (sM wq.heap.size 2).cs _ (KF.out _ Y3.out).1 Try.underlying32 rfl (by rw [Ss.len]; exact size32) ?_))
      refine (states_lit (sM wq.heap.size 2) ⟨0, fun _ => 0, fun _ => 0, some ⟨y3.heap.size, 0, none⟩, 1, 1, fun _ => 1⟩ _ _ rfl rfl false (eq_sp _ _) _ (by exact (KF.out _ (Y3.out.alloc _)).2.2.2.2.1) (by exact ⟨show ((1 : Nat) : Int) ≤ _ by decide, WIn.new y3 (fun _ => 1) 1 _ rfl 22⟩)).mono ?_; rintro e y4 ⟨rfl, hF⟩
      have Y4 : Hid (Fr WF y4) := (Y3.out.alloc _).trans hF
      clear hF
      go_wp2_with (first
        | (refine load_want (by rfl) 32 _ rfl (wq.heap.size + 1 + 1) 0 rfl (sM wq.heap.size 2).cs _ (KF.out _ Y4.out).1 Try.underlying32 rfl (by rw [Ss.len]; exact size32) ?_))
      refine (states_as (sM wq.heap.size 2) (sM wq.heap.size 2) true (eq_ss _) _ (by exact (KF.out _ Y4.out).2.2.2.2.1) (by exact (KF.out _ Y4.out).2.2.2.2.1)).mono ?_; rintro e y5 ⟨rfl, hF⟩
      have Y5 : Hid (Fr WF y5) := Y4.out.trans hF
      clear hF
      go_wp2_with fail
      refine (known_as _).mono ?_; rintro e y6 ⟨rfl, hF⟩
      have Y6 : Hid (Fr WF y6) := Y5.out.trans hF
      clear hF
      go_wp2_with fail
      go_ret
      exact ⟨rfl, FX.out.trans Y6.out⟩
end Go.Proofs.Ytkchpegpmpijcaa.M
