/- Contract of the document's States. -/
import Derived.Test.YtkchpegpmpijcaaStates
import Derived.BigQuiet
import Derived.Deep.QuietTactic
namespace Go.Proofs.Ytkchpegpmpijcaa.M
open Go.ChangeShapes Go.WideShapes Go.ChangeAt Go.RowKit Go.Proofs.Ytkchpegpmpijcaa.Walks
set_option linter.unusedVariables false
/-- the walk stands here -/
theorem stopHere {P : Program} {ops : Array Oper} {rest : List Oper} {op : Oper} {a : Act} {w : World} {Q : Exit → Act → World → Prop} (h : Hid (wpList P ops Q (op :: rest) a w)) : wpList P ops Q (op :: rest) a w := h
set_option maxRecDepth 100000 in
set_option maxHeartbeats 600000 in
theorem rst_p (s t : Ss) (p : ¬ s.pc = t.pc) (w : World) (hS : Hid (s.In w)) (hT : Hid (t.In w)) :
    Calls Try.prog 14 #[.agg s.cs.toArray, .agg t.cs.toArray] w fun e w' => e = .returned (.bool false) ∧ Fr w w' := by
  have X := hid (SAt.of (two_a w s.cs t.cs 32 32))
  have Y := hid (SAt.of (two_b w s.cs t.cs 32 32))
  have x0 := X.out.p
  have y0 := Y.out.p
  have x38 := X.out.l
  have y38 := Y.out.l
  have F0 : Hid (Fr w ((w.alloc (.cells s.cs.toArray 32)).alloc (.cells t.cs.toArray 32))) := ((Fr.refl w).alloc _).alloc _
  have p' : (s.pc == t.pc) = false := by simpa using p
  go_enter Try.func14, Try.ntmps14
  go_wp2_with fail
  go_ret
  exact ⟨rfl, F0.out⟩
set_option maxRecDepth 100000 in
set_option maxHeartbeats 600000 in
theorem rst_r (s t : Ss) (p : s.pc = t.pc) (r : Hid (eqN s.r t.r 32 = false)) (w : World) (hS : Hid (s.In w)) (hT : Hid (t.In w)) :
    Calls Try.prog 14 #[.agg s.cs.toArray, .agg t.cs.toArray] w fun e w' => e = .returned (.bool false) ∧ Fr w w' := by
  have X := hid (SAt.of (two_a w s.cs t.cs 32 32))
  have Y := hid (SAt.of (two_b w s.cs t.cs 32 32))
  have x0 := X.out.p
  have y0 := Y.out.p
  have x38 := X.out.l
  have y38 := Y.out.l
  have F0 : Hid (Fr w ((w.alloc (.cells s.cs.toArray 32)).alloc (.cells t.cs.toArray 32))) := ((Fr.refl w).alloc _).alloc _
  have e1 : ∀ W, (binOp .neq 29 (.agg (wl s.r 32).toArray) (.agg (wl t.r 32).toArray)).run Try.prog W = .ok (.bool true) W := fun W => by rw [neq29, r.out]; rfl
  rw [p] at x0
  clear p
  go_enter Try.func14, Try.ntmps14
  go_wp2_with (first
        | (refine load_want (by rfl) 29 _ rfl w.heap.size 1 rfl (wl s.r 32) _ X.out.r Try.underlying29 rfl (by rw [wl_len]; exact size29) ?_)
        | (refine load_want (by rfl) 29 _ rfl (w.heap.size + 1) 1 rfl (wl t.r 32) _ Y.out.r Try.underlying29 rfl (by rw [wl_len]; exact size29) ?_; refine stopHere ?_))
  unfold Hid
  go_wp2_with fail
  go_ret
  exact ⟨rfl, F0.out⟩
set_option maxRecDepth 100000 in
set_option maxHeartbeats 600000 in
theorem rst_q (s t : Ss) (p : s.pc = t.pc) (r : Hid (eqN s.r t.r 32 = true)) (q : Hid (eqN s.c t.c 5 = false)) (w : World) (hS : Hid (s.In w)) (hT : Hid (t.In w)) :
    Calls Try.prog 14 #[.agg s.cs.toArray, .agg t.cs.toArray] w fun e w' => e = .returned (.bool false) ∧ Fr w w' := by
  have X := hid (SAt.of (two_a w s.cs t.cs 32 32))
  have Y := hid (SAt.of (two_b w s.cs t.cs 32 32))
  have x0 := X.out.p
  have y0 := Y.out.p
  have x38 := X.out.l
  have y38 := Y.out.l
  have F0 : Hid (Fr w ((w.alloc (.cells s.cs.toArray 32)).alloc (.cells t.cs.toArray 32))) := ((Fr.refl w).alloc _).alloc _
  have e1 : ∀ W, (binOp .neq 29 (.agg (wl s.r 32).toArray) (.agg (wl t.r 32).toArray)).run Try.prog W = .ok (.bool false) W := fun W => by rw [neq29, r.out]; rfl
  have e2 : ∀ W, (binOp .neq 30 (.agg (wl s.c 5).toArray) (.agg (wl t.c 5).toArray)).run Try.prog W = .ok (.bool true) W := fun W => by rw [neq30, q.out]; rfl
  rw [p] at x0
  clear p
  go_enter Try.func14, Try.ntmps14
  go_wp2_with (first
        | (refine load_want (by rfl) 29 _ rfl w.heap.size 1 rfl (wl s.r 32) _ X.out.r Try.underlying29 rfl (by rw [wl_len]; exact size29) ?_)
        | (refine load_want (by rfl) 29 _ rfl (w.heap.size + 1) 1 rfl (wl t.r 32) _ Y.out.r Try.underlying29 rfl (by rw [wl_len]; exact size29) ?_)
        | (refine load_want (by rfl) 30 _ rfl w.heap.size 33 rfl (wl s.c 5) _ X.out.c Try.underlying30 rfl (by rw [wl_len]; exact size30) ?_)
        | (refine load_want (by rfl) 30 _ rfl (w.heap.size + 1) 33 rfl (wl t.c 5) _ Y.out.c Try.underlying30 rfl (by rw [wl_len]; exact size30) ?_; refine stopHere ?_))
  unfold Hid
  go_wp2_with fail
  go_ret
  exact ⟨rfl, F0.out⟩
set_option maxRecDepth 100000 in
set_option maxHeartbeats 600000 in
theorem rst_n (s t : Ss) (p : s.pc = t.pc) (r : Hid (eqN s.r t.r 32 = true)) (q : Hid (eqN s.c t.c 5 = true)) (hn : ¬ (s.n : Int) = t.n) (w : World) (hS : Hid (s.In w)) (hT : Hid (t.In w)) :
    Calls Try.prog 14 #[.agg s.cs.toArray, .agg t.cs.toArray] w fun e w' => e = .returned (.bool false) ∧ Fr w w' := by
  have X := hid (SAt.of (two_a w s.cs t.cs 32 32))
  have Y := hid (SAt.of (two_b w s.cs t.cs 32 32))
  have x0 := X.out.p
  have y0 := Y.out.p
  have x38 := X.out.l
  have y38 := Y.out.l
  have F0 : Hid (Fr w ((w.alloc (.cells s.cs.toArray 32)).alloc (.cells t.cs.toArray 32))) := ((Fr.refl w).alloc _).alloc _
  have e1 : ∀ W, (binOp .neq 29 (.agg (wl s.r 32).toArray) (.agg (wl t.r 32).toArray)).run Try.prog W = .ok (.bool false) W := fun W => by rw [neq29, r.out]; rfl
  have e2 : ∀ W, (binOp .neq 30 (.agg (wl s.c 5).toArray) (.agg (wl t.c 5).toArray)).run Try.prog W = .ok (.bool false) W := fun W => by rw [neq30, q.out]; rfl
  rw [p] at x0
  clear p
  go_enter Try.func14, Try.ntmps14
  go_wp2_with (first
        | (refine load_want (by rfl) 29 _ rfl w.heap.size 1 rfl (wl s.r 32) _ X.out.r Try.underlying29 rfl (by rw [wl_len]; exact size29) ?_)
        | (refine load_want (by rfl) 29 _ rfl (w.heap.size + 1) 1 rfl (wl t.r 32) _ Y.out.r Try.underlying29 rfl (by rw [wl_len]; exact size29) ?_)
        | (refine load_want (by rfl) 30 _ rfl w.heap.size 33 rfl (wl s.c 5) _ X.out.c Try.underlying30 rfl (by rw [wl_len]; exact size30) ?_)
        | (refine load_want (by rfl) 30 _ rfl (w.heap.size + 1) 33 rfl (wl t.c 5) _ Y.out.c Try.underlying30 rfl (by rw [wl_len]; exact size30) ?_))
  go_ret
  exact ⟨rfl, F0.out⟩
set_option maxRecDepth 100000 in
set_option maxHeartbeats 600000 in
theorem rst_l (s t : Ss) (c : Bool) (E : Hid (eqN s.m t.m s.n = c)) (p : s.pc = t.pc) (r : Hid (eqN s.r t.r 32 = true)) (q : Hid (eqN s.c t.c 5 = true)) (hn : s.n = t.n) (w : World) (hS : Hid (s.In w)) (hT : Hid (t.In w)) :
    Calls Try.prog 14 #[.agg s.cs.toArray, .agg t.cs.toArray] w fun e w' => e = .returned (.bool c) ∧ Fr w w' := by
  have X := hid (SAt.of (two_a w s.cs t.cs 32 32))
  have Y := hid (SAt.of (two_b w s.cs t.cs 32 32))
  have x0 := X.out.p
  have y0 := Y.out.p
  have x38 := X.out.l
  have y38 := Y.out.l
  have F0 : Hid (Fr w ((w.alloc (.cells s.cs.toArray 32)).alloc (.cells t.cs.toArray 32))) := ((Fr.refl w).alloc _).alloc _
  have e1 : ∀ W, (binOp .neq 29 (.agg (wl s.r 32).toArray) (.agg (wl t.r 32).toArray)).run Try.prog W = .ok (.bool false) W := fun W => by rw [neq29, r.out]; rfl
  have e2 : ∀ W, (binOp .neq 30 (.agg (wl s.c 5).toArray) (.agg (wl t.c 5).toArray)).run Try.prog W = .ok (.bool false) W := fun W => by rw [neq30, q.out]; rfl
  rw [p] at x0
  clear p
  have n1 := hS.out.1
  have HN := hid hn
  rw [← hn] at y38
  clear hn
  go_enter Try.func14, Try.ntmps14
  go_wp2_with (first
        | (refine load_want (by rfl) 29 _ rfl w.heap.size 1 rfl (wl s.r 32) _ X.out.r Try.underlying29 rfl (by rw [wl_len]; exact size29) ?_)
        | (refine load_want (by rfl) 29 _ rfl (w.heap.size + 1) 1 rfl (wl t.r 32) _ Y.out.r Try.underlying29 rfl (by rw [wl_len]; exact size29) ?_)
        | (refine load_want (by rfl) 30 _ rfl w.heap.size 33 rfl (wl s.c 5) _ X.out.c Try.underlying30 rfl (by rw [wl_len]; exact size30) ?_)
        | (refine load_want (by rfl) 30 _ rfl (w.heap.size + 1) 33 rfl (wl t.c 5) _ Y.out.c Try.underlying30 rfl (by rw [wl_len]; exact size30) ?_))
  have w2e : Hid (Fr w ((w.alloc (.cells s.cs.toArray 32)).alloc (.cells t.cs.toArray 32))) := F0
  clear e1 e2
  go_loopw [37] (fun z wr => ∃ d : Nat, (d : Int) ≤ s.n ∧ z = .int .i64 d ∧ Hid (eqN s.m t.m d = true ∧ Fr w wr ∧ wr.Alike ((w.alloc (.cells s.cs.toArray 32)).alloc (.cells t.cs.toArray 32)))) (fun z _ => s.n - (intOf z).toNat)
  case atStart => exact ⟨0, by omega, rfl, rfl, F0.out, rfl, rfl, rfl⟩
  case round =>
    obtain ⟨d, hd, rfl, HD⟩ := hrel
    rename_i wr
    have c1 := (X.out.fr ((Fr.refl _).alike HD.out.2.2)).l
    have c2 := (Y.out.fr ((Fr.refl _).alike HD.out.2.2)).l
    rw [← HN.out] at c2
    clear x0 y0 x38 y38
    by_cases hlt : (d : Int) < s.n
    · obtain ⟨a, oa, eA, a1, a2⟩ := hS.out.2.fr HD.out.2.1 d (by omega)
      obtain ⟨b, ob, eB, b1, b2⟩ := hT.out.2.fr HD.out.2.1 d (by have := HN.out; omega)
      rw [eA] at c1
      rw [eB] at c2
      clear eA eB
      by_cases e : s.m d = t.m d
      · have E' : Hid (eqN s.m t.m (d + 1) = true ∧ Fr w wr ∧ wr.Alike ((w.alloc (.cells s.cs.toArray 32)).alloc (.cells t.cs.toArray 32))) := ⟨by simp only [eqN, HD.out.1, Bool.true_and]; simpa using e, HD.out.2⟩
        clear HD
        rw [e] at a2
        clear e
        go_wp2_with fail
        go_quiet (fail)
        go_wp2_with fail
        exact ⟨⟨d + 1, by omega, by rw [Int.natCast_add]; rfl, E'.out.1, E'.out.2.1.alike ⟨rfl, rfl, rfl⟩, E'.out.2.2.1, E'.out.2.2.2.1, E'.out.2.2.2.2⟩, by simp [intOf]; omega⟩
      · obtain rfl : c = false := by rw [← E.out]; exact eqN_false (by omega) e
        go_wp2_with fail
        go_quiet (fail)
        go_wp2_with fail
        go_ret
        exact ⟨rfl, HD.out.2.1.alike ⟨rfl, rfl, rfl⟩⟩
    · have dn : d = s.n := by omega
      subst dn
      obtain rfl : c = true := by rw [← E.out]; exact HD.out.1
      go_wp2_with fail
      go_ret
      exact ⟨rfl, HD.out.2.1⟩
theorem rstates_as (s t : Ss) (c : Bool) (hc : Hid (s.eq t = c)) (w : World) (hS : Hid (s.In w)) (hT : Hid (t.In w)) :
    Calls Try.prog 14 #[.agg s.cs.toArray, .agg t.cs.toArray] w fun e w' => e = .returned (.bool c) ∧ Fr w w' := by
  by_cases p : s.pc = t.pc
  · cases r : eqN s.r t.r 32 with
    | true =>
      cases q : eqN s.c t.c 5 with
      | true =>
        by_cases hn : s.n = t.n
        · exact rst_l s t c (by unfold Hid; rw [← hc.out, Ss.eq, r, q]; simp [p, hn]) p r q hn w hS hT
        · obtain rfl : c = false := by rw [← hc.out, Ss.eq, r, q]; simp [hn]
          exact rst_n s t p r q (by omega) w hS hT
      | false =>
        obtain rfl : c = false := by rw [← hc.out, Ss.eq, r, q]; simp
        exact rst_q s t p r q w hS hT
    | false =>
      obtain rfl : c = false := by rw [← hc.out, Ss.eq, r]; simp
      exact rst_r s t p r w hS hT
  · obtain rfl : c = false := by rw [← hc.out, Ss.eq]; simp [p]
    exact rst_p s t p w hS hT
end Go.Proofs.Ytkchpegpmpijcaa.M
