/- Contracts of both States: the program's and the document's. -/
import Derived.Test.YtkchpegpmpijcaaPrefix
import Derived.Test.YtkchpegpmpijcaaSame
namespace Go.Proofs.Ytkchpegpmpijcaa.M
open Go.ChangeShapes Go.WideShapes Go.ChangeAt Go.RowKit Go.Proofs.Ytkchpegpmpijcaa.Walks
set_option linter.unusedVariables false
/-- a state: PC, registers, CSRs, memory's words and where they lie -/
structure Ss where
  pc : Int
  r : Nat → Int
  c : Nat → Int
  A : Option Addr
  n : Nat
  k : Nat
  m : Nat → Int
/-- its cells -/
def Ss.cs (s : Ss) : List Value := .int .u32 s.pc :: (wl s.r 32 ++ (wl s.c 5 ++ [.slice s.A s.n s.k]))
theorem Ss.len (s : Ss) : s.cs.length = 39 := by simp [Ss.cs, wl]
/-- its memory's words lie there -/
def Ss.In (s : Ss) (w : World) : Prop := (s.n : Int) ≤ 1000000000000000 ∧ WIn w s.A s.n s.m
theorem Ss.In.fr {s : Ss} {w w' : World} (h : s.In w) (F : Fr w w') : s.In w' := ⟨h.1, h.2.fr F⟩
/-- do they look alike? -/
def Ss.eq (s t : Ss) : Bool := s.pc == t.pc && (eqN s.r t.r 32 && (eqN s.c t.c 5 && (decide (s.n = t.n) && eqN s.m t.m s.n)))
/-- a state's parts, where they lie -/
structure SAt (w : World) (b : Nat) (s : Ss) : Prop where
  p : w.cell? ⟨b, 0, none⟩ = some (.int .u32 s.pc)
  r : w.rangeAt b 1 (wl s.r 32)
  c : w.rangeAt b 33 (wl s.c 5)
  l : w.cell? ⟨b, 38, none⟩ = some (.slice s.A s.n s.k)
  a : w.rangeAt b 0 s.cs
theorem Ss.at0 (s : Ss) : s.cs[0]? = some (.int .u32 s.pc) := rfl
theorem Ss.atR (s : Ss) (j : Nat) (h : j < 32) : s.cs[1 + j]? = some (.int .u32 (s.r j)) := by
  rw [Ss.cs, Nat.add_comm, List.getElem?_cons_succ, List.getElem?_append_left (by rw [wl_len]; exact h)]
  exact wl_at s.r 32 j h
theorem Ss.atC (s : Ss) (j : Nat) (h : j < 5) : s.cs[33 + j]? = some (.int .u32 (s.c j)) := by
  rw [Ss.cs, show 33 + j = (32 + j) + 1 by omega, List.getElem?_cons_succ, List.getElem?_append_right (by rw [wl_len]; omega), wl_len, List.getElem?_append_left (by rw [wl_len]; omega), show 32 + j - 32 = j by omega]
  exact wl_at s.c 5 j h
theorem Ss.atL (s : Ss) : s.cs[38]? = some (.slice s.A s.n s.k) := by
  rw [Ss.cs, List.getElem?_cons_succ, List.getElem?_append_right (by rw [wl_len]; omega), wl_len, List.getElem?_append_right (by rw [wl_len]; omega), wl_len]
  rfl
theorem SAt.of {w : World} {b : Nat} {s : Ss} (h : w.rangeAt b 0 s.cs) : SAt w b s := by
  have g : ∀ j u, s.cs[j]? = some u → w.cell? ⟨b, j, none⟩ = some u := fun j u hu => by have := h j u hu; rwa [Nat.zero_add] at this
  refine ⟨g 0 _ s.at0, fun j u hu => ?_, fun j u hu => ?_, g 38 _ s.atL, h⟩
  · have hj : j < 32 := by have := (List.getElem?_eq_some_iff.1 hu).1; rwa [wl_len] at this
    rw [wl_at s.r 32 j hj] at hu
    injection hu with hu
    subst hu
    exact g (1 + j) _ (s.atR j hj)
  · have hj : j < 5 := by have := (List.getElem?_eq_some_iff.1 hu).1; rwa [wl_len] at this
    rw [wl_at s.c 5 j hj] at hu
    injection hu with hu
    subst hu
    exact g (33 + j) _ (s.atC j hj)
theorem SAt.lt {w : World} {b : Nat} {s : Ss} (h : SAt w b s) : b < w.heap.size := World.block_lt_of_cell? w _ h.p
theorem SAt.fr {w w' : World} {b : Nat} {s : Ss} (h : SAt w b s) (k : Fr w w') : SAt w' b s := SAt.of (range_fr h.a k h.lt)
theorem and_f {a b : Bool} (h : a = false) : (a && b) = false := by simp [h]
set_option maxRecDepth 100000 in
set_option maxHeartbeats 1000000 in
theorem states_as (s t : Ss) (c : Bool) (hc : Hid (s.eq t = c)) (w : World) (hS : Hid (s.In w)) (hT : Hid (t.In w)) :
    Calls Try.prog 8 #[.agg s.cs.toArray, .agg t.cs.toArray] w fun e w' => e = .returned (.bool c) ∧ Fr w w' := by
  have X := hid (SAt.of (two_a w s.cs t.cs 32 32))
  have Y := hid (SAt.of (two_b w s.cs t.cs 32 32))
  have x0 := X.out.p
  have y0 := Y.out.p
  have x38 := X.out.l
  have y38 := Y.out.l
  have F0 : Hid (Fr w ((w.alloc (.cells s.cs.toArray 32)).alloc (.cells t.cs.toArray 32))) := ((Fr.refl w).alloc _).alloc _
  by_cases p : s.pc = t.pc
  · cases r : eqN s.r t.r 32 with
    | true =>
      cases q : eqN s.c t.c 5 with
      | true =>
        have e1 : ∀ W, (binOp .eql 29 (.agg (wl s.r 32).toArray) (.agg (wl t.r 32).toArray)).run Try.prog W = .ok (.bool true) W := fun W => by rw [eql29, r]
        have e2 : ∀ W, (binOp .eql 30 (.agg (wl s.c 5).toArray) (.agg (wl t.c 5).toArray)).run Try.prog W = .ok (.bool true) W := fun W => by rw [eql30, q]
        have E : Hid ((decide (s.n = t.n) && eqN s.m t.m s.n) = c) := by unfold Hid; rw [← hc.out, Ss.eq, r, q]; simp [p]
        rw [p] at x0
        clear r q hc p
        go_enter Try.func8, Try.ntmps8
        go_wp2_with (first
          | (refine load_want (by rfl) 29 _ rfl w.heap.size 1 rfl (wl s.r 32) _ X.out.r Try.underlying29 rfl (by rw [wl_len]; exact size29) ?_)
          | (refine load_want (by rfl) 29 _ rfl (w.heap.size + 1) 1 rfl (wl t.r 32) _ Y.out.r Try.underlying29 rfl (by rw [wl_len]; exact size29) ?_)
          | (refine load_want (by rfl) 30 _ rfl w.heap.size 33 rfl (wl s.c 5) _ X.out.c Try.underlying30 rfl (by rw [wl_len]; exact size30) ?_)
          | (refine load_want (by rfl) 30 _ rfl (w.heap.size + 1) 33 rfl (wl t.c 5) _ Y.out.c Try.underlying30 rfl (by rw [wl_len]; exact size30) ?_))
        refine (words_as s.A t.A s.n t.n s.k t.k s.m t.m hS.out.1 hT.out.1 c E _ (hS.out.2.fr F0.out) (hT.out.2.fr F0.out)).mono ?_; rintro e w1 ⟨rfl, ew⟩
        obtain rfl := ew
        go_wp2_with fail
        go_ret
        exact ⟨rfl, F0.out⟩
      | false =>
        have e1 : ∀ W, (binOp .eql 29 (.agg (wl s.r 32).toArray) (.agg (wl t.r 32).toArray)).run Try.prog W = .ok (.bool true) W := fun W => by rw [eql29, r]
        have e2 : ∀ W, (binOp .eql 30 (.agg (wl s.c 5).toArray) (.agg (wl t.c 5).toArray)).run Try.prog W = .ok (.bool false) W := fun W => by rw [eql30, q]
        obtain rfl : c = false := by rw [← hc.out, Ss.eq, r, q]; simp
        rw [p] at x0
        clear r q hc p
        go_enter Try.func8, Try.ntmps8
        go_wp2_with (first
          | (refine load_want (by rfl) 29 _ rfl w.heap.size 1 rfl (wl s.r 32) _ X.out.r Try.underlying29 rfl (by rw [wl_len]; exact size29) ?_)
          | (refine load_want (by rfl) 29 _ rfl (w.heap.size + 1) 1 rfl (wl t.r 32) _ Y.out.r Try.underlying29 rfl (by rw [wl_len]; exact size29) ?_)
          | (refine load_want (by rfl) 30 _ rfl w.heap.size 33 rfl (wl s.c 5) _ X.out.c Try.underlying30 rfl (by rw [wl_len]; exact size30) ?_)
          | (refine load_want (by rfl) 30 _ rfl (w.heap.size + 1) 33 rfl (wl t.c 5) _ Y.out.c Try.underlying30 rfl (by rw [wl_len]; exact size30) ?_))
        go_ret
        exact ⟨rfl, F0.out⟩
    | false =>
      have e1 : ∀ W, (binOp .eql 29 (.agg (wl s.r 32).toArray) (.agg (wl t.r 32).toArray)).run Try.prog W = .ok (.bool false) W := fun W => by rw [eql29, r]
      obtain rfl : c = false := by rw [← hc.out, Ss.eq, r]; simp
      rw [p] at x0
      clear r hc p
      go_enter Try.func8, Try.ntmps8
      go_wp2_with (first
        | (refine load_want (by rfl) 29 _ rfl w.heap.size 1 rfl (wl s.r 32) _ X.out.r Try.underlying29 rfl (by rw [wl_len]; exact size29) ?_)
        | (refine load_want (by rfl) 29 _ rfl (w.heap.size + 1) 1 rfl (wl t.r 32) _ Y.out.r Try.underlying29 rfl (by rw [wl_len]; exact size29) ?_))
      go_ret
      exact ⟨rfl, F0.out⟩
  · obtain rfl : c = false := by rw [← hc.out, Ss.eq]; simp [p]
    clear hc
    have p' : (s.pc == t.pc) = false := by simpa using p
    go_enter Try.func8, Try.ntmps8
    go_wp2_with fail
    go_ret
    exact ⟨rfl, F0.out⟩
end Go.Proofs.Ytkchpegpmpijcaa.M
