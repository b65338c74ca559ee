/- A state that is stored into a box, and turned there: its memory and its registers. -/
import Derived.Test.YtkchpegpmpijcaaApps
import Derived.Test.YtkchpegpmpijcaaSet
namespace Go.Proofs.Ytkchpegpmpijcaa.M
open Go.ChangeShapes Go.WideShapes Go.ChangeAt Go.RowKit Go.Proofs.Ytkchpegpmpijcaa.Walks
set_option linter.unusedVariables false
theorem Fr.setCells {u : World} (b : Nat) (hb : u.heap.size ≤ b) : ∀ (cs : List Value) (o : Nat) (w : World), Fr u w → Fr u (w.setCells b o cs)
  | [], _, _, h => h
  | x :: cs, o, w, h => Fr.setCells b hb cs (o + 1) _ (h.setCell (a := ⟨b, o, none⟩) hb x)
theorem SAt.made {w : World} {b : Nat} {s : Ss} (p : w.cell? ⟨b, 0, none⟩ = some (.int .u32 s.pc)) (r : w.rangeAt b 1 (wl s.r 32)) (c : w.rangeAt b 33 (wl s.c 5)) (l : w.cell? ⟨b, 38, none⟩ = some (.slice s.A s.n s.k)) : SAt w b s := by
  refine SAt.of fun j u hu => ?_
  have hj : j < 39 := by have := (List.getElem?_eq_some_iff.1 hu).1; rwa [Ss.len] at this
  rw [Nat.zero_add]
  by_cases e0 : j = 0
  · subst e0
    rw [s.at0] at hu; injection hu with hu; subst hu; exact p
  by_cases e1 : j < 33
  · obtain ⟨i, rfl⟩ : ∃ i, j = 1 + i := ⟨j - 1, by omega⟩
    rw [s.atR i (by omega)] at hu; injection hu with hu; subst hu; exact r i _ (wl_at s.r 32 i (by omega))
  by_cases e2 : j < 38
  · obtain ⟨i, rfl⟩ : ∃ i, j = 33 + i := ⟨j - 33, by omega⟩
    rw [s.atC i (by omega)] at hu; injection hu with hu; subst hu; exact c i _ (wl_at s.c 5 i (by omega))
  · obtain rfl : j = 38 := by omega
    rw [s.atL] at hu; injection hu with hu; subst hu; exact l
theorem there_new (w : World) (cs : List Value) (t : TypeId) : (w.alloc (.cells cs.toArray t)).there w.heap.size 0 cs.length := fun j hj => by
  refine ⟨?_, by rw [World.frozen?_alloc_at _ _ _ _ rfl]⟩
  rw [World.cell?_alloc_at _ _ _ _ rfl, Nat.zero_add, List.getElem?_toArray, List.getElem?_eq_getElem hj]
  rfl
theorem one_s (s : Ss) : ∀ u ∈ s.cs, u.oneCell' = true := by
  intro u hu
  rw [Ss.cs] at hu
  rcases List.mem_cons.1 hu with rfl | hu
  · rfl
  rcases List.mem_append.1 hu with hu | hu
  · exact one_wl _ _ u hu
  rcases List.mem_append.1 hu with hu | hu
  · exact one_wl _ _ u hu
  · simp only [List.mem_singleton] at hu; subst hu; rfl
theorem ssz (s : Ss) : s.cs.toArray.size = 39 := by rw [List.size_toArray]; exact s.len
theorem wsz (f : Nat → Int) (n : Nat) : (wl f n).toArray.size = n := by rw [List.size_toArray]; exact wl_len f n
/-- a state that is stored in a box that is new -/
theorem wpList_box {ops : Array Oper} {rest : List Oper} {op : Oper} {a : Act} {Q : Exit → Act → World → Prop} (w1 : World) (Z : Array Value) (hZ : Z = (zS 0).cs.toArray) (hgd : op.guard = none) (x y : Operand) (ho : op.op = .store 32 x y) (s : Ss) (b : Nat) (hbw : w1.heap.size = b)
    (hx : a.eval x = .pointer (some ⟨b, 0, none⟩)) (hy : a.eval y = .agg s.cs.toArray)
    (h : ∀ W, Hid (SAt W b s) → Hid (Fr w1 W) → Hid (W.there b 0 39) → wpList Try.prog ops Q rest (a.put op.dst undef) W) : wpList Try.prog ops Q (op :: rest) a (w1.alloc (.cells Z 32)) := by
  subst hZ
  subst hbw
  have T : (w1.alloc (.cells (zS 0).cs.toArray 32)).there w1.heap.size 0 39 := by have := there_new w1 (zS 0).cs 32; rwa [Ss.len] at this
  refine wpList_store_mid hgd 32 x y ho w1.heap.size 0 _ hx hy (by rw [ssz]; exact T) (by rw [ssz]; exact size32) (all_oneCell_toArray (one_s s)) ?_
  refine h _ (SAt.of ?_) (Fr.setCells w1.heap.size (Nat.le_refl _) _ 0 _ ((Fr.refl w1).alloc _)) (World.there_setCells T _ _ _)
  exact World.rangeAt_setCells_same _ w1.heap.size 0 _ (by rw [Ss.len]; exact T)
/-- a state in a box, whose memory was turned -/
structure Turned (W : World) (b : Nat) (t : Ss) (A : Option Addr) (n k : Nat) : Prop where
  p : W.rangeAt b 0 [.int .u32 t.pc]
  c : W.rangeAt b 33 (wl t.c 5)
  l : W.rangeAt b 38 [.slice A n k]
  th : W.there b 1 32
theorem Turned.of {W : World} {b : Nat} {t : Ss} (A : Option Addr) (n k : Nat) (hT : SAt W b t) (th : W.there b 0 39) : Turned (W.setCell ⟨b, 38, none⟩ (.slice A n k)) b t A n k := by
  show Turned (W.setCells b 38 [.slice A n k]) b t A n k
  have th1 := World.there_setCells th b 38 [.slice A n k]
  have th38 : W.there b 38 1 := fun j hj => by
    have := th (38 + j) (by omega)
    rwa [Nat.zero_add] at this
  have p0 : W.rangeAt b 0 [.int .u32 t.pc] := fun j u hu => by
    have hj : j < 1 := (List.getElem?_eq_some_iff.1 hu).1
    obtain rfl : j = 0 := by omega
    injection hu with hu; subst hu; exact hT.p
  refine ⟨World.rangeAt_setCells_apart p0 b 38 [.slice A n k] (.inr (.inl (by simp))), World.rangeAt_setCells_apart hT.c b 38 [.slice A n k] (.inr (.inl (by rw [wl_len]; omega))), World.rangeAt_setCells_same W b 38 [.slice A n k] (by simpa using th38), fun j hj => ?_⟩
  have := th1 (1 + j) (by omega)
  rwa [Nat.zero_add] at this
theorem Turned.alike {W W' : World} {b : Nat} {t : Ss} {A : Option Addr} {n k : Nat} (h : Turned W b t A n k) (e : W'.Alike W) : Turned W' b t A n k := by
  have hb : W'.heap[b]? = W.heap[b]? := by rw [e.1]
  exact ⟨range_block h.p hb, range_block h.c hb, range_block h.l hb, fun j hj => by rw [World.cell?_of_block (w := W) hb, World.frozen?_of_block (w := W) hb]; exact h.th j hj⟩
/-- now its registers are turned -/
theorem wp_regs {op : Oper} {a : Act} {K : Act → World → Prop} {Q : Exit → Act → World → Prop} (w1 W : World) (b : Nat) (t : Ss) (r : Nat → Int) (A : Option Addr) (n k : Nat) (m : Nat → Int) (H : Turned W b t A n k) (F : Fr w1 W) (hb : w1.heap.size ≤ b) (x y : Operand) (ho : op.op = .store 29 x y)
    (hx : a.eval x = .pointer (some ⟨b, 1, none⟩)) (hy : a.eval y = .agg (wl r 32).toArray)
    (h : ∀ W', Hid (SAt W' b ⟨t.pc, r, t.c, A, n, k, m⟩) → Hid (Fr w1 W') → K (a.put op.dst undef) W') : op.wp Try.prog a W K Q := by
  refine wp_store_mid 29 x y ho b 1 _ hx hy (by rw [wsz]; exact H.th) (by rw [wsz]; exact size29) (all_oneCell_toArray (one_wl r 32)) ?_
  have q0 := World.rangeAt_setCells_apart H.p b 1 (wl r 32) (.inr (.inl (by simp)))
  have q1 := World.rangeAt_setCells_same W b 1 (wl r 32) (by rw [wl_len]; exact H.th)
  have q2 := World.rangeAt_setCells_apart H.c b 1 (wl r 32) (.inr (.inr (by rw [wl_len]; omega)))
  have q3 := World.rangeAt_setCells_apart H.l b 1 (wl r 32) (.inr (.inr (by rw [wl_len]; omega)))
  exact h _ (SAt.made (q0 0 _ rfl) q1 q2 (q3 0 _ rfl)) (Fr.setCells b hb _ 1 _ F)
end Go.Proofs.Ytkchpegpmpijcaa.M
