/- Stores into rows, and into boxes of states, of one's own. -/
import Derived.Test.YtkchpegpmpijcaaBoxes
namespace Go.Proofs.Ytkchpegpmpijcaa.M
open Go.ChangeShapes Go.WideShapes Go.ChangeAt Go.RowKit Go.Proofs.Ytkchpegpmpijcaa.Walks
set_option linter.unusedVariables false
/-- nothing but the block b has turned; what is new lies above -/
structure But (b : Nat) (W W' : World) : Prop where
  os : W'.os = W.os
  output : W'.output = W.output
  size : W.heap.size ≤ W'.heap.size
  block : ∀ k, k < W.heap.size → k ≠ b → W'.heap[k]? = W.heap[k]?
theorem but_set (b : Nat) : ∀ (cs : List Value) (o : Nat) (W : World), But b W (W.setCells b o cs)
  | [], _, W => ⟨rfl, rfl, Nat.le_refl _, fun _ _ _ => rfl⟩
  | x :: cs, o, W => by
    have h := but_set b cs (o + 1) (W.setCell ⟨b, o, none⟩ x)
    refine ⟨h.os, h.output, ?_, fun k hk hkb => ?_⟩
    · have := h.size; rwa [World.size_setCell] at this
    · exact (h.block k (by rw [World.size_setCell]; exact hk) hkb).trans (Below.heap_setCell _ _ _ k hkb)
theorem But.fr {b : Nat} {u W W' : World} (h : But b W W') (F : Fr u W) (hb : u.heap.size ≤ b) : Fr u W' :=
  ⟨h.os.trans F.os, h.output.trans F.output, Nat.le_trans F.size h.size, fun k hk => (h.block k (Nat.lt_of_lt_of_le hk F.size) (by omega)).trans (F.block k hk)⟩
theorem But.sat {b c : Nat} {W W' : World} {s : Ss} (h : But b W W') (H : SAt W c s) (e : c ≠ b) : SAt W' c s := SAt.of (range_block H.a (h.block c H.lt e))
theorem But.there {b c n : Nat} {W W' : World} (h : But b W W') (H : W.there c 0 n) (e : c ≠ b) (hc : c < W.heap.size) : W'.there c 0 n := fun j hj => by
  rw [World.cell?_of_block (w := W) (h.block c hc e), World.frozen?_of_block (w := W) (h.block c hc e)]; exact H j hj
theorem there_fr {c n : Nat} {W W' : World} (H : W.there c 0 n) (F : Fr W W') (hc : c < W.heap.size) : W'.there c 0 n := fun j hj => by
  rw [World.cell?_of_block (w := W) (F.block c hc), World.frozen?_of_block (w := W) (F.block c hc)]; exact H j hj
/-- a state is stored into a box -/
theorem wpList_st {ops : Array Oper} {rest : List Oper} {op : Oper} {a : Act} {Q : Exit → Act → World → Prop} (W : World) (b : Nat) (T : W.there b 0 39) (hgd : op.guard = none) (x y : Operand) (ho : op.op = .store 32 x y) (s : Ss) (Y : Array Value) (hY : Y = s.cs.toArray)
    (hx : a.eval x = .pointer (some ⟨b, 0, none⟩)) (hy : a.eval y = .agg Y)
    (h : ∀ W', Hid (SAt W' b s) → Hid (But b W W') → Hid (W'.there b 0 39) → wpList Try.prog ops Q rest (a.put op.dst undef) W') : wpList Try.prog ops Q (op :: rest) a W := by
  subst hY
  refine wpList_store_mid hgd 32 x y ho b 0 _ hx hy (by rw [ssz]; exact T) (by rw [ssz]; exact size32) (all_oneCell_toArray (one_s s)) ?_
  exact h _ (SAt.of (World.rangeAt_setCells_same _ b 0 _ (by rw [Ss.len]; exact T))) (but_set b _ 0 W) (World.there_setCells T _ _ _)
/-- one of its words is turned: the register j -/
theorem sat_reg {W : World} {b : Nat} {s : Ss} (H : SAt W b s) (T : W.there b 0 39) (j : Nat) (hj : j < 32) (v : Int) : SAt (W.setCell ⟨b, 1 + j, none⟩ (.int .u32 v)) b ⟨s.pc, fun i => if i = j then v else s.r i, s.c, s.A, s.n, s.k, s.m⟩ := by
  have e : ∀ o, o ≠ 1 + j → (W.setCell ⟨b, 1 + j, none⟩ (.int .u32 v)).cell? ⟨b, o, none⟩ = W.cell? ⟨b, o, none⟩ := fun o ho => by
    apply World.cell?_setCell_other
    exact fun x => ho (congrArg Addr.off x).symm
  have e' : (W.setCell ⟨b, 1 + j, none⟩ (.int .u32 v)).cell? ⟨b, 1 + j, none⟩ = some (.int .u32 v) := by
    have i := (T (1 + j) (by omega)).1
    rw [Nat.zero_add] at i
    obtain ⟨u, hu⟩ := Option.isSome_iff_exists.1 i
    apply World.cell?_setCell_same
    exact hu
  refine SAt.made (by rw [e 0 (by omega)]; exact H.p) (fun i u hu => ?_) (fun i u hu => ?_) (by rw [e 38 (by omega)]; exact H.l)
  · have hi : i < 32 := by have := (List.getElem?_eq_some_iff.1 hu).1; rwa [wl_len] at this
    rw [wl_at _ 32 i hi] at hu
    injection hu with hu
    subst hu
    by_cases x : i = j
    · subst x; rw [e']; simp
    · rw [e (1 + i) (by omega)]; simp only [if_neg x]; exact H.r i _ (wl_at s.r 32 i hi)
  · have hi : i < 5 := by have := (List.getElem?_eq_some_iff.1 hu).1; rwa [wl_len] at this
    rw [e (33 + i) (by omega)]; exact H.c i u hu
/-- one of its words is turned: the CSR j -/
theorem sat_csr {W : World} {b : Nat} {s : Ss} (H : SAt W b s) (T : W.there b 0 39) (j : Nat) (hj : j < 5) (v : Int) : SAt (W.setCell ⟨b, 33 + j, none⟩ (.int .u32 v)) b ⟨s.pc, s.r, fun i => if i = j then v else s.c i, s.A, s.n, s.k, s.m⟩ := by
  have e : ∀ o, o ≠ 33 + j → (W.setCell ⟨b, 33 + j, none⟩ (.int .u32 v)).cell? ⟨b, o, none⟩ = W.cell? ⟨b, o, none⟩ := fun o ho => by
    apply World.cell?_setCell_other
    exact fun x => ho (congrArg Addr.off x).symm
  have e' : (W.setCell ⟨b, 33 + j, none⟩ (.int .u32 v)).cell? ⟨b, 33 + j, none⟩ = some (.int .u32 v) := by
    have i := (T (33 + j) (by omega)).1
    rw [Nat.zero_add] at i
    obtain ⟨u, hu⟩ := Option.isSome_iff_exists.1 i
    apply World.cell?_setCell_same
    exact hu
  refine SAt.made (by rw [e 0 (by omega)]; exact H.p) (fun i u hu => ?_) (fun i u hu => ?_) (by rw [e 38 (by omega)]; exact H.l)
  · have hi : i < 32 := by have := (List.getElem?_eq_some_iff.1 hu).1; rwa [wl_len] at this
    rw [e (1 + i) (by omega)]; exact H.r i u hu
  · have hi : i < 5 := by have := (List.getElem?_eq_some_iff.1 hu).1; rwa [wl_len] at this
    rw [wl_at _ 5 i hi] at hu
    injection hu with hu
    subst hu
    by_cases x : i = j
    · subst x; rw [e']; simp
    · rw [e (33 + i) (by omega)]; simp only [if_neg x]; exact H.c i _ (wl_at s.c 5 i hi)
/-- one of a row's is turned -/
theorem put_row {W : World} {g n i : Nat} {h : Nat → Rt} (x : Rt) (H : W.rangeAt g 0 (rl h n)) (T : W.there g 0 (n * 7)) (hi : i < n) : (W.setCells g (i * 7) x.cs).rangeAt g 0 (rl (fun j => if j = i then x else h j) n) := by
  intro p u hu
  have hp : p < n * 7 := by have := (List.getElem?_eq_some_iff.1 hu).1; rwa [rl_len] at this
  have hq : p / 7 < n := by omega
  have hr : p % 7 < 7 := by omega
  have e : p = p / 7 * 7 + p % 7 := by omega
  rw [e, rl_at _ (p / 7) (p % 7) hr n hq] at hu
  have T' : W.there g (i * 7) x.cs.length := fun j hj => by
    have hj' : j < 7 := hj
    have := T (i * 7 + j) (by omega)
    rwa [Nat.zero_add] at this
  rw [Nat.zero_add, e]
  by_cases c : p / 7 = i
  · rw [if_pos c] at hu
    rw [c]
    exact World.rangeAt_setCells_same W g (i * 7) x.cs T' (p % 7) u hu
  · rw [if_neg c] at hu
    have R : W.rangeAt g (p / 7 * 7) (h (p / 7)).cs := fun k v hv => by
      have hk : k < 7 := (List.getElem?_eq_some_iff.1 hv).1
      have := H (p / 7 * 7 + k) v (by rw [rl_at h (p / 7) k hk n hq]; exact hv)
      rwa [Nat.zero_add] at this
    refine World.rangeAt_setCells_apart R g (i * 7) x.cs (.inr ?_) (p % 7) u hu
    have l1 : (h (p / 7)).cs.length = 7 := rfl
    have l2 : x.cs.length = 7 := rfl
    omega
/-- such a store -/
theorem wpList_put {ops : Array Oper} {rest : List Oper} {op : Oper} {a : Act} {Q : Exit → Act → World → Prop} (W : World) (g n i : Nat) (h : Nat → Rt) (x : Rt) (H : W.rangeAt g 0 (rl h n)) (T : W.there g 0 (n * 7)) (hi : i < n) (hgd : op.guard = none) (p y : Operand) (ho : op.op = .store 24 p y) (o : Nat) (hoo : o = i * 7)
    (hx : a.eval p = .pointer (some ⟨g, o, none⟩)) (hy : a.eval y = .agg x.cs.toArray)
    (K : ∀ W', Hid (W'.rangeAt g 0 (rl (fun j => if j = i then x else h j) n)) → Hid (But g W W') → wpList Try.prog ops Q rest (a.put op.dst undef) W') : wpList Try.prog ops Q (op :: rest) a W := by
  subst hoo
  have T' : W.there g (i * 7) x.cs.toArray.size := fun j hj => by
    have hj' : j < 7 := hj
    have := T (i * 7 + j) (by omega)
    rwa [Nat.zero_add] at this
  refine wpList_store_mid hgd 24 p y ho g (i * 7) _ hx hy T' (by exact size24) (all_oneCell_toArray (one_cs x)) ?_
  exact K _ (put_row x H T hi) (but_set g _ _ W)
/-- three words in a row that is new -/
def tri (a b c : Int) : Nat → Int := fun j => if j = 0 then a else if j = 1 then b else c
end Go.Proofs.Ytkchpegpmpijcaa.M
