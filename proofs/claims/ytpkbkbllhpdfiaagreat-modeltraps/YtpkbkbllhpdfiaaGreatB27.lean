/- Tp: A tape that is read on and on: no count of what was read; frames of what reads it. -/
import Derived.Test.YtpkbkbllhpdfiaaGreatB26
namespace Go.Proofs.YtpkbkbllhpdfiaaGreat.Walks
open Go.ChangeShapes Go.WideShapes Go.ChangeAt Go.RowKit
set_option linter.unusedVariables false
set_option maxHeartbeats 4000000 in
theorem next_moreB (n z r q : Int) (n0 : 1 ≤ n) (n1 : n ≤ 2147483648) (g b o len cap i : Nat) (hi : (i : Int) < len) (i0 : (0 : Int) ≤ i) (i1 : (i : Int) ≤ 9223372036854775806) (w : World) (ne : ¬ b = g) (ne' : ¬ g = b)
    (c0 : w.cell? ⟨g, 0, none⟩ = some (.slice (some ⟨b, o, none⟩) len cap)) (c1 : w.cell? ⟨g, 1, none⟩ = some (.int .i64 i)) (fz : w.frozen? ⟨g, 1, none⟩ = false) (c2 : w.cell? ⟨b, o + i, none⟩ = some (.int .i64 z))
    (R : Hid (wth z = r)) (r0 : 0 ≤ r) (r1 : r ≤ 1073741824) (Q : r.tmod n = q) :
    Calls Tryz.prog 25 #[.pointer (some ⟨g, 0, none⟩), .int .i64 n] w fun e w' => e = .returned (.int .i64 q) ∧ w'.Alike (w.setCell ⟨g, 1, none⟩ (.int .i64 (i + 1))) := by
  have hd : decide (len ≤ i) = false := decide_eq_false (by omega)
  have hn : decide (n < 1) = false := decide_eq_false (by omega)
  go_enter Tryz.func25, Tryz.ntmps25
  go_wp2_with fail
  go_quiet (fail)
  go_wp2_with fail
  go_quiet ((go_at_call 13; exact Calls.quiet_of_same (within_as _ _ R _)))
  go_wp2_with fail
  go_ret
  exact ⟨rfl, rfl, rfl, rfl⟩
/-- a tape's row -/
structure TL where
  A : Option Addr
  len : Nat
  cap : Nat
  zs : Nat → Int
/-- a tape lies at block g, read to wherever -/
def Tp (g : Nat) (L : TL) (w : World) : Prop := ∃ i, i ≤ L.len ∧ L.len ≤ 9223372036854775807 ∧ TapeAt g L.A L.len L.cap L.zs i w
theorem Tp.lt {g : Nat} {L : TL} {w : World} (h : Tp g L w) : g < w.heap.size := by
  obtain ⟨i, _, _, T⟩ := h
  exact cell_lt T.hs
theorem Tp.fr {g : Nat} {L : TL} {w w' : World} (h : Tp g L w) (k : Fr w w') : Tp g L w' := by
  obtain ⟨i, h1, h2, T⟩ := h
  exact ⟨i, h1, h2, T.past k⟩
theorem Tp.alloc {g : Nat} {L : TL} {w : World} (h : Tp g L w) (o : Obj) : Tp g L (w.alloc o) := h.fr ((Fr.refl w).alloc o)
theorem Tp.alike {g : Nat} {L : TL} {w w' : World} (h : Tp g L w) (k : w'.Alike w) : Tp g L w' := h.fr ((Fr.refl w).alike k)
theorem Tp.drew {g : Nat} {L : TL} {w : World} (h : Tp g L w) : Tp g L w.drew := h.alike ⟨rfl, rfl, rfl⟩
/-- the blocks of a tape and of its row are as they were -/
theorem Tp.block {g : Nat} {L : TL} {u w w' : World} (h0 : Tp g L u) (h : Tp g L w) (e : w'.heap[g]? = w.heap[g]?) (f : ∀ k, k < u.heap.size → w'.heap[k]? = w.heap[k]?) : Tp g L w' := by
  obtain ⟨i, h1, h2, T⟩ := h
  obtain ⟨_, _, _, T0⟩ := h0
  have c : ∀ o, w'.cell? ⟨g, o, none⟩ = w.cell? ⟨g, o, none⟩ := fun o => World.cell?_of_block (w := w) e
  have z : ∀ o, w'.frozen? ⟨g, o, none⟩ = w.frozen? ⟨g, o, none⟩ := fun o => World.frozen?_of_block (w := w) e
  refine ⟨i, h1, h2, by rw [c]; exact T.hs, by rw [c]; exact T.ha, by rw [z]; exact T.fz, fun j hj => ?_⟩
  obtain ⟨b, o, e1, e2, e3⟩ := T.hz j hj
  obtain ⟨b', o', e1', _, e3'⟩ := T0.hz j hj
  rw [e1] at e1'
  injection e1' with e1'
  injection e1' with x y
  subst x; subst y
  exact ⟨b, o, e1, e2, by rw [World.cell?_of_block (w := w) (f b (cell_lt e3'))]; exact e3⟩
theorem next_t (n : Int) (n0 : 1 ≤ n) (n1 : n ≤ 2147483648) (g : Nat) (L : TL) (w : World) (T : Tp g L w) :
    Calls Tryz.prog 25 #[.pointer (some ⟨g, 0, none⟩), .int .i64 n] w fun e w' => ∃ q : Nat, e = .returned (.int .i64 (q : Int)) ∧ (q : Int) < n ∧ Tp g L w' ∧ Only g w w' := by
  obtain ⟨A, len, cap, zs⟩ := L
  obtain ⟨i, hi, hl, T⟩ := T
  dsimp only at hi hl T
  by_cases h : len ≤ i
  · refine (next_end n n0 g A len cap i (by omega) w T.hs T.ha).mono fun e w' hh => ?_
    exact ⟨0, hh.1, by omega, ⟨i, hi, hl, T.alike hh.2⟩, (Only.refl g w).alike hh.2⟩
  · obtain ⟨b, o, h1, h2, h3⟩ := T.hz i (by omega)
    obtain ⟨r0, r1⟩ := wth_in (zs i)
    have e : (wth (zs i)).tmod n = wth (zs i) % n := Int.tmod_eq_emod_of_nonneg r0
    have q0 : 0 ≤ wth (zs i) % n := Int.emod_nonneg _ (by omega)
    have q1 : wth (zs i) % n < n := Int.emod_lt_of_pos _ (by omega)
    obtain ⟨q, hq⟩ := Int.eq_ofNat_of_zero_le q0
    subst h1
    refine (next_moreB n (zs i) _ q n0 n1 g b o len cap i (by omega) (by omega) (by omega) w h2 (fun x => h2 x.symm) T.hs T.ha T.fz h3 rfl r0 r1 (by rw [e, hq])).mono fun e w' hh => ?_
    exact ⟨q, hh.1, by omega, ⟨i + 1, by show i + 1 ≤ len; omega, hl, T.step.alike hh.2⟩, (Only.set g 1 _ w).alike hh.2⟩
/-- a tape was read, and memory made: nothing else has turned -/
structure TF (g : Nat) (L : TL) (u w : World) : Prop where
  t0 : Tp g L u
  t : Tp g L w
  f : FrG g u w
theorem TF.refl {g : Nat} {L : TL} {w : World} (h : Tp g L w) : TF g L w w := ⟨h, h, FrG.refl g w⟩
theorem FrG.fr {g : Nat} {u w w' : World} (h : FrG g u w) (k : Fr w w') : FrG g u w' :=
  ⟨k.os.trans h.os, k.output.trans h.output, Nat.le_trans h.size k.size, fun i hi hg => (k.block i (Nat.lt_of_lt_of_le hi h.size)).trans (h.block i hi hg)⟩
theorem FrG.trans {g : Nat} {u w w' : World} (h : FrG g u w) (k : FrG g w w') : FrG g u w' :=
  ⟨k.os.trans h.os, k.output.trans h.output, Nat.le_trans h.size k.size, fun i hi hg => (k.block i (Nat.lt_of_lt_of_le hi h.size) hg).trans (h.block i hi hg)⟩
theorem TF.fr {g : Nat} {L : TL} {u w w' : World} (h : TF g L u w) (k : Fr w w') : TF g L u w' := ⟨h.t0, h.t.fr k, h.f.fr k⟩
theorem TF.alloc {g : Nat} {L : TL} {u w : World} (h : TF g L u w) (o : Obj) : TF g L u (w.alloc o) := h.fr ((Fr.refl w).alloc o)
theorem TF.alike {g : Nat} {L : TL} {u w w' : World} (h : TF g L u w) (k : w'.Alike w) : TF g L u w' := h.fr ((Fr.refl w).alike k)
theorem TF.drew {g : Nat} {L : TL} {u w : World} (h : TF g L u w) : TF g L u w.drew := h.alike ⟨rfl, rfl, rfl⟩
theorem TF.next {g : Nat} {L : TL} {u w w' : World} (h : TF g L u w) (t : Tp g L w') (k : Only g w w') : TF g L u w' := ⟨h.t0, t, h.f.only k⟩
theorem TF.trans {g : Nat} {L : TL} {u w w' : World} (h : TF g L u w) (k : TF g L w w') : TF g L u w' := ⟨h.t0, k.t, h.f.trans k.f⟩
theorem TF.set {g : Nat} {L : TL} {u w : World} (h : TF g L u w) {b o : Nat} (hb : u.heap.size ≤ b) (v : Value) : TF g L u (w.setCell ⟨b, o, none⟩ v) := by
  have lg := h.t0.lt
  exact ⟨h.t0, Tp.block h.t0 h.t (Below.heap_setCell _ _ _ g (by show g ≠ b; omega)) (fun k hk => Below.heap_setCell _ _ _ k (by show k ≠ b; omega)), h.f.set hb v⟩
/-- a row of one's own has grown -/
theorem TF.grow {g : Nat} {L : TL} {u w w' : World} {v : Value} (h : TF g L u w) (hv : ∀ b, v.ownBlock = some b → u.heap.size ≤ b) (k : w.grownBy w' v.ownBlock) : TF g L u w' := by
  have lg := h.t0.lt
  have f : ∀ i, i < u.heap.size → w'.heap[i]? = w.heap[i]? := fun i hi => k.block i (Nat.lt_of_lt_of_le hi h.f.size) fun e => by have := hv i e.symm; omega
  exact ⟨h.t0, Tp.block h.t0 h.t (f g lg) f, ⟨k.os.trans h.f.os, k.output.trans h.f.output, Nat.le_trans h.f.size k.size, fun i hi hg => (f i hi).trans (h.f.block i hi hg)⟩⟩
theorem Fr.grow {u w w' : World} {v : Value} (h : Fr u w) (hv : ∀ b, v.ownBlock = some b → u.heap.size ≤ b) (k : w.grownBy w' v.ownBlock) : Fr u w' :=
  ⟨k.os.trans h.os, k.output.trans h.output, Nat.le_trans h.size k.size, fun i hi => (k.block i (Nat.lt_of_lt_of_le hi h.size) fun e => by have := hv i e.symm; omega).trans (h.block i hi)⟩
theorem own_ge {w : World} {base n : Nat} {v : Value} {xs : List Value} (h : w.ownsRow base 36 1 v n xs) : ∀ b, v.ownBlock = some b → base ≤ b := fun b e => (h.lt b e).1
/-- a row of one's own is as it was, though the tape was read -/
theorem own_tf {g base n : Nat} {w w' : World} {v : Value} {xs : List Value} (h : w.ownsRow base 36 1 v n xs) (k : FrG g w w') (hg : g < base) : w'.ownsRow base 36 1 v n xs := by
  refine ⟨h.1, ?_⟩
  rcases h.2 with h' | ⟨b, cap, cur, rfl, h2, h3, h4⟩
  · exact .inl h'
  · exact .inr ⟨b, cap, cur, rfl, h2, by rw [k.block b (h.lt b rfl).2 (by omega)]; exact h3, h4⟩
end Go.Proofs.YtpkbkbllhpdfiaaGreat.Walks
