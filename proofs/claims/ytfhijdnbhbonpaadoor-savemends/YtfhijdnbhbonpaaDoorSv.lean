/- A store of which no more is known than a fact of its words; its calls' contracts in these words; one such store behind a law's own boxes, two such. -/
import Derived.Test.YtfhijdnbhbonpaaDoorVals
import Derived.Test.YtfhijdnbhbonpaaDoorBox
namespace Go.Proofs.YtfhijdnbhbonpaaDoor.Walks
open Go.ChangeShapes Go.WideShapes Go.ChangeAt Go.RowKit
set_option linter.unusedVariables false
def SV (Φ : (Nat → Nat) → Prop) (M b d F nx : Nat) (w : World) : Prop := ∃ ws f, Φ ws ∧ f ≤ F ∧ SAt M b d ws f nx w
def SVn (Φ : (Nat → Nat) → Prop) (M b d F nx : Nat) (w w' : World) : Prop := SV Φ M b d F nx w' ∧ Tub w.heap.size M b d w w'
theorem v_save (M b d F nx pc : Nat) (Φ Ψ : (Nat → Nat) → Prop) (rs cs : Nat → Nat) (n : Int) (X32 X5 : Array Value) (h32 : X32 = (wn rs 32).toArray) (h5 : X5 = (wn cs 5).toArray) (x : Int) (hx : x = (pc : Int)) (hpc : Hid (pc < 4294967296)) (hrs : Hid (Wd 32 rs)) (hcs : Hid (Wd 5 cs))
    (T : Hid (∀ ws, Φ ws → Ψ (svW ws (pnt pc rs cs (num n))))) (hf : (F : Int) < 100000) (w : World) (hS : Hid (SV Φ M b d F nx w)) :
    Calls Tryd.prog 12 #[.pointer (some ⟨M, 0, none⟩), .int .u32 x, .agg X32, .agg X5, .int .i64 n] w fun e w' => e = .returned (.tuple #[]) ∧ SVn Ψ M b d (F + 1) nx w w' := by
  subst h32 h5 hx
  obtain ⟨ws, f, p, l, s⟩ := hS.out
  refine (save_as M b d f nx pc ws rs cs n hpc hrs hcs (by omega) w s).mono ?_
  rintro e w' ⟨rfl, h⟩
  exact ⟨rfl, ⟨_, _, T.out ws p, by have := f1_le ws f; omega, h.1⟩, h.2⟩
theorem v_load (M b d F nx : Nat) (Φ Ψ : (Nat → Nat) → Prop) (u : Nat) (rr cc : Nat → Nat) (n : Nat) (v : Bool) (T : Hid (∀ ws, Φ ws → TellL ws u rr cc n v ∧ Ψ (ldW ws))) (hf : (F : Int) < 100000) (w : World) (hS : Hid (SV Φ M b d F nx w)) :
    Calls Tryd.prog 14 #[.pointer (some ⟨M, 0, none⟩)] w fun e w' => e = .returned (.tuple #[.int .u32 (u : Int), .agg (wn rr 32).toArray, .agg (wn cc 5).toArray, .int .i64 (n : Int), .bool v]) ∧ SVn Ψ M b d (F + 79) nx w w' := by
  obtain ⟨ws, f, p, l, s⟩ := hS.out
  refine (load_as M b d f nx ws (by omega) w s).mono ?_
  rintro e w' ⟨rfl, h⟩
  exact ⟨by rw [(T.out ws p).1.tld], ⟨_, _, (T.out ws p).2, by have := ldF_le ws f; omega, h.1⟩, h.2⟩
theorem v_scrub (M b d F nx : Nat) (Φ Ψ : (Nat → Nat) → Prop) (s : Int) (hx : (nx : Int) < 79) (T : Hid (∀ ws, Φ ws → ((pkS 79 ws (nx : Int) : Nat) : Int) = s ∧ Ψ (gtW 79 ws (nx : Int)))) (hf : (F : Int) < 100000) (w : World) (hS : Hid (SV Φ M b d F nx w)) :
    Calls Tryd.prog 15 #[.pointer (some ⟨M, 0, none⟩)] w fun e w' => e = .returned (.int .i64 s) ∧ SVn Ψ M b d (F + 1) (nxS nx) w w' := by
  obtain ⟨ws, f, p, l, st⟩ := hS.out
  refine (sscrub_as M b d f nx ws s hx (T.out ws p).1 (by omega) w st).mono ?_
  rintro e w' ⟨rfl, h⟩
  exact ⟨rfl, ⟨_, _, (T.out ws p).2, by have := gtF_le1 79 ws f (nx : Int); omega, h.1⟩, h.2⟩
theorem v_flip (M b d F nx : Nat) (Φ Ψ : (Nat → Nat) → Prop) (i : Int) (g : Bool) (G : Hid (inF 79 i = g)) (T : Hid (∀ ws, Φ ws → Ψ (flW 79 ws i))) (w : World) (hS : Hid (SV Φ M b d F nx w)) :
    Calls Tryd.prog 13 #[.pointer (some ⟨M, 0, none⟩), .int .i64 i] w fun e w' => e = .returned (.bool g) ∧ SVn Ψ M b d F nx w w' := by
  obtain ⟨ws, f, p, l, st⟩ := hS.out
  refine (sflip_as M b d f nx ws i g G w st).mono ?_
  rintro e w' ⟨rfl, h⟩
  exact ⟨rfl, ⟨_, _, T.out ws p, l, h.1⟩, h.2⟩
theorem v_bits (M b d F nx : Nat) (Φ : (Nat → Nat) → Prop) (w : World) (hS : Hid (SV Φ M b d F nx w)) :
    Calls Tryd.prog 21 #[.pointer (some ⟨M, 0, none⟩)] w fun e w' => e = .returned (.int .i64 3081) ∧ w' = w := by
  obtain ⟨ws, f, p, l, st⟩ := hS.out
  exact sbits_as M b d f nx ws w st
/-- one store between B and C -/
structure SOne (B C M b d : Nat) (Φ : (Nat → Nat) → Prop) (F nx : Nat) (w wr : World) : Prop where
  v : SV Φ M b d F nx wr
  fr : FrB B w wr
  lo : B ≤ M ∧ B ≤ b ∧ B ≤ d
  hi : M < C ∧ b < C ∧ d < C
  bc : B ≤ C
  cs : C ≤ wr.heap.size
section
variable {B C M b d F nx F' nx' A : Nat} {Φ Ψ : (Nat → Nat) → Prop} {w wr w2 : World}
theorem SOne.lay (h : SNew B M b d (nwK 2) 0 0 w w2) (hB : B ≤ w2.heap.size) : SOne B w2.heap.size M b d (Fine False allOk (hv 0 (pnt 0 w0 w0 0) (pnt 0 w0 w0 0))) 0 0 w w2 :=
  ⟨⟨_, _, fine_new, Nat.le_refl _, h.1⟩, h.2.1, h.2.2, ⟨h.1.hM, h.1.hb, h.1.hd⟩, hB, Nat.le_refl _⟩
theorem SOne.now (h : SOne B C M b d Φ F nx w wr) (k : SVn Ψ M b d F' nx' wr w2) : SOne B C M b d Ψ F' nx' w w2 := by
  obtain ⟨v, fr, lo, hi, bc, cs⟩ := h
  exact ⟨k.1, fr.trans (k.2.frb lo.1 lo.2.1 lo.2.2 (by omega)), lo, hi, bc, Nat.le_trans cs k.2.size⟩
theorem SV.frb (h : SV Φ M b d F nx wr) (t : FrB C wr w2) (hi : M < C ∧ b < C ∧ d < C) : SV Φ M b d F nx w2 := by
  obtain ⟨ws, f, p, l, s⟩ := h
  exact ⟨ws, f, p, l, s.frb t hi.1 hi.2.1 hi.2.2⟩
theorem SOne.past (h : SOne B C M b d Φ F nx w wr) (t : FrB C wr w2) : SOne B C M b d Φ F nx w w2 := by
  obtain ⟨v, fr, lo, hi, bc, cs⟩ := h
  exact ⟨v.frb t hi, fr.trans (t.mono bc), lo, hi, bc, Nat.le_trans cs t.size⟩
theorem SOne.alloc (h : SOne B C M b d Φ F nx w wr) (o : Obj) : SOne B C M b d Φ F nx w (wr.alloc o) := h.past ((FrB.alloc wr o).mono h.cs)
theorem SOne.arr (h : SOne B C M b d Φ F nx w wr) (t : TouA A wr w2) (hA : C ≤ A) : SOne B C M b d Φ F nx w w2 := h.past (FrB.toua t hA)
theorem SOne.alike (h : SOne B C M b d Φ F nx w wr) (k : w2.Alike wr) : SOne B C M b d Φ F nx w w2 := h.past (FrB.alike k)
theorem SOne.drew (h : SOne B C M b d Φ F nx w wr) : SOne B C M b d Φ F nx w wr.drew := h.alike ⟨rfl, rfl, rfl⟩
theorem SVn.drew (h : SVn Φ M b d F nx wr.drew w2) : SVn Φ M b d F nx wr w2 := ⟨h.1, ⟨h.2.os, h.2.output, h.2.size, h.2.block⟩⟩
theorem SOne.blk (h : SOne B C M b d Φ F nx w wr) (t : Tub wr.heap.size M b d wr w2) (hC : C ≤ A) (hA : A < wr.heap.size) : w2.heap[A]? = wr.heap[A]? := by
  have := h.hi
  exact t.block A hA (by omega) (by omega) (by omega)
theorem SOne.weak (h : SOne B C M b d Φ F nx w wr) (T : ∀ ws, Φ ws → Ψ ws) : SOne B C M b d Ψ F nx w wr := by
  obtain ⟨⟨ws, f, p, l, s⟩, fr, lo, hi, bc, cs⟩ := h
  exact ⟨⟨ws, f, T ws p, l, s⟩, fr, lo, hi, bc, cs⟩
end
/-- two stores between B and C -/
structure STwo (B C M b d M' b' d' : Nat) (Φ : (Nat → Nat) → Prop) (F nx : Nat) (Ψ : (Nat → Nat) → Prop) (G ny : Nat) (w wr : World) : Prop where
  v1 : SV Φ M b d F nx wr
  v2 : SV Ψ M' b' d' G ny wr
  fr : FrB B w wr
  lo : (B ≤ M ∧ B ≤ b ∧ B ≤ d) ∧ B ≤ M' ∧ B ≤ b' ∧ B ≤ d'
  hi : (M < C ∧ b < C ∧ d < C) ∧ M' < C ∧ b' < C ∧ d' < C
  ne : (M ≠ M' ∧ M ≠ b' ∧ M ≠ d') ∧ (b ≠ M' ∧ b ≠ b' ∧ b ≠ d') ∧ d ≠ M' ∧ d ≠ b' ∧ d ≠ d'
  bc : B ≤ C
  cs : C ≤ wr.heap.size
section
variable {B C M b d M' b' d' F nx G ny F' nx' A : Nat} {Φ Ψ Ω : (Nat → Nat) → Prop} {w wr w2 : World}
theorem STwo.of (h : SPair B C M b d M' b' d' (nwK 2) 0 0 (nwK 2) 0 0 w wr) : STwo B C M b d M' b' d' (Fine False allOk (hv 0 (pnt 0 w0 w0 0) (pnt 0 w0 w0 0))) 0 0 (Fine False allOk (hv 0 (pnt 0 w0 w0 0) (pnt 0 w0 w0 0))) 0 0 w wr :=
  ⟨⟨_, _, fine_new, Nat.le_refl _, h.s1⟩, ⟨_, _, fine_new, Nat.le_refl _, h.s2⟩, h.fr, h.lo, h.hi, h.ne, h.bc, h.cs⟩
theorem STwo.now1 (h : STwo B C M b d M' b' d' Φ F nx Ψ G ny w wr) (k : SVn Ω M b d F' nx' wr w2) : STwo B C M b d M' b' d' Ω F' nx' Ψ G ny w w2 := by
  obtain ⟨⟨ws, f, p, l, s⟩, ⟨ws', f', p', l', s'⟩, fr, lo, hi, ne, bc, cs⟩ := h
  refine ⟨k.1, ⟨ws', f', p', l', s'.off k.2 ?_ ?_ ?_ ?_ ?_ ?_ ?_ ?_ ?_ s.pM s.pb s.pd⟩, fr.trans (k.2.frb lo.1.1 lo.1.2.1 lo.1.2.2 (by omega)), lo, hi, ne, bc, Nat.le_trans cs k.2.size⟩ <;> omega
theorem STwo.now2 (h : STwo B C M b d M' b' d' Φ F nx Ψ G ny w wr) (k : SVn Ω M' b' d' F' nx' wr w2) : STwo B C M b d M' b' d' Φ F nx Ω F' nx' w w2 := by
  obtain ⟨⟨ws, f, p, l, s⟩, ⟨ws', f', p', l', s'⟩, fr, lo, hi, ne, bc, cs⟩ := h
  refine ⟨⟨ws, f, p, l, s.off k.2 ?_ ?_ ?_ ?_ ?_ ?_ ?_ ?_ ?_ s'.pM s'.pb s'.pd⟩, k.1, fr.trans (k.2.frb lo.2.1 lo.2.2.1 lo.2.2.2 (by omega)), lo, hi, ne, bc, Nat.le_trans cs k.2.size⟩ <;> omega
theorem STwo.past (h : STwo B C M b d M' b' d' Φ F nx Ψ G ny w wr) (t : FrB C wr w2) : STwo B C M b d M' b' d' Φ F nx Ψ G ny w w2 := by
  obtain ⟨v1, v2, fr, lo, hi, ne, bc, cs⟩ := h
  exact ⟨v1.frb t hi.1, v2.frb t hi.2, fr.trans (t.mono bc), lo, hi, ne, bc, Nat.le_trans cs t.size⟩
theorem STwo.alloc (h : STwo B C M b d M' b' d' Φ F nx Ψ G ny w wr) (o : Obj) : STwo B C M b d M' b' d' Φ F nx Ψ G ny w (wr.alloc o) := h.past ((FrB.alloc wr o).mono h.cs)
theorem STwo.arr (h : STwo B C M b d M' b' d' Φ F nx Ψ G ny w wr) (t : TouA A wr w2) (hA : C ≤ A) : STwo B C M b d M' b' d' Φ F nx Ψ G ny w w2 := h.past (FrB.toua t hA)
theorem STwo.alike (h : STwo B C M b d M' b' d' Φ F nx Ψ G ny w wr) (k : w2.Alike wr) : STwo B C M b d M' b' d' Φ F nx Ψ G ny w w2 := h.past (FrB.alike k)
theorem STwo.blk1 (h : STwo B C M b d M' b' d' Φ F nx Ψ G ny w wr) (t : Tub wr.heap.size M b d wr w2) (hC : C ≤ A) (hA : A < wr.heap.size) : w2.heap[A]? = wr.heap[A]? := by
  have := h.hi
  exact t.block A hA (by omega) (by omega) (by omega)
theorem STwo.blk2 (h : STwo B C M b d M' b' d' Φ F nx Ψ G ny w wr) (t : Tub wr.heap.size M' b' d' wr w2) (hC : C ≤ A) (hA : A < wr.heap.size) : w2.heap[A]? = wr.heap[A]? := by
  have := h.hi
  exact t.block A hA (by omega) (by omega) (by omega)
end
/-! facts of words, behind a Load, behind a turned bit -/
section
variable {e : Prop} {ok : Nat → Prop} {vv ws : Nat → Nat}
theorem Fine.ldW (h : Fine e ok vv ws) : Fine e ok vv (ldW ws) := by
  have h1 : Fine e ok vv (ws1 ws) := h.gtW 78
  have hA : Fine e ok vv (ldA ws) := by unfold ldA; exact h1.gtK _ 39
  unfold Walks.ldW
  split
  · exact hA
  · unfold ldB; exact hA.gtK _ 39
/-- one bit turned: still told -/
theorem Fine.flip1 (h : Fine False ok vv ws) (i : Int) (k q : Nat) (hi : i = ((39 * k + q : Nat) : Int)) (hk : k < 79) (hq : q < 39) : Fine True ok vv (flW 79 ws i) := by
  rw [flW_in ws hi hk hq]
  intro j hj ho
  obtain ⟨a, c | ⟨f, _⟩⟩ := h j hj ho
  · by_cases g : j = k
    · subst g
      rw [upd_at, c]
      exact ⟨a, .inr ⟨trivial, q, hq, rfl⟩⟩
    · rw [upd_off _ _ _ _ g]; exact ⟨a, .inl c⟩
  · exact f.elim
/-- all other words are as they were -/
theorem Fine.flip_off (h : Fine e ok vv ws) (i : Int) (k q : Nat) (hi : i = ((39 * k + q : Nat) : Int)) (hk : k < 79) (hq : q < 39) : Fine e (fun j => ok j ∧ j ≠ k) vv (flW 79 ws i) := by
  rw [flW_in ws hi hk hq]
  intro j hj ho
  rw [upd_off _ _ _ _ ho.2]
  exact h j hj ho.1
theorem flW_out {ws : Nat → Nat} {i : Int} (h : inF 79 i = false) : flW 79 ws i = ws := by unfold flW; rw [h]; rfl
end
end Go.Proofs.YtfhijdnbhbonpaaDoor.Walks
