/- The program's gate and the document's side by side; what Second, First come to. -/
import Derived.Test.YtedcamljgnblmaaFwd
namespace Go.Proofs.Ytedcamljgnblmaa.M
open Go.ChangeShapes Go.WideShapes Go.ChangeAt Go.RowKit Go.Proofs.Ytedcamljgnblmaa.Walks
set_option linter.unusedVariables false
/-- what Second comes to: of n that wait, f of them, asked for r: it tells o and s, and m wait, g of them -/
def Sec (f : Nat → Rt) (n : Nat) (r o : Rt) (s : Int) (m : Nat) (g : Nat → Rt) : Prop :=
  ((n = 0 ∨ (f 0).eq r = false) ∧ o = zR ∧ s = 2 ∧ m = n ∧ g = f) ∨ (n = m + 1 ∧ (f 0).eq r = true ∧ o = r ∧ s = 1 ∧ g = tl f)
theorem Sec.ex (f : Nat → Rt) (n : Nat) (r : Rt) : ∃ o s m g, Sec f n r o s m g := by
  by_cases h : n = 0 ∨ (f 0).eq r = false
  · exact ⟨_, _, _, _, .inl ⟨h, rfl, rfl, rfl, rfl⟩⟩
  · refine ⟨_, _, n - 1, _, .inr ⟨by omega, ?_, rfl, rfl, rfl⟩⟩
    cases e : (f 0).eq r with
    | true => rfl
    | false => exact absurd (.inr e) h
theorem Sec.le {f g : Nat → Rt} {n m : Nat} {r o : Rt} {s : Int} (h : Sec f n r o s m g) : m ≤ n := by
  rcases h with ⟨_, _, _, h, _⟩ | ⟨h, _⟩ <;> omega
/-- what First comes to -/
def Fst (f : Nat → Rt) (n : Nat) (r : Rt) (b : Bool) (m : Nat) (g : Nat → Rt) : Prop :=
  (n < 16 ∧ b = true ∧ m = n + 1 ∧ g = sn f n r) ∨ (16 ≤ n ∧ b = false ∧ m = n ∧ g = f)
theorem Fst.ex (f : Nat → Rt) (n : Nat) (r : Rt) : ∃ b m g, Fst f n r b m g := by
  by_cases h : n < 16
  · exact ⟨_, _, _, .inl ⟨h, rfl, rfl, rfl⟩⟩
  · exact ⟨_, _, _, .inr ⟨by omega, rfl, rfl, rfl⟩⟩
theorem Fst.le {f g : Nat → Rt} {n m : Nat} {r : Rt} {b : Bool} (h : Fst f n r b m g) (hn : n ≤ 16) : m ≤ 16 := by
  rcases h with ⟨h, _, h2, _⟩ | ⟨h, _, h2, _⟩ <;> omega
section
variable (B G c n m : Nat) (A : Option Addr) (f g : Nat → Rt) (r o : Rt) (s : Int) (b : Bool) (w : World)
theorem second_as (S : Hid (Sec f n r o s m g)) (hn : Hid ((n : Int) ≤ 16)) (hG : Hid (GAt B G A c n f w)) :
    Calls Try.prog 12 #[.pointer (some ⟨G, 0, none⟩), .agg #[.int .u32 r.p, .int .u32 r.v, .int .i64 r.d, .bool r.s, .int .u32 r.a, .int .u32 r.t, .int .i64 r.m]] w fun e w' => e = .returned (.tuple #[.agg #[.int .u32 o.p, .int .u32 o.v, .int .i64 o.d, .bool o.s, .int .u32 o.a, .int .u32 o.t, .int .i64 o.m], .int .i64 s]) ∧ ∃ A' c', GAt B G A' c' m g w' ∧ Mv G A A' w w' := by
  rcases S.out with ⟨h, rfl, rfl, rfl, rfl⟩ | ⟨rfl, h, rfl, rfl, rfl⟩
  · rcases Nat.eq_zero_or_pos m with rfl | hp
    · exact (second_none B G c A g r w hG).mono fun e w' ⟨h1, h2⟩ => ⟨h1, A, c, hG.out.fr h2, Fr.mv h2⟩
    · have hd : (g 0).eq r = false := h.resolve_left (by omega)
      exact (second_diff B G c m A g r w hG (by omega) hd).mono fun e w' ⟨h1, h2⟩ => ⟨h1, A, c, hG.out.fr h2, Fr.mv h2⟩
  · have e := (Rt.eq_iff _ _).1 h
    exact (second_rel B G c m A f o o w hG e (Rt.eq_self o) (by have := hn.out; unfold Hid; omega)).mono fun e w' ⟨h1, h2, h3⟩ => ⟨h1, A, c, h2, h3⟩
theorem rsecond_as (S : Hid (Sec f n r o s m g)) (hn : Hid ((n : Int) ≤ 16)) (hB : Hid (B ≤ w.heap.size)) (hG : Hid (GAt B G A c n f w)) :
    Calls Try.prog 15 #[.pointer (some ⟨G, 0, none⟩), .agg #[.int .u32 r.p, .int .u32 r.v, .int .i64 r.d, .bool r.s, .int .u32 r.a, .int .u32 r.t, .int .i64 r.m]] w fun e w' => e = .returned (.tuple #[.agg #[.int .u32 o.p, .int .u32 o.v, .int .i64 o.d, .bool o.s, .int .u32 o.a, .int .u32 o.t, .int .i64 o.m], .int .i64 s]) ∧ ∃ A' c', GAt B G A' c' m g w' ∧ Mv G A A' w w' := by
  rcases S.out with ⟨h, rfl, rfl, rfl, rfl⟩ | ⟨rfl, h, rfl, rfl, rfl⟩
  · rcases Nat.eq_zero_or_pos m with rfl | hp
    · exact (rsecond_none B G c A g r w hG).mono fun e w' ⟨h1, h2⟩ => ⟨h1, A, c, hG.out.fr h2, Fr.mv h2⟩
    · have hd : (g 0).eq r = false := h.resolve_left (by omega)
      exact (rsecond_diff B G c m A g r w hG (by omega) hd).mono fun e w' ⟨h1, h2⟩ => ⟨h1, A, c, hG.out.fr h2, Fr.mv h2⟩
  · have e := (Rt.eq_iff _ _).1 h
    exact (rsecond_rel B G c m A f o o w hG e (Rt.eq_self o) (by have := hn.out; unfold Hid; omega) hB).mono fun e w' ⟨h1, A', c', h2, h3⟩ => ⟨h1, A', c', h2, h3⟩
theorem first_is (S : Hid (Fst f n r b m g)) (hr : Hid r.In) (hB : Hid (B ≤ w.heap.size)) (hG : Hid (GAt B G A c n f w)) :
    Calls Try.prog 11 #[.pointer (some ⟨G, 0, none⟩), .agg #[.int .u32 r.p, .int .u32 r.v, .int .i64 r.d, .bool r.s, .int .u32 r.a, .int .u32 r.t, .int .i64 r.m]] w fun e w' => e = .returned (.bool b) ∧ ∃ A' c', GAt B G A' c' m g w' ∧ Mv G A A' w w' := by
  rcases S.out with ⟨h, rfl, rfl, rfl⟩ | ⟨h, rfl, rfl, rfl⟩
  · exact first_as B G c n A f r w (by omega) hG hr hB
  · exact (first_full B G c m A g r w (by omega) hG).mono fun e w' ⟨h1, h2⟩ => ⟨h1, A, c, hG.out.fr h2, Fr.mv h2⟩
theorem rfirst_is (S : Hid (Fst f n r b m g)) (hr : Hid r.In) (hB : Hid (B ≤ w.heap.size)) (hG : Hid (GAt B G A c n f w)) :
    Calls Try.prog 18 #[.pointer (some ⟨G, 0, none⟩), .agg #[.int .u32 r.p, .int .u32 r.v, .int .i64 r.d, .bool r.s, .int .u32 r.a, .int .u32 r.t, .int .i64 r.m]] w fun e w' => e = .returned (.bool b) ∧ ∃ A' c', GAt B G A' c' m g w' ∧ Mv G A A' w w' := by
  rcases S.out with ⟨h, rfl, rfl, rfl⟩ | ⟨h, rfl, rfl, rfl⟩
  · exact rfirst_as B G c n A f r w (by omega) hG hr hB
  · exact (rfirst_full B G c m A g r w (by omega) hG).mono fun e w' ⟨h1, h2⟩ => ⟨h1, A, c, hG.out.fr h2, Fr.mv h2⟩
end
/-- the program's gate at G, the document's at R, made behind u -/
structure Two (u : World) (G R : Nat) (A A' : Option Addr) (c c' n : Nat) (f : Nat → Rt) (n' : Nat) (f' : Nat → Rt) (w : World) : Prop where
  g : GAt u.heap.size G A c n f w
  r : GAt u.heap.size R A' c' n' f' w
  fr : Fr u w
  ne : G ≠ R
  d1 : A.map (·.block) ≠ some R
  d2 : A'.map (·.block) ≠ some G
  d3 : ∀ k, A.map (·.block) = some k → A'.map (·.block) ≠ some k
section
variable {u w w' : World} {G R c c' n n' m c2 : Nat} {A A' A2 : Option Addr} {f f' g : Nat → Rt}
theorem Two.fr' (h : Two u G R A A' c c' n f n' f' w) (F : Fr w w') : Two u G R A A' c c' n f n' f' w' := ⟨h.g.fr F, h.r.fr F, h.fr.trans F, h.ne, h.d1, h.d2, h.d3⟩
theorem Two.stepG (h : Two u G R A A' c c' n f n' f' w) (k : GAt u.heap.size G A2 c2 m g w') (mv : Mv G A A2 w w') : Two u G R A2 A' c2 c' m g n' f' w' := by
  have hr := h.r.own
  have hrR := h.r.lt
  refine ⟨k, h.r.of mv.size (mv.block R h.r.lt h.ne.symm h.d1.symm) (fun k hk => mv.block k (hr k hk).2 (fun e => h.d2 (by rw [hk, e])) (fun e => h.d3 k e.symm hk)), mv.fr h.fr h.g.ge (fun k hk => (h.g.own k hk).1), h.ne, ?_, h.d2, ?_⟩
  · rcases mv.own with e | e
    · rw [e]; exact h.d1
    · intro e2; have := e _ e2; omega
  · intro k hk
    rcases mv.own with e | e
    · rw [e] at hk; exact h.d3 k hk
    · intro e2; have := e _ hk; have := (hr k e2).2; omega
theorem Two.stepR (h : Two u G R A A' c c' n f n' f' w) (k : GAt u.heap.size R A2 c2 m g w') (mv : Mv R A' A2 w w') : Two u G R A A2 c c2 n f m g w' := by
  have hr := h.g.own
  have hrR := h.g.lt
  refine ⟨h.g.of mv.size (mv.block G h.g.lt h.ne h.d2.symm) (fun k hk => mv.block k (hr k hk).2 (fun e => h.d1 (by rw [hk, e])) (fun e => h.d3 k hk e.symm)), k, mv.fr h.fr h.r.ge (fun k hk => (h.r.own k hk).1), h.ne, h.d1, ?_, ?_⟩
  · rcases mv.own with e | e
    · rw [e]; exact h.d2
    · intro e2; have := e _ e2; omega
  · intro k hk
    rcases mv.own with e | e
    · rw [e]; exact h.d3 k hk
    · intro e2; have := e _ e2; have := (hr k hk).2; omega
theorem Mv.frame {k : Nat} (mv : Mv G A A2 w w') (hk : k < w.heap.size) (h1 : k ≠ G) (h2 : ∀ j, A.map (·.block) = some j → j ≠ k) : w'.heap[k]? = w.heap[k]? := mv.block k hk h1 (fun e => h2 k e.symm rfl)
end
/-- asks: a kind and an instruction that was done -/
def AsksIn (w : World) (A : Option Addr) (len : Nat) (kd : Nat → Int) (rs : Nat → Rt) : Prop :=
  ∀ j, j < len → ∃ b o, A = some ⟨b, o, none⟩ ∧ b < w.heap.size ∧ w.cell? ⟨b, o + j * 8, none⟩ = some (.int .i64 (kd j)) ∧ w.rangeAt b (o + j * 8 + 1) (rs j).cs ∧ (rs j).In
theorem AsksIn.fr {w w' : World} {A : Option Addr} {len : Nat} {kd : Nat → Int} {rs : Nat → Rt} (h : AsksIn w A len kd rs) (F : Fr w w') : AsksIn w' A len kd rs := fun j hj => by
  obtain ⟨b, o, e, hb, c0, c1, r⟩ := h j hj
  exact ⟨b, o, e, Nat.lt_of_lt_of_le hb F.size, by rw [F.cell _ _ hb]; exact c0, range_fr c1 F hb, r⟩
end Go.Proofs.Ytedcamljgnblmaa.M
