/- append of any row onto a row of one's own: words, and instructions that were done. -/
import Derived.Test.YtkchpegpmpijcaaKnown
import Derived.Laws.AppendOwn
import Derived.Laws.AppendOwnNone
namespace Go.Proofs.Ytkchpegpmpijcaa.M
open Go.ChangeShapes Go.WideShapes Go.ChangeAt Go.RowKit Go.Proofs.Ytkchpegpmpijcaa.Walks
set_option linter.unusedVariables false
theorem Fr.grow {u w w' : World} {v : Value} (h : Fr u w) (hv : ∀ b, v.ownBlock = some b → u.heap.size ≤ b) (k : w.grownBy w' v.ownBlock) : Fr u w' :=
  ⟨k.os.trans h.os, k.output.trans h.output, Nat.le_trans h.size k.size, fun i hi => (k.block i (Nat.lt_of_lt_of_le hi h.size) fun e => by have := hv i e.symm; omega).trans (h.block i hi)⟩
theorem run_any (u w : World) (t ty e : TypeId) (i : TypeInfo) (z : Value) (size bytes : Nat) (ht : Try.prog.underlying t = some (.slice e)) (hi : Try.prog.info? e = some i) (hz : i.zero = some z)
    (hsize : i.size = size) (hby : i.bytes = bytes) (hzs : z.cells.size = size) (hsz : 0 < size)
    (v : Value) (n : Nat) (xs : List Value) (hO : w.ownsRow u.heap.size e size v n xs) (hv : v ≠ .slice none 0 0) (A : Option Addr) (m c : Nat) (news : List Value) (hl : news.length = m * size) (hA : A = none → m = 0 ∧ c = 0)
    (hnews : ∀ ad, A = some ad → ∀ j x, news[j]? = some x → w.cell? (ad.add j) = some x) (h1 : ∀ x ∈ news, x.oneCell' = true) (h63 : n + m ≤ maxLen) (hb : (n + m) * bytes ≤ 140737488355328) (F : Fr u w) :
    ∃ v' w', (Builtin.append_ #[t, t] ty #[v, .slice A m c]).run Try.prog w = .ok v' w' ∧ w'.ownsRow u.heap.size e size v' (n + m) (xs ++ news) ∧ v' ≠ .slice none 0 0 ∧ Fr u w' := by
  rcases A with _ | ad
  · obtain ⟨rfl, rfl⟩ := hA rfl
    obtain rfl : news = [] := List.eq_nil_of_length_eq_zero (by simpa using hl)
    refine ⟨v, w, run_append_owned_none (P := Try.prog) (w := w) u.heap.size t ty e i size ht hi v n xs hO, ?_, hv, F⟩
    rw [List.append_nil]; exact hO
  · obtain ⟨v', w', hr, h2, h3, h4⟩ := run_append_own (P := Try.prog) w u.heap.size t ty e i z size bytes ht hi hz hsize hby hzs hsz v n xs hO ad m c news hl (hnews ad rfl) h1 h63 hb F.size
    exact ⟨v', w', hr, h2, fun e => hv (h4.1 e).1, Fr.grow F (fun b e => (hO.lt b e).1) h3⟩
theorem info24 : (Try.prog.info? 24).map (fun i => (i.zero, i.size, i.bytes)) = some (some (.agg (⟨0, 0, 0, false, 0, 0, 0⟩ : Rt).cs.toArray), 7, 40) := by kernel_rfl
/-- one row of words behind another -/
def catW (f g : Nat → Int) (n : Nat) : Nat → Int := fun j => if j < n then f j else g (j - n)
theorem wl_cat (f g : Nat → Int) (n m : Nat) : wl f n ++ wl g m = wl (catW f g n) (n + m) := by
  apply List.ext_getElem?
  intro j
  by_cases h : j < n
  · rw [List.getElem?_append_left (by rw [wl_len]; exact h), wl_at f n j h, wl_at _ _ j (by omega), catW, if_pos h]
  · rw [List.getElem?_append_right (by rw [wl_len]; omega), wl_len]
    by_cases h2 : j < n + m
    · rw [wl_at g m (j - n) (by omega), wl_at _ _ j h2, catW, if_neg h]
    · rw [List.getElem?_eq_none (by rw [wl_len]; omega), List.getElem?_eq_none (by rw [wl_len]; omega)]
theorem one_wl (f : Nat → Int) (n : Nat) : ∀ u ∈ wl f n, u.oneCell' = true := by
  intro u hu
  obtain ⟨i, _, rfl⟩ := List.mem_map.1 hu
  rfl
/-- a row of words of one's own -/
def OwnW (u w : World) (v : Value) (n : Nat) (f : Nat → Int) : Prop := w.ownsRow u.heap.size 22 1 v n (wl f n) ∧ v ≠ .slice none 0 0
/-- a row of instructions that were done, of one's own -/
def OwnR (u w : World) (v : Value) (n : Nat) (f : Nat → Rt) : Prop := w.ownsRow u.heap.size 24 7 v n (rl f n) ∧ v ≠ .slice none 0 0
theorem OwnW.fr {u w w' : World} {v : Value} {n : Nat} {f : Nat → Int} (h : OwnW u w v n f) (k : Fr w w') : OwnW u w' v n f := by
  refine ⟨⟨h.1.1, ?_⟩, h.2⟩
  rcases h.1.2 with h' | ⟨g, cap, cur, rfl, h2, h3, h4⟩
  · exact .inl h'
  · exact .inr ⟨g, cap, cur, rfl, h2, by rw [k.block g (h.1.lt g rfl).2]; exact h3, h4⟩
theorem OwnR.fr {u w w' : World} {v : Value} {n : Nat} {f : Nat → Rt} (h : OwnR u w v n f) (k : Fr w w') : OwnR u w' v n f := by
  refine ⟨⟨h.1.1, ?_⟩, h.2⟩
  rcases h.1.2 with h' | ⟨g, cap, cur, rfl, h2, h3, h4⟩
  · exact .inl h'
  · exact .inr ⟨g, cap, cur, rfl, h2, by rw [k.block g (h.1.lt g rfl).2]; exact h3, h4⟩
theorem OwnW.words {u w : World} {v : Value} {n : Nat} {f : Nat → Int} (h : OwnW u w v n f) : ∃ g cap, v = .slice (some ⟨g, 0, none⟩) n cap ∧ WIn w (some ⟨g, 0, none⟩) n f ∧ n ≤ cap ∧ cap ≤ maxLen := by
  rcases h.1.2 with ⟨e, _⟩ | ⟨g, cap, cur, rfl, h2, h3, h4, h5, _⟩
  · exact absurd e h.2
  · refine ⟨g, cap, rfl, WIn.of (fun j x hx => ?_) (h.1.lt g rfl).2, h4, h5⟩
    have := h.1.cells (g := g) rfl j x hx
    rwa [Addr.add_mid] at this
theorem OwnR.rows {u w : World} {v : Value} {n : Nat} {f : Nat → Rt} (h : OwnR u w v n f) : ∃ g cap, v = .slice (some ⟨g, 0, none⟩) n cap ∧ RIn w (some ⟨g, 0, none⟩) n f ∧ n ≤ cap ∧ cap ≤ maxLen := by
  rcases h.1.2 with ⟨e, _⟩ | ⟨g, cap, cur, rfl, h2, h3, h4, h5, _⟩
  · exact absurd e h.2
  · refine ⟨g, cap, rfl, RIn.of (fun j x hx => ?_) (h.1.lt g rfl).2, h4, h5⟩
    have := h.1.cells (g := g) rfl j x hx
    rwa [Addr.add_mid] at this
theorem OwnW.new (u w : World) (F : Fr u w) (f : Nat → Int) : OwnW u (w.alloc (.cells #[] 22)) (.slice (some ⟨w.heap.size, 0, none⟩) 0 0) 0 f :=
  ⟨⟨rfl, .inr ⟨w.heap.size, 0, #[], rfl, F.size, by show (w.heap.push _)[w.heap.size]? = _; simp, Nat.le_refl _, Nat.zero_le _, rfl, rfl⟩⟩, fun e => by cases e⟩
theorem OwnR.new (u w : World) (F : Fr u w) (f : Nat → Rt) : OwnR u (w.alloc (.cells #[] 24)) (.slice (some ⟨w.heap.size, 0, none⟩) 0 0) 0 f :=
  ⟨⟨rfl, .inr ⟨w.heap.size, 0, #[], rfl, F.size, by show (w.heap.push _)[w.heap.size]? = _; simp, Nat.le_refl _, Nat.zero_le _, rfl, rfl⟩⟩, fun e => by cases e⟩
theorem app22 (u w : World) (ty : TypeId) (v : Value) (n : Nat) (f : Nat → Int) (hO : OwnW u w v n f) (A : Option Addr) (m c : Nat) (g : Nat → Int) (hA : WIn w A m g) (hN : A = none → m = 0 ∧ c = 0) (hb : n + m ≤ 4194304) (F : Fr u w) :
    ∃ v' w', (Builtin.append_ #[28, 28] ty #[v, .slice A m c]).run Try.prog w = .ok v' w' ∧ OwnW u w' v' (n + m) (catW f g n) ∧ Fr u w' := by
  obtain ⟨j0, hi, hz0, hz1, hz2⟩ := info_parts info22
  obtain ⟨v', w', h1, h2, h3, h4⟩ := run_any u w 28 ty 22 j0 (.int .u32 0) 1 4 Try.underlying28 hi hz0 hz1 hz2 rfl (by decide) v n _ hO.1 hO.2 A m c (wl g m) (by rw [wl_len]; omega) hN (fun ad e j x hx => by
    have hj : j < m := by have := (List.getElem?_eq_some_iff.1 hx).1; rwa [wl_len] at this
    rw [wl_at g m j hj] at hx
    injection hx with hx
    subst hx
    obtain ⟨b, o, e1, _, e3⟩ := hA j hj
    rw [e] at e1
    injection e1 with e1
    subst e1
    rw [Addr.add_mid]; exact e3) (one_wl g m) (by unfold maxLen; omega) (by omega) F
  exact ⟨v', w', h1, ⟨by rw [← wl_cat]; exact h2, h3⟩, h4⟩
theorem app24 (u w : World) (ty : TypeId) (v : Value) (n : Nat) (f : Nat → Rt) (hO : OwnR u w v n f) (A : Option Addr) (m c : Nat) (g : Nat → Rt) (hA : RIn w A m g) (hN : A = none → m = 0 ∧ c = 0) (hb : n + m ≤ 4194304) (F : Fr u w) :
    ∃ v' w', (Builtin.append_ #[26, 26] ty #[v, .slice A m c]).run Try.prog w = .ok v' w' ∧ OwnR u w' v' (n + m) (cat f g n) ∧ Fr u w' := by
  obtain ⟨j0, hi, hz0, hz1, hz2⟩ := info_parts info24
  obtain ⟨v', w', h1, h2, h3, h4⟩ := run_any u w 26 ty 24 j0 _ 7 40 Try.underlying26 hi hz0 hz1 hz2 rfl (by decide) v n _ hO.1 hO.2 A m c (rl g m) (by rw [rl_len]) hN (fun ad e j x hx => by
    have hj : j < m * 7 := by have := (List.getElem?_eq_some_iff.1 hx).1; rwa [rl_len] at this
    have hq : j / 7 < m := by omega
    have hr : j % 7 < 7 := by omega
    have hjj : j = j / 7 * 7 + j % 7 := by omega
    rw [hjj, rl_at g (j / 7) (j % 7) hr m hq] at hx
    obtain ⟨b, o, e1, _, e3⟩ := hA (j / 7) hq
    rw [e] at e1
    injection e1 with e1
    subst e1
    have := e3 (j % 7) x hx
    rw [Addr.add_mid]
    rwa [show o + j = o + j / 7 * 7 + j % 7 by omega]) (one_rl g m) (by unfold maxLen; omega) (by omega) F
  exact ⟨v', w', h1, ⟨by rw [← rl_cat]; exact h2, h3⟩, h4⟩
theorem wp_app22 {o : Oper} {a : Act} {K : Act → World → Prop} {Q : Exit → Act → World → Prop} (u w : World) (s x : Operand) (ho : o.op = .call { callee := .builtin .append, args := #[s, x], argTypes := #[28, 28] })
    (v : Value) (n : Nat) (f : Nat → Int) (hs : a.eval s = v) (hO : OwnW u w v n f) (A : Option Addr) (m c : Nat) (g : Nat → Int) (hx : a.eval x = .slice A m c) (hA : WIn w A m g) (hN : A = none → m = 0 ∧ c = 0) (hb : n + m ≤ 4194304) (F : Fr u w)
    (h : ∀ v' w', OwnW u w' v' (n + m) (catW f g n) → Fr u w' → K (a.put o.dst v') w') : o.wp Try.prog a w K Q := by
  obtain ⟨v', w', hr, h2, h3⟩ := app22 u w o.type v n f hO A m c g hA hN hb F
  unfold Oper.wp execOp
  simp only [ho, resolve, invoke, builtin, Sem.run_bind, Sem.run_pure, Result.andThen_ok, List.map_toArray, List.map_cons, List.map_nil, hs, hx, hr]
  exact h v' w' h2 h3
theorem wp_app24 {o : Oper} {a : Act} {K : Act → World → Prop} {Q : Exit → Act → World → Prop} (u w : World) (s x : Operand) (ho : o.op = .call { callee := .builtin .append, args := #[s, x], argTypes := #[26, 26] })
    (v : Value) (n : Nat) (f : Nat → Rt) (hs : a.eval s = v) (hO : OwnR u w v n f) (A : Option Addr) (m c : Nat) (g : Nat → Rt) (hx : a.eval x = .slice A m c) (hA : RIn w A m g) (hN : A = none → m = 0 ∧ c = 0) (hb : n + m ≤ 4194304) (F : Fr u w)
    (h : ∀ v' w', OwnR u w' v' (n + m) (cat f g n) → Fr u w' → K (a.put o.dst v') w') : o.wp Try.prog a w K Q := by
  obtain ⟨v', w', hr, h2, h3⟩ := app24 u w o.type v n f hO A m c g hA hN hb F
  unfold Oper.wp execOp
  simp only [ho, resolve, invoke, builtin, Sem.run_bind, Sem.run_pure, Result.andThen_ok, List.map_toArray, List.map_cons, List.map_nil, hs, hx, hr]
  exact h v' w' h2 h3
theorem wpList_app22 {ops : Array Oper} {rest : List Oper} {o : Oper} {a : Act} {Q : Exit → Act → World → Prop} (hgd : o.guard = none) (u w : World) (s x : Operand) (ho : o.op = .call { callee := .builtin .append, args := #[s, x], argTypes := #[28, 28] })
    (v : Value) (n : Nat) (f : Nat → Int) (hs : a.eval s = v) (hO : OwnW u w v n f) (A : Option Addr) (m c : Nat) (g : Nat → Int) (hx : a.eval x = .slice A m c) (hA : WIn w A m g) (hN : A = none → m = 0 ∧ c = 0) (hb : n + m ≤ 4194304) (F : Fr u w)
    (h : ∀ v' w', Hid (OwnW u w' v' (n + m) (catW f g n)) → Hid (Fr u w') → wpList Try.prog ops Q rest (a.put o.dst v') w') : wpList Try.prog ops Q (o :: rest) a w :=
  wpList_plain hgd fun _ hK => wp_app22 u w s x ho v n f hs hO A m c g hx hA hN hb F fun v' w' h2 h3 => hK _ _ (h v' w' h2 h3)
theorem if_yes {c : Bool} {p q : Prop} (h : c = true) (hp : p) : (if c = true then p else q) := by
  rw [h]; simpa using hp
theorem if_no {c : Bool} {p q : Prop} (h : c = false) (hq : q) : (if c = true then p else q) := by
  rw [h]; simpa using hq
end Go.Proofs.Ytkchpegpmpijcaa.M
