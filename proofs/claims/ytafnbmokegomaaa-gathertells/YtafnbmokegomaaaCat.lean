/-
  append(s, x...) OF A FULL ROW AND ANOTHER ROW, IN THE CALCULUS: a new block, or the row itself.
-/
import Derived.Test.YtafnbmokegomaaaTwo
set_option linter.unusedSimpArgs false
set_option linter.unusedVariables false
set_option linter.unusedSectionVars false
namespace Go.Proofs.Ytafnbmokegomaaa
open Go.Conc Go.RowKit

/-- the cells of the first n items -/
def flat (it : Nat → Rt) : Nat → List Value
  | 0 => []
  | n + 1 => flat it n ++ (it n).cs
theorem flat_len (it : Nat → Rt) : ∀ n, (flat it n).length = n * 7
  | 0 => rfl
  | n + 1 => by
    show (flat it n ++ (it n).cs).length = _
    rw [List.length_append, flat_len it n]
    show n * 7 + 7 = _
    omega
theorem cs_len (r : Rt) : r.cs.length = 7 := rfl
theorem flat_get (it : Nat → Rt) : ∀ n i j v, i < n → (it i).cs[j]? = some v → (flat it n)[i * 7 + j]? = some v
  | 0, i, j, v, h, _ => by omega
  | n + 1, i, j, v, h, hv => by
    have hj : j < 7 := by
      have := (List.getElem?_eq_some_iff.1 hv).1
      rwa [cs_len] at this
    show (flat it n ++ (it n).cs)[i * 7 + j]? = _
    by_cases e : i = n
    · subst e
      rw [List.getElem?_append_right (by rw [flat_len]; omega), flat_len]
      rw [show i * 7 + j - i * 7 = j by omega]
      exact hv
    · rw [List.getElem?_append_left (by rw [flat_len]; omega)]
      exact flat_get it n i j v (by omega) hv
theorem flat_back (it : Nat → Rt) : ∀ n q v, (flat it n)[q]? = some v → ∃ i j, i < n ∧ q = i * 7 + j ∧ (it i).cs[j]? = some v
  | 0, q, v, h => by simp [flat] at h
  | n + 1, q, v, h => by
    have h' : (flat it n ++ (it n).cs)[q]? = some v := h
    by_cases e : q < n * 7
    · rw [List.getElem?_append_left (by rw [flat_len]; exact e)] at h'
      obtain ⟨i, j, h1, h2, h3⟩ := flat_back it n q v h'
      exact ⟨i, j, by omega, h2, h3⟩
    · rw [List.getElem?_append_right (by rw [flat_len]; omega), flat_len] at h'
      exact ⟨n, q - n * 7, by omega, by omega, h'⟩
theorem flat_one (it : Nat → Rt) (n : Nat) : ∀ u ∈ flat it n, u.oneCell' = true := by
  intro u hu
  obtain ⟨q, hq⟩ := List.getElem?_of_mem hu
  obtain ⟨i, j, _, _, h3⟩ := flat_back it n q u hq
  have hu' := List.mem_of_getElem? h3
  simp only [Rt.cs, List.mem_cons, List.not_mem_nil, or_false] at hu'
  rcases hu' with rfl | rfl | rfl | rfl | rfl | rfl | rfl <;> rfl
theorem flat_cell {C : Array Value} {off n : Nat} {it : Nat → Rt} (h : ∀ i, i < n → ∀ j v, (it i).cs[j]? = some v → C[off + i * 7 + j]? = some v) : ∀ q v, (flat it n)[q]? = some v → C[off + q]? = some v := by
  intro q v hq
  obtain ⟨i, j, h1, h2, h3⟩ := flat_back it n q v hq
  have := h i h1 j v h3
  rw [h2, ← Nat.add_assoc]
  exact this

theorem info25 : (Try.prog.info? 25).map (fun i => (i.zero.map fun z => z.cells.size, i.size, i.bytes)) = some (some 7, 7, 40) := by kernel_rfl
theorem info25_parts : ∃ (i : TypeInfo) (z : Value), Try.prog.info? 25 = some i ∧ i.zero = some z ∧ z.cells.size = 7 ∧ i.size = 7 ∧ i.bytes = 40 := by
  have h := info25
  cases hi : Try.prog.info? 25 with
  | none => rw [hi] at h; simp at h
  | some i =>
    rw [hi] at h
    cases hz : i.zero with
    | none => simp [hz] at h
    | some z => simp [hz] at h; exact ⟨i, z, rfl, hz, h.1, h.2.1, h.2.2⟩

section
variable {P : Program}
theorem first_in (B : Nat → Prop) (size n : Nat) (x : Value) (w : World) (es : Array Event)
    (hx : 0 < n → ∀ a l c, x = .slice (some a) l c → B a.block ∧ ∀ j, j < n * size → (w.cell? (a.add j)).isSome) : ∀ ev ∈ (Builtin.firstCells size n x).events P w es, ev ∈ es ∨ ev.readsIn B := by
  rcases Nat.eq_zero_or_pos n with rfl | h0
  · intro ev h
    have e : (Builtin.firstCells size 0 x).events P w es = es := by
      unfold Builtin.firstCells
      split <;> simp [loadCells, loadCellsFrom]
    rw [e] at h
    exact .inl h
  · exact events_firstCells_in B size n x w es (hx h0)

/-- What an append onto a full row lists. -/
theorem events_cat (w : World) (t ty e : TypeId) (i : TypeInfo) (z : Value) (ht : P.underlying t = some (.slice e)) (hi : P.info? e = some i) (hz : i.zero = some z) (B : Nat → Prop)
    (b : Option Addr) (n cap : Nat) (hb : 0 < n → ∀ a, b = some a → B a.block ∧ ∀ j, j < n * i.size → (w.cell? (a.add j)).isSome)
    (a : Addr) (m c : Nat) (ha : B a.block ∧ ∀ j, j < m * i.size → (w.cell? (a.add j)).isSome) (hg : cap < n + m) (h63 : n + m ≤ maxLen) (hbytes : (n + m) * i.bytes ≤ 140737488355328) :
    ∀ ev ∈ (Builtin.append_ #[t, t] ty #[.slice b n cap, .slice (some a) m c]).events P w #[], ev.readsIn B ∨ ∃ m, ev = ⟨.mark m, false, true⟩ ∧ Conc.Neutral m := by
  have hsmall : n + m ≤ 9223372036854775807 := by simp only [maxLen] at h63; omega
  intro ev hev
  have hn : ¬ (n + m ≤ cap) := by omega
  have h63' : ¬ (9223372036854775807 < ((n : Int) + (m : Int))) := by omega
  have h48' : ¬ (281474976710656 < Builtin.nextslicecap (n + m) cap * i.bytes) := by have := growslice_fits (need := n + m) (old := cap) (bytes := i.bytes) (by omega) hbytes; omega
  have hxs : ∀ (w' : World), (∀ ad, w'.cell? ad = w.cell? ad) → 0 < m → ∀ a' l' c', Value.slice (some a) m c = .slice (some a') l' c' → B a'.block ∧ ∀ j, j < m * i.size → (w'.cell? (a'.add j)).isSome := by
    intro w' hw' _ a' l' c' e
    cases e
    exact ⟨ha.1, fun j hj => by rw [hw']; exact ha.2 j hj⟩
  have hss : ∀ (w' : World), (∀ ad, w'.cell? ad = w.cell? ad) → 0 < n → ∀ a' l' c', Value.slice b n cap = .slice (some a') l' c' → B a'.block ∧ ∀ j, j < n * i.size → (w'.cell? (a'.add j)).isSome := by
    intro w' hw' h0 a' l' c' e
    cases e
    exact ⟨(hb h0 _ rfl).1, fun j hj => by rw [hw']; exact (hb h0 _ rfl).2 j hj⟩
  obtain ⟨old, hold⟩ : ∃ old, (Builtin.firstCells i.size n (.slice b n cap)).run P w.drew = .ok old w.drew := by
    rcases Nat.eq_zero_or_pos n with rfl | h0
    · refine ⟨#[], ?_⟩
      cases b <;> simp [Builtin.firstCells, loadCells, loadCellsFrom]
    · cases b with
      | none => exact ⟨_, run_firstCells_none _ _ _ _ _⟩
      | some ad =>
        have hall := (hb h0 ad rfl).2
        refine ⟨_, run_firstCells_some (P := P) w.drew i.size n ad n cap ((List.range (n * i.size)).map fun j => (w.cell? (ad.add j)).getD undef) (by simp) fun j v e => ?_⟩
        rw [List.getElem?_map] at e
        by_cases hj : j < n * i.size
        · rw [List.getElem?_range hj] at e
          obtain ⟨u, hu⟩ := Option.isSome_iff_exists.1 (hall j hj)
          simp only [Option.map_some, hu, Option.getD_some, Option.some.injEq] at e
          subst e
          simpa using hu
        · rw [List.getElem?_eq_none (by simpa using hj)] at e; simp at e
  obtain ⟨new, hnew⟩ : ∃ new, (Builtin.firstCells i.size m (.slice (some a) m c)).run P w.drew = .ok new w.drew := by
    refine ⟨_, run_firstCells_some (P := P) w.drew i.size m a m c ((List.range (m * i.size)).map fun j => (w.cell? (a.add j)).getD undef) (by simp) fun j v e => ?_⟩
    rw [List.getElem?_map] at e
    by_cases hj : j < m * i.size
    · rw [List.getElem?_range hj] at e
      obtain ⟨u, hu⟩ := Option.isSome_iff_exists.1 (ha.2 j hj)
      simp only [Option.map_some, hu, Option.getD_some, Option.some.injEq] at e
      subst e
      simpa using hu
    · rw [List.getElem?_eq_none (by simpa using hj)] at e; simp at e
  simp [Builtin.append_, run_underlying ht, sizeOf, typeInfo, zeroValue, hi, hz, Builtin.lenOf, hn, h63', h48', Question.forced, hold, hnew, newRow] at hev
  refine (first_in B _ _ _ w.drew _ (hxs w.drew (fun _ => rfl)) ev hev).elim (fun h => ?_) .inl
  refine (first_in B _ _ _ w.drew _ (hss w.drew (fun _ => rfl)) ev h).elim (fun h2 => ?_) .inl
  refine (Conc.events_askRoom _ _ _ ev h2).elim (fun h3 => ?_) .inr
  simp at h3
end

section
variable [Io] {Fin : Value → World → Prop} {fn : FuncId} {Q : QJ} {s : Gh} {m : PM} {a : Act} {ops : Array Oper} {i : Nat} {rest : List Nat} {o : Oper}
theorem RowP.some_cells {m : PM} {w : World} {b : Option Addr} {n c : Nat} {it : Nat → Rt} (h : RowP m (.slice b n c) n it) (hH : Has m w) (h0 : 0 < n) :
    ∃ ad, b = some ad ∧ m ad.block ≠ none ∧ ∀ j u, (flat it n)[j]? = some u → w.cell? (ad.add j) = some u := by
  obtain ⟨β, off, C, ety, fr, cap, e, h2, h3⟩ := h.2 h0
  cases e
  refine ⟨_, rfl, by show m β ≠ none; rw [h2]; simp, fun j u hu => ?_⟩
  rw [Addr.add_mid]
  exact has_cell hH h2 (flat_cell h3 j u hu)

theorem opsJ_cat (ho : ops[i]? = some o) (hw : Region.wanted o (yielded ops a.tmps) = true) (sx x : Operand) (t : TypeId)
    (hop : o.op = .call { callee := .builtin .append, args := #[sx, x], argTypes := #[t, t] }) (ht : Try.prog.underlying t = some (.slice 25))
    {b bB : Option Addr} {k nB cB : Nat} {xa xb : Nat → Rt} (hs : a.eval sx = .slice b k k) (hA : RowP m (.slice b k k) k xa) (hb : b = none → k = 0) (hx : a.eval x = .slice bB nB cB) (hB : RowP m (.slice bB nB cB) nB xb)
    (hk : k < 1000000000) (hn : nB < 1000000000)
    (h : ∀ v' m', RowP m' v' (k + nB) (fun i => if i < k then xa i else xb (i - k)) → Ext m m' → OpsJ Try.prog Fin fn ops rest Q s m' (a.put o.dst v')) : OpsJ Try.prog Fin fn ops (i :: rest) Q s m a := by
  obtain ⟨ti, z, hi, hz, hzs, hsz, hby⟩ := info25_parts
  refine opsJ_val ho hw fun w hl0 hH => ?_
  have hlt : ∀ β o, m β = some o → β < w.heap.size := fun β o e => (Array.getElem?_eq_some_iff.1 (hH β o e)).1
  have hev0 : (execOp a.eval o).events Try.prog w #[] = (Builtin.append_ #[t, t] o.type #[.slice b k k, .slice bB nB cB]).events Try.prog w #[] := events_append_op (P := Try.prog) sx x t hop hs hx #[]
  have hrun : ∀ v' w', (Builtin.append_ #[t, t] o.type #[.slice b k k, .slice bB nB cB]).run Try.prog w = .ok v' w' → (execOp a.eval o).run Try.prog w = .ok (.value v') w' := fun v' w' e => by
    unfold execOp
    simp only [hop, resolve, invoke, builtin, Sem.run_bind, Sem.run_pure, Result.andThen_ok, List.map_toArray, List.map_cons, List.map_nil, hs, hx, e]
  rcases Nat.eq_zero_or_pos nB with rfl | h0
  · have hF1 : (Builtin.firstCells ti.size 0 (.slice bB 0 cB)).run Try.prog w = .ok #[] w := by cases bB <;> simp [Builtin.firstCells, loadCells, loadCellsFrom]
    have hF2 : ∀ (es : Array Event), (Builtin.firstCells ti.size 0 (.slice bB 0 cB)).events Try.prog w es = es := fun es => by cases bB <;> simp [Builtin.firstCells, loadCells, loadCellsFrom]
    have hr : (Builtin.append_ #[t, t] o.type #[.slice b k k, .slice bB 0 cB]).run Try.prog w = .ok (.slice b k k) w := by
      cases b <;> simp [Builtin.append_, run_underlying ht, sizeOf, typeInfo, hi, Builtin.lenOf, hF1, hF2, storeCells]
    have he : (Builtin.append_ #[t, t] o.type #[.slice b k k, .slice bB 0 cB]).events Try.prog w #[] = #[] := by
      cases b <;> simp [Builtin.append_, run_underlying ht, sizeOf, typeInfo, hi, Builtin.lenOf, hF1, hF2, storeCells]
    refine ⟨_, w, m, hrun _ _ hr, ?_, h _ m ?_ (Ext.refl m)⟩
    · rw [listed_none (by rw [hev0, he])]
      exact .idle hH
    · refine ⟨hA.1, fun h0 => ?_⟩
      obtain ⟨β, off, C, ety, fr, cap, e1, e2, e3⟩ := hA.2 h0
      exact ⟨β, off, C, ety, fr, cap, e1, e2, fun i hi => by
        have hi' : i < k := hi
        simp only [hi', if_true]
        exact e3 i hi'⟩
  · obtain ⟨ab, rfl, hmb, hcb⟩ := hB.some_cells hH h0
    have hfl : (flat xb nB).length = nB * ti.size := by rw [flat_len, hsz]
    have hbytes : (k + nB) * ti.bytes ≤ 140737488355328 := by rw [hby]; omega
    have hml : k + nB ≤ maxLen := by simp only [maxLen]; omega
    let ob : Obj := .cells ((flat xa k).toArray ++ (flat xb nB).toArray ++ Builtin.zeroCells z.cells (grownCap w (k + nB) k 25 - (k + nB))) 25 (0, 0)
    have hr : (Builtin.append_ #[t, t] o.type #[.slice b k k, .slice (some ab) nB cB]).run Try.prog w = .ok (.slice (some ⟨w.heap.size, 0, none⟩) (k + nB) (grownCap w (k + nB) k 25)) (w.drew.alloc ob) := by
      cases b with
      | none =>
        have hk0 := hb rfl
        subst hk0
        have := run_append_nil (P := Try.prog) w t o.type 25 ti z ht hi hz ab nB cB (flat xb nB) hfl hcb h0 (by omega) (by rw [hby]; omega)
        simp only [Nat.zero_add] at this ⊢
        rw [this]
        congr 2
        simp [ob, flat]
      | some aa =>
        have hca : ∀ j v, (flat xa k)[j]? = some v → w.cell? (aa.add j) = some v := by
          rcases Nat.eq_zero_or_pos k with rfl | hk0
          · intro j v e; simp [flat] at e
          · obtain ⟨ad, e, _, hc⟩ := hA.some_cells hH hk0
            cases e
            exact hc
        exact run_append_grow (P := Try.prog) w t o.type 25 ti z ht hi hz aa k k (flat xa k) (by rw [flat_len, hsz]) hca ab nB cB (flat xb nB) hfl hcb (by omega) (by omega) (growslice_fits (by omega) hbytes)
    have hev := events_cat (P := Try.prog) w t o.type 25 ti z ht hi hz (fun g => m g ≠ none) b k k (fun hk0 ad e => by
        obtain ⟨ad', e', h1, h2⟩ := hA.some_cells hH hk0
        rw [e] at e'; cases e'
        exact ⟨h1, fun j hj => isSome_of_list h2 (by rw [flat_len]; rw [hsz] at hj; exact hj)⟩) ab nB cB ⟨hmb, fun j hj => isSome_of_list hcb (by rw [flat_len]; rw [hsz] at hj; exact hj)⟩ (by omega) hml hbytes
    have hold : ∀ β o, m β = some o → (m.set w.heap.size ob) β = some o := fun β o e => by
      have := hlt β o e
      rw [PM.set_ne _ _ (by omega)]; exact e
    refine ⟨_, _, m.set w.heap.size ob, hrun _ _ hr, ⟨?_, fun β hb' _ => ?_, fun β o e => ?_, fun ev he => ?_, ⟨rfl, rfl⟩⟩, h _ _ ?_ hold⟩
    · show w.heap.size ≤ (w.heap.push ob).size
      simp
    · show (w.heap.push ob)[β]? = _
      rw [Array.getElem?_push_lt hb', ← Array.getElem?_eq_getElem]
    · show (w.heap.push ob)[β]? = _ ∧ _
      by_cases hb' : β = w.heap.size
      · subst hb'
        rw [PM.set_same] at e
        cases e
        exact ⟨by simp, .inr (Nat.le_refl _)⟩
      · rw [PM.set_ne _ _ hb'] at e
        have := hlt β o e
        exact ⟨by rw [Array.getElem?_push_lt this, ← Array.getElem?_eq_getElem]; exact hH _ _ e, .inl (by rw [e]; simp)⟩
    · have he := mem_listed he
      rw [hev0] at he
      rcases hev ev he with ⟨ad, h1, h2, h3⟩ | hmk
      · refine .inl ⟨ad, h1, .inl h3, ?_⟩
        cases e' : m ad.block with
        | none => exact absurd e' h3
        | some ob' =>
          have := hlt _ _ e'
          show _ < (w.heap.push ob).size
          simp; omega
      · exact .inr hmk
    · refine ⟨⟨_, _, rfl⟩, fun _ => ⟨w.heap.size, 0, _, 25, (0, 0), _, rfl, PM.set_same _ _ _, fun i hi' j v hv => ?_⟩⟩
      have hj : j < 7 := by
        have := (List.getElem?_eq_some_iff.1 hv).1
        rwa [cs_len] at this
      have hz : 0 + i * 7 + j = i * 7 + j := by omega
      rw [hz]
      simp only at hv
      by_cases hik : i < k
      · rw [if_pos hik] at hv
        rw [Array.getElem?_append_left (by simp [flat_len]; omega), Array.getElem?_append_left (by simp [flat_len]; omega), List.getElem?_toArray]
        exact flat_get xa k i j v hik hv
      · rw [if_neg hik] at hv
        rw [Array.getElem?_append_left (by simp [flat_len]; omega), Array.getElem?_append_right (by simp [flat_len]; omega), List.getElem?_toArray]
        have : i * 7 + j - (flat xa k).toArray.size = (i - k) * 7 + j := by simp [flat_len]; omega
        rw [this]
        exact flat_get xb nB (i - k) j v (by omega) hv
end
end Go.Proofs.Ytafnbmokegomaaa
