/-
  GatherTells.
-/
import Derived.Test.YtafnbmokegomaaaTurns
import Derived.Test.YtafnbmokegomaaaCat
set_option linter.unusedSimpArgs false
set_option linter.unusedVariables false
set_option linter.unusedSectionVars false
namespace Go.Proofs.Ytafnbmokegomaaa
open Go.Conc Go.RowKit

def slotGA (A B n : Value) (x : Nat → Value) : Nat → Value
  | 0 => A
  | 1 => B
  | 2 => n
  | 6 => .bool false
  | q => x q
def actGA (A B n : Value) (x : Nat → Value) : Act := ⟨((List.range 59).map (slotGA A B n x)).toArray, []⟩
theorem actGA_lit (A B n : Value) (x : Nat → Value) : actGA A B n x = ⟨List.toArray (A :: B :: n :: x 3 :: x 4 :: x 5 :: .bool false :: x 7 :: x 8 :: x 9 :: x 10 :: x 11 :: x 12 :: x 13 :: x 14 :: x 15 :: x 16 :: x 17 :: x 18 :: x 19 :: x 20 :: x 21 :: x 22 :: x 23 :: x 24 :: x 25 :: x 26 :: x 27 :: x 28 :: x 29 :: x 30 :: x 31 :: x 32 :: x 33 :: x 34 :: x 35 :: x 36 :: x 37 :: x 38 :: x 39 :: x 40 :: x 41 :: x 42 :: x 43 :: x 44 :: x 45 :: x 46 :: x 47 :: x 48 :: x 49 :: x 50 :: x 51 :: x 52 :: x 53 :: x 54 :: x 55 :: x 56 :: x 57 :: x 58 :: []), []⟩ := rfl
theorem q_actGA {Q : Act → Prop} {A B n : Value} (L : List Value) (hn : L.length = 59) (h0 : L[0]? = some (A)) (h1 : L[1]? = some (B)) (h2 : L[2]? = some (n)) (h6 : L[6]? = some (.bool false)) (h : Q (actGA A B n (fun q => L[q]?.getD undef))) : Q ⟨L.toArray, []⟩ := by
  have e : (⟨L.toArray, []⟩ : Act) = actGA A B n (fun q => L[q]?.getD undef) := by
    unfold actGA
    congr 2
    apply List.ext_getElem?
    intro j
    rw [List.getElem?_map]
    by_cases hi : j < 59
    · rw [List.getElem?_range hi]
      simp only [Option.map_some]
      have key : ∀ j, j < 59 → L[j]? = some (L[j]?.getD undef) := fun j hj => by
        rw [List.getElem?_eq_getElem (by omega)]; rfl
      unfold slotGA
      split
      · exact h0
      · exact h1
      · exact h2
      · exact h6
      · exact key _ hi
    · rw [List.getElem?_eq_none (by omega), List.getElem?_eq_none (by simp; omega)]
      rfl
  rw [e]; exact h
def slotGB (A B k : Value) (x : Nat → Value) : Nat → Value
  | 0 => A
  | 1 => B
  | 6 => .bool false
  | 7 => k
  | q => x q
def actGB (A B k : Value) (x : Nat → Value) : Act := ⟨((List.range 59).map (slotGB A B k x)).toArray, []⟩
theorem actGB_lit (A B k : Value) (x : Nat → Value) : actGB A B k x = ⟨List.toArray (A :: B :: x 2 :: x 3 :: x 4 :: x 5 :: .bool false :: k :: x 8 :: x 9 :: x 10 :: x 11 :: x 12 :: x 13 :: x 14 :: x 15 :: x 16 :: x 17 :: x 18 :: x 19 :: x 20 :: x 21 :: x 22 :: x 23 :: x 24 :: x 25 :: x 26 :: x 27 :: x 28 :: x 29 :: x 30 :: x 31 :: x 32 :: x 33 :: x 34 :: x 35 :: x 36 :: x 37 :: x 38 :: x 39 :: x 40 :: x 41 :: x 42 :: x 43 :: x 44 :: x 45 :: x 46 :: x 47 :: x 48 :: x 49 :: x 50 :: x 51 :: x 52 :: x 53 :: x 54 :: x 55 :: x 56 :: x 57 :: x 58 :: []), []⟩ := rfl
theorem q_actGB {Q : Act → Prop} {A B k : Value} (L : List Value) (hn : L.length = 59) (h0 : L[0]? = some (A)) (h1 : L[1]? = some (B)) (h6 : L[6]? = some (.bool false)) (h7 : L[7]? = some (k)) (h : Q (actGB A B k (fun q => L[q]?.getD undef))) : Q ⟨L.toArray, []⟩ := by
  have e : (⟨L.toArray, []⟩ : Act) = actGB A B k (fun q => L[q]?.getD undef) := by
    unfold actGB
    congr 2
    apply List.ext_getElem?
    intro j
    rw [List.getElem?_map]
    by_cases hi : j < 59
    · rw [List.getElem?_range hi]
      simp only [Option.map_some]
      have key : ∀ j, j < 59 → L[j]? = some (L[j]?.getD undef) := fun j hj => by
        rw [List.getElem?_eq_getElem (by omega)]; rfl
      unfold slotGB
      split
      · exact h0
      · exact h1
      · exact h6
      · exact h7
      · exact key _ hi
    · rw [List.getElem?_eq_none (by omega), List.getElem?_eq_none (by simp; omega)]
      rfl
  rw [e]; exact h
theorem evSliceF {a : Option Addr} {len cap : Nat} {k k' : IntKind} {h g : Int} {w : World} {es : Array Event} (h0 : 0 ≤ h) (h1 : h ≤ g) (h2 : g ≤ cap) : (Instr.sliceAt 22 (.slice a len cap) none (some (.int k h)) (some (.int k' g))).events Try.prog w es = es := by
  have h3 : h ≤ cap := by omega
  have h4 : 0 ≤ g := by omega
  have h5 : max g 0 = g := Int.max_eq_left h4
  simp [Instr.sliceAt, Instr.slice, Instr.sliceBounds, Instr.sliceBound, Sem.events_bind, run_underlying Try.underlying22, asIntOf, h0, h1, h2, h3, h4, h5]
theorem RowP.full {m : PM} {b : Option Addr} {n k c : Nat} {it : Nat → Rt} (h : RowP m (.slice b n c) n it) (hk : k ≤ n) : RowP m (.slice b k k) k it :=
  ⟨⟨_, _, rfl⟩, fun h0 => by
    obtain ⟨β, off, C, ety, fr, cap, h1, h2, h3⟩ := h.2 (by omega)
    cases h1
    exact ⟨β, off, C, ety, fr, k, rfl, h2, fun i hi => h3 i (by omega)⟩⟩
noncomputable def tellsRest : Code := rgt (rgt (rgt (Try.f4.body.getD .skip)))
noncomputable def rest8 : Code := rgt (rgt tellsRest)
noncomputable def cutC : Code := lft (rgt (Try.f4.body.getD .skip))
noncomputable def cutD : Code := lft (rgt (rgt (Try.f4.body.getD .skip)))
section
variable [Io] {Fin : Value → World → Prop}
set_option maxRecDepth 100000 in
set_option maxHeartbeats 2000000 in
theorem cutC_j {Q : QJ} {s : Gh} {m : PM} {b : Option Addr} {n c : Nat} {W z : Value} {it : Nat → Rt} {x : Nat → Value} (hr : RowP m (.slice b n c) n it) (hc : n ≤ c) (h : ∀ k x', k ≤ n → k ≤ 40 → Q s m .normal (actGA (.slice b k c) W z x')) : wpJ Try.prog Fin 4 cutC Q s m (actGA (.slice b n c) W z x) := by
  rw [actGA_lit]
  ((first | refine wpJ_seq ?_ | refine wpJ_block ?_ | refine wpJ_skip ?_ | refine wpJ_label ?_ | refine wpJ_ret ?_ | refine wpJ_exit ?_ | refine opsJ_nil ?_))
  ((refine wpJ_region ?_; simp only [List.size_toArray, List.length_cons, List.length_nil, Nat.reduceAdd, Nat.zero_add, List.range, List.range.loop]))
  ((refine opsJ_pure rfl (by rfl) (fun w => run_eqv (fun K hK => by go_simp; exact hK)) (fun w => by simp [go_sem]) ?_; try walk_nrm))
  ((refine opsJ_pure rfl (by rfl) (fun w => run_eqv (fun K hK => by go_simp; exact hK)) (fun w => by simp [go_sem]) ?_; try walk_nrm))
  by_cases h30 : 40 < n
  · have h31 : (40 : Int) < ((n : Nat) : Int) := by omega
    have hc' : (40 : Int) ≤ ((c : Nat) : Int) := by omega
    have hc2 : 40 ≤ c := by omega
    obtain ⟨β, off, C, ety, fr, cap, e, _, _⟩ := hr.2 (by omega)
    cases e
    ((refine opsJ_pure (v := (.bool true)) rfl (by rfl) (fun w => by go_simp; try (first | rfl | decide | (simp [*, n_sh, IntKind.wrap_u64, IntKind.wrap_u32, IntKind.wrap_i32, IntKind.wrap_i64] <;> omega))) (fun w => by simp [go_sem, *]) ?_; walk_nrm))
    refine opsJ_nil ?_
    try (simp only [QJ.then, QJ.inBlock, if_true, if_false, reduceIte, Nat.reduceEqDiff])
    ((refine wpJ_cond (by rfl) ?_; simp only [if_true, if_false, reduceIte, Bool.false_eq_true]))
    ((refine wpJ_region ?_; simp only [List.size_toArray, List.length_cons, List.length_nil, Nat.reduceAdd, Nat.zero_add, List.range, List.range.loop]))
    ((refine opsJ_pure rfl (by rfl) (fun w => run_eqv (fun K hK => by go_simp; exact hK)) (fun w => by simp [go_sem]) ?_; try walk_nrm))
    ((refine opsJ_pure (v := (.slice (some ⟨β, off, none⟩) 40 c)) rfl (by rfl) (fun w => by go_simp; try (first | rfl | (simp [*]; done))) (fun w => by simp [go_sem, evSliceH (by omega) hc']) ?_; walk_nrm))
    ((refine opsJ_pure rfl (by rfl) (fun w => run_eqv (fun K hK => by go_simp; exact hK)) (fun w => by simp [go_sem]) ?_; try walk_nrm))
    refine opsJ_nil ?_
    try (simp only [QJ.then, QJ.inBlock, if_true, if_false, reduceIte, Nat.reduceEqDiff])
    exact q_actGA (Q := fun a => Q s m .normal a) _ (by rfl) (by rfl) (by rfl) (by rfl) (by rfl) (h 40 _ (by omega) (by omega))
  · have h31 : ¬ (40 : Int) < ((n : Nat) : Int) := by omega
    ((refine opsJ_pure (v := (.bool false)) rfl (by rfl) (fun w => by go_simp; try (first | rfl | decide | (simp [*, n_sh, IntKind.wrap_u64, IntKind.wrap_u32, IntKind.wrap_i32, IntKind.wrap_i64] <;> omega))) (fun w => by simp [go_sem, *]) ?_; walk_nrm))
    refine opsJ_nil ?_
    try (simp only [QJ.then, QJ.inBlock, if_true, if_false, reduceIte, Nat.reduceEqDiff])
    ((refine wpJ_cond (by rfl) ?_; simp only [if_true, if_false, reduceIte, Bool.false_eq_true]))
    ((first | refine wpJ_seq ?_ | refine wpJ_block ?_ | refine wpJ_skip ?_ | refine wpJ_label ?_ | refine wpJ_ret ?_ | refine wpJ_exit ?_ | refine opsJ_nil ?_))
    try (simp only [QJ.then, QJ.inBlock, if_true, if_false, reduceIte, Nat.reduceEqDiff])
    exact q_actGA (Q := fun a => Q s m .normal a) _ (by rfl) (by rfl) (by rfl) (by rfl) (by rfl) (h n _ (by omega) (by omega))
set_option maxRecDepth 100000 in
set_option maxHeartbeats 2000000 in
theorem cutD_j {Q : QJ} {s : Gh} {m : PM} {b : Option Addr} {n c : Nat} {W z : Value} {it : Nat → Rt} {x : Nat → Value} (hr : RowP m (.slice b n c) n it) (hc : n ≤ c) (h : ∀ k x', k ≤ n → k ≤ 40 → Q s m .normal (actGA W (.slice b k c) z x')) : wpJ Try.prog Fin 4 cutD Q s m (actGA W (.slice b n c) z x) := by
  rw [actGA_lit]
  ((first | refine wpJ_seq ?_ | refine wpJ_block ?_ | refine wpJ_skip ?_ | refine wpJ_label ?_ | refine wpJ_ret ?_ | refine wpJ_exit ?_ | refine opsJ_nil ?_))
  ((refine wpJ_region ?_; simp only [List.size_toArray, List.length_cons, List.length_nil, Nat.reduceAdd, Nat.zero_add, List.range, List.range.loop]))
  ((refine opsJ_pure rfl (by rfl) (fun w => run_eqv (fun K hK => by go_simp; exact hK)) (fun w => by simp [go_sem]) ?_; try walk_nrm))
  ((refine opsJ_pure rfl (by rfl) (fun w => run_eqv (fun K hK => by go_simp; exact hK)) (fun w => by simp [go_sem]) ?_; try walk_nrm))
  by_cases h30 : 40 < n
  · have h31 : (40 : Int) < ((n : Nat) : Int) := by omega
    have hc' : (40 : Int) ≤ ((c : Nat) : Int) := by omega
    have hc2 : 40 ≤ c := by omega
    obtain ⟨β, off, C, ety, fr, cap, e, _, _⟩ := hr.2 (by omega)
    cases e
    ((refine opsJ_pure (v := (.bool true)) rfl (by rfl) (fun w => by go_simp; try (first | rfl | decide | (simp [*, n_sh, IntKind.wrap_u64, IntKind.wrap_u32, IntKind.wrap_i32, IntKind.wrap_i64] <;> omega))) (fun w => by simp [go_sem, *]) ?_; walk_nrm))
    refine opsJ_nil ?_
    try (simp only [QJ.then, QJ.inBlock, if_true, if_false, reduceIte, Nat.reduceEqDiff])
    ((refine wpJ_cond (by rfl) ?_; simp only [if_true, if_false, reduceIte, Bool.false_eq_true]))
    ((refine wpJ_region ?_; simp only [List.size_toArray, List.length_cons, List.length_nil, Nat.reduceAdd, Nat.zero_add, List.range, List.range.loop]))
    ((refine opsJ_pure rfl (by rfl) (fun w => run_eqv (fun K hK => by go_simp; exact hK)) (fun w => by simp [go_sem]) ?_; try walk_nrm))
    ((refine opsJ_pure (v := (.slice (some ⟨β, off, none⟩) 40 c)) rfl (by rfl) (fun w => by go_simp; try (first | rfl | (simp [*]; done))) (fun w => by simp [go_sem, evSliceH (by omega) hc']) ?_; walk_nrm))
    ((refine opsJ_pure rfl (by rfl) (fun w => run_eqv (fun K hK => by go_simp; exact hK)) (fun w => by simp [go_sem]) ?_; try walk_nrm))
    refine opsJ_nil ?_
    try (simp only [QJ.then, QJ.inBlock, if_true, if_false, reduceIte, Nat.reduceEqDiff])
    exact q_actGA (Q := fun a => Q s m .normal a) _ (by rfl) (by rfl) (by rfl) (by rfl) (by rfl) (h 40 _ (by omega) (by omega))
  · have h31 : ¬ (40 : Int) < ((n : Nat) : Int) := by omega
    ((refine opsJ_pure (v := (.bool false)) rfl (by rfl) (fun w => by go_simp; try (first | rfl | decide | (simp [*, n_sh, IntKind.wrap_u64, IntKind.wrap_u32, IntKind.wrap_i32, IntKind.wrap_i64] <;> omega))) (fun w => by simp [go_sem, *]) ?_; walk_nrm))
    refine opsJ_nil ?_
    try (simp only [QJ.then, QJ.inBlock, if_true, if_false, reduceIte, Nat.reduceEqDiff])
    ((refine wpJ_cond (by rfl) ?_; simp only [if_true, if_false, reduceIte, Bool.false_eq_true]))
    ((first | refine wpJ_seq ?_ | refine wpJ_block ?_ | refine wpJ_skip ?_ | refine wpJ_label ?_ | refine wpJ_ret ?_ | refine wpJ_exit ?_ | refine opsJ_nil ?_))
    try (simp only [QJ.then, QJ.inBlock, if_true, if_false, reduceIte, Nat.reduceEqDiff])
    exact q_actGA (Q := fun a => Q s m .normal a) _ (by rfl) (by rfl) (by rfl) (by rfl) (by rfl) (h n _ (by omega) (by omega))
set_option maxRecDepth 100000 in
set_option maxHeartbeats 4000000 in
theorem rest8_j {sh sf : Nat → Prop} {m0 m : PM} {bA bB : Option Addr} {nA nB cA cB k : Nat} {x y : Nat → Rt} {v : Nat → Value} (hA : RowP m (.slice bA nA cA) nA x) (hB : RowP m (.slice bB nB cB) nB y) (ha : nA ≤ 40) (hb : nB ≤ 40) (hc : nA ≤ cA) (hk : k ≤ nA) (hx : Ext m0 m) :
    wpJ Try.prog Fin 4 rest8 (bodyJ Try.prog Try.f4 fun s' m' v => (∃ sh' sf', s' = .out sh' sf' false none) ∧ v = .bool true ∧ Ext m0 m') (.out sh sf false none) m (actGB (.slice bA nA cA) (.slice bB nB cB) (.int .i64 (k : Int)) v) := by
  rw [actGB_lit]
  have hk0 : (0 : Int) ≤ ((k : Nat) : Int) := by omega
  have hkc : ((k : Nat) : Int) ≤ ((cA : Nat) : Int) := by omega
  have hkk : ((k : Nat) : Int) ≤ ((k : Nat) : Int) := Int.le_refl _
  have hb0 : bA = none → k = 0 := fun e => by
    rcases Nat.eq_zero_or_pos k with h | h
    · exact h
    · obtain ⟨β, off, C, ety, fr, cap, h1, _⟩ := hA.2 (by omega)
      rw [e] at h1; cases h1
  ((first | refine wpJ_seq ?_ | refine wpJ_block ?_ | refine wpJ_skip ?_ | refine wpJ_label ?_ | refine wpJ_ret ?_ | refine wpJ_exit ?_ | refine opsJ_nil ?_))
  ((refine wpJ_region ?_; simp only [List.size_toArray, List.length_cons, List.length_nil, Nat.reduceAdd, Nat.zero_add, List.range, List.range.loop]))
  ((refine opsJ_pure rfl (by rfl) (fun w => run_eqv (fun K hK => by go_simp; exact hK)) (fun w => by simp [go_sem]) ?_; try walk_nrm))
  ((refine opsJ_pure rfl (by rfl) (fun w => run_eqv (fun K hK => by go_simp; exact hK)) (fun w => by simp [go_sem]) ?_; try walk_nrm))
  refine opsJ_call rfl (by rfl) rfl (by walk_nrm; exact lsame_j hA hB (by omega) (by omega)) ?_
  rintro _ m1 _ ⟨⟨sh1, sf1, rfl⟩, rfl, hx1⟩
  replace hA := hA.ext hx1
  replace hB := hB.ext hx1
  replace hx1 := hx.trans hx1
  walk_nrm
  ((refine opsJ_pure rfl (by rfl) (fun w => run_eqv (fun K hK => by go_simp; exact hK)) (fun w => by simp [go_sem]) ?_; try walk_nrm))
  ((refine opsJ_pure rfl (by rfl) (fun w => run_eqv (fun K hK => by go_simp; exact hK)) (fun w => by simp [go_sem]) ?_; try walk_nrm))
  ((refine opsJ_pure rfl (by rfl) (fun w => run_eqv (fun K hK => by go_simp; exact hK)) (fun w => by simp [go_sem]) ?_; try walk_nrm))
  refine opsJ_call rfl (by rfl) rfl (by walk_nrm; exact lsame_j hA hA (by omega) (by omega)) ?_
  rintro _ m2 _ ⟨⟨sh2, sf2, rfl⟩, rfl, hx2⟩
  replace hx1 := hx1.trans hx2
  replace hA := hA.ext hx2
  replace hB := hB.ext hx2
  clear hx2
  walk_nrm
  ((refine opsJ_pure rfl (by rfl) (fun w => run_eqv (fun K hK => by go_simp; exact hK)) (fun w => by simp [go_sem]) ?_; try walk_nrm))
  ((refine opsJ_pure rfl (by rfl) (fun w => run_eqv (fun K hK => by go_simp; exact hK)) (fun w => by simp [go_sem]) ?_; try walk_nrm))
  ((refine opsJ_pure rfl (by rfl) (fun w => run_eqv (fun K hK => by go_simp; exact hK)) (fun w => by simp [go_sem]) ?_; try walk_nrm))
  ((refine opsJ_pure rfl (by rfl) (fun w => run_eqv (fun K hK => by go_simp; exact hK)) (fun w => by simp [go_sem]) ?_; try walk_nrm))
  ((refine opsJ_pure rfl (by rfl) (fun w => run_eqv (fun K hK => by go_simp; exact hK)) (fun w => by simp [go_sem]) ?_; try walk_nrm))
  refine opsJ_pure (v := .slice bA k cA) rfl (by rfl) (fun w => by go_simp; try (cases bA <;> simp [sliced, add0])) (fun w => by simp [go_sem, evSliceH hk0 hkc]) ?_
  walk_nrm
  refine opsJ_call rfl (by rfl) rfl (by walk_nrm; exact lsame_j hA (hA.cut hk) (by omega) (by omega)) ?_
  rintro _ m3 _ ⟨⟨sh3, sf3, rfl⟩, rfl, hx3⟩
  replace hx1 := hx1.trans hx3
  replace hA := hA.ext hx3
  replace hB := hB.ext hx3
  clear hx3
  walk_nrm
  ((refine opsJ_pure rfl (by rfl) (fun w => run_eqv (fun K hK => by go_simp; exact hK)) (fun w => by simp [go_sem]) ?_; try walk_nrm))
  ((refine opsJ_pure rfl (by rfl) (fun w => run_eqv (fun K hK => by go_simp; exact hK)) (fun w => by simp [go_sem]) ?_; try walk_nrm))
  ((refine opsJ_pure rfl (by rfl) (fun w => run_eqv (fun K hK => by go_simp; exact hK)) (fun w => by simp [go_sem]) ?_; try walk_nrm))
  ((refine opsJ_pure rfl (by rfl) (fun w => run_eqv (fun K hK => by go_simp; exact hK)) (fun w => by simp [go_sem]) ?_; try walk_nrm))
  ((refine opsJ_pure rfl (by rfl) (fun w => run_eqv (fun K hK => by go_simp; exact hK)) (fun w => by simp [go_sem]) ?_; try walk_nrm))
  refine opsJ_pure (v := .slice bA k k) rfl (by rfl) (fun w => by go_simp; try (cases bA <;> simp [sliced, add0])) (fun w => by simp [go_sem, evSliceF hk0 hkk hkc]) ?_
  walk_nrm
  ((refine opsJ_pure rfl (by rfl) (fun w => run_eqv (fun K hK => by go_simp; exact hK)) (fun w => by simp [go_sem]) ?_; try walk_nrm))
  refine opsJ_cat rfl (by rfl) _ _ 22 rfl Try.underlying22 rfl (hA.full hk) hb0 rfl hB (by omega) (by omega) fun v' m4 hC hx4 => ?_
  obtain ⟨⟨bC, cC, rfl⟩, -⟩ := id hC
  replace hx1 := hx1.trans hx4
  replace hA := hA.ext hx4
  clear hx4
  walk_nrm
  ((refine opsJ_pure rfl (by rfl) (fun w => run_eqv (fun K hK => by go_simp; exact hK)) (fun w => by simp [go_sem]) ?_; try walk_nrm))
  refine opsJ_call rfl (by rfl) rfl (by walk_nrm; exact lsame_j hC hA (by omega) (by omega)) ?_
  rintro _ m5 _ ⟨⟨sh5, sf5, rfl⟩, rfl, hx5⟩
  replace hx1 := hx1.trans hx5
  clear hx5 hC hA hB
  walk_nrm
  ((refine opsJ_pure rfl (by rfl) (fun w => run_eqv (fun K hK => by go_simp; exact hK)) (fun w => by simp [go_sem]) ?_; try walk_nrm))
  ((refine opsJ_pure rfl (by rfl) (fun w => run_eqv (fun K hK => by go_simp; exact hK)) (fun w => by simp [go_sem]) ?_; try walk_nrm))
  refine opsJ_call rfl (by rfl) rfl (by walk_nrm; exact known_j _) ?_
  rintro _ m6 _ ⟨⟨sh6, sf6, rfl⟩, rfl, hx6⟩
  walk_nrm
  ((refine opsJ_pure rfl (by rfl) (fun w => run_eqv (fun K hK => by go_simp; exact hK)) (fun w => by simp [go_sem]) ?_; try walk_nrm))
  ((refine opsJ_pure rfl (by rfl) (fun w => run_eqv (fun K hK => by go_simp; exact hK)) (fun w => by simp [go_sem]) ?_; try walk_nrm))
  refine opsJ_nil ?_
  (simp only [QJ.then, QJ.inBlock, if_true, if_false, reduceIte, Nat.reduceEqDiff])
  refine wpJ_ret ?_
  exact ⟨rfl, _, resultsJ_tmp Try.results4 _, ⟨_, _, rfl⟩, rfl, hx1.trans hx6⟩
set_option maxRecDepth 100000 in
set_option maxHeartbeats 4000000 in
theorem restT_j {sh sf : Nat → Prop} {m : PM} {bA bB : Option Addr} {nA nB cA cB : Nat} {z : Int} {x y : Nat → Rt} {v : Nat → Value} (hA : RowP m (.slice bA nA cA) nA x) (hB : RowP m (.slice bB nB cB) nB y) (ha : nA ≤ 40) (hb : nB ≤ 40) (hc : nA ≤ cA) (hz : -9223372036854775808 ≤ z ∧ z < 9223372036854775808) :
    wpJ Try.prog Fin 4 tellsRest (bodyJ Try.prog Try.f4 fun s' m' v => (∃ sh' sf', s' = .out sh' sf' false none) ∧ v = .bool true ∧ Ext m m') (.out sh sf false none) m (actGA (.slice bA nA cA) (.slice bB nB cB) (.int .i64 z) v) := by
  rw [actGA_lit]
  ((first | refine wpJ_seq ?_ | refine wpJ_block ?_ | refine wpJ_skip ?_ | refine wpJ_label ?_ | refine wpJ_ret ?_ | refine wpJ_exit ?_ | refine opsJ_nil ?_))
  ((refine wpJ_region ?_; simp only [List.size_toArray, List.length_cons, List.length_nil, Nat.reduceAdd, Nat.zero_add, List.range, List.range.loop]))
  ((refine opsJ_pure rfl (by rfl) (fun w => run_eqv (fun K hK => by go_simp; exact hK)) (fun w => by simp [go_sem]) ?_; try walk_nrm))
  refine opsJ_nil ?_
  (simp only [QJ.then, QJ.inBlock, if_true, if_false, reduceIte, Nat.reduceEqDiff])
  ((first | refine wpJ_seq ?_ | refine wpJ_block ?_ | refine wpJ_skip ?_ | refine wpJ_label ?_ | refine wpJ_ret ?_ | refine wpJ_exit ?_ | refine opsJ_nil ?_))
  ((first | refine wpJ_seq ?_ | refine wpJ_block ?_ | refine wpJ_skip ?_ | refine wpJ_label ?_ | refine wpJ_ret ?_ | refine wpJ_exit ?_ | refine opsJ_nil ?_))
  ((refine wpJ_region ?_; simp only [List.size_toArray, List.length_cons, List.length_nil, Nat.reduceAdd, Nat.zero_add, List.range, List.range.loop]))
  ((refine opsJ_pure rfl (by rfl) (fun w => run_eqv (fun K hK => by go_simp; exact hK)) (fun w => by simp [go_sem]) ?_; try walk_nrm))
  ((refine opsJ_pure rfl (by rfl) (fun w => run_eqv (fun K hK => by go_simp; exact hK)) (fun w => by simp [go_sem]) ?_; try walk_nrm))
  by_cases h0 : 0 < nA
  · have h1 : (0 : Int) < ((nA : Nat) : Int) := by omega
    ((refine opsJ_pure (v := (.bool true)) rfl (by rfl) (fun w => by go_simp; try (first | rfl | decide | (simp [*, n_sh, IntKind.wrap_u64, IntKind.wrap_u32, IntKind.wrap_i32, IntKind.wrap_i64] <;> omega))) (fun w => by simp [go_sem, *]) ?_; walk_nrm))
    refine opsJ_nil ?_
    try (simp only [QJ.then, QJ.inBlock, if_true, if_false, reduceIte, Nat.reduceEqDiff])
    ((refine wpJ_cond (by rfl) ?_; simp only [if_true, if_false, reduceIte, Bool.false_eq_true]))
    ((refine wpJ_region ?_; simp only [List.size_toArray, List.length_cons, List.length_nil, Nat.reduceAdd, Nat.zero_add, List.range, List.range.loop]))
    ((refine opsJ_pure rfl (by rfl) (fun w => run_eqv (fun K hK => by go_simp; exact hK)) (fun w => by simp [go_sem]) ?_; try walk_nrm))
    ((refine opsJ_pure rfl (by rfl) (fun w => run_eqv (fun K hK => by go_simp; exact hK)) (fun w => by simp [go_sem]) ?_; try walk_nrm))
    ((refine opsJ_pure rfl (by rfl) (fun w => run_eqv (fun K hK => by go_simp; exact hK)) (fun w => by simp [go_sem]) ?_; try walk_nrm))
    have hn0 : ¬ ((nA : Nat) : Int) = 0 := by omega
    have hne : ((nA : Nat) : Int) ≠ 0 := hn0
    have hr1 : z.tmod ((nA : Nat) : Int) < ((nA : Nat) : Int) := Int.tmod_lt_of_pos z h1
    have hr2 : -((nA : Nat) : Int) < z.tmod ((nA : Nat) : Int) := Int.lt_tmod_of_pos z h1
    refine opsJ_pure (v := .int .i64 (z.tmod ((nA : Nat) : Int))) rfl (by rfl) (fun w => by go_simp; omega) (fun w => by simp [go_sem, *]) ?_
    walk_nrm
    generalize z.tmod ((nA : Nat) : Int) = r at hr1 hr2 ⊢
    ((refine opsJ_pure rfl (by rfl) (fun w => run_eqv (fun K hK => by go_simp; exact hK)) (fun w => by simp [go_sem]) ?_; try walk_nrm))
    ((refine opsJ_pure rfl (by rfl) (fun w => run_eqv (fun K hK => by go_simp; exact hK)) (fun w => by simp [go_sem]) ?_; try walk_nrm))
    ((refine opsJ_pure (v := (.int .i64 (r + ((nA : Nat) : Int)))) rfl (by rfl) (fun w => by go_simp; rw [wrapI (by omega) (by omega)]) (fun w => by simp [go_sem]) ?_; try walk_nrm))
    ((refine opsJ_pure rfl (by rfl) (fun w => run_eqv (fun K hK => by go_simp; exact hK)) (fun w => by simp [go_sem]) ?_; try walk_nrm))
    ((refine opsJ_pure rfl (by rfl) (fun w => run_eqv (fun K hK => by go_simp; exact hK)) (fun w => by simp [go_sem]) ?_; try walk_nrm))
    have hr3 : (r + ((nA : Nat) : Int)).tmod ((nA : Nat) : Int) < ((nA : Nat) : Int) := Int.tmod_lt_of_pos _ h1
    have hr4 : 0 ≤ (r + ((nA : Nat) : Int)).tmod ((nA : Nat) : Int) := Int.tmod_nonneg _ (by omega)
    refine opsJ_pure (v := .int .i64 ((r + ((nA : Nat) : Int)).tmod ((nA : Nat) : Int))) rfl (by rfl) (fun w => by go_simp; omega) (fun w => by simp [go_sem, *]) ?_
    walk_nrm
    obtain ⟨K, hK⟩ : ∃ K : Nat, (r + ((nA : Nat) : Int)).tmod ((nA : Nat) : Int) = (K : Int) := ⟨_, (Int.toNat_of_nonneg hr4).symm⟩
    rw [hK] at hr3 hr4 ⊢
    ((refine opsJ_pure rfl (by rfl) (fun w => run_eqv (fun K hK => by go_simp; exact hK)) (fun w => by simp [go_sem]) ?_; try walk_nrm))
    refine opsJ_nil ?_
    try (simp only [QJ.then, QJ.inBlock, if_true, if_false, reduceIte, Nat.reduceEqDiff])
    exact q_actGB (Q := fun a => wpJ _ _ _ _ _ _ _ a) _ (by rfl) (by rfl) (by rfl) (by rfl) (by rfl) (rest8_j (k := K) hA hB ha hb hc (by omega) (Ext.refl m))
  · have h1 : ¬ (0 : Int) < ((nA : Nat) : Int) := by omega
    ((refine opsJ_pure (v := (.bool false)) rfl (by rfl) (fun w => by go_simp; try (first | rfl | decide | (simp [*, n_sh, IntKind.wrap_u64, IntKind.wrap_u32, IntKind.wrap_i32, IntKind.wrap_i64] <;> omega))) (fun w => by simp [go_sem, *]) ?_; walk_nrm))
    refine opsJ_nil ?_
    try (simp only [QJ.then, QJ.inBlock, if_true, if_false, reduceIte, Nat.reduceEqDiff])
    ((refine wpJ_cond (by rfl) ?_; simp only [if_true, if_false, reduceIte, Bool.false_eq_true]))
    ((first | refine wpJ_seq ?_ | refine wpJ_block ?_ | refine wpJ_skip ?_ | refine wpJ_label ?_ | refine wpJ_ret ?_ | refine wpJ_exit ?_ | refine opsJ_nil ?_))
    try (simp only [QJ.then, QJ.inBlock, if_true, if_false, reduceIte, Nat.reduceEqDiff])
    exact q_actGB (Q := fun a => wpJ _ _ _ _ _ _ _ a) _ (by rfl) (by rfl) (by rfl) (by rfl) (by rfl) (rest8_j (k := 0) hA hB ha hb hc (by omega) (Ext.refl m))
set_option maxRecDepth 100000 in
set_option maxHeartbeats 2000000 in
/-- GatherTells answers true. -/
theorem tells_j {sh sf : Nat → Prop} {m : PM} {bA bB : Option Addr} {nA nB cA cB : Nat} {z : Int} {x y : Nat → Rt} (hA : RowP m (.slice bA nA cA) nA x) (hB : RowP m (.slice bB nB cB) nB y) (hcA : nA ≤ cA) (hcB : nB ≤ cB) (hz : -9223372036854775808 ≤ z ∧ z < 9223372036854775808) :
    CallsJ Try.prog Fin 4 #[.slice bA nA cA, .slice bB nB cB, .int .i64 z] (.out sh sf false none) m fun s' m' v => (∃ sh' sf', s' = .out sh' sf' false none) ∧ v = .bool true ∧ Ext m m' := by
  ((refine callsJ_of Try.func4 (by rfl) rfl ?_; simp only [Try.ntmps4, List.size_toArray, List.length_cons, List.length_nil, Nat.reduceAdd, Nat.reduceSub, Array.replicate_succ, Array.replicate_zero, List.push_toArray, List.append_toArray, List.nil_append, List.cons_append]))
  ((first | refine wpJ_seq ?_ | refine wpJ_block ?_ | refine wpJ_skip ?_ | refine wpJ_label ?_ | refine wpJ_ret ?_ | refine wpJ_exit ?_ | refine opsJ_nil ?_))
  ((refine wpJ_region ?_; simp only [List.size_toArray, List.length_cons, List.length_nil, Nat.reduceAdd, Nat.zero_add, List.range, List.range.loop]))
  ((refine opsJ_pure rfl (by rfl) (fun w => run_eqv (fun K hK => by go_simp; exact hK)) (fun w => by simp [go_sem]) ?_; try walk_nrm))
  refine opsJ_nil ?_
  (simp only [QJ.then, QJ.inBlock, if_true, if_false, reduceIte, Nat.reduceEqDiff])
  refine wpJ_seq ?_
  refine q_actGA (Q := fun a => wpJ _ _ _ _ _ _ _ a) _ (by rfl) (by rfl) (by rfl) (by rfl) (by rfl) ?_
  refine cutC_j hA hcA fun k x' hk h30 => ?_
  (simp only [QJ.then, QJ.inBlock, if_true, if_false, reduceIte, Nat.reduceEqDiff])
  refine wpJ_seq ?_
  refine cutD_j hB hcB fun k' x'' hk' h30' => ?_
  (simp only [QJ.then, QJ.inBlock, if_true, if_false, reduceIte, Nat.reduceEqDiff])
  exact restT_j (hA.cut hk) (hB.cut hk') h30 h30' (by omega) hz
end
end Go.Proofs.Ytafnbmokegomaaa
