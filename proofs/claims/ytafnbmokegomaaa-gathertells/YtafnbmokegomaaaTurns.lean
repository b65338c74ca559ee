/-
  GatherTurns.
-/
import Derived.Test.YtafnbmokegomaaaSameB
set_option linter.unusedSimpArgs false
set_option linter.unusedVariables false
set_option linter.unusedSectionVars false
namespace Go.Proofs.Ytafnbmokegomaaa
open Go.Conc Go.RowKit

def slotT (A B n : Value) (x : Nat → Value) : Nat → Value
  | 0 => A
  | 1 => B
  | 2 => n
  | 6 => .bool false
  | q => x q
def actT (A B n : Value) (x : Nat → Value) : Act := ⟨((List.range 81).map (slotT A B n x)).toArray, []⟩
theorem actT_lit (A B n : Value) (x : Nat → Value) : actT A B n x = ⟨List.toArray (A :: B :: n :: x 3 :: x 4 :: x 5 :: .bool false :: x 7 :: x 8 :: x 9 :: x 10 :: x 11 :: x 12 :: x 13 :: x 14 :: x 15 :: x 16 :: x 17 :: x 18 :: x 19 :: x 20 :: x 21 :: x 22 :: x 23 :: x 24 :: x 25 :: x 26 :: x 27 :: x 28 :: x 29 :: x 30 :: x 31 :: x 32 :: x 33 :: x 34 :: x 35 :: x 36 :: x 37 :: x 38 :: x 39 :: x 40 :: x 41 :: x 42 :: x 43 :: x 44 :: x 45 :: x 46 :: x 47 :: x 48 :: x 49 :: x 50 :: x 51 :: x 52 :: x 53 :: x 54 :: x 55 :: x 56 :: x 57 :: x 58 :: x 59 :: x 60 :: x 61 :: x 62 :: x 63 :: x 64 :: x 65 :: x 66 :: x 67 :: x 68 :: x 69 :: x 70 :: x 71 :: x 72 :: x 73 :: x 74 :: x 75 :: x 76 :: x 77 :: x 78 :: x 79 :: x 80 :: []), []⟩ := rfl
theorem q_actT {Q : Act → Prop} {A B n : Value} (L : List Value) (hn : L.length = 81) (h0 : L[0]? = some (A)) (h1 : L[1]? = some (B)) (h2 : L[2]? = some (n)) (h6 : L[6]? = some (.bool false)) (h : Q (actT A B n (fun q => L[q]?.getD undef))) : Q ⟨L.toArray, []⟩ := by
  have e : (⟨L.toArray, []⟩ : Act) = actT A B n (fun q => L[q]?.getD undef) := by
    unfold actT
    congr 2
    apply List.ext_getElem?
    intro q
    rw [List.getElem?_map]
    by_cases hi : q < 81
    · rw [List.getElem?_range hi]
      simp only [Option.map_some]
      have key : ∀ j, j < 81 → L[j]? = some (L[j]?.getD undef) := fun j hj => by
        rw [List.getElem?_eq_getElem (by omega)]; rfl
      unfold slotT
      split
      · exact h0
      · exact h1
      · exact h2
      · exact h6
      · exact key _ hi
    · rw [List.getElem?_eq_none (by omega), List.getElem?_eq_none (by simp; omega)]
      rfl
  rw [e]; exact h
theorem RowP.cut {m : PM} {b : Option Addr} {n k c : Nat} {it : Nat → Rt} (h : RowP m (.slice b n c) n it) (hk : k ≤ n) : RowP m (.slice b k c) k it :=
  ⟨⟨_, _, rfl⟩, fun h0 => by
    obtain ⟨β, off, C, ety, fr, cap, h1, h2, h3⟩ := h.2 (by omega)
    cases h1
    exact ⟨β, off, C, ety, fr, c, rfl, h2, fun i hi => h3 i (by omega)⟩⟩
theorem evSliceH {a : Option Addr} {len cap : Nat} {k : IntKind} {h : Int} {w : World} {es : Array Event} (h0 : 0 ≤ h) (h2 : h ≤ cap) : (Instr.sliceAt 22 (.slice a len cap) none (some (.int k h)) none).events Try.prog w es = es := by
  simp [Instr.sliceAt, Instr.slice, Instr.sliceBounds, Instr.sliceBound, Sem.events_bind, run_underlying Try.underlying22, asIntOf, h0, h2]
theorem agr_swap (x y : Nat → Rt) : ∀ k, agr (ofB x y) k = agr (ofB y x) k
  | 0 => rfl
  | k + 1 => by
    have e : (x k).eq (y k) = (y k).eq (x k) := by
      rw [Bool.eq_iff_iff, Rt.eq_iff, Rt.eq_iff]
      exact ⟨Eq.symm, Eq.symm⟩
    show (((agr (ofB x y) k).1 && (x k).eq (y k)), if ((agr (ofB x y) k).1 && (x k).eq (y k)) = true then (agr (ofB x y) k).2 + 1 else (agr (ofB x y) k).2) = (((agr (ofB y x) k).1 && (y k).eq (x k)), if ((agr (ofB y x) k).1 && (y k).eq (x k)) = true then (agr (ofB y x) k).2 + 1 else (agr (ofB y x) k).2)
    rw [agr_swap x y k, e]
theorem agr_self (x : Nat → Rt) : ∀ k, agr (ofB x x) k = (true, k)
  | 0 => rfl
  | k + 1 => by
    show (((agr (ofB x x) k).1 && (x k).eq (x k)), if ((agr (ofB x x) k).1 && (x k).eq (x k)) = true then (agr (ofB x x) k).2 + 1 else (agr (ofB x x) k).2) = _
    rw [agr_self x k, rt_refl]
    rfl
noncomputable def turnsRest : Code := rgt (rgt (rgt (Try.f5.body.getD .skip)))
def slotU (A q r k : Value) (x : Nat → Value) : Nat → Value
  | 0 => A
  | 6 => .bool false
  | 7 => q
  | 8 => r
  | 9 => q
  | 10 => r
  | 11 => k
  | j => x j
def actU (A q r k : Value) (x : Nat → Value) : Act := ⟨((List.range 81).map (slotU A q r k x)).toArray, []⟩
theorem actU_lit (A q r k : Value) (x : Nat → Value) : actU A q r k x = ⟨List.toArray (A :: x 1 :: x 2 :: x 3 :: x 4 :: x 5 :: .bool false :: q :: r :: q :: r :: k :: x 12 :: x 13 :: x 14 :: x 15 :: x 16 :: x 17 :: x 18 :: x 19 :: x 20 :: x 21 :: x 22 :: x 23 :: x 24 :: x 25 :: x 26 :: x 27 :: x 28 :: x 29 :: x 30 :: x 31 :: x 32 :: x 33 :: x 34 :: x 35 :: x 36 :: x 37 :: x 38 :: x 39 :: x 40 :: x 41 :: x 42 :: x 43 :: x 44 :: x 45 :: x 46 :: x 47 :: x 48 :: x 49 :: x 50 :: x 51 :: x 52 :: x 53 :: x 54 :: x 55 :: x 56 :: x 57 :: x 58 :: x 59 :: x 60 :: x 61 :: x 62 :: x 63 :: x 64 :: x 65 :: x 66 :: x 67 :: x 68 :: x 69 :: x 70 :: x 71 :: x 72 :: x 73 :: x 74 :: x 75 :: x 76 :: x 77 :: x 78 :: x 79 :: x 80 :: []), []⟩ := rfl
theorem q_actU {Q : Act → Prop} {A q r k : Value} (L : List Value) (hn : L.length = 81) (h0 : L[0]? = some (A)) (h6 : L[6]? = some (.bool false)) (h7 : L[7]? = some (q)) (h8 : L[8]? = some (r)) (h9 : L[9]? = some (q)) (h10 : L[10]? = some (r)) (h11 : L[11]? = some (k)) (h : Q (actU A q r k (fun q => L[q]?.getD undef))) : Q ⟨L.toArray, []⟩ := by
  have e : (⟨L.toArray, []⟩ : Act) = actU A q r k (fun q => L[q]?.getD undef) := by
    unfold actU
    congr 2
    apply List.ext_getElem?
    intro j
    rw [List.getElem?_map]
    by_cases hi : j < 81
    · rw [List.getElem?_range hi]
      simp only [Option.map_some]
      have key : ∀ j, j < 81 → L[j]? = some (L[j]?.getD undef) := fun j hj => by
        rw [List.getElem?_eq_getElem (by omega)]; rfl
      unfold slotU
      split
      · exact h0
      · exact h6
      · exact h7
      · exact h8
      · exact h9
      · exact h10
      · exact h11
      · exact key _ hi
    · rw [List.getElem?_eq_none (by omega), List.getElem?_eq_none (by simp; omega)]
      rfl
  rw [e]; exact h
theorem add0 (a : Addr) : a.add 0 = a := by unfold Addr.add; split <;> simp_all
noncomputable def rest10 : Code := rgt (rgt (rgt (rgt turnsRest)))
noncomputable def cutA : Code := lft (rgt (Try.f5.body.getD .skip))
noncomputable def cutB : Code := lft (rgt (rgt (Try.f5.body.getD .skip)))
section
variable [Io] {Fin : Value → World → Prop}
set_option maxRecDepth 100000 in
set_option maxHeartbeats 2000000 in
theorem cutA_j {Q : QJ} {s : Gh} {m : PM} {b : Option Addr} {n c : Nat} {W z : Value} {it : Nat → Rt} {x : Nat → Value} (hr : RowP m (.slice b n c) n it) (hc : n ≤ c) (h : ∀ k x', k ≤ n → k ≤ 30 → Q s m .normal (actT (.slice b k c) W z x')) : wpJ Try.prog Fin 5 cutA Q s m (actT (.slice b n c) W z x) := by
  rw [actT_lit]
  ((first | refine wpJ_seq ?_ | refine wpJ_block ?_ | refine wpJ_skip ?_ | refine wpJ_label ?_ | refine wpJ_ret ?_ | refine wpJ_exit ?_ | refine opsJ_nil ?_))
  ((refine wpJ_region ?_; simp only [List.size_toArray, List.length_cons, List.length_nil, Nat.reduceAdd, Nat.zero_add, List.range, List.range.loop]))
  ((refine opsJ_pure rfl (by rfl) (fun w => run_eqv (fun K hK => by go_simp; exact hK)) (fun w => by simp [go_sem]) ?_; try walk_nrm))
  ((refine opsJ_pure rfl (by rfl) (fun w => run_eqv (fun K hK => by go_simp; exact hK)) (fun w => by simp [go_sem]) ?_; try walk_nrm))
  by_cases h30 : 30 < n
  · have h31 : (30 : Int) < ((n : Nat) : Int) := by omega
    have hc' : (30 : Int) ≤ ((c : Nat) : Int) := by omega
    have hc2 : 30 ≤ c := by omega
    obtain ⟨β, off, C, ety, fr, cap, e, _, _⟩ := hr.2 (by omega)
    cases e
    ((refine opsJ_pure (v := (.bool true)) rfl (by rfl) (fun w => by go_simp; try (first | rfl | decide | (simp [*, n_sh, IntKind.wrap_u64, IntKind.wrap_u32, IntKind.wrap_i32, IntKind.wrap_i64] <;> omega))) (fun w => by simp [go_sem, *]) ?_; walk_nrm))
    refine opsJ_nil ?_
    try (simp only [QJ.then, QJ.inBlock, if_true, if_false, reduceIte, Nat.reduceEqDiff])
    ((refine wpJ_cond (by rfl) ?_; simp only [if_true, if_false, reduceIte, Bool.false_eq_true]))
    ((refine wpJ_region ?_; simp only [List.size_toArray, List.length_cons, List.length_nil, Nat.reduceAdd, Nat.zero_add, List.range, List.range.loop]))
    ((refine opsJ_pure rfl (by rfl) (fun w => run_eqv (fun K hK => by go_simp; exact hK)) (fun w => by simp [go_sem]) ?_; try walk_nrm))
    ((refine opsJ_pure (v := (.slice (some ⟨β, off, none⟩) 30 c)) rfl (by rfl) (fun w => by go_simp; try (first | rfl | (simp [*]; done))) (fun w => by simp [go_sem, evSliceH (by omega) hc']) ?_; walk_nrm))
    ((refine opsJ_pure rfl (by rfl) (fun w => run_eqv (fun K hK => by go_simp; exact hK)) (fun w => by simp [go_sem]) ?_; try walk_nrm))
    refine opsJ_nil ?_
    try (simp only [QJ.then, QJ.inBlock, if_true, if_false, reduceIte, Nat.reduceEqDiff])
    exact q_actT (Q := fun a => Q s m .normal a) _ (by rfl) (by rfl) (by rfl) (by rfl) (by rfl) (h 30 _ (by omega) (by omega))
  · have h31 : ¬ (30 : Int) < ((n : Nat) : Int) := by omega
    ((refine opsJ_pure (v := (.bool false)) rfl (by rfl) (fun w => by go_simp; try (first | rfl | decide | (simp [*, n_sh, IntKind.wrap_u64, IntKind.wrap_u32, IntKind.wrap_i32, IntKind.wrap_i64] <;> omega))) (fun w => by simp [go_sem, *]) ?_; walk_nrm))
    refine opsJ_nil ?_
    try (simp only [QJ.then, QJ.inBlock, if_true, if_false, reduceIte, Nat.reduceEqDiff])
    ((refine wpJ_cond (by rfl) ?_; simp only [if_true, if_false, reduceIte, Bool.false_eq_true]))
    ((first | refine wpJ_seq ?_ | refine wpJ_block ?_ | refine wpJ_skip ?_ | refine wpJ_label ?_ | refine wpJ_ret ?_ | refine wpJ_exit ?_ | refine opsJ_nil ?_))
    try (simp only [QJ.then, QJ.inBlock, if_true, if_false, reduceIte, Nat.reduceEqDiff])
    exact q_actT (Q := fun a => Q s m .normal a) _ (by rfl) (by rfl) (by rfl) (by rfl) (by rfl) (h n _ (by omega) (by omega))
set_option maxRecDepth 100000 in
set_option maxHeartbeats 2000000 in
theorem cutB_j {Q : QJ} {s : Gh} {m : PM} {b : Option Addr} {n c : Nat} {W z : Value} {it : Nat → Rt} {x : Nat → Value} (hr : RowP m (.slice b n c) n it) (hc : n ≤ c) (h : ∀ k x', k ≤ n → k ≤ 30 → Q s m .normal (actT W (.slice b k c) z x')) : wpJ Try.prog Fin 5 cutB Q s m (actT W (.slice b n c) z x) := by
  rw [actT_lit]
  ((first | refine wpJ_seq ?_ | refine wpJ_block ?_ | refine wpJ_skip ?_ | refine wpJ_label ?_ | refine wpJ_ret ?_ | refine wpJ_exit ?_ | refine opsJ_nil ?_))
  ((refine wpJ_region ?_; simp only [List.size_toArray, List.length_cons, List.length_nil, Nat.reduceAdd, Nat.zero_add, List.range, List.range.loop]))
  ((refine opsJ_pure rfl (by rfl) (fun w => run_eqv (fun K hK => by go_simp; exact hK)) (fun w => by simp [go_sem]) ?_; try walk_nrm))
  ((refine opsJ_pure rfl (by rfl) (fun w => run_eqv (fun K hK => by go_simp; exact hK)) (fun w => by simp [go_sem]) ?_; try walk_nrm))
  by_cases h30 : 30 < n
  · have h31 : (30 : Int) < ((n : Nat) : Int) := by omega
    have hc' : (30 : Int) ≤ ((c : Nat) : Int) := by omega
    have hc2 : 30 ≤ c := by omega
    obtain ⟨β, off, C, ety, fr, cap, e, _, _⟩ := hr.2 (by omega)
    cases e
    ((refine opsJ_pure (v := (.bool true)) rfl (by rfl) (fun w => by go_simp; try (first | rfl | decide | (simp [*, n_sh, IntKind.wrap_u64, IntKind.wrap_u32, IntKind.wrap_i32, IntKind.wrap_i64] <;> omega))) (fun w => by simp [go_sem, *]) ?_; walk_nrm))
    refine opsJ_nil ?_
    try (simp only [QJ.then, QJ.inBlock, if_true, if_false, reduceIte, Nat.reduceEqDiff])
    ((refine wpJ_cond (by rfl) ?_; simp only [if_true, if_false, reduceIte, Bool.false_eq_true]))
    ((refine wpJ_region ?_; simp only [List.size_toArray, List.length_cons, List.length_nil, Nat.reduceAdd, Nat.zero_add, List.range, List.range.loop]))
    ((refine opsJ_pure rfl (by rfl) (fun w => run_eqv (fun K hK => by go_simp; exact hK)) (fun w => by simp [go_sem]) ?_; try walk_nrm))
    ((refine opsJ_pure (v := (.slice (some ⟨β, off, none⟩) 30 c)) rfl (by rfl) (fun w => by go_simp; try (first | rfl | (simp [*]; done))) (fun w => by simp [go_sem, evSliceH (by omega) hc']) ?_; walk_nrm))
    ((refine opsJ_pure rfl (by rfl) (fun w => run_eqv (fun K hK => by go_simp; exact hK)) (fun w => by simp [go_sem]) ?_; try walk_nrm))
    refine opsJ_nil ?_
    try (simp only [QJ.then, QJ.inBlock, if_true, if_false, reduceIte, Nat.reduceEqDiff])
    exact q_actT (Q := fun a => Q s m .normal a) _ (by rfl) (by rfl) (by rfl) (by rfl) (by rfl) (h 30 _ (by omega) (by omega))
  · have h31 : ¬ (30 : Int) < ((n : Nat) : Int) := by omega
    ((refine opsJ_pure (v := (.bool false)) rfl (by rfl) (fun w => by go_simp; try (first | rfl | decide | (simp [*, n_sh, IntKind.wrap_u64, IntKind.wrap_u32, IntKind.wrap_i32, IntKind.wrap_i64] <;> omega))) (fun w => by simp [go_sem, *]) ?_; walk_nrm))
    refine opsJ_nil ?_
    try (simp only [QJ.then, QJ.inBlock, if_true, if_false, reduceIte, Nat.reduceEqDiff])
    ((refine wpJ_cond (by rfl) ?_; simp only [if_true, if_false, reduceIte, Bool.false_eq_true]))
    ((first | refine wpJ_seq ?_ | refine wpJ_block ?_ | refine wpJ_skip ?_ | refine wpJ_label ?_ | refine wpJ_ret ?_ | refine wpJ_exit ?_ | refine opsJ_nil ?_))
    try (simp only [QJ.then, QJ.inBlock, if_true, if_false, reduceIte, Nat.reduceEqDiff])
    exact q_actT (Q := fun a => Q s m .normal a) _ (by rfl) (by rfl) (by rfl) (by rfl) (by rfl) (h n _ (by omega) (by omega))
set_option maxRecDepth 100000 in
set_option maxHeartbeats 4000000 in
theorem rest10_j {sh sf : Nat → Prop} {m0 m : PM} {bA : Option Addr} {nA cA k q1 : Nat} {q2 : Bool} {x : Nat → Rt} {v : Nat → Value} (hA : RowP m (.slice bA nA cA) nA x) (ha : nA ≤ 30) (hc : nA ≤ cA) (hk : k ≤ nA) (hx : Ext m0 m) :
    wpJ Try.prog Fin 5 rest10 (bodyJ Try.prog Try.f5 fun s' m' v => (∃ sh' sf', s' = .out sh' sf' false none) ∧ v = .bool true ∧ Ext m0 m') (.out sh sf false none) m (actU (.slice bA nA cA) (.int .i64 (q1 : Int)) (.bool q2) (.int .i64 (k : Int)) v) := by
  rw [actU_lit]
  have hk0 : (0 : Int) ≤ ((k : Nat) : Int) := by omega
  have hkc : ((k : Nat) : Int) ≤ ((cA : Nat) : Int) := by omega
  ((first | refine wpJ_seq ?_ | refine wpJ_block ?_ | refine wpJ_skip ?_ | refine wpJ_label ?_ | refine wpJ_ret ?_ | refine wpJ_exit ?_ | refine opsJ_nil ?_))
  ((refine wpJ_region ?_; simp only [List.size_toArray, List.length_cons, List.length_nil, Nat.reduceAdd, Nat.zero_add, List.range, List.range.loop]))
  ((refine opsJ_pure rfl (by rfl) (fun w => run_eqv (fun K hK => by go_simp; exact hK)) (fun w => by simp [go_sem]) ?_; try walk_nrm))
  ((refine opsJ_pure rfl (by rfl) (fun w => run_eqv (fun K hK => by go_simp; exact hK)) (fun w => by simp [go_sem]) ?_; try walk_nrm))
  refine opsJ_pure (v := .slice bA k cA) rfl (by rfl) (fun w => by go_simp; try (cases bA <;> simp [sliced, add0])) (fun w => by simp [go_sem, evSliceH hk0 hkc]) ?_
  walk_nrm
  ((refine opsJ_pure rfl (by rfl) (fun w => run_eqv (fun K hK => by go_simp; exact hK)) (fun w => by simp [go_sem]) ?_; try walk_nrm))
  refine opsJ_call rfl (by rfl) rfl (by walk_nrm; exact agree_m (hA.cut hk) hA (by omega) (by omega)) ?_
  rintro _ m1 _ ⟨⟨sh1, sf1, rfl⟩, rfl, hx1⟩
  rw [Nat.min_eq_left hk, agr_self]
  change OpsJ _ _ _ _ _ _ _ _ (Act.put _ _ (.tuple #[.int .i64 ((k : Nat) : Int), .bool (true && decide (k = nA))]))
  rw [Bool.true_and]
  walk_nrm
  ((refine opsJ_pure rfl (by rfl) (fun w => run_eqv (fun K hK => by go_simp; exact hK)) (fun w => by simp [go_sem]) ?_; try walk_nrm))
  ((refine opsJ_pure rfl (by rfl) (fun w => run_eqv (fun K hK => by go_simp; exact hK)) (fun w => by simp [go_sem]) ?_; try walk_nrm))
  ((refine opsJ_pure rfl (by rfl) (fun w => run_eqv (fun K hK => by go_simp; exact hK)) (fun w => by simp [go_sem]) ?_; try walk_nrm))
  ((refine opsJ_pure rfl (by rfl) (fun w => run_eqv (fun K hK => by go_simp; exact hK)) (fun w => by simp [go_sem]) ?_; try walk_nrm))
  ((refine opsJ_pure rfl (by rfl) (fun w => run_eqv (fun K hK => by go_simp; exact hK)) (fun w => by simp [go_sem]) ?_; try walk_nrm))
  refine opsJ_nil ?_
  (simp only [QJ.then, QJ.inBlock, if_true, if_false, reduceIte, Nat.reduceEqDiff])
  have hde : (((k : Nat) : Int) == ((nA : Nat) : Int)) = decide (k = nA) := by rw [Bool.eq_iff_iff]; simp; omega
  ((first | refine wpJ_seq ?_ | refine wpJ_block ?_ | refine wpJ_skip ?_ | refine wpJ_label ?_ | refine wpJ_ret ?_ | refine wpJ_exit ?_ | refine opsJ_nil ?_))
  ((refine wpJ_region ?_; simp only [List.size_toArray, List.length_cons, List.length_nil, Nat.reduceAdd, Nat.zero_add, List.range, List.range.loop]))
  ((refine opsJ_pure rfl (by rfl) (fun w => run_eqv (fun K hK => by go_simp; exact hK)) (fun w => by simp [go_sem]) ?_; try walk_nrm))
  ((refine opsJ_pure rfl (by rfl) (fun w => run_eqv (fun K hK => by go_simp; exact hK)) (fun w => by simp [go_sem]) ?_; try walk_nrm))
  ((refine opsJ_pure (v := (.bool true)) rfl (by rfl) (fun w => by go_simp; try (first | rfl | decide | (simp [*, n_sh, IntKind.wrap_u64, IntKind.wrap_u32, IntKind.wrap_i32, IntKind.wrap_i64] <;> omega))) (fun w => by simp [go_sem, *]) ?_; walk_nrm))
  ((refine opsJ_pure rfl (by rfl) (fun w => run_eqv (fun K hK => by go_simp; exact hK)) (fun w => by simp [go_sem]) ?_; try walk_nrm))
  ((refine opsJ_pure rfl (by rfl) (fun w => run_eqv (fun K hK => by go_simp; exact hK)) (fun w => by simp [go_sem]) ?_; try walk_nrm))
  ((refine opsJ_pure rfl (by rfl) (fun w => run_eqv (fun K hK => by go_simp; exact hK)) (fun w => by simp [go_sem]) ?_; try walk_nrm))
  ((refine opsJ_pure (v := (.bool true)) rfl (by rfl) (fun w => by go_simp; try (first | rfl | decide)) (fun w => by simp [go_sem, evEqb]) ?_; walk_nrm))
  ((refine opsJ_pure rfl (by rfl) (fun w => run_eqv (fun K hK => by go_simp; exact hK)) (fun w => by simp [go_sem]) ?_; try walk_nrm))
  ((refine opsJ_pure rfl (by rfl) (fun w => run_eqv (fun K hK => by go_simp; exact hK)) (fun w => by simp [go_sem]) ?_; try walk_nrm))
  ((refine opsJ_pure rfl (by rfl) (fun w => run_eqv (fun K hK => by go_simp; exact hK)) (fun w => by simp [go_sem]) ?_; try walk_nrm))
  ((refine opsJ_pure rfl (by rfl) (fun w => run_eqv (fun K hK => by go_simp; exact hK)) (fun w => by simp [go_sem]) ?_; try walk_nrm))
  ((refine opsJ_pure (v := (.bool true)) rfl (by rfl) (fun w => by go_simp; try (first | rfl | decide | (simp [*, n_sh, IntKind.wrap_u64, IntKind.wrap_u32, IntKind.wrap_i32, IntKind.wrap_i64] <;> omega))) (fun w => by simp [go_sem, *]) ?_; walk_nrm))
  ((refine opsJ_pure rfl (by rfl) (fun w => run_eqv (fun K hK => by go_simp; exact hK)) (fun w => by simp [go_sem]) ?_; try walk_nrm))
  ((refine opsJ_pure rfl (by rfl) (fun w => run_eqv (fun K hK => by go_simp; exact hK)) (fun w => by simp [go_sem]) ?_; try walk_nrm))
  ((refine opsJ_pure rfl (by rfl) (fun w => run_eqv (fun K hK => by go_simp; exact hK)) (fun w => by simp [go_sem]) ?_; try walk_nrm))
  ((refine opsJ_pure rfl (by rfl) (fun w => run_eqv (fun K hK => by go_simp; exact hK)) (fun w => by simp [go_sem]) ?_; try walk_nrm))
  ((refine opsJ_pure rfl (by rfl) (fun w => run_eqv (fun K hK => by go_simp; exact hK)) (fun w => by simp [go_sem]) ?_; try walk_nrm))
  ((refine opsJ_pure rfl (by rfl) (fun w => run_eqv (fun K hK => by go_simp; exact hK)) (fun w => by simp [go_sem]) ?_; try walk_nrm))
  ((refine opsJ_pure (v := (.bool (decide (k = nA)))) rfl (by rfl) (fun w => by go_simp; try (first | rfl | decide | (simp [*, n_sh, IntKind.wrap_u64, IntKind.wrap_u32, IntKind.wrap_i32, IntKind.wrap_i64] <;> omega))) (fun w => by simp [go_sem, *]) ?_; walk_nrm))
  ((refine opsJ_pure (v := (.bool true)) rfl (by rfl) (fun w => by go_simp; try (first | rfl | decide)) (fun w => by simp [go_sem, evEqb]) ?_; walk_nrm))
  ((refine opsJ_pure rfl (by rfl) (fun w => run_eqv (fun K hK => by go_simp; exact hK)) (fun w => by simp [go_sem]) ?_; try walk_nrm))
  ((refine opsJ_pure rfl (by rfl) (fun w => run_eqv (fun K hK => by go_simp; exact hK)) (fun w => by simp [go_sem]) ?_; try walk_nrm))
  refine opsJ_call rfl (by rfl) rfl (by walk_nrm; exact known_j _) ?_
  rintro _ m2 _ ⟨⟨sh2, sf2, rfl⟩, rfl, hx2⟩
  walk_nrm
  ((refine opsJ_pure rfl (by rfl) (fun w => run_eqv (fun K hK => by go_simp; exact hK)) (fun w => by simp [go_sem]) ?_; try walk_nrm))
  ((refine opsJ_pure rfl (by rfl) (fun w => run_eqv (fun K hK => by go_simp; exact hK)) (fun w => by simp [go_sem]) ?_; try walk_nrm))
  refine opsJ_nil ?_
  (simp only [QJ.then, QJ.inBlock, if_true, if_false, reduceIte, Nat.reduceEqDiff])
  refine wpJ_ret ?_
  exact ⟨rfl, _, resultsJ_tmp Try.results5 _, ⟨_, _, rfl⟩, rfl, hx.trans (hx1.trans hx2)⟩
set_option maxRecDepth 100000 in
set_option maxHeartbeats 4000000 in
theorem rest_j {sh sf : Nat → Prop} {m : PM} {bA bB : Option Addr} {nA nB cA cB : Nat} {z : Int} {x y : Nat → Rt} {v : Nat → Value} (hA : RowP m (.slice bA nA cA) nA x) (hB : RowP m (.slice bB nB cB) nB y) (ha : nA ≤ 30) (hb : nB ≤ 30) (hc : nA ≤ cA) (hz : -9223372036854775808 ≤ z ∧ z < 9223372036854775808) :
    wpJ Try.prog Fin 5 turnsRest (bodyJ Try.prog Try.f5 fun s' m' v => (∃ sh' sf', s' = .out sh' sf' false none) ∧ v = .bool true ∧ Ext m m') (.out sh sf false none) m (actT (.slice bA nA cA) (.slice bB nB cB) (.int .i64 z) v) := by
  rw [actT_lit]
  ((first | refine wpJ_seq ?_ | refine wpJ_block ?_ | refine wpJ_skip ?_ | refine wpJ_label ?_ | refine wpJ_ret ?_ | refine wpJ_exit ?_ | refine opsJ_nil ?_))
  ((refine wpJ_region ?_; simp only [List.size_toArray, List.length_cons, List.length_nil, Nat.reduceAdd, Nat.zero_add, List.range, List.range.loop]))
  ((refine opsJ_pure rfl (by rfl) (fun w => run_eqv (fun K hK => by go_simp; exact hK)) (fun w => by simp [go_sem]) ?_; try walk_nrm))
  ((refine opsJ_pure rfl (by rfl) (fun w => run_eqv (fun K hK => by go_simp; exact hK)) (fun w => by simp [go_sem]) ?_; try walk_nrm))
  refine opsJ_call rfl (by rfl) rfl (by walk_nrm; exact agree_m hA hB (by omega) (by omega)) ?_
  rintro _ m1 _ ⟨⟨sh1, sf1, rfl⟩, rfl, hx1⟩
  walk_nrm
  ((refine opsJ_pure rfl (by rfl) (fun w => run_eqv (fun K hK => by go_simp; exact hK)) (fun w => by simp [go_sem]) ?_; try walk_nrm))
  ((refine opsJ_pure rfl (by rfl) (fun w => run_eqv (fun K hK => by go_simp; exact hK)) (fun w => by simp [go_sem]) ?_; try walk_nrm))
  ((refine opsJ_pure rfl (by rfl) (fun w => run_eqv (fun K hK => by go_simp; exact hK)) (fun w => by simp [go_sem]) ?_; try walk_nrm))
  ((refine opsJ_pure rfl (by rfl) (fun w => run_eqv (fun K hK => by go_simp; exact hK)) (fun w => by simp [go_sem]) ?_; try walk_nrm))
  ((refine opsJ_pure rfl (by rfl) (fun w => run_eqv (fun K hK => by go_simp; exact hK)) (fun w => by simp [go_sem]) ?_; try walk_nrm))
  refine opsJ_nil ?_
  (simp only [QJ.then, QJ.inBlock, if_true, if_false, reduceIte, Nat.reduceEqDiff])
  ((first | refine wpJ_seq ?_ | refine wpJ_block ?_ | refine wpJ_skip ?_ | refine wpJ_label ?_ | refine wpJ_ret ?_ | refine wpJ_exit ?_ | refine opsJ_nil ?_))
  ((refine wpJ_region ?_; simp only [List.size_toArray, List.length_cons, List.length_nil, Nat.reduceAdd, Nat.zero_add, List.range, List.range.loop]))
  ((refine opsJ_pure rfl (by rfl) (fun w => run_eqv (fun K hK => by go_simp; exact hK)) (fun w => by simp [go_sem]) ?_; try walk_nrm))
  ((refine opsJ_pure rfl (by rfl) (fun w => run_eqv (fun K hK => by go_simp; exact hK)) (fun w => by simp [go_sem]) ?_; try walk_nrm))
  refine opsJ_call rfl (by rfl) rfl (by walk_nrm; exact agree_m (hB.ext hx1) (hA.ext hx1) (by omega) (by omega)) ?_
  rintro _ m2 _ ⟨⟨sh2, sf2, rfl⟩, rfl, hx2⟩
  walk_nrm
  ((refine opsJ_pure rfl (by rfl) (fun w => run_eqv (fun K hK => by go_simp; exact hK)) (fun w => by simp [go_sem]) ?_; try walk_nrm))
  ((refine opsJ_pure rfl (by rfl) (fun w => run_eqv (fun K hK => by go_simp; exact hK)) (fun w => by simp [go_sem]) ?_; try walk_nrm))
  ((refine opsJ_pure rfl (by rfl) (fun w => run_eqv (fun K hK => by go_simp; exact hK)) (fun w => by simp [go_sem]) ?_; try walk_nrm))
  ((refine opsJ_pure rfl (by rfl) (fun w => run_eqv (fun K hK => by go_simp; exact hK)) (fun w => by simp [go_sem]) ?_; try walk_nrm))
  ((refine opsJ_pure rfl (by rfl) (fun w => run_eqv (fun K hK => by go_simp; exact hK)) (fun w => by simp [go_sem]) ?_; try walk_nrm))
  refine opsJ_nil ?_
  (simp only [QJ.then, QJ.inBlock, if_true, if_false, reduceIte, Nat.reduceEqDiff])
  replace hx2 := hx1.trans hx2
  replace hA := hA.ext hx2
  clear hB hx1
  rw [show min nB nA = min nA nB from Nat.min_comm _ _, ← agr_swap x y, show decide (nB = nA) = decide (nA = nB) from by congr 1; apply propext; exact ⟨Eq.symm, Eq.symm⟩]
  generalize (agr (ofB x y) (min nA nB)).2 = q1
  generalize ((agr (ofB x y) (min nA nB)).1 && decide (nA = nB)) = q2
  ((first | refine wpJ_seq ?_ | refine wpJ_block ?_ | refine wpJ_skip ?_ | refine wpJ_label ?_ | refine wpJ_ret ?_ | refine wpJ_exit ?_ | refine opsJ_nil ?_))
  ((refine wpJ_region ?_; simp only [List.size_toArray, List.length_cons, List.length_nil, Nat.reduceAdd, Nat.zero_add, List.range, List.range.loop]))
  ((refine opsJ_pure rfl (by rfl) (fun w => run_eqv (fun K hK => by go_simp; exact hK)) (fun w => by simp [go_sem]) ?_; try walk_nrm))
  refine opsJ_nil ?_
  (simp only [QJ.then, QJ.inBlock, if_true, if_false, reduceIte, Nat.reduceEqDiff])
  ((first | refine wpJ_seq ?_ | refine wpJ_block ?_ | refine wpJ_skip ?_ | refine wpJ_label ?_ | refine wpJ_ret ?_ | refine wpJ_exit ?_ | refine opsJ_nil ?_))
  ((first | refine wpJ_seq ?_ | refine wpJ_block ?_ | refine wpJ_skip ?_ | refine wpJ_label ?_ | refine wpJ_ret ?_ | refine wpJ_exit ?_ | refine opsJ_nil ?_))
  ((refine wpJ_region ?_; simp only [List.size_toArray, List.length_cons, List.length_nil, Nat.reduceAdd, Nat.zero_add, List.range, List.range.loop]))
  ((refine opsJ_pure rfl (by rfl) (fun w => run_eqv (fun K hK => by go_simp; exact hK)) (fun w => by simp [go_sem]) ?_; try walk_nrm))
  ((refine opsJ_pure rfl (by rfl) (fun w => run_eqv (fun K hK => by go_simp; exact hK)) (fun w => by simp [go_sem]) ?_; try walk_nrm))
  by_cases h0 : 0 < nA
  · have h1 : (0 : Int) < ((nA : Nat) : Int) := by omega
    ((refine opsJ_pure (v := (.bool true)) rfl (by rfl) (fun w => by go_simp; try (first | rfl | decide | (simp [*, n_sh, IntKind.wrap_u64, IntKind.wrap_u32, IntKind.wrap_i32, IntKind.wrap_i64] <;> omega))) (fun w => by simp [go_sem, *]) ?_; walk_nrm))
    refine opsJ_nil ?_
    try (simp only [QJ.then, QJ.inBlock, if_true, if_false, reduceIte, Nat.reduceEqDiff])
    ((refine wpJ_cond (by rfl) ?_; simp only [if_true, if_false, reduceIte, Bool.false_eq_true]))
    ((refine wpJ_region ?_; simp only [List.size_toArray, List.length_cons, List.length_nil, Nat.reduceAdd, Nat.zero_add, List.range, List.range.loop]))
    ((refine opsJ_pure rfl (by rfl) (fun w => run_eqv (fun K hK => by go_simp; exact hK)) (fun w => by simp [go_sem]) ?_; try walk_nrm))
    ((refine opsJ_pure rfl (by rfl) (fun w => run_eqv (fun K hK => by go_simp; exact hK)) (fun w => by simp [go_sem]) ?_; try walk_nrm))
    ((refine opsJ_pure rfl (by rfl) (fun w => run_eqv (fun K hK => by go_simp; exact hK)) (fun w => by simp [go_sem]) ?_; try walk_nrm))
    have hn0 : ¬ ((nA : Nat) : Int) = 0 := by omega
    have hne : ((nA : Nat) : Int) ≠ 0 := hn0
    have hr1 : z.tmod ((nA : Nat) : Int) < ((nA : Nat) : Int) := Int.tmod_lt_of_pos z h1
    have hr2 : -((nA : Nat) : Int) < z.tmod ((nA : Nat) : Int) := Int.lt_tmod_of_pos z h1
    refine opsJ_pure (v := .int .i64 (z.tmod ((nA : Nat) : Int))) rfl (by rfl) (fun w => by go_simp; omega) (fun w => by simp [go_sem, *]) ?_
    walk_nrm
    generalize z.tmod ((nA : Nat) : Int) = r at hr1 hr2 ⊢
    ((refine opsJ_pure rfl (by rfl) (fun w => run_eqv (fun K hK => by go_simp; exact hK)) (fun w => by simp [go_sem]) ?_; try walk_nrm))
    ((refine opsJ_pure rfl (by rfl) (fun w => run_eqv (fun K hK => by go_simp; exact hK)) (fun w => by simp [go_sem]) ?_; try walk_nrm))
    ((refine opsJ_pure (v := (.int .i64 (r + ((nA : Nat) : Int)))) rfl (by rfl) (fun w => by go_simp; rw [wrapI (by omega) (by omega)]) (fun w => by simp [go_sem]) ?_; try walk_nrm))
    ((refine opsJ_pure rfl (by rfl) (fun w => run_eqv (fun K hK => by go_simp; exact hK)) (fun w => by simp [go_sem]) ?_; try walk_nrm))
    ((refine opsJ_pure rfl (by rfl) (fun w => run_eqv (fun K hK => by go_simp; exact hK)) (fun w => by simp [go_sem]) ?_; try walk_nrm))
    have hr3 : (r + ((nA : Nat) : Int)).tmod ((nA : Nat) : Int) < ((nA : Nat) : Int) := Int.tmod_lt_of_pos _ h1
    have hr4 : 0 ≤ (r + ((nA : Nat) : Int)).tmod ((nA : Nat) : Int) := Int.tmod_nonneg _ (by omega)
    refine opsJ_pure (v := .int .i64 ((r + ((nA : Nat) : Int)).tmod ((nA : Nat) : Int))) rfl (by rfl) (fun w => by go_simp; omega) (fun w => by simp [go_sem, *]) ?_
    walk_nrm
    obtain ⟨K, hK⟩ : ∃ K : Nat, (r + ((nA : Nat) : Int)).tmod ((nA : Nat) : Int) = (K : Int) := ⟨_, (Int.toNat_of_nonneg hr4).symm⟩
    rw [hK] at hr3 hr4 ⊢
    ((refine opsJ_pure rfl (by rfl) (fun w => run_eqv (fun K hK => by go_simp; exact hK)) (fun w => by simp [go_sem]) ?_; try walk_nrm))
    refine opsJ_nil ?_
    try (simp only [QJ.then, QJ.inBlock, if_true, if_false, reduceIte, Nat.reduceEqDiff])
    exact q_actU (Q := fun a => wpJ _ _ _ _ _ _ _ a) _ (by rfl) (by rfl) (by rfl) (by rfl) (by rfl) (by rfl) (by rfl) (by rfl) (rest10_j (k := K) hA ha hc (by omega) hx2)
  · have h1 : ¬ (0 : Int) < ((nA : Nat) : Int) := by omega
    ((refine opsJ_pure (v := (.bool false)) rfl (by rfl) (fun w => by go_simp; try (first | rfl | decide | (simp [*, n_sh, IntKind.wrap_u64, IntKind.wrap_u32, IntKind.wrap_i32, IntKind.wrap_i64] <;> omega))) (fun w => by simp [go_sem, *]) ?_; walk_nrm))
    refine opsJ_nil ?_
    try (simp only [QJ.then, QJ.inBlock, if_true, if_false, reduceIte, Nat.reduceEqDiff])
    ((refine wpJ_cond (by rfl) ?_; simp only [if_true, if_false, reduceIte, Bool.false_eq_true]))
    ((first | refine wpJ_seq ?_ | refine wpJ_block ?_ | refine wpJ_skip ?_ | refine wpJ_label ?_ | refine wpJ_ret ?_ | refine wpJ_exit ?_ | refine opsJ_nil ?_))
    try (simp only [QJ.then, QJ.inBlock, if_true, if_false, reduceIte, Nat.reduceEqDiff])
    exact q_actU (Q := fun a => wpJ _ _ _ _ _ _ _ a) _ (by rfl) (by rfl) (by rfl) (by rfl) (by rfl) (by rfl) (by rfl) (by rfl) (rest10_j (k := 0) hA ha hc (by omega) hx2)
set_option maxRecDepth 100000 in
set_option maxHeartbeats 2000000 in
/-- GatherTurns answers true. -/
theorem turns_j {sh sf : Nat → Prop} {m : PM} {bA bB : Option Addr} {nA nB cA cB : Nat} {z : Int} {x y : Nat → Rt} (hA : RowP m (.slice bA nA cA) nA x) (hB : RowP m (.slice bB nB cB) nB y) (hcA : nA ≤ cA) (hcB : nB ≤ cB) (hz : -9223372036854775808 ≤ z ∧ z < 9223372036854775808) :
    CallsJ Try.prog Fin 5 #[.slice bA nA cA, .slice bB nB cB, .int .i64 z] (.out sh sf false none) m fun s' m' v => (∃ sh' sf', s' = .out sh' sf' false none) ∧ v = .bool true ∧ Ext m m' := by
  ((refine callsJ_of Try.func5 (by rfl) rfl ?_; simp only [Try.ntmps5, List.size_toArray, List.length_cons, List.length_nil, Nat.reduceAdd, Nat.reduceSub, Array.replicate_succ, Array.replicate_zero, List.push_toArray, List.append_toArray, List.nil_append, List.cons_append]))
  ((first | refine wpJ_seq ?_ | refine wpJ_block ?_ | refine wpJ_skip ?_ | refine wpJ_label ?_ | refine wpJ_ret ?_ | refine wpJ_exit ?_ | refine opsJ_nil ?_))
  ((refine wpJ_region ?_; simp only [List.size_toArray, List.length_cons, List.length_nil, Nat.reduceAdd, Nat.zero_add, List.range, List.range.loop]))
  ((refine opsJ_pure rfl (by rfl) (fun w => run_eqv (fun K hK => by go_simp; exact hK)) (fun w => by simp [go_sem]) ?_; try walk_nrm))
  refine opsJ_nil ?_
  (simp only [QJ.then, QJ.inBlock, if_true, if_false, reduceIte, Nat.reduceEqDiff])
  refine wpJ_seq ?_
  refine q_actT (Q := fun a => wpJ _ _ _ _ _ _ _ a) _ (by rfl) (by rfl) (by rfl) (by rfl) (by rfl) ?_
  refine cutA_j hA hcA fun k x' hk h30 => ?_
  (simp only [QJ.then, QJ.inBlock, if_true, if_false, reduceIte, Nat.reduceEqDiff])
  refine wpJ_seq ?_
  refine cutB_j hB hcB fun k' x'' hk' h30' => ?_
  (simp only [QJ.then, QJ.inBlock, if_true, if_false, reduceIte, Nat.reduceEqDiff])
  exact rest_j (hA.cut hk) (hB.cut hk') h30 h30' (by omega) hz
end
end Go.Proofs.Ytafnbmokegomaaa
