/-
  same (of the laws), over Pairs and Agree.
-/
import Derived.Test.YtafnbmokegomaaaKnown
set_option linter.unusedSimpArgs false
set_option linter.unusedVariables false
set_option linter.unusedSectionVars false
namespace Go.Proofs.Ytafnbmokegomaaa
open Go.Conc Go.RowKit

def slotS (A B v l k ok most want len i : Value) (x : Nat → Value) : Nat → Value
  | 0 => A
  | 1 => B
  | 4 => .bool false
  | 5 => v
  | 6 => l
  | 7 => k
  | 8 => ok
  | 9 => most
  | 10 => want
  | 46 => len
  | 47 => i
  | n => x n
def actS (A B v l k ok most want len i : Value) (x : Nat → Value) : Act := ⟨((List.range 103).map (slotS A B v l k ok most want len i x)).toArray, []⟩
theorem actS_lit (A B v l k ok most want len i : Value) (x : Nat → Value) : actS A B v l k ok most want len i x = ⟨List.toArray (A :: B :: x 2 :: x 3 :: .bool false :: v :: l :: k :: ok :: most :: want :: x 11 :: x 12 :: x 13 :: x 14 :: x 15 :: x 16 :: x 17 :: x 18 :: x 19 :: x 20 :: x 21 :: x 22 :: x 23 :: x 24 :: x 25 :: x 26 :: x 27 :: x 28 :: x 29 :: x 30 :: x 31 :: x 32 :: x 33 :: x 34 :: x 35 :: x 36 :: x 37 :: x 38 :: x 39 :: x 40 :: x 41 :: x 42 :: x 43 :: x 44 :: x 45 :: len :: i :: x 48 :: x 49 :: x 50 :: x 51 :: x 52 :: x 53 :: x 54 :: x 55 :: x 56 :: x 57 :: x 58 :: x 59 :: x 60 :: x 61 :: x 62 :: x 63 :: x 64 :: x 65 :: x 66 :: x 67 :: x 68 :: x 69 :: x 70 :: x 71 :: x 72 :: x 73 :: x 74 :: x 75 :: x 76 :: x 77 :: x 78 :: x 79 :: x 80 :: x 81 :: x 82 :: x 83 :: x 84 :: x 85 :: x 86 :: x 87 :: x 88 :: x 89 :: x 90 :: x 91 :: x 92 :: x 93 :: x 94 :: x 95 :: x 96 :: x 97 :: x 98 :: x 99 :: x 100 :: x 101 :: x 102 :: []), []⟩ := rfl
theorem actS_of {A B v l k ok most want len i : Value} (L : List Value) (hn : L.length = 103) (h0 : L[0]? = some (A)) (h1 : L[1]? = some (B)) (h4 : L[4]? = some (.bool false)) (h5 : L[5]? = some (v)) (h6 : L[6]? = some (l)) (h7 : L[7]? = some (k)) (h8 : L[8]? = some (ok)) (h9 : L[9]? = some (most)) (h10 : L[10]? = some (want)) (h46 : L[46]? = some (len)) (h47 : L[47]? = some (i)) : (⟨L.toArray, []⟩ : Act) = actS A B v l k ok most want len i (fun n => L[n]?.getD undef) := by
  unfold actS
  congr 2
  apply List.ext_getElem?
  intro q
  rw [List.getElem?_map]
  by_cases hi : q < 103
  · rw [List.getElem?_range hi]
    simp only [Option.map_some]
    have key : ∀ j, j < 103 → L[j]? = some (L[j]?.getD undef) := fun j hj => by
      rw [List.getElem?_eq_getElem (by omega)]; rfl
    unfold slotS
    split
    · exact h0
    · exact h1
    · exact h4
    · exact h5
    · exact h6
    · exact h7
    · exact h8
    · exact h9
    · exact h10
    · exact h46
    · exact h47
    · exact key _ hi
  · rw [List.getElem?_eq_none (by omega), List.getElem?_eq_none (by simp; omega)]
    rfl

theorem evMin {P : Program} {ts : Array TypeId} {t : TypeId} {k k' : IntKind} {x y : Int} {w : World} {es : Array Event} : (Builtin.min_ ts t #[.int k x, .int k' y]).events P w es = es := by
  simp [Builtin.min_, Builtin.min2]
theorem rt_refl (x : Rt) : x.eq x = true := (Rt.eq_iff x x).2 rfl
theorem neqSelf (x : Rt) (W : World) : (binOp .neq 25 (.agg x.cs.toArray) (.agg x.cs.toArray)).run Try.prog W = .ok (.bool false) W := by rw [neq25, rt_refl]; rfl
theorem pcs_len (f : Bool → Nat → Rt) : ∀ n, (pcs f n).length = n * 14
  | 0 => rfl
  | n + 1 => by
    show (pcs f n ++ ((f false n).cs ++ (f true n).cs)).length = _
    rw [List.length_append, pcs_len f n]
    show n * 14 + 14 = _
    omega
theorem pcs_get (f : Bool → Nat → Rt) : ∀ n i j, i < n → j < 14 → (pcs f n)[i * 14 + j]? = ((f false i).cs ++ (f true i).cs)[j]?
  | 0, _, _, h, _ => by omega
  | n + 1, i, j, h, hj => by
    show (pcs f n ++ ((f false n).cs ++ (f true n).cs))[i * 14 + j]? = _
    by_cases hi : i < n
    · rw [List.getElem?_append_left (by rw [pcs_len]; omega)]
      exact pcs_get f n i j hi hj
    · obtain rfl : i = n := by omega
      rw [List.getElem?_append_right (by rw [pcs_len]; omega), pcs_len]
      congr 1
      omega
theorem agr_iff (f : Bool → Nat → Rt) : ∀ k, (agr f k).1 = true ↔ (agr f k).2 = k
  | 0 => ⟨fun _ => rfl, fun _ => rfl⟩
  | k + 1 => by
    have ih := agr_iff f k
    have hl := agr_le f k
    have e : agr f (k + 1) = ((agr f k).1 && (f false k).eq (f true k), if (agr f k).1 && (f false k).eq (f true k) then (agr f k).2 + 1 else (agr f k).2) := rfl
    rw [e]
    dsimp only
    by_cases h : ((agr f k).1 && (f false k).eq (f true k)) = true
    · rw [if_pos h]
      refine ⟨fun _ => ?_, fun _ => h⟩
      have := ih.1 (Bool.and_eq_true_iff.1 h).1
      omega
    · rw [if_neg h]
      exact ⟨fun h' => absurd h' h, fun h' => by omega⟩
theorem q_actS {Q : Act → Prop} {A B v l k ok most want len i : Value} (L : List Value) (hn : L.length = 103) (h0 : L[0]? = some (A)) (h1 : L[1]? = some (B)) (h4 : L[4]? = some (.bool false)) (h5 : L[5]? = some (v)) (h6 : L[6]? = some (l)) (h7 : L[7]? = some (k)) (h8 : L[8]? = some (ok)) (h9 : L[9]? = some (most)) (h10 : L[10]? = some (want)) (h46 : L[46]? = some (len)) (h47 : L[47]? = some (i)) (h : Q (actS A B v l k ok most want len i (fun n => L[n]?.getD undef))) : Q ⟨L.toArray, []⟩ := by
  rw [actS_of L hn h0 h1 h4 h5 h6 h7 h8 h9 h10 h46 h47]; exact h
noncomputable def sameRound : Code := inr (inr (rgt (lft (rgt (rgt (rgt (rgt (rgt (rgt (Try.f6.body.getD .skip))))))))))
section
variable [Io] {Fin : Value → World → Prop}
set_option maxRecDepth 100000 in
set_option maxHeartbeats 4000000 in
theorem round_j {Q : QJ} {s : Gh} {m2 : PM} {bA bB bv : Option Addr} {nA nB n0 capA capB cv i : Nat} {x y : Nat → Rt} (hA : RowP m2 (.slice bA nA capA) nA x) (hB : RowP m2 (.slice bB nB capB) nB y) (hv : OwnP m2 34 14 (.slice bv n0 cv) n0 (pcs (ofB x y) n0)) (hn1 : n0 ≤ nA) (hn2 : n0 ≤ nB) (hb : n0 < 1000000000000) (hi : i ≤ n0) {l k ok most : Value} {z : Nat → Value}
    (hexit : ∀ z, i = n0 → Q s m2 (.exit 0) (actS (.slice bA nA capA) (.slice bB nB capB) (.slice bv n0 cv) l k ok most (.int .i64 (((agr (ofB x y) i).2 : Nat) : Int)) (.int .i64 ((n0 : Nat) : Int)) (.int .i64 ((i : Nat) : Int)) z))
    (hgo : ∀ z, i < n0 → Q s m2 .normal (actS (.slice bA nA capA) (.slice bB nB capB) (.slice bv n0 cv) l k ok most (.int .i64 (((agr (ofB x y) (i + 1)).2 : Nat) : Int)) (.int .i64 ((n0 : Nat) : Int)) (.int .i64 (((i + 1 : Nat)) : Int)) z)) :
    wpJ Try.prog Fin 6 sameRound Q s m2 (actS (.slice bA nA capA) (.slice bB nB capB) (.slice bv n0 cv) l k ok most (.int .i64 (((agr (ofB x y) i).2 : Nat) : Int)) (.int .i64 ((n0 : Nat) : Int)) (.int .i64 ((i : Nat) : Int)) z) := by
  rw [actS_lit]
  ((first | refine wpJ_seq ?_ | refine wpJ_block ?_ | refine wpJ_skip ?_ | refine wpJ_label ?_ | refine wpJ_ret ?_ | refine wpJ_exit ?_ | refine opsJ_nil ?_))
  ((refine wpJ_region ?_; simp only [List.size_toArray, List.length_cons, List.length_nil, Nat.reduceAdd, Nat.zero_add, List.range, List.range.loop]))
  by_cases hlt : i < n0
  · have hlt0 : ((i : Nat) : Int) < ((n0 : Nat) : Int) := by omega
    obtain ⟨βA, oA, CA, tA, fA, kA, eA, mA, cA⟩ := hA.2 (by omega)
    obtain ⟨βB, oB, CB, tB, fB, kB, eB, mB, cB⟩ := hB.2 (by omega)
    cases eA
    cases eB
    obtain ⟨hlen, ⟨_, h0⟩ | ⟨g, cap, cur, eV, hg, h1, h2, h3, h4⟩⟩ := hv
    · omega
    cases eV
    have hltA : ((i : Nat) : Int) < ((nA : Nat) : Int) := by omega
    have hltB : ((i : Nat) : Int) < ((nB : Nat) : Int) := by omega
    have hi0 : 0 ≤ ((i : Nat) : Int) := by omega
    have c0 : ∀ j, j < 14 → cur[i * 14 + j]? = ((x i).cs ++ (y i).cs)[j]? := fun j hj => by
      have := pcs_get (ofB x y) n0 i j hlt hj
      rw [← h4, List.getElem?_take_of_lt (by omega), Array.getElem?_toList] at this
      exact this
    have c1 : ∀ j v, (x i).cs[j]? = some v → cur[i * 14 + j]? = some v := fun j v e => by
      have hj : j < 7 := (List.getElem?_eq_some_iff.1 e).1
      rw [c0 j (by omega), List.getElem?_append_left (by exact hj)]; exact e
    have c2 : ∀ j v, (y i).cs[j]? = some v → cur[i * 14 + 7 + j]? = some v := fun j v e => by
      have hj : j < 7 := (List.getElem?_eq_some_iff.1 e).1
      rw [Nat.add_assoc, c0 (7 + j) (by omega), List.getElem?_append_right (by show 7 ≤ 7 + j; omega)]
      have : 7 + j - (x i).cs.length = j := by show 7 + j - 7 = j; omega
      rw [this]; exact e
    replace cA := cA i (by omega)
    replace cB := cB i (by omega)
    clear h1 h2 h3 h4 c0 hlen hexit
    replace hgo := fun z => hgo z hlt
    ((refine opsJ_pure (v := (.bool true)) rfl (by rfl) (fun w => by go_simp; try (first | rfl | decide | (simp [*, n_sh, IntKind.wrap_u64, IntKind.wrap_u32, IntKind.wrap_i32, IntKind.wrap_i64] <;> omega))) (fun w => by simp [go_sem, *]) ?_; walk_nrm))
    refine opsJ_nil ?_
    try (simp only [QJ.then, QJ.inBlock, if_true, if_false, reduceIte, Nat.reduceEqDiff])
    ((first | refine wpJ_seq ?_ | refine wpJ_block ?_ | refine wpJ_skip ?_ | refine wpJ_label ?_ | refine wpJ_ret ?_ | refine wpJ_exit ?_ | refine opsJ_nil ?_))
    try (simp only [QJ.then, QJ.inBlock, if_true, if_false, reduceIte, Nat.reduceEqDiff])
    ((refine wpJ_cond (by rfl) ?_; simp only [if_true, if_false, reduceIte, Bool.false_eq_true]))
    ((first | refine wpJ_seq ?_ | refine wpJ_block ?_ | refine wpJ_skip ?_ | refine wpJ_label ?_ | refine wpJ_ret ?_ | refine wpJ_exit ?_ | refine opsJ_nil ?_))
    try (simp only [QJ.then, QJ.inBlock, if_true, if_false, reduceIte, Nat.reduceEqDiff])
    ((first | refine wpJ_seq ?_ | refine wpJ_block ?_ | refine wpJ_skip ?_ | refine wpJ_label ?_ | refine wpJ_ret ?_ | refine wpJ_exit ?_ | refine opsJ_nil ?_))
    try (simp only [QJ.then, QJ.inBlock, if_true, if_false, reduceIte, Nat.reduceEqDiff])
    refine wpJ_block ?_
    ((first | refine wpJ_seq ?_ | refine wpJ_block ?_ | refine wpJ_skip ?_ | refine wpJ_label ?_ | refine wpJ_ret ?_ | refine wpJ_exit ?_ | refine opsJ_nil ?_))
    ((refine wpJ_region ?_; simp only [List.size_toArray, List.length_cons, List.length_nil, Nat.reduceAdd, Nat.zero_add, List.range, List.range.loop]))
    ((refine opsJ_pure rfl (by rfl) (fun w => run_eqv (fun K hK => by go_simp; exact hK)) (fun w => by simp [go_sem]) ?_; try walk_nrm))
    ((refine opsJ_pure rfl (by rfl) (fun w => run_eqv (fun K hK => by go_simp; exact hK)) (fun w => by simp [go_sem]) ?_; try walk_nrm))
    refine opsJ_nil ?_
    try (simp only [QJ.then, QJ.inBlock, if_true, if_false, reduceIte, Nat.reduceEqDiff])
    ((first | refine wpJ_seq ?_ | refine wpJ_block ?_ | refine wpJ_skip ?_ | refine wpJ_label ?_ | refine wpJ_ret ?_ | refine wpJ_exit ?_ | refine opsJ_nil ?_))
    ((first | refine wpJ_seq ?_ | refine wpJ_block ?_ | refine wpJ_skip ?_ | refine wpJ_label ?_ | refine wpJ_ret ?_ | refine wpJ_exit ?_ | refine opsJ_nil ?_))
    refine wpJ_region_draw (id := 10) (by kernel_rfl) ?_
    simp only [List.size_toArray, List.length_cons, List.length_nil, Nat.reduceAdd, Nat.zero_add]
    ((refine anyJ_take (i := 0) (v := (.slice (some ⟨g, 0, none⟩) n0 cv)) rfl (by first | kernel_rfl | decide +kernel) (by first | kernel_rfl | decide +kernel) (by first | kernel_rfl | decide +kernel) (by first | kernel_rfl | decide +kernel) (yld_pure (by rfl) (fun w => by go_simp) (fun w => by simp [go_sem])) ?_; walk_nrm))
    ((refine anyJ_take (i := 1) (v := (.int .i64 ((i : Nat) : Int))) rfl (by first | kernel_rfl | decide +kernel) (by first | kernel_rfl | decide +kernel) (by first | kernel_rfl | decide +kernel) (by first | kernel_rfl | decide +kernel) (yld_pure (by rfl) (fun w => by go_simp) (fun w => by simp [go_sem])) ?_; walk_nrm))
    ((refine anyJ_take (i := 2) (v := (.pointer (some ⟨g, i * 14, none⟩))) rfl (by first | kernel_rfl | decide +kernel) (by first | kernel_rfl | decide +kernel) (by first | kernel_rfl | decide +kernel) (by first | kernel_rfl | decide +kernel) (yld_pure (by rfl) (fun w => by go_simp; try (first | rfl | (simp [*]; done))) (fun w => by simp [go_sem, evIdx34, *])) ?_; walk_nrm))
    ((refine anyJ_take (i := 3) (v := (.pointer (some ⟨g, i * 14, none⟩))) rfl (by first | kernel_rfl | decide +kernel) (by first | kernel_rfl | decide +kernel) (by first | kernel_rfl | decide +kernel) (by first | kernel_rfl | decide +kernel) (yld_pure (by rfl) (fun w => by go_simp; try (first | rfl | (simp [*]; done))) (fun w => by simp [go_sem, evIdx34, *])) ?_; walk_nrm))
    ((refine anyJ_take (i := 4) rfl (by first | kernel_rfl | decide +kernel) (by first | kernel_rfl | decide +kernel) (by first | kernel_rfl | decide +kernel) (by first | kernel_rfl | decide +kernel) (yld_ldN (cs := (x i).cs) (by rfl) rfl rfl hg c1 Try.underlying25 rfl size25) ?_; walk_nrm))
    ((refine anyJ_take (i := 5) (v := (.slice (some ⟨βA, oA, none⟩) nA capA)) rfl (by first | kernel_rfl | decide +kernel) (by first | kernel_rfl | decide +kernel) (by first | kernel_rfl | decide +kernel) (by first | kernel_rfl | decide +kernel) (yld_pure (by rfl) (fun w => by go_simp) (fun w => by simp [go_sem])) ?_; walk_nrm))
    ((refine anyJ_take (i := 6) (v := (.int .i64 ((i : Nat) : Int))) rfl (by first | kernel_rfl | decide +kernel) (by first | kernel_rfl | decide +kernel) (by first | kernel_rfl | decide +kernel) (by first | kernel_rfl | decide +kernel) (yld_pure (by rfl) (fun w => by go_simp) (fun w => by simp [go_sem])) ?_; walk_nrm))
    ((refine anyJ_take (i := 7) (v := (.pointer (some ⟨βA, oA + i * 7, none⟩))) rfl (by first | kernel_rfl | decide +kernel) (by first | kernel_rfl | decide +kernel) (by first | kernel_rfl | decide +kernel) (by first | kernel_rfl | decide +kernel) (yld_pure (by rfl) (fun w => by go_simp; try (first | rfl | (simp [*]; done))) (fun w => by simp [go_sem, evIdx34, *])) ?_; walk_nrm))
    ((refine anyJ_take (i := 8) rfl (by first | kernel_rfl | decide +kernel) (by first | kernel_rfl | decide +kernel) (by first | kernel_rfl | decide +kernel) (by first | kernel_rfl | decide +kernel) (yld_ldN (cs := (x i).cs) (by rfl) rfl rfl mA cA Try.underlying25 rfl size25) ?_; walk_nrm))
    ((refine anyJ_take (i := 9) (v := .bool false) rfl (by first | kernel_rfl | decide +kernel) (by first | kernel_rfl | decide +kernel) (by first | kernel_rfl | decide +kernel) (by first | kernel_rfl | decide +kernel) (yld_pure (by rfl) (fun w => by have E := neqSelf (x i); go_simp; try rfl) (fun w => by simp [go_sem, runGuard25, evGuard25, evNeq25])) ?_; walk_nrm))
    ((refine anyJ_take (i := 10) (v := (.bool false)) rfl (by first | kernel_rfl | decide +kernel) (by first | kernel_rfl | decide +kernel) (by first | kernel_rfl | decide +kernel) (by first | kernel_rfl | decide +kernel) (yld_pure (by rfl) (fun w => by go_simp) (fun w => by simp [go_sem])) ?_; walk_nrm))
    ((refine anyJ_take (i := 11) (v := (.slice (some ⟨g, 0, none⟩) n0 cv)) rfl (by first | kernel_rfl | decide +kernel) (by first | kernel_rfl | decide +kernel) (by first | kernel_rfl | decide +kernel) (by first | kernel_rfl | decide +kernel) (yld_pure (by rfl) (fun w => by go_simp) (fun w => by simp [go_sem])) ?_; walk_nrm))
    ((refine anyJ_take (i := 12) (v := (.int .i64 ((i : Nat) : Int))) rfl (by first | kernel_rfl | decide +kernel) (by first | kernel_rfl | decide +kernel) (by first | kernel_rfl | decide +kernel) (by first | kernel_rfl | decide +kernel) (yld_pure (by rfl) (fun w => by go_simp) (fun w => by simp [go_sem])) ?_; walk_nrm))
    ((refine anyJ_take (i := 13) (v := (.pointer (some ⟨g, i * 14, none⟩))) rfl (by first | kernel_rfl | decide +kernel) (by first | kernel_rfl | decide +kernel) (by first | kernel_rfl | decide +kernel) (by first | kernel_rfl | decide +kernel) (yld_pure (by rfl) (fun w => by go_simp; try (first | rfl | (simp [*]; done))) (fun w => by simp [go_sem, evIdx34, *])) ?_; walk_nrm))
    ((refine anyJ_take (i := 14) (v := (.pointer (some ⟨g, i * 14 + 7, none⟩))) rfl (by first | kernel_rfl | decide +kernel) (by first | kernel_rfl | decide +kernel) (by first | kernel_rfl | decide +kernel) (by first | kernel_rfl | decide +kernel) (yld_pure (by rfl) (fun w => by go_simp; try (first | rfl | (simp [*]; done))) (fun w => by simp [go_sem, evIdx34, *])) ?_; walk_nrm))
    ((refine anyJ_take (i := 15) rfl (by first | kernel_rfl | decide +kernel) (by first | kernel_rfl | decide +kernel) (by first | kernel_rfl | decide +kernel) (by first | kernel_rfl | decide +kernel) (yld_ldN (cs := (y i).cs) (by rfl) rfl rfl hg c2 Try.underlying25 rfl size25) ?_; walk_nrm))
    ((refine anyJ_take (i := 16) (v := (.slice (some ⟨βB, oB, none⟩) nB capB)) rfl (by first | kernel_rfl | decide +kernel) (by first | kernel_rfl | decide +kernel) (by first | kernel_rfl | decide +kernel) (by first | kernel_rfl | decide +kernel) (yld_pure (by rfl) (fun w => by go_simp) (fun w => by simp [go_sem])) ?_; walk_nrm))
    ((refine anyJ_take (i := 17) (v := (.int .i64 ((i : Nat) : Int))) rfl (by first | kernel_rfl | decide +kernel) (by first | kernel_rfl | decide +kernel) (by first | kernel_rfl | decide +kernel) (by first | kernel_rfl | decide +kernel) (yld_pure (by rfl) (fun w => by go_simp) (fun w => by simp [go_sem])) ?_; walk_nrm))
    ((refine anyJ_take (i := 18) (v := (.pointer (some ⟨βB, oB + i * 7, none⟩))) rfl (by first | kernel_rfl | decide +kernel) (by first | kernel_rfl | decide +kernel) (by first | kernel_rfl | decide +kernel) (by first | kernel_rfl | decide +kernel) (yld_pure (by rfl) (fun w => by go_simp; try (first | rfl | (simp [*]; done))) (fun w => by simp [go_sem, evIdx34, *])) ?_; walk_nrm))
    ((refine anyJ_take (i := 19) rfl (by first | kernel_rfl | decide +kernel) (by first | kernel_rfl | decide +kernel) (by first | kernel_rfl | decide +kernel) (by first | kernel_rfl | decide +kernel) (yld_ldN (cs := (y i).cs) (by rfl) rfl rfl mB cB Try.underlying25 rfl size25) ?_; walk_nrm))
    ((refine anyJ_take (i := 20) (v := .bool false) rfl (by first | kernel_rfl | decide +kernel) (by first | kernel_rfl | decide +kernel) (by first | kernel_rfl | decide +kernel) (by first | kernel_rfl | decide +kernel) (yld_pure (by rfl) (fun w => by have E := neqSelf (y i); go_simp; try rfl) (fun w => by simp [go_sem, runGuard25, evGuard25, evNeq25])) ?_; walk_nrm))
    ((refine anyJ_take (i := 21) (v := (.bool false)) rfl (by first | kernel_rfl | decide +kernel) (by first | kernel_rfl | decide +kernel) (by first | kernel_rfl | decide +kernel) (by first | kernel_rfl | decide +kernel) (yld_pure (by rfl) (fun w => by go_simp) (fun w => by simp [go_sem])) ?_; walk_nrm))
    refine anyJ_done (by first | kernel_rfl | decide +kernel) ?_ _
    try (simp only [QJ.then, QJ.inBlock, if_true, if_false, reduceIte, Nat.reduceEqDiff])
    ((refine wpJ_cond (by rfl) ?_; simp only [if_true, if_false, reduceIte, Bool.false_eq_true]))
    ((first | refine wpJ_seq ?_ | refine wpJ_block ?_ | refine wpJ_skip ?_ | refine wpJ_label ?_ | refine wpJ_ret ?_ | refine wpJ_exit ?_ | refine opsJ_nil ?_))
    try (simp only [QJ.then, QJ.inBlock, if_true, if_false, reduceIte, Nat.reduceEqDiff])
    have hqle := agr_le (ofB x y) i
    by_cases hq : (agr (ofB x y) i).1 = true
    · have hq2 : (((agr (ofB x y) i).2 : Nat) : Int) = ((i : Nat) : Int) := by rw [(agr_iff _ _).1 hq]
      by_cases he : (x i).eq (y i) = true
      · have hw : (((agr (ofB x y) (i + 1)).2 : Nat) : Int) = ((i : Nat) : Int) + 1 := by
          have h1 : (agr (ofB x y) (i + 1)).1 = true := by show ((agr (ofB x y) i).1 && (x i).eq (y i)) = true; rw [hq, he]; rfl
          rw [(agr_iff _ _).1 h1]; omega
        ((first | refine wpJ_seq ?_ | refine wpJ_block ?_ | refine wpJ_skip ?_ | refine wpJ_label ?_ | refine wpJ_ret ?_ | refine wpJ_exit ?_ | refine opsJ_nil ?_))
        refine wpJ_region_draw (id := 12) (by kernel_rfl) ?_
        simp only [List.size_toArray, List.length_cons, List.length_nil, Nat.reduceAdd, Nat.zero_add]
        ((refine anyJ_take (i := 0) (v := (.int .i64 (((agr (ofB x y) i).2 : Nat) : Int))) rfl (by first | kernel_rfl | decide +kernel) (by first | kernel_rfl | decide +kernel) (by first | kernel_rfl | decide +kernel) (by first | kernel_rfl | decide +kernel) (yld_pure (by rfl) (fun w => by go_simp) (fun w => by simp [go_sem])) ?_; walk_nrm))
        ((refine anyJ_take (i := 1) (v := (.int .i64 ((i : Nat) : Int))) rfl (by first | kernel_rfl | decide +kernel) (by first | kernel_rfl | decide +kernel) (by first | kernel_rfl | decide +kernel) (by first | kernel_rfl | decide +kernel) (yld_pure (by rfl) (fun w => by go_simp) (fun w => by simp [go_sem])) ?_; walk_nrm))
        ((refine anyJ_take (i := 2) (v := (.bool true)) rfl (by first | kernel_rfl | decide +kernel) (by first | kernel_rfl | decide +kernel) (by first | kernel_rfl | decide +kernel) (by first | kernel_rfl | decide +kernel) (yld_pure (by rfl) (fun w => by go_simp; try (first | rfl | (simp [*]; done))) (fun w => by simp [go_sem, evIdx34, *])) ?_; walk_nrm))
        ((refine anyJ_take (i := 3) (v := (.bool true)) rfl (by first | kernel_rfl | decide +kernel) (by first | kernel_rfl | decide +kernel) (by first | kernel_rfl | decide +kernel) (by first | kernel_rfl | decide +kernel) (yld_pure (by rfl) (fun w => by go_simp) (fun w => by simp [go_sem])) ?_; walk_nrm))
        ((refine anyJ_take (i := 4) (v := (.slice (some ⟨βA, oA, none⟩) nA capA)) rfl (by first | kernel_rfl | decide +kernel) (by first | kernel_rfl | decide +kernel) (by first | kernel_rfl | decide +kernel) (by first | kernel_rfl | decide +kernel) (yld_pure (by rfl) (fun w => by go_simp) (fun w => by simp [go_sem])) ?_; walk_nrm))
        ((refine anyJ_take (i := 5) (v := (.int .i64 ((i : Nat) : Int))) rfl (by first | kernel_rfl | decide +kernel) (by first | kernel_rfl | decide +kernel) (by first | kernel_rfl | decide +kernel) (by first | kernel_rfl | decide +kernel) (yld_pure (by rfl) (fun w => by go_simp) (fun w => by simp [go_sem])) ?_; walk_nrm))
        ((refine anyJ_take (i := 6) (v := (.pointer (some ⟨βA, oA + i * 7, none⟩))) rfl (by first | kernel_rfl | decide +kernel) (by first | kernel_rfl | decide +kernel) (by first | kernel_rfl | decide +kernel) (by first | kernel_rfl | decide +kernel) (yld_pure (by rfl) (fun w => by go_simp; try (first | rfl | (simp [*]; done))) (fun w => by simp [go_sem, evIdx34, *])) ?_; walk_nrm))
        ((refine anyJ_take (i := 7) rfl (by first | kernel_rfl | decide +kernel) (by first | kernel_rfl | decide +kernel) (by first | kernel_rfl | decide +kernel) (by first | kernel_rfl | decide +kernel) (yld_ldN (cs := (x i).cs) (by rfl) rfl rfl mA cA Try.underlying25 rfl size25) ?_; walk_nrm))
        ((refine anyJ_take (i := 8) (v := (.slice (some ⟨βB, oB, none⟩) nB capB)) rfl (by first | kernel_rfl | decide +kernel) (by first | kernel_rfl | decide +kernel) (by first | kernel_rfl | decide +kernel) (by first | kernel_rfl | decide +kernel) (yld_pure (by rfl) (fun w => by go_simp) (fun w => by simp [go_sem])) ?_; walk_nrm))
        ((refine anyJ_take (i := 9) (v := (.int .i64 ((i : Nat) : Int))) rfl (by first | kernel_rfl | decide +kernel) (by first | kernel_rfl | decide +kernel) (by first | kernel_rfl | decide +kernel) (by first | kernel_rfl | decide +kernel) (yld_pure (by rfl) (fun w => by go_simp) (fun w => by simp [go_sem])) ?_; walk_nrm))
        ((refine anyJ_take (i := 10) (v := (.pointer (some ⟨βB, oB + i * 7, none⟩))) rfl (by first | kernel_rfl | decide +kernel) (by first | kernel_rfl | decide +kernel) (by first | kernel_rfl | decide +kernel) (by first | kernel_rfl | decide +kernel) (yld_pure (by rfl) (fun w => by go_simp; try (first | rfl | (simp [*]; done))) (fun w => by simp [go_sem, evIdx34, *])) ?_; walk_nrm))
        ((refine anyJ_take (i := 11) rfl (by first | kernel_rfl | decide +kernel) (by first | kernel_rfl | decide +kernel) (by first | kernel_rfl | decide +kernel) (by first | kernel_rfl | decide +kernel) (yld_ldN (cs := (y i).cs) (by rfl) rfl rfl mB cB Try.underlying25 rfl size25) ?_; walk_nrm))
        ((refine anyJ_take (i := 12) (v := .bool (Rt.eq (x i) (y i))) rfl (by first | kernel_rfl | decide +kernel) (by first | kernel_rfl | decide +kernel) (by first | kernel_rfl | decide +kernel) (by first | kernel_rfl | decide +kernel) (yld_pure (by rfl) (fun w => by have E := eql25 (x i) (y i); go_simp; try rfl) (fun w => by simp [go_sem, runGuard25, evGuard25, evEql25])) ?_; walk_nrm))
        ((refine anyJ_take (i := 13) (v := (.bool (Rt.eq (x i) (y i)))) rfl (by first | kernel_rfl | decide +kernel) (by first | kernel_rfl | decide +kernel) (by first | kernel_rfl | decide +kernel) (by first | kernel_rfl | decide +kernel) (yld_pure (by rfl) (fun w => by go_simp) (fun w => by simp [go_sem])) ?_; walk_nrm))
        refine anyJ_done (by first | kernel_rfl | decide +kernel) ?_ _
        try (simp only [QJ.then, QJ.inBlock, if_true, if_false, reduceIte, Nat.reduceEqDiff])
        rw [he]
        ((refine wpJ_cond (by rfl) ?_; simp only [if_true, if_false, reduceIte, Bool.false_eq_true]))
        ((refine wpJ_region ?_; simp only [List.size_toArray, List.length_cons, List.length_nil, Nat.reduceAdd, Nat.zero_add, List.range, List.range.loop]))
        ((refine opsJ_pure rfl (by rfl) (fun w => run_eqv (fun K hK => by go_simp; exact hK)) (fun w => by simp [go_sem]) ?_; try walk_nrm))
        ((refine opsJ_pure (v := (.int .i64 ((i : Int) + 1))) rfl (by rfl) (fun w => by go_simp; rw [wrapI (by omega) (by omega)]) (fun w => by simp [go_sem]) ?_; try walk_nrm))
        ((refine opsJ_pure rfl (by rfl) (fun w => run_eqv (fun K hK => by go_simp; exact hK)) (fun w => by simp [go_sem]) ?_; try walk_nrm))
        refine opsJ_nil ?_
        try (simp only [QJ.then, QJ.inBlock, if_true, if_false, reduceIte, Nat.reduceEqDiff])
        ((refine wpJ_region ?_; simp only [List.size_toArray, List.length_cons, List.length_nil, Nat.reduceAdd, Nat.zero_add, List.range, List.range.loop]))
        ((refine opsJ_pure (v := (.int .i64 ((i : Int) + 1))) rfl (by rfl) (fun w => by go_simp; rw [wrapI (by omega) (by omega)]) (fun w => by simp [go_sem]) ?_; try walk_nrm))
        ((refine opsJ_pure rfl (by rfl) (fun w => run_eqv (fun K hK => by go_simp; exact hK)) (fun w => by simp [go_sem]) ?_; try walk_nrm))
        refine opsJ_nil ?_
        try (simp only [QJ.then, QJ.inBlock, if_true, if_false, reduceIte, Nat.reduceEqDiff])
        refine q_actS (Q := fun a => Q s m2 .normal a) _ (by rfl) (by rfl) (by rfl) (by rfl) (by rfl) (by rfl) (by rfl) (by rfl) (by rfl) ?_ (by rfl) ?_ (hgo _)
        · show some _ = some _; rw [hw]
        · show some _ = some _; rfl
      · have he' : (x i).eq (y i) = false := by simpa using he
        have hw : (((agr (ofB x y) (i + 1)).2 : Nat) : Int) = (((agr (ofB x y) i).2 : Nat) : Int) := by
          show (((if ((agr (ofB x y) i).1 && (x i).eq (y i)) = true then _ else _ : Nat)) : Int) = _
          rw [he', Bool.and_false]; rfl
        ((first | refine wpJ_seq ?_ | refine wpJ_block ?_ | refine wpJ_skip ?_ | refine wpJ_label ?_ | refine wpJ_ret ?_ | refine wpJ_exit ?_ | refine opsJ_nil ?_))
        refine wpJ_region_draw (id := 12) (by kernel_rfl) ?_
        simp only [List.size_toArray, List.length_cons, List.length_nil, Nat.reduceAdd, Nat.zero_add]
        ((refine anyJ_take (i := 0) (v := (.int .i64 (((agr (ofB x y) i).2 : Nat) : Int))) rfl (by first | kernel_rfl | decide +kernel) (by first | kernel_rfl | decide +kernel) (by first | kernel_rfl | decide +kernel) (by first | kernel_rfl | decide +kernel) (yld_pure (by rfl) (fun w => by go_simp) (fun w => by simp [go_sem])) ?_; walk_nrm))
        ((refine anyJ_take (i := 1) (v := (.int .i64 ((i : Nat) : Int))) rfl (by first | kernel_rfl | decide +kernel) (by first | kernel_rfl | decide +kernel) (by first | kernel_rfl | decide +kernel) (by first | kernel_rfl | decide +kernel) (yld_pure (by rfl) (fun w => by go_simp) (fun w => by simp [go_sem])) ?_; walk_nrm))
        ((refine anyJ_take (i := 2) (v := (.bool true)) rfl (by first | kernel_rfl | decide +kernel) (by first | kernel_rfl | decide +kernel) (by first | kernel_rfl | decide +kernel) (by first | kernel_rfl | decide +kernel) (yld_pure (by rfl) (fun w => by go_simp; try (first | rfl | (simp [*]; done))) (fun w => by simp [go_sem, evIdx34, *])) ?_; walk_nrm))
        ((refine anyJ_take (i := 3) (v := (.bool true)) rfl (by first | kernel_rfl | decide +kernel) (by first | kernel_rfl | decide +kernel) (by first | kernel_rfl | decide +kernel) (by first | kernel_rfl | decide +kernel) (yld_pure (by rfl) (fun w => by go_simp) (fun w => by simp [go_sem])) ?_; walk_nrm))
        ((refine anyJ_take (i := 4) (v := (.slice (some ⟨βA, oA, none⟩) nA capA)) rfl (by first | kernel_rfl | decide +kernel) (by first | kernel_rfl | decide +kernel) (by first | kernel_rfl | decide +kernel) (by first | kernel_rfl | decide +kernel) (yld_pure (by rfl) (fun w => by go_simp) (fun w => by simp [go_sem])) ?_; walk_nrm))
        ((refine anyJ_take (i := 5) (v := (.int .i64 ((i : Nat) : Int))) rfl (by first | kernel_rfl | decide +kernel) (by first | kernel_rfl | decide +kernel) (by first | kernel_rfl | decide +kernel) (by first | kernel_rfl | decide +kernel) (yld_pure (by rfl) (fun w => by go_simp) (fun w => by simp [go_sem])) ?_; walk_nrm))
        ((refine anyJ_take (i := 6) (v := (.pointer (some ⟨βA, oA + i * 7, none⟩))) rfl (by first | kernel_rfl | decide +kernel) (by first | kernel_rfl | decide +kernel) (by first | kernel_rfl | decide +kernel) (by first | kernel_rfl | decide +kernel) (yld_pure (by rfl) (fun w => by go_simp; try (first | rfl | (simp [*]; done))) (fun w => by simp [go_sem, evIdx34, *])) ?_; walk_nrm))
        ((refine anyJ_take (i := 7) rfl (by first | kernel_rfl | decide +kernel) (by first | kernel_rfl | decide +kernel) (by first | kernel_rfl | decide +kernel) (by first | kernel_rfl | decide +kernel) (yld_ldN (cs := (x i).cs) (by rfl) rfl rfl mA cA Try.underlying25 rfl size25) ?_; walk_nrm))
        ((refine anyJ_take (i := 8) (v := (.slice (some ⟨βB, oB, none⟩) nB capB)) rfl (by first | kernel_rfl | decide +kernel) (by first | kernel_rfl | decide +kernel) (by first | kernel_rfl | decide +kernel) (by first | kernel_rfl | decide +kernel) (yld_pure (by rfl) (fun w => by go_simp) (fun w => by simp [go_sem])) ?_; walk_nrm))
        ((refine anyJ_take (i := 9) (v := (.int .i64 ((i : Nat) : Int))) rfl (by first | kernel_rfl | decide +kernel) (by first | kernel_rfl | decide +kernel) (by first | kernel_rfl | decide +kernel) (by first | kernel_rfl | decide +kernel) (yld_pure (by rfl) (fun w => by go_simp) (fun w => by simp [go_sem])) ?_; walk_nrm))
        ((refine anyJ_take (i := 10) (v := (.pointer (some ⟨βB, oB + i * 7, none⟩))) rfl (by first | kernel_rfl | decide +kernel) (by first | kernel_rfl | decide +kernel) (by first | kernel_rfl | decide +kernel) (by first | kernel_rfl | decide +kernel) (yld_pure (by rfl) (fun w => by go_simp; try (first | rfl | (simp [*]; done))) (fun w => by simp [go_sem, evIdx34, *])) ?_; walk_nrm))
        ((refine anyJ_take (i := 11) rfl (by first | kernel_rfl | decide +kernel) (by first | kernel_rfl | decide +kernel) (by first | kernel_rfl | decide +kernel) (by first | kernel_rfl | decide +kernel) (yld_ldN (cs := (y i).cs) (by rfl) rfl rfl mB cB Try.underlying25 rfl size25) ?_; walk_nrm))
        ((refine anyJ_take (i := 12) (v := .bool (Rt.eq (x i) (y i))) rfl (by first | kernel_rfl | decide +kernel) (by first | kernel_rfl | decide +kernel) (by first | kernel_rfl | decide +kernel) (by first | kernel_rfl | decide +kernel) (yld_pure (by rfl) (fun w => by have E := eql25 (x i) (y i); go_simp; try rfl) (fun w => by simp [go_sem, runGuard25, evGuard25, evEql25])) ?_; walk_nrm))
        ((refine anyJ_take (i := 13) (v := (.bool (Rt.eq (x i) (y i)))) rfl (by first | kernel_rfl | decide +kernel) (by first | kernel_rfl | decide +kernel) (by first | kernel_rfl | decide +kernel) (by first | kernel_rfl | decide +kernel) (yld_pure (by rfl) (fun w => by go_simp) (fun w => by simp [go_sem])) ?_; walk_nrm))
        refine anyJ_done (by first | kernel_rfl | decide +kernel) ?_ _
        try (simp only [QJ.then, QJ.inBlock, if_true, if_false, reduceIte, Nat.reduceEqDiff])
        rw [he']
        ((refine wpJ_cond (by rfl) ?_; simp only [if_true, if_false, reduceIte, Bool.false_eq_true]))
        ((first | refine wpJ_seq ?_ | refine wpJ_block ?_ | refine wpJ_skip ?_ | refine wpJ_label ?_ | refine wpJ_ret ?_ | refine wpJ_exit ?_ | refine opsJ_nil ?_))
        try (simp only [QJ.then, QJ.inBlock, if_true, if_false, reduceIte, Nat.reduceEqDiff])
        ((refine wpJ_region ?_; simp only [List.size_toArray, List.length_cons, List.length_nil, Nat.reduceAdd, Nat.zero_add, List.range, List.range.loop]))
        ((refine opsJ_pure (v := (.int .i64 ((i : Int) + 1))) rfl (by rfl) (fun w => by go_simp; rw [wrapI (by omega) (by omega)]) (fun w => by simp [go_sem]) ?_; try walk_nrm))
        ((refine opsJ_pure rfl (by rfl) (fun w => run_eqv (fun K hK => by go_simp; exact hK)) (fun w => by simp [go_sem]) ?_; try walk_nrm))
        refine opsJ_nil ?_
        try (simp only [QJ.then, QJ.inBlock, if_true, if_false, reduceIte, Nat.reduceEqDiff])
        refine q_actS (Q := fun a => Q s m2 .normal a) _ (by rfl) (by rfl) (by rfl) (by rfl) (by rfl) (by rfl) (by rfl) (by rfl) (by rfl) ?_ (by rfl) ?_ (hgo _)
        · show some _ = some _; rw [hw]
        · show some _ = some _; rfl
    · have hq1 : ¬ (((agr (ofB x y) i).2 : Nat) : Int) = ((i : Nat) : Int) := fun e => hq ((agr_iff _ _).2 (by omega))
      have hqf : (agr (ofB x y) i).1 = false := by simpa using hq
      have hw : (((agr (ofB x y) (i + 1)).2 : Nat) : Int) = (((agr (ofB x y) i).2 : Nat) : Int) := by
        show (((if ((agr (ofB x y) i).1 && (x i).eq (y i)) = true then _ else _ : Nat)) : Int) = _
        rw [hqf, Bool.false_and]; rfl
      ((first | refine wpJ_seq ?_ | refine wpJ_block ?_ | refine wpJ_skip ?_ | refine wpJ_label ?_ | refine wpJ_ret ?_ | refine wpJ_exit ?_ | refine opsJ_nil ?_))
      refine wpJ_region_draw (id := 12) (by kernel_rfl) ?_
      simp only [List.size_toArray, List.length_cons, List.length_nil, Nat.reduceAdd, Nat.zero_add]
      ((refine anyJ_take (i := 0) (v := (.int .i64 (((agr (ofB x y) i).2 : Nat) : Int))) rfl (by first | kernel_rfl | decide +kernel) (by first | kernel_rfl | decide +kernel) (by first | kernel_rfl | decide +kernel) (by first | kernel_rfl | decide +kernel) (yld_pure (by rfl) (fun w => by go_simp) (fun w => by simp [go_sem])) ?_; walk_nrm))
      ((refine anyJ_take (i := 1) (v := (.int .i64 ((i : Nat) : Int))) rfl (by first | kernel_rfl | decide +kernel) (by first | kernel_rfl | decide +kernel) (by first | kernel_rfl | decide +kernel) (by first | kernel_rfl | decide +kernel) (yld_pure (by rfl) (fun w => by go_simp) (fun w => by simp [go_sem])) ?_; walk_nrm))
      ((refine anyJ_take (i := 2) (v := (.bool false)) rfl (by first | kernel_rfl | decide +kernel) (by first | kernel_rfl | decide +kernel) (by first | kernel_rfl | decide +kernel) (by first | kernel_rfl | decide +kernel) (yld_pure (by rfl) (fun w => by go_simp; try (first | rfl | (simp [*]; done))) (fun w => by simp [go_sem, evIdx34, *])) ?_; walk_nrm))
      ((refine anyJ_take (i := 3) (v := (.bool false)) rfl (by first | kernel_rfl | decide +kernel) (by first | kernel_rfl | decide +kernel) (by first | kernel_rfl | decide +kernel) (by first | kernel_rfl | decide +kernel) (yld_pure (by rfl) (fun w => by go_simp) (fun w => by simp [go_sem])) ?_; walk_nrm))
      ((refine anyJ_take (i := 4) (v := undef) rfl (by first | kernel_rfl | decide +kernel) (by first | kernel_rfl | decide +kernel) (by first | kernel_rfl | decide +kernel) (by first | kernel_rfl | decide +kernel) (.inr ⟨by rfl, rfl⟩) ?_; walk_nrm))
      ((refine anyJ_take (i := 5) (v := undef) rfl (by first | kernel_rfl | decide +kernel) (by first | kernel_rfl | decide +kernel) (by first | kernel_rfl | decide +kernel) (by first | kernel_rfl | decide +kernel) (.inr ⟨by rfl, rfl⟩) ?_; walk_nrm))
      ((refine anyJ_take (i := 6) (v := undef) rfl (by first | kernel_rfl | decide +kernel) (by first | kernel_rfl | decide +kernel) (by first | kernel_rfl | decide +kernel) (by first | kernel_rfl | decide +kernel) (.inr ⟨by rfl, rfl⟩) ?_; walk_nrm))
      ((refine anyJ_take (i := 7) (v := undef) rfl (by first | kernel_rfl | decide +kernel) (by first | kernel_rfl | decide +kernel) (by first | kernel_rfl | decide +kernel) (by first | kernel_rfl | decide +kernel) (.inr ⟨by rfl, rfl⟩) ?_; walk_nrm))
      ((refine anyJ_take (i := 8) (v := undef) rfl (by first | kernel_rfl | decide +kernel) (by first | kernel_rfl | decide +kernel) (by first | kernel_rfl | decide +kernel) (by first | kernel_rfl | decide +kernel) (.inr ⟨by rfl, rfl⟩) ?_; walk_nrm))
      ((refine anyJ_take (i := 9) (v := undef) rfl (by first | kernel_rfl | decide +kernel) (by first | kernel_rfl | decide +kernel) (by first | kernel_rfl | decide +kernel) (by first | kernel_rfl | decide +kernel) (.inr ⟨by rfl, rfl⟩) ?_; walk_nrm))
      ((refine anyJ_take (i := 10) (v := undef) rfl (by first | kernel_rfl | decide +kernel) (by first | kernel_rfl | decide +kernel) (by first | kernel_rfl | decide +kernel) (by first | kernel_rfl | decide +kernel) (.inr ⟨by rfl, rfl⟩) ?_; walk_nrm))
      ((refine anyJ_take (i := 11) (v := undef) rfl (by first | kernel_rfl | decide +kernel) (by first | kernel_rfl | decide +kernel) (by first | kernel_rfl | decide +kernel) (by first | kernel_rfl | decide +kernel) (.inr ⟨by rfl, rfl⟩) ?_; walk_nrm))
      ((refine anyJ_take (i := 12) (v := undef) rfl (by first | kernel_rfl | decide +kernel) (by first | kernel_rfl | decide +kernel) (by first | kernel_rfl | decide +kernel) (by first | kernel_rfl | decide +kernel) (.inr ⟨by rfl, rfl⟩) ?_; walk_nrm))
      ((refine anyJ_take (i := 13) (v := (.bool false)) rfl (by first | kernel_rfl | decide +kernel) (by first | kernel_rfl | decide +kernel) (by first | kernel_rfl | decide +kernel) (by first | kernel_rfl | decide +kernel) (yld_pure (by rfl) (fun w => by go_simp) (fun w => by simp [go_sem])) ?_; walk_nrm))
      refine anyJ_done (by first | kernel_rfl | decide +kernel) ?_ _
      try (simp only [QJ.then, QJ.inBlock, if_true, if_false, reduceIte, Nat.reduceEqDiff])
      ((refine wpJ_cond (by rfl) ?_; simp only [if_true, if_false, reduceIte, Bool.false_eq_true]))
      ((first | refine wpJ_seq ?_ | refine wpJ_block ?_ | refine wpJ_skip ?_ | refine wpJ_label ?_ | refine wpJ_ret ?_ | refine wpJ_exit ?_ | refine opsJ_nil ?_))
      try (simp only [QJ.then, QJ.inBlock, if_true, if_false, reduceIte, Nat.reduceEqDiff])
      ((refine wpJ_region ?_; simp only [List.size_toArray, List.length_cons, List.length_nil, Nat.reduceAdd, Nat.zero_add, List.range, List.range.loop]))
      ((refine opsJ_pure (v := (.int .i64 ((i : Int) + 1))) rfl (by rfl) (fun w => by go_simp; rw [wrapI (by omega) (by omega)]) (fun w => by simp [go_sem]) ?_; try walk_nrm))
      ((refine opsJ_pure rfl (by rfl) (fun w => run_eqv (fun K hK => by go_simp; exact hK)) (fun w => by simp [go_sem]) ?_; try walk_nrm))
      refine opsJ_nil ?_
      try (simp only [QJ.then, QJ.inBlock, if_true, if_false, reduceIte, Nat.reduceEqDiff])
      refine q_actS (Q := fun a => Q s m2 .normal a) _ (by rfl) (by rfl) (by rfl) (by rfl) (by rfl) (by rfl) (by rfl) (by rfl) (by rfl) ?_ (by rfl) ?_ (hgo _)
      · show some _ = some _; rw [hw]
      · show some _ = some _; rfl
  · have hno : ¬ ((i : Nat) : Int) < ((n0 : Nat) : Int) := by omega
    ((refine opsJ_pure (v := (.bool false)) rfl (by rfl) (fun w => by go_simp; try (first | rfl | decide | (simp [*, n_sh, IntKind.wrap_u64, IntKind.wrap_u32, IntKind.wrap_i32, IntKind.wrap_i64] <;> omega))) (fun w => by simp [go_sem, *]) ?_; walk_nrm))
    refine opsJ_nil ?_
    try (simp only [QJ.then, QJ.inBlock, if_true, if_false, reduceIte, Nat.reduceEqDiff])
    ((first | refine wpJ_seq ?_ | refine wpJ_block ?_ | refine wpJ_skip ?_ | refine wpJ_label ?_ | refine wpJ_ret ?_ | refine wpJ_exit ?_ | refine opsJ_nil ?_))
    try (simp only [QJ.then, QJ.inBlock, if_true, if_false, reduceIte, Nat.reduceEqDiff])
    ((refine wpJ_cond (by rfl) ?_; simp only [if_true, if_false, reduceIte, Bool.false_eq_true]))
    ((first | refine wpJ_seq ?_ | refine wpJ_block ?_ | refine wpJ_skip ?_ | refine wpJ_label ?_ | refine wpJ_ret ?_ | refine wpJ_exit ?_ | refine opsJ_nil ?_))
    try (simp only [QJ.then, QJ.inBlock, if_true, if_false, reduceIte, Nat.reduceEqDiff])
    exact q_actS (Q := fun a => Q s m2 (.exit 0) a) _ (by rfl) (by rfl) (by rfl) (by rfl) (by rfl) (by rfl) (by rfl) (by rfl) (by rfl) (by rfl) (by rfl) (by rfl) (hexit _ (by omega))
end
end Go.Proofs.Ytafnbmokegomaaa
