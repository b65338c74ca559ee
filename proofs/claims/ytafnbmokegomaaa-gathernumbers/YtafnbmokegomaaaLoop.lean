/-
  meet's loop: the pieces.
-/
import Derived.Test.YtafnbmokegomaaaSelJ
import Derived.Test.YtafnbmokegomaaaApp
set_option linter.unusedSimpArgs false
set_option linter.unusedVariables false
set_option linter.unusedSectionVars false
namespace Go.Proofs.Ytafnbmokegomaaa
open Go.Conc Go.RowKit
open Go.ConcR (KK wgBlock WgAt stA smA rd wr)

def lft : Code → Code
  | .seq x _ => x
  | c => c
def rgt : Code → Code
  | .seq _ y => y
  | c => c
def inr : Code → Code
  | .block _ c => c
  | .loop c => c
  | .scope c => c
  | c => c
noncomputable def meetBody : Code := Try.f10.body.getD .skip
noncomputable def meetLoop : Code := lft (rgt (rgt (rgt (rgt (inr (rgt meetBody))))))
noncomputable def meetRound : Code := inr (inr meetLoop)
noncomputable def part1 : Code := lft (inr meetRound)
noncomputable def part2 : Code := rgt (inr meetRound)

/-- The slots at the loop's head: what is fixed, what is scratch. -/
def slot (A B M : Value) (W b0 b1 : Nat) (l : Int) (x : Nat → Value) : Nat → Value
  | 0 => A
  | 1 => B
  | 2 => M
  | 3 => undef
  | 4 => undef
  | 5 => undef
  | 6 => .int .i64 0
  | 7 => .pointer (some ⟨W, 0, none⟩)
  | 8 => .pointer (some ⟨b0, 0, none⟩)
  | 9 => .pointer (some ⟨b1, 0, none⟩)
  | 10 => .int .i64 l
  | i => x i
def actL (A B M : Value) (W b0 b1 : Nat) (l : Int) (x : Nat → Value) : Act := ⟨((List.range 108).map (slot A B M W b0 b1 l x)).toArray, []⟩
theorem actL_lit (A B M : Value) (W b0 b1 : Nat) (l : Int) (x : Nat → Value) : actL A B M W b0 b1 l x = ⟨List.toArray (A :: B :: M :: undef :: undef :: undef :: .int .i64 0 :: .pointer (some ⟨W, 0, none⟩) :: .pointer (some ⟨b0, 0, none⟩) :: .pointer (some ⟨b1, 0, none⟩) :: .int .i64 l :: x 11 :: x 12 :: x 13 :: x 14 :: x 15 :: x 16 :: x 17 :: x 18 :: x 19 :: x 20 :: x 21 :: x 22 :: x 23 :: x 24 :: x 25 :: x 26 :: x 27 :: x 28 :: x 29 :: x 30 :: x 31 :: x 32 :: x 33 :: x 34 :: x 35 :: x 36 :: x 37 :: x 38 :: x 39 :: x 40 :: x 41 :: x 42 :: x 43 :: x 44 :: x 45 :: x 46 :: x 47 :: x 48 :: x 49 :: x 50 :: x 51 :: x 52 :: x 53 :: x 54 :: x 55 :: x 56 :: x 57 :: x 58 :: x 59 :: x 60 :: x 61 :: x 62 :: x 63 :: x 64 :: x 65 :: x 66 :: x 67 :: x 68 :: x 69 :: x 70 :: x 71 :: x 72 :: x 73 :: x 74 :: x 75 :: x 76 :: x 77 :: x 78 :: x 79 :: x 80 :: x 81 :: x 82 :: x 83 :: x 84 :: x 85 :: x 86 :: x 87 :: x 88 :: x 89 :: x 90 :: x 91 :: x 92 :: x 93 :: x 94 :: x 95 :: x 96 :: x 97 :: x 98 :: x 99 :: x 100 :: x 101 :: x 102 :: x 103 :: x 104 :: x 105 :: x 106 :: x 107 :: []), []⟩ := rfl
theorem actL_of {A B M : Value} {W b0 b1 : Nat} {l : Int} (L : List Value) (hn : L.length = 108) (h0 : L[0]? = some A) (h1 : L[1]? = some B) (h2 : L[2]? = some M) (h3 : L[3]? = some undef) (h4 : L[4]? = some undef) (h5 : L[5]? = some undef) (h6 : L[6]? = some (.int .i64 0))
    (h7 : L[7]? = some (.pointer (some ⟨W, 0, none⟩))) (h8 : L[8]? = some (.pointer (some ⟨b0, 0, none⟩))) (h9 : L[9]? = some (.pointer (some ⟨b1, 0, none⟩))) (h10 : L[10]? = some (.int .i64 l)) : (⟨L.toArray, []⟩ : Act) = actL A B M W b0 b1 l (fun i => L[i]?.getD undef) := by
  unfold actL
  congr 2
  apply List.ext_getElem?
  intro i
  rw [List.getElem?_map]
  by_cases hi : i < 108
  · rw [List.getElem?_range hi]
    simp only [Option.map_some]
    have key : ∀ j, j < 108 → L[j]? = some (L[j]?.getD undef) := fun j hj => by
      rw [List.getElem?_eq_getElem (by omega)]; rfl
    match i with
    | 0 => exact h0
    | 1 => exact h1
    | 2 => exact h2
    | 3 => exact h3
    | 4 => exact h4
    | 5 => exact h5
    | 6 => exact h6
    | 7 => exact h7
    | 8 => exact h8
    | 9 => exact h9
    | 10 => exact h10
    | j + 11 => exact key _ hi
  · rw [List.getElem?_eq_none (by omega), List.getElem?_eq_none (by simp; omega)]
    rfl

theorem q_actL {Q : Act → Prop} {A B M : Value} {W b0 b1 : Nat} {l : Int} (L : List Value) (hn : L.length = 108) (h0 : L[0]? = some A) (h1 : L[1]? = some B) (h2 : L[2]? = some M) (h3 : L[3]? = some undef) (h4 : L[4]? = some undef) (h5 : L[5]? = some undef) (h6 : L[6]? = some (.int .i64 0))
    (h7 : L[7]? = some (.pointer (some ⟨W, 0, none⟩))) (h8 : L[8]? = some (.pointer (some ⟨b0, 0, none⟩))) (h9 : L[9]? = some (.pointer (some ⟨b1, 0, none⟩))) (h10 : L[10]? = some (.int .i64 l)) (h : Q (actL A B M W b0 b1 l (fun i => L[i]?.getD undef))) : Q ⟨L.toArray, []⟩ := by
  rw [actL_of L hn h0 h1 h2 h3 h4 h5 h6 h7 h8 h9 h10]; exact h

/-- The two streams lie in memory. -/
def Strs (m : PM) (β c : Bool → Nat) (nx : Bool → Rt) (wt en : Bool → Bool) : Prop := ∀ b, m (β b) = some (.cells (stC (c b) (nx b) (wt b) (en b)) 55 (0, 0))

section
variable [Io] {Fin : Value → World → Prop}
set_option maxRecDepth 100000 in
set_option maxHeartbeats 4000000 in
theorem part1_j {Q : QJ} {sh : Nat → Prop} {X : Cfg} {p : Ph} {A B M : Value} {W : Nat} {β : Bool → Nat} {l : Int} {x : Nat → Value} {m : PM} {nx : Bool → Rt} {wt en : Bool → Bool} {rw' : Bool → Nat → Rt}
    (hβ : β false ≠ β true) (hst : Strs m β p.c nx wt en) (h2 : p.two = true) (hd : p.df = false) (hen : ∀ b, en b = p.e b) (hit : ∀ b k, X.it b k = .agg (rw' b k).cs.toArray) (hz0 : X.z = .agg r0.cs.toArray) (hso : ∃ b, (wt b || en b) = false)
    (hv : ∀ b m' x', wt b = false → en b = false → p.r b < X.n b → m' (β b) = some (.cells (stC (p.c b) (rw' b (p.r b)) true false) 55 (0, 0)) → ExtBut (· = β b) m m' → Q (.inn sh X { p with r := updB p.r b (p.r b + 1) }) m' .normal (actL A B M W (β false) (β true) l x'))
    (hz : ∀ b m' x', wt b = false → en b = false → p.r b = X.n b → m' (β b) = some (.cells (stC (p.c b) r0 false true) 55 (0, 0)) → ExtBut (· = β b) m m' → Q (.inn sh X { p with e := updB p.e b true }) m' .normal (actL A B M W (β false) (β true) l x')) :
    wpJ Try.prog Fin 10 part1 Q (.inn sh X p) m (actL A B M W (β false) (β true) l x) := by
  rw [actL_lit]
  refine wpJ_seq (x := lft part1) (y := rgt part1) ?_
  refine wpJ_seq (x := lft (lft part1)) (y := rgt (lft part1)) ?_
  refine wpJ_region (id := 4) ?_
  simp only [List.size_toArray, List.length_cons, List.length_nil, Nat.reduceAdd, Nat.zero_add, List.range, List.range.loop]
  ((refine opsJ_pure rfl (by rfl) (fun w => run_eqv (fun K hK => by go_simp; exact hK)) (fun w => by simp [go_sem]) ?_; try walk_nrm))
  ((refine opsJ_call rfl (by rfl) rfl (by walk_nrm; exact (open_j _ m (β false) (p.c false) (nx false) (wt false) (en false) (hst false))) ?_))
  rintro _ mm _ ⟨rfl, hmm, rfl⟩
  replace hmm := hmm.symm
  subst hmm
  walk_nrm
  refine opsJ_nil ?_
  (simp only [QJ.then, QJ.inBlock, if_true, if_false, reduceIte, Nat.reduceEqDiff])
  refine wpJ_region (id := 5) ?_
  simp only [List.size_toArray, List.length_cons, List.length_nil, Nat.reduceAdd, Nat.zero_add, List.range, List.range.loop]
  ((refine opsJ_pure rfl (by rfl) (fun w => run_eqv (fun K hK => by go_simp; exact hK)) (fun w => by simp [go_sem]) ?_; try walk_nrm))
  ((refine opsJ_call rfl (by rfl) rfl (by walk_nrm; exact (open_j _ _ (β true) (p.c true) (nx true) (wt true) (en true) (hst true))) ?_))
  rintro _ mm _ ⟨rfl, hmm, rfl⟩
  replace hmm := hmm.symm
  subst hmm
  walk_nrm
  refine opsJ_nil ?_
  (simp only [QJ.then, QJ.inBlock, if_true, if_false, reduceIte, Nat.reduceEqDiff])
  refine wpJ_seq (x := lft (rgt part1)) (y := rgt (rgt part1)) ?_
  refine wpJ_region (id := 6) ?_
  simp only [List.size_toArray, List.length_cons, List.length_nil, Nat.reduceAdd, Nat.zero_add, List.range, List.range.loop]
  refine opsJ_sel (x0 := .tmp 20) (x1 := .tmp 22) rfl (by rfl) rfl (fun b => !(wt b || en b)) ?_ ?_ hz0 h2 hd ?_ ?_ (fun b hb hr => ?_) (fun b hb hr => ?_)
  · show Value.chan _ = _
    cases wt false <;> cases en false <;> rfl
  · show Value.chan _ = _
    cases wt true <;> cases en true <;> rfl
  · intro b hb
    rw [← hen b]
    cases h : en b with
    | false => rfl
    | true => simp [h] at hb
  · obtain ⟨b, hb⟩ := hso
    exact ⟨b, by simp only [hb]; rfl⟩
  · have hwb : wt b = false := by cases h : wt b <;> simp_all
    have heb : en b = false := by cases h : en b <;> simp_all
    cases b with
    | false =>
      walk_nrm
      simp only [Bool.false_eq_true, if_false, if_true, hit, kOf]
      ((refine opsJ_pure (v := (.int .i64 0)) rfl (by rfl) (fun w => by go_simp; try (first | rfl | decide | (simp [*, n_sh, IntKind.wrap_u64, IntKind.wrap_u32, IntKind.wrap_i32, IntKind.wrap_i64] <;> omega))) (fun w => by simp [go_sem, *]) ?_; walk_nrm))
      ((refine opsJ_pure (v := (.bool true)) rfl (by rfl) (fun w => by go_simp; try (first | rfl | decide | (simp [*, n_sh, IntKind.wrap_u64, IntKind.wrap_u32, IntKind.wrap_i32, IntKind.wrap_i64] <;> omega))) (fun w => by simp [go_sem, *]) ?_; walk_nrm))
      ((refine opsJ_pure (v := (.bool false)) rfl (by rfl) (fun w => by go_simp; try (first | rfl | decide | (simp [*, n_sh, IntKind.wrap_u64, IntKind.wrap_u32, IntKind.wrap_i32, IntKind.wrap_i64] <;> omega))) (fun w => by simp [go_sem, *]) ?_; walk_nrm))
      refine opsJ_nil ?_
      (simp only [QJ.then, QJ.inBlock, if_true, if_false, reduceIte, Nat.reduceEqDiff])
      refine wpJ_block (id := 2) ?_
      ((refine wpJ_cond (by rfl) ?_; simp only [if_true, if_false, reduceIte, Bool.false_eq_true]))
      ((first | refine wpJ_seq ?_ | refine wpJ_block ?_ | refine wpJ_skip ?_ | refine wpJ_label ?_ | refine wpJ_ret ?_ | refine wpJ_exit ?_ | refine opsJ_nil ?_))
      ((refine wpJ_region ?_; simp only [List.size_toArray, List.length_cons, List.length_nil, Nat.reduceAdd, Nat.zero_add, List.range, List.range.loop]))
      ((refine opsJ_pure (v := (.agg (rw' false (p.r false)).cs.toArray)) rfl (by rfl) (fun w => by go_simp; try (first | rfl | decide | (simp [*, n_sh, IntKind.wrap_u64, IntKind.wrap_u32, IntKind.wrap_i32, IntKind.wrap_i64] <;> omega))) (fun w => by simp [go_sem, *]) ?_; walk_nrm))
      ((refine opsJ_pure (v := (.bool true)) rfl (by rfl) (fun w => by go_simp; try (first | rfl | decide | (simp [*, n_sh, IntKind.wrap_u64, IntKind.wrap_u32, IntKind.wrap_i32, IntKind.wrap_i64] <;> omega))) (fun w => by simp [go_sem, *]) ?_; walk_nrm))
      refine opsJ_new rfl (by rfl) (f := fun γ => .pointer (some ⟨γ, 0, none⟩)) (ob := .cells r0.cs.toArray 25) (fun w => by go_simp; rfl) (fun w => by simp [go_sem]) (fun γ hγ hmγ => ?_)
      walk_nrm
      ((refine opsJ_stN rfl (by rfl) rfl rfl rfl (PM.set_same _ _ _) (of_decide_eq_true rfl) (one_cs (rw' false (p.r false))) size25 ?_; try walk_nrm))
      have q1 : putAll r0.cs.toArray 0 (rw' false (p.r false)).cs.toArray.toList = (rw' false (p.r false)).cs.toArray := rfl
      rw [q1]
      have hg : ((PM.set m γ (.cells r0.cs.toArray 25)).set γ (.cells (rw' false (p.r false)).cs.toArray 25)) γ = some (.cells (rw' false (p.r false)).cs.toArray 25 (0, 0)) := PM.set_same _ _ _
      have hx : Ext m ((PM.set m γ (.cells r0.cs.toArray 25)).set γ (.cells (rw' false (p.r false)).cs.toArray 25)) := fun δ o e => by
        have hne : δ ≠ γ := fun h => by rw [h, hmγ] at e; cases e
        rw [PM.set_ne _ _ hne, PM.set_ne _ _ hne]; exact e
      generalize ((PM.set m γ (.cells r0.cs.toArray 25)).set γ (.cells (rw' false (p.r false)).cs.toArray 25)) = m1 at hg hx ⊢
      ((refine opsJ_pure rfl (by rfl) (fun w => run_eqv (fun K hK => by go_simp; exact hK)) (fun w => by simp [go_sem]) ?_; try walk_nrm))
      refine opsJ_nil ?_
      (simp only [QJ.then, QJ.inBlock, if_true, if_false, reduceIte, Nat.reduceEqDiff])
      ((refine wpJ_region ?_; simp only [List.size_toArray, List.length_cons, List.length_nil, Nat.reduceAdd, Nat.zero_add, List.range, List.range.loop]))
      ((refine opsJ_pure rfl (by rfl) (fun w => run_eqv (fun K hK => by go_simp; exact hK)) (fun w => by simp [go_sem]) ?_; try walk_nrm))
      ((refine opsJ_ldN rfl (by rfl) rfl rfl hg (cs := (rw' false (p.r false)).cs) (fun j v h => by first | (rw [Nat.zero_add, List.getElem?_toArray]; exact h) | simpa using h) Try.underlying25 rfl size25 ?_; try walk_nrm))
      ((refine opsJ_pure rfl (by rfl) (fun w => run_eqv (fun K hK => by go_simp; exact hK)) (fun w => by simp [go_sem]) ?_; try walk_nrm))
      ((refine opsJ_call rfl (by rfl) rfl (by walk_nrm; exact (take_j _ m1 (β false) (p.c false) (nx false) (rw' false (p.r false)) (wt false) (en false) true (hx _ _ (hst false)))) ?_))
      rintro _ m2 _ ⟨rfl, rfl, k1, k2⟩
      walk_nrm
      refine opsJ_nil ?_
      (simp only [QJ.then, QJ.inBlock, if_true, if_false, reduceIte, Nat.reduceEqDiff])
      exact q_actL (Q := fun a => Q _ m2 .normal a) _ (by rfl) (by rfl) (by rfl) (by rfl) (by rfl) (by rfl) (by rfl) (by rfl) (by rfl) (by rfl) (by rfl) (by rfl) (hv false m2 _ hwb heb hr k1 fun δ o hn e => k2 δ o hn (hx δ o e))
    | true =>
      walk_nrm
      simp only [Bool.false_eq_true, if_false, if_true, hit, kOf]
      ((refine opsJ_pure (v := (.int .i64 1)) rfl (by rfl) (fun w => by go_simp; try (first | rfl | decide | (simp [*, n_sh, IntKind.wrap_u64, IntKind.wrap_u32, IntKind.wrap_i32, IntKind.wrap_i64] <;> omega))) (fun w => by simp [go_sem, *]) ?_; walk_nrm))
      ((refine opsJ_pure (v := (.bool false)) rfl (by rfl) (fun w => by go_simp; try (first | rfl | decide | (simp [*, n_sh, IntKind.wrap_u64, IntKind.wrap_u32, IntKind.wrap_i32, IntKind.wrap_i64] <;> omega))) (fun w => by simp [go_sem, *]) ?_; walk_nrm))
      ((refine opsJ_pure (v := (.bool true)) rfl (by rfl) (fun w => by go_simp; try (first | rfl | decide | (simp [*, n_sh, IntKind.wrap_u64, IntKind.wrap_u32, IntKind.wrap_i32, IntKind.wrap_i64] <;> omega))) (fun w => by simp [go_sem, *]) ?_; walk_nrm))
      refine opsJ_nil ?_
      (simp only [QJ.then, QJ.inBlock, if_true, if_false, reduceIte, Nat.reduceEqDiff])
      refine wpJ_block (id := 2) ?_
      ((refine wpJ_cond (by rfl) ?_; simp only [if_true, if_false, reduceIte, Bool.false_eq_true]))
      ((refine wpJ_cond (by rfl) ?_; simp only [if_true, if_false, reduceIte, Bool.false_eq_true]))
      ((first | refine wpJ_seq ?_ | refine wpJ_block ?_ | refine wpJ_skip ?_ | refine wpJ_label ?_ | refine wpJ_ret ?_ | refine wpJ_exit ?_ | refine opsJ_nil ?_))
      ((refine wpJ_region ?_; simp only [List.size_toArray, List.length_cons, List.length_nil, Nat.reduceAdd, Nat.zero_add, List.range, List.range.loop]))
      ((refine opsJ_pure (v := (.agg (rw' true (p.r true)).cs.toArray)) rfl (by rfl) (fun w => by go_simp; try (first | rfl | decide | (simp [*, n_sh, IntKind.wrap_u64, IntKind.wrap_u32, IntKind.wrap_i32, IntKind.wrap_i64] <;> omega))) (fun w => by simp [go_sem, *]) ?_; walk_nrm))
      ((refine opsJ_pure (v := (.bool true)) rfl (by rfl) (fun w => by go_simp; try (first | rfl | decide | (simp [*, n_sh, IntKind.wrap_u64, IntKind.wrap_u32, IntKind.wrap_i32, IntKind.wrap_i64] <;> omega))) (fun w => by simp [go_sem, *]) ?_; walk_nrm))
      refine opsJ_new rfl (by rfl) (f := fun γ => .pointer (some ⟨γ, 0, none⟩)) (ob := .cells r0.cs.toArray 25) (fun w => by go_simp; rfl) (fun w => by simp [go_sem]) (fun γ hγ hmγ => ?_)
      walk_nrm
      ((refine opsJ_stN rfl (by rfl) rfl rfl rfl (PM.set_same _ _ _) (of_decide_eq_true rfl) (one_cs (rw' true (p.r true))) size25 ?_; try walk_nrm))
      have q1 : putAll r0.cs.toArray 0 (rw' true (p.r true)).cs.toArray.toList = (rw' true (p.r true)).cs.toArray := rfl
      rw [q1]
      have hg : ((PM.set m γ (.cells r0.cs.toArray 25)).set γ (.cells (rw' true (p.r true)).cs.toArray 25)) γ = some (.cells (rw' true (p.r true)).cs.toArray 25 (0, 0)) := PM.set_same _ _ _
      have hx : Ext m ((PM.set m γ (.cells r0.cs.toArray 25)).set γ (.cells (rw' true (p.r true)).cs.toArray 25)) := fun δ o e => by
        have hne : δ ≠ γ := fun h => by rw [h, hmγ] at e; cases e
        rw [PM.set_ne _ _ hne, PM.set_ne _ _ hne]; exact e
      generalize ((PM.set m γ (.cells r0.cs.toArray 25)).set γ (.cells (rw' true (p.r true)).cs.toArray 25)) = m1 at hg hx ⊢
      ((refine opsJ_pure rfl (by rfl) (fun w => run_eqv (fun K hK => by go_simp; exact hK)) (fun w => by simp [go_sem]) ?_; try walk_nrm))
      refine opsJ_nil ?_
      (simp only [QJ.then, QJ.inBlock, if_true, if_false, reduceIte, Nat.reduceEqDiff])
      ((refine wpJ_region ?_; simp only [List.size_toArray, List.length_cons, List.length_nil, Nat.reduceAdd, Nat.zero_add, List.range, List.range.loop]))
      ((refine opsJ_pure rfl (by rfl) (fun w => run_eqv (fun K hK => by go_simp; exact hK)) (fun w => by simp [go_sem]) ?_; try walk_nrm))
      ((refine opsJ_ldN rfl (by rfl) rfl rfl hg (cs := (rw' true (p.r true)).cs) (fun j v h => by first | (rw [Nat.zero_add, List.getElem?_toArray]; exact h) | simpa using h) Try.underlying25 rfl size25 ?_; try walk_nrm))
      ((refine opsJ_pure rfl (by rfl) (fun w => run_eqv (fun K hK => by go_simp; exact hK)) (fun w => by simp [go_sem]) ?_; try walk_nrm))
      ((refine opsJ_call rfl (by rfl) rfl (by walk_nrm; exact (take_j _ m1 (β true) (p.c true) (nx true) (rw' true (p.r true)) (wt true) (en true) true (hx _ _ (hst true)))) ?_))
      rintro _ m2 _ ⟨rfl, rfl, k1, k2⟩
      walk_nrm
      refine opsJ_nil ?_
      (simp only [QJ.then, QJ.inBlock, if_true, if_false, reduceIte, Nat.reduceEqDiff])
      exact q_actL (Q := fun a => Q _ m2 .normal a) _ (by rfl) (by rfl) (by rfl) (by rfl) (by rfl) (by rfl) (by rfl) (by rfl) (by rfl) (by rfl) (by rfl) (by rfl) (hv true m2 _ hwb heb hr k1 fun δ o hn e => k2 δ o hn (hx δ o e))
  · have hwb : wt b = false := by cases h : wt b <;> simp_all
    have heb : en b = false := by cases h : en b <;> simp_all
    cases b with
    | false =>
      walk_nrm
      simp only [Bool.false_eq_true, if_false, if_true, hz0, kOf]
      ((refine opsJ_pure (v := (.int .i64 0)) rfl (by rfl) (fun w => by go_simp; try (first | rfl | decide | (simp [*, n_sh, IntKind.wrap_u64, IntKind.wrap_u32, IntKind.wrap_i32, IntKind.wrap_i64] <;> omega))) (fun w => by simp [go_sem, *]) ?_; walk_nrm))
      ((refine opsJ_pure (v := (.bool true)) rfl (by rfl) (fun w => by go_simp; try (first | rfl | decide | (simp [*, n_sh, IntKind.wrap_u64, IntKind.wrap_u32, IntKind.wrap_i32, IntKind.wrap_i64] <;> omega))) (fun w => by simp [go_sem, *]) ?_; walk_nrm))
      ((refine opsJ_pure (v := (.bool false)) rfl (by rfl) (fun w => by go_simp; try (first | rfl | decide | (simp [*, n_sh, IntKind.wrap_u64, IntKind.wrap_u32, IntKind.wrap_i32, IntKind.wrap_i64] <;> omega))) (fun w => by simp [go_sem, *]) ?_; walk_nrm))
      refine opsJ_nil ?_
      (simp only [QJ.then, QJ.inBlock, if_true, if_false, reduceIte, Nat.reduceEqDiff])
      refine wpJ_block (id := 2) ?_
      ((refine wpJ_cond (by rfl) ?_; simp only [if_true, if_false, reduceIte, Bool.false_eq_true]))
      ((first | refine wpJ_seq ?_ | refine wpJ_block ?_ | refine wpJ_skip ?_ | refine wpJ_label ?_ | refine wpJ_ret ?_ | refine wpJ_exit ?_ | refine opsJ_nil ?_))
      ((refine wpJ_region ?_; simp only [List.size_toArray, List.length_cons, List.length_nil, Nat.reduceAdd, Nat.zero_add, List.range, List.range.loop]))
      ((refine opsJ_pure (v := (.agg r0.cs.toArray)) rfl (by rfl) (fun w => by go_simp; try (first | rfl | decide | (simp [*, n_sh, IntKind.wrap_u64, IntKind.wrap_u32, IntKind.wrap_i32, IntKind.wrap_i64] <;> omega))) (fun w => by simp [go_sem, *]) ?_; walk_nrm))
      ((refine opsJ_pure (v := (.bool false)) rfl (by rfl) (fun w => by go_simp; try (first | rfl | decide | (simp [*, n_sh, IntKind.wrap_u64, IntKind.wrap_u32, IntKind.wrap_i32, IntKind.wrap_i64] <;> omega))) (fun w => by simp [go_sem, *]) ?_; walk_nrm))
      refine opsJ_new rfl (by rfl) (f := fun γ => .pointer (some ⟨γ, 0, none⟩)) (ob := .cells r0.cs.toArray 25) (fun w => by go_simp; rfl) (fun w => by simp [go_sem]) (fun γ hγ hmγ => ?_)
      walk_nrm
      ((refine opsJ_stN rfl (by rfl) rfl rfl rfl (PM.set_same _ _ _) (of_decide_eq_true rfl) (one_cs r0) size25 ?_; try walk_nrm))
      have q1 : putAll r0.cs.toArray 0 r0.cs.toArray.toList = r0.cs.toArray := rfl
      rw [q1]
      have hg : ((PM.set m γ (.cells r0.cs.toArray 25)).set γ (.cells r0.cs.toArray 25)) γ = some (.cells r0.cs.toArray 25 (0, 0)) := PM.set_same _ _ _
      have hx : Ext m ((PM.set m γ (.cells r0.cs.toArray 25)).set γ (.cells r0.cs.toArray 25)) := fun δ o e => by
        have hne : δ ≠ γ := fun h => by rw [h, hmγ] at e; cases e
        rw [PM.set_ne _ _ hne, PM.set_ne _ _ hne]; exact e
      generalize ((PM.set m γ (.cells r0.cs.toArray 25)).set γ (.cells r0.cs.toArray 25)) = m1 at hg hx ⊢
      ((refine opsJ_pure rfl (by rfl) (fun w => run_eqv (fun K hK => by go_simp; exact hK)) (fun w => by simp [go_sem]) ?_; try walk_nrm))
      refine opsJ_nil ?_
      (simp only [QJ.then, QJ.inBlock, if_true, if_false, reduceIte, Nat.reduceEqDiff])
      ((refine wpJ_region ?_; simp only [List.size_toArray, List.length_cons, List.length_nil, Nat.reduceAdd, Nat.zero_add, List.range, List.range.loop]))
      ((refine opsJ_pure rfl (by rfl) (fun w => run_eqv (fun K hK => by go_simp; exact hK)) (fun w => by simp [go_sem]) ?_; try walk_nrm))
      ((refine opsJ_ldN rfl (by rfl) rfl rfl hg (cs := r0.cs) (fun j v h => by first | (rw [Nat.zero_add, List.getElem?_toArray]; exact h) | simpa using h) Try.underlying25 rfl size25 ?_; try walk_nrm))
      ((refine opsJ_pure rfl (by rfl) (fun w => run_eqv (fun K hK => by go_simp; exact hK)) (fun w => by simp [go_sem]) ?_; try walk_nrm))
      ((refine opsJ_call rfl (by rfl) rfl (by walk_nrm; exact (take_j _ m1 (β false) (p.c false) (nx false) r0 (wt false) (en false) false (hx _ _ (hst false)))) ?_))
      rintro _ m2 _ ⟨rfl, rfl, k1, k2⟩
      walk_nrm
      refine opsJ_nil ?_
      (simp only [QJ.then, QJ.inBlock, if_true, if_false, reduceIte, Nat.reduceEqDiff])
      exact q_actL (Q := fun a => Q _ m2 .normal a) _ (by rfl) (by rfl) (by rfl) (by rfl) (by rfl) (by rfl) (by rfl) (by rfl) (by rfl) (by rfl) (by rfl) (by rfl) (hz false m2 _ hwb heb hr k1 fun δ o hn e => k2 δ o hn (hx δ o e))
    | true =>
      walk_nrm
      simp only [Bool.false_eq_true, if_false, if_true, hz0, kOf]
      ((refine opsJ_pure (v := (.int .i64 1)) rfl (by rfl) (fun w => by go_simp; try (first | rfl | decide | (simp [*, n_sh, IntKind.wrap_u64, IntKind.wrap_u32, IntKind.wrap_i32, IntKind.wrap_i64] <;> omega))) (fun w => by simp [go_sem, *]) ?_; walk_nrm))
      ((refine opsJ_pure (v := (.bool false)) rfl (by rfl) (fun w => by go_simp; try (first | rfl | decide | (simp [*, n_sh, IntKind.wrap_u64, IntKind.wrap_u32, IntKind.wrap_i32, IntKind.wrap_i64] <;> omega))) (fun w => by simp [go_sem, *]) ?_; walk_nrm))
      ((refine opsJ_pure (v := (.bool true)) rfl (by rfl) (fun w => by go_simp; try (first | rfl | decide | (simp [*, n_sh, IntKind.wrap_u64, IntKind.wrap_u32, IntKind.wrap_i32, IntKind.wrap_i64] <;> omega))) (fun w => by simp [go_sem, *]) ?_; walk_nrm))
      refine opsJ_nil ?_
      (simp only [QJ.then, QJ.inBlock, if_true, if_false, reduceIte, Nat.reduceEqDiff])
      refine wpJ_block (id := 2) ?_
      ((refine wpJ_cond (by rfl) ?_; simp only [if_true, if_false, reduceIte, Bool.false_eq_true]))
      ((refine wpJ_cond (by rfl) ?_; simp only [if_true, if_false, reduceIte, Bool.false_eq_true]))
      ((first | refine wpJ_seq ?_ | refine wpJ_block ?_ | refine wpJ_skip ?_ | refine wpJ_label ?_ | refine wpJ_ret ?_ | refine wpJ_exit ?_ | refine opsJ_nil ?_))
      ((refine wpJ_region ?_; simp only [List.size_toArray, List.length_cons, List.length_nil, Nat.reduceAdd, Nat.zero_add, List.range, List.range.loop]))
      ((refine opsJ_pure (v := (.agg r0.cs.toArray)) rfl (by rfl) (fun w => by go_simp; try (first | rfl | decide | (simp [*, n_sh, IntKind.wrap_u64, IntKind.wrap_u32, IntKind.wrap_i32, IntKind.wrap_i64] <;> omega))) (fun w => by simp [go_sem, *]) ?_; walk_nrm))
      ((refine opsJ_pure (v := (.bool false)) rfl (by rfl) (fun w => by go_simp; try (first | rfl | decide | (simp [*, n_sh, IntKind.wrap_u64, IntKind.wrap_u32, IntKind.wrap_i32, IntKind.wrap_i64] <;> omega))) (fun w => by simp [go_sem, *]) ?_; walk_nrm))
      refine opsJ_new rfl (by rfl) (f := fun γ => .pointer (some ⟨γ, 0, none⟩)) (ob := .cells r0.cs.toArray 25) (fun w => by go_simp; rfl) (fun w => by simp [go_sem]) (fun γ hγ hmγ => ?_)
      walk_nrm
      ((refine opsJ_stN rfl (by rfl) rfl rfl rfl (PM.set_same _ _ _) (of_decide_eq_true rfl) (one_cs r0) size25 ?_; try walk_nrm))
      have q1 : putAll r0.cs.toArray 0 r0.cs.toArray.toList = r0.cs.toArray := rfl
      rw [q1]
      have hg : ((PM.set m γ (.cells r0.cs.toArray 25)).set γ (.cells r0.cs.toArray 25)) γ = some (.cells r0.cs.toArray 25 (0, 0)) := PM.set_same _ _ _
      have hx : Ext m ((PM.set m γ (.cells r0.cs.toArray 25)).set γ (.cells r0.cs.toArray 25)) := fun δ o e => by
        have hne : δ ≠ γ := fun h => by rw [h, hmγ] at e; cases e
        rw [PM.set_ne _ _ hne, PM.set_ne _ _ hne]; exact e
      generalize ((PM.set m γ (.cells r0.cs.toArray 25)).set γ (.cells r0.cs.toArray 25)) = m1 at hg hx ⊢
      ((refine opsJ_pure rfl (by rfl) (fun w => run_eqv (fun K hK => by go_simp; exact hK)) (fun w => by simp [go_sem]) ?_; try walk_nrm))
      refine opsJ_nil ?_
      (simp only [QJ.then, QJ.inBlock, if_true, if_false, reduceIte, Nat.reduceEqDiff])
      ((refine wpJ_region ?_; simp only [List.size_toArray, List.length_cons, List.length_nil, Nat.reduceAdd, Nat.zero_add, List.range, List.range.loop]))
      ((refine opsJ_pure rfl (by rfl) (fun w => run_eqv (fun K hK => by go_simp; exact hK)) (fun w => by simp [go_sem]) ?_; try walk_nrm))
      ((refine opsJ_ldN rfl (by rfl) rfl rfl hg (cs := r0.cs) (fun j v h => by first | (rw [Nat.zero_add, List.getElem?_toArray]; exact h) | simpa using h) Try.underlying25 rfl size25 ?_; try walk_nrm))
      ((refine opsJ_pure rfl (by rfl) (fun w => run_eqv (fun K hK => by go_simp; exact hK)) (fun w => by simp [go_sem]) ?_; try walk_nrm))
      ((refine opsJ_call rfl (by rfl) rfl (by walk_nrm; exact (take_j _ m1 (β true) (p.c true) (nx true) r0 (wt true) (en true) false (hx _ _ (hst true)))) ?_))
      rintro _ m2 _ ⟨rfl, rfl, k1, k2⟩
      walk_nrm
      refine opsJ_nil ?_
      (simp only [QJ.then, QJ.inBlock, if_true, if_false, reduceIte, Nat.reduceEqDiff])
      exact q_actL (Q := fun a => Q _ m2 .normal a) _ (by rfl) (by rfl) (by rfl) (by rfl) (by rfl) (by rfl) (by rfl) (by rfl) (by rfl) (by rfl) (by rfl) (by rfl) (hz true m2 _ hwb heb hr k1 fun δ o hn e => k2 δ o hn (hx δ o e))
end
end Go.Proofs.Ytafnbmokegomaaa
