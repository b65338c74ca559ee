/-
  known.
-/
import Derived.Test.YtafnbmokegomaaaTwo
import Derived.Conc.EventLaws2
set_option linter.unusedSimpArgs false
set_option linter.unusedVariables false
set_option linter.unusedSectionVars false
namespace Go.Proofs.Ytafnbmokegomaaa
open Go.Conc Go.RowKit

def ra : Rt := ⟨4, 0, 0, false, 0, 0, 0⟩
def rb : Rt := ⟨8, 0, 0, false, 0, 0, 0⟩
theorem under34 : Try.prog.underlying 34 = some (.array 2 25) := by kernel_rfl
theorem evIdx34 {a : Addr} {i : Int} {w : World} {es : Array Event} (h : 0 ≤ i ∧ i < 2) : (Instr.indexAt 34 (.pointer (some a)) (.int .i64 i)).events Try.prog w es = es := events_indexAt_array 34 25 2 a .i64 i under34 h
def itAB (i : Nat) : Rt := if i = 0 then ra else rb
def itB (_ : Nat) : Rt := rb
def itA (_ : Nat) : Rt := ra
theorem row2 {m : PM} {β cap : Nat} {x y : Rt} {it : Nat → Rt} (h : m β = some (.cells (x.cs ++ y.cs).toArray 25 (0, 0))) (h0 : it 0 = x := by rfl) (h1 : it 1 = y := by rfl) : RowP m (.slice (some ⟨β, 0, none⟩) 2 cap) 2 it :=
  ⟨⟨_, _, rfl⟩, fun _ => ⟨β, 0, _, _, _, cap, rfl, h, fun i hi j v e => by
    rw [Nat.zero_add]
    obtain rfl | rfl : i = 0 ∨ i = 1 := by omega
    · rw [h0] at e
      have hj : j < 7 := (List.getElem?_eq_some_iff.1 e).1
      rw [List.getElem?_toArray, List.getElem?_append_left (by show 0 * 7 + j < 7; omega)]
      simpa using e
    · rw [h1] at e
      rw [List.getElem?_toArray, List.getElem?_append_right (by show 7 ≤ 1 * 7 + j; omega)]
      have : 1 * 7 + j - x.cs.length = j := by show 1 * 7 + j - 7 = j; omega
      rw [this]; exact e⟩⟩
theorem row1 {m : PM} {β cap : Nat} {x : Rt} {it : Nat → Rt} (h : m β = some (.cells x.cs.toArray 25 (0, 0))) (h0 : it 0 = x := by rfl) : RowP m (.slice (some ⟨β, 0, none⟩) 1 cap) 1 it :=
  ⟨⟨_, _, rfl⟩, fun _ => ⟨β, 0, _, _, _, cap, rfl, h, fun i hi j v e => by
    rw [Nat.zero_add]
    obtain rfl : i = 0 := by omega
    rw [h0] at e
    rw [List.getElem?_toArray, Nat.zero_mul, Nat.zero_add]
    exact e⟩⟩
section
variable [Io] {Fin : Value → World → Prop}
set_option maxRecDepth 100000 in
set_option maxHeartbeats 2000000 in
theorem known_j {sh sf : Nat → Prop} (m : PM) : CallsJ Try.prog Fin 7 #[] (.out sh sf false none) m
      fun s' m' v => (∃ sh' sf', s' = .out sh' sf' false none) ∧ v = .bool true ∧ Ext m m' := by
  ((refine callsJ_of Try.func7 (by rfl) rfl ?_; simp only [Try.ntmps7, List.size_toArray, List.length_cons, List.length_nil, Nat.reduceAdd, Nat.reduceSub, Array.replicate_succ, Array.replicate_zero, List.push_toArray, List.append_toArray, List.nil_append, List.cons_append]))
  ((first | refine wpJ_seq ?_ | refine wpJ_block ?_ | refine wpJ_skip ?_ | refine wpJ_label ?_ | refine wpJ_ret ?_ | refine wpJ_exit ?_ | refine opsJ_nil ?_))
  ((refine wpJ_region ?_; simp only [List.size_toArray, List.length_cons, List.length_nil, Nat.reduceAdd, Nat.zero_add, List.range, List.range.loop]))
  ((refine opsJ_pure rfl (by rfl) (fun w => run_eqv (fun K hK => by go_simp; exact hK)) (fun w => by simp [go_sem]) ?_; try walk_nrm))
  refine opsJ_nil ?_
  (simp only [QJ.then, QJ.inBlock, if_true, if_false, reduceIte, Nat.reduceEqDiff])
  ((first | refine wpJ_seq ?_ | refine wpJ_block ?_ | refine wpJ_skip ?_ | refine wpJ_label ?_ | refine wpJ_ret ?_ | refine wpJ_exit ?_ | refine opsJ_nil ?_))
  ((refine wpJ_region ?_; simp only [List.size_toArray, List.length_cons, List.length_nil, Nat.reduceAdd, Nat.zero_add, List.range, List.range.loop]))
  ((refine opsJ_pure rfl (by rfl) (fun w => run_eqv (fun K hK => by go_simp; exact hK)) (fun w => by simp [go_sem]) ?_; try walk_nrm))
  ((refine opsJ_pure rfl (by rfl) (fun w => run_eqv (fun K hK => by go_simp; exact hK)) (fun w => by simp [go_sem]) ?_; try walk_nrm))
  ((refine opsJ_new rfl (by rfl) (f := fun β => (.pointer (some ⟨β, 0, none⟩))) (ob := (.cells r0.cs.toArray 25)) (fun w => by go_simp; rfl) (fun w => by simp [go_sem]) (fun β hβ hm => ?_); try walk_nrm))
  ((refine opsJ_new rfl (by rfl) (f := fun γ => (.pointer (some ⟨γ, 0, none⟩))) (ob := (.cells r0.cs.toArray 25)) (fun w => by go_simp; rfl) (fun w => by simp [go_sem]) (fun γ hγ hm' => ?_); try walk_nrm))
  have hne : β ≠ γ := fun e => by subst e; rw [PM.set_same] at hm'; cases hm'
  have hmγ : m γ = none := by rwa [PM.set_ne _ _ hne.symm] at hm'
  have g1 : ((m.set β (.cells r0.cs.toArray 25)).set γ (.cells r0.cs.toArray 25)) β = some (.cells r0.cs.toArray 25 (0, 0)) := by rw [PM.set_ne _ _ hne, PM.set_same]
  ((refine opsJ_stN rfl (by rfl) rfl rfl rfl g1 (of_decide_eq_true rfl) (by simp [Value.oneCell']) size25 ?_; try walk_nrm))
  have p1 : putAll r0.cs.toArray 0 ra.cs = ra.cs.toArray := rfl
  change OpsJ _ _ _ _ _ _ _ (((m.set β (.cells r0.cs.toArray 25)).set γ (.cells r0.cs.toArray 25)).set β (.cells ra.cs.toArray 25)) _
  have g2 : (((m.set β (.cells r0.cs.toArray 25)).set γ (.cells r0.cs.toArray 25)).set β (.cells ra.cs.toArray 25)) γ = some (.cells r0.cs.toArray 25 (0, 0)) := by rw [PM.set_ne _ _ hne.symm, PM.set_same]
  ((refine opsJ_stN rfl (by rfl) rfl rfl rfl g2 (of_decide_eq_true rfl) (by simp [Value.oneCell']) size25 ?_; try walk_nrm))
  change OpsJ _ _ _ _ _ _ _ ((((m.set β (.cells r0.cs.toArray 25)).set γ (.cells r0.cs.toArray 25)).set β (.cells ra.cs.toArray 25)).set γ (.cells rb.cs.toArray 25)) _
  have e1 : ((((m.set β (.cells r0.cs.toArray 25)).set γ (.cells r0.cs.toArray 25)).set β (.cells ra.cs.toArray 25)).set γ (.cells rb.cs.toArray 25)) β = some (.cells ra.cs.toArray 25 (0, 0)) := by rw [PM.set_ne _ _ hne, PM.set_same]
  have e2 : ((((m.set β (.cells r0.cs.toArray 25)).set γ (.cells r0.cs.toArray 25)).set β (.cells ra.cs.toArray 25)).set γ (.cells rb.cs.toArray 25)) γ = some (.cells rb.cs.toArray 25 (0, 0)) := PM.set_same _ _ _
  have hx : Ext m ((((m.set β (.cells r0.cs.toArray 25)).set γ (.cells r0.cs.toArray 25)).set β (.cells ra.cs.toArray 25)).set γ (.cells rb.cs.toArray 25)) := fun δ o e => by
    have h1 : δ ≠ β := fun h => by rw [h, hm] at e; cases e
    have h2 : δ ≠ γ := fun h => by rw [h, hmγ] at e; cases e
    rw [PM.set_ne _ _ h2, PM.set_ne _ _ h1, PM.set_ne _ _ h2, PM.set_ne _ _ h1]; exact e
  generalize ((((m.set β (.cells r0.cs.toArray 25)).set γ (.cells r0.cs.toArray 25)).set β (.cells ra.cs.toArray 25)).set γ (.cells rb.cs.toArray 25)) = m1 at e1 e2 hx ⊢
  refine opsJ_nil ?_
  (simp only [QJ.then, QJ.inBlock, if_true, if_false, reduceIte, Nat.reduceEqDiff])
  ((first | refine wpJ_seq ?_ | refine wpJ_block ?_ | refine wpJ_skip ?_ | refine wpJ_label ?_ | refine wpJ_ret ?_ | refine wpJ_exit ?_ | refine opsJ_nil ?_))
  ((refine wpJ_region ?_; simp only [List.size_toArray, List.length_cons, List.length_nil, Nat.reduceAdd, Nat.zero_add, List.range, List.range.loop]))
  ((refine opsJ_ldN rfl (by rfl) rfl rfl e1 (cs := ra.cs) (fun j v h => by first | (rw [Nat.zero_add, List.getElem?_toArray]; exact h) | simpa using h) Try.underlying25 rfl size25 ?_; try walk_nrm))
  ((refine opsJ_ldN rfl (by rfl) rfl rfl e2 (cs := rb.cs) (fun j v h => by first | (rw [Nat.zero_add, List.getElem?_toArray]; exact h) | simpa using h) Try.underlying25 rfl size25 ?_; try walk_nrm))
  ((refine opsJ_new rfl (by rfl) (f := fun d1 => (.slice (some ⟨d1, 0, none⟩) 2 2)) (ob := (.cells (ra.cs ++ rb.cs).toArray 25)) (fun w => by go_simp; rfl) (fun w => by simp [go_sem, ra, rb, Rt.cs]) (fun d1 hd1 hn1 => ?_); try walk_nrm))
  have hx1 : Ext m1 (m1.set d1 (.cells (ra.cs ++ rb.cs).toArray 25)) := Ext.set hn1 _
  have f1 : (m1.set d1 (.cells (ra.cs ++ rb.cs).toArray 25)) d1 = some (.cells (ra.cs ++ rb.cs).toArray 25 (0, 0)) := PM.set_same _ _ _
  generalize (m1.set d1 (.cells (ra.cs ++ rb.cs).toArray 25)) = m2 at hx1 f1 ⊢
  ((refine opsJ_ldN rfl (by rfl) rfl rfl (hx1 _ _ e2) (cs := rb.cs) (fun j v h => by first | (rw [Nat.zero_add, List.getElem?_toArray]; exact h) | simpa using h) Try.underlying25 rfl size25 ?_; try walk_nrm))
  ((refine opsJ_new rfl (by rfl) (f := fun d2 => (.slice (some ⟨d2, 0, none⟩) 1 1)) (ob := (.cells rb.cs.toArray 25)) (fun w => by go_simp; rfl) (fun w => by simp [go_sem, ra, rb, Rt.cs]) (fun d2 hd2 hn2 => ?_); try walk_nrm))
  have hx2 : Ext m2 (m2.set d2 (.cells rb.cs.toArray 25)) := Ext.set hn2 _
  have f2 : (m2.set d2 (.cells rb.cs.toArray 25)) d2 = some (.cells rb.cs.toArray 25 (0, 0)) := PM.set_same _ _ _
  generalize (m2.set d2 (.cells rb.cs.toArray 25)) = m3 at hx2 f2 ⊢
  refine opsJ_call rfl (by rfl) rfl (by walk_nrm; exact pairs_m (nA := 2) (nB := 1) (x := itAB) (y := itB) (row2 (hx2 _ _ f1)) (row1 f2) (by omega) (by omega)) ?_
  rintro _ m4 _ ⟨⟨sh1, sf1, rfl⟩, v, l, rfl, hl, hv, -, hx3⟩
  walk_nrm
  obtain rfl : l = 1 := by omega
  ((refine opsJ_pure rfl (by rfl) (fun w => run_eqv (fun K hK => by go_simp; exact hK)) (fun w => by simp [go_sem]) ?_; try walk_nrm))
  ((refine opsJ_pure rfl (by rfl) (fun w => run_eqv (fun K hK => by go_simp; exact hK)) (fun w => by simp [go_sem]) ?_; try walk_nrm))
  ((refine opsJ_pure rfl (by rfl) (fun w => run_eqv (fun K hK => by go_simp; exact hK)) (fun w => by simp [go_sem]) ?_; try walk_nrm))
  ((refine opsJ_pure rfl (by rfl) (fun w => run_eqv (fun K hK => by go_simp; exact hK)) (fun w => by simp [go_sem]) ?_; try walk_nrm))
  ((refine opsJ_pure rfl (by rfl) (fun w => run_eqv (fun K hK => by go_simp; exact hK)) (fun w => by simp [go_sem]) ?_; try walk_nrm))
  refine opsJ_nil ?_
  (simp only [QJ.then, QJ.inBlock, if_true, if_false, reduceIte, Nat.reduceEqDiff])
  ((first | refine wpJ_seq ?_ | refine wpJ_block ?_ | refine wpJ_skip ?_ | refine wpJ_label ?_ | refine wpJ_ret ?_ | refine wpJ_exit ?_ | refine opsJ_nil ?_))
  ((refine wpJ_region ?_; simp only [List.size_toArray, List.length_cons, List.length_nil, Nat.reduceAdd, Nat.zero_add, List.range, List.range.loop]))
  ((refine opsJ_ldN rfl (by rfl) rfl rfl (hx3 _ _ (hx2 _ _ (hx1 _ _ e1))) (cs := ra.cs) (fun j v h => by first | (rw [Nat.zero_add, List.getElem?_toArray]; exact h) | simpa using h) Try.underlying25 rfl size25 ?_; try walk_nrm))
  ((refine opsJ_ldN rfl (by rfl) rfl rfl (hx3 _ _ (hx2 _ _ (hx1 _ _ e2))) (cs := rb.cs) (fun j v h => by first | (rw [Nat.zero_add, List.getElem?_toArray]; exact h) | simpa using h) Try.underlying25 rfl size25 ?_; try walk_nrm))
  ((refine opsJ_new rfl (by rfl) (f := fun d3 => (.slice (some ⟨d3, 0, none⟩) 2 2)) (ob := (.cells (ra.cs ++ rb.cs).toArray 25)) (fun w => by go_simp; rfl) (fun w => by simp [go_sem, ra, rb, Rt.cs]) (fun d3 hd3 hn3 => ?_); try walk_nrm))
  have hx4 : Ext m4 (m4.set d3 (.cells (ra.cs ++ rb.cs).toArray 25)) := Ext.set hn3 _
  have f3 : (m4.set d3 (.cells (ra.cs ++ rb.cs).toArray 25)) d3 = some (.cells (ra.cs ++ rb.cs).toArray 25 (0, 0)) := PM.set_same _ _ _
  generalize (m4.set d3 (.cells (ra.cs ++ rb.cs).toArray 25)) = m5 at hx4 f3 ⊢
  ((refine opsJ_ldN rfl (by rfl) rfl rfl (hx4 _ _ (hx3 _ _ (hx2 _ _ (hx1 _ _ e1)))) (cs := ra.cs) (fun j v h => by first | (rw [Nat.zero_add, List.getElem?_toArray]; exact h) | simpa using h) Try.underlying25 rfl size25 ?_; try walk_nrm))
  ((refine opsJ_ldN rfl (by rfl) rfl rfl (hx4 _ _ (hx3 _ _ (hx2 _ _ (hx1 _ _ e2)))) (cs := rb.cs) (fun j v h => by first | (rw [Nat.zero_add, List.getElem?_toArray]; exact h) | simpa using h) Try.underlying25 rfl size25 ?_; try walk_nrm))
  ((refine opsJ_new rfl (by rfl) (f := fun d4 => (.slice (some ⟨d4, 0, none⟩) 2 2)) (ob := (.cells (ra.cs ++ rb.cs).toArray 25)) (fun w => by go_simp; rfl) (fun w => by simp [go_sem, ra, rb, Rt.cs]) (fun d4 hd4 hn4 => ?_); try walk_nrm))
  have hx5 : Ext m5 (m5.set d4 (.cells (ra.cs ++ rb.cs).toArray 25)) := Ext.set hn4 _
  have f4 : (m5.set d4 (.cells (ra.cs ++ rb.cs).toArray 25)) d4 = some (.cells (ra.cs ++ rb.cs).toArray 25 (0, 0)) := PM.set_same _ _ _
  generalize (m5.set d4 (.cells (ra.cs ++ rb.cs).toArray 25)) = m6 at hx5 f4 ⊢
  refine opsJ_call rfl (by rfl) rfl (by walk_nrm; exact agree_m (nA := 2) (nB := 2) (x := itAB) (y := itAB) (row2 (hx5 _ _ f3)) (row2 f4) (by omega) (by omega)) ?_
  rintro _ m7 _ ⟨⟨sh2, sf2, rfl⟩, rfl, hx6⟩
  rw [show agr (ofB itAB itAB) (min 2 2) = (true, 2) from rfl]
  change OpsJ _ _ _ _ _ _ _ _ (Act.put _ _ (.tuple #[.int .i64 2, .bool true]))
  walk_nrm
  ((refine opsJ_pure rfl (by rfl) (fun w => run_eqv (fun K hK => by go_simp; exact hK)) (fun w => by simp [go_sem]) ?_; try walk_nrm))
  ((refine opsJ_pure rfl (by rfl) (fun w => run_eqv (fun K hK => by go_simp; exact hK)) (fun w => by simp [go_sem]) ?_; try walk_nrm))
  ((refine opsJ_pure rfl (by rfl) (fun w => run_eqv (fun K hK => by go_simp; exact hK)) (fun w => by simp [go_sem]) ?_; try walk_nrm))
  ((refine opsJ_pure rfl (by rfl) (fun w => run_eqv (fun K hK => by go_simp; exact hK)) (fun w => by simp [go_sem]) ?_; try walk_nrm))
  ((refine opsJ_pure rfl (by rfl) (fun w => run_eqv (fun K hK => by go_simp; exact hK)) (fun w => by simp [go_sem]) ?_; try walk_nrm))
  refine opsJ_nil ?_
  (simp only [QJ.then, QJ.inBlock, if_true, if_false, reduceIte, Nat.reduceEqDiff])
  ((first | refine wpJ_seq ?_ | refine wpJ_block ?_ | refine wpJ_skip ?_ | refine wpJ_label ?_ | refine wpJ_ret ?_ | refine wpJ_exit ?_ | refine opsJ_nil ?_))
  ((refine wpJ_region ?_; simp only [List.size_toArray, List.length_cons, List.length_nil, Nat.reduceAdd, Nat.zero_add, List.range, List.range.loop]))
  have E1 := hx6 _ _ (hx5 _ _ (hx4 _ _ (hx3 _ _ (hx2 _ _ (hx1 _ _ e1)))))
  have E2 := hx6 _ _ (hx5 _ _ (hx4 _ _ (hx3 _ _ (hx2 _ _ (hx1 _ _ e2)))))
  have HX : Ext m m7 := hx.trans (hx1.trans (hx2.trans (hx3.trans (hx4.trans (hx5.trans hx6)))))
  have HV := hv.kept (m' := m7) fun g o _ e => hx6 _ _ (hx5 _ _ (hx4 _ _ e))
  clear hx hx1 hx2 hx3 hx4 hx5 hx6 hv f1 f2 f3 f4
  ((refine opsJ_ldN rfl (by rfl) rfl rfl E2 (cs := rb.cs) (fun j v h => by first | (rw [Nat.zero_add, List.getElem?_toArray]; exact h) | simpa using h) Try.underlying25 rfl size25 ?_; try walk_nrm))
  ((refine opsJ_new rfl (by rfl) (f := fun d5 => (.slice (some ⟨d5, 0, none⟩) 1 1)) (ob := (.cells rb.cs.toArray 25)) (fun w => by go_simp; rfl) (fun w => by simp [go_sem, ra, rb, Rt.cs]) (fun d5 hd5 hn5 => ?_); try walk_nrm))
  have hx7 : Ext m7 (m7.set d5 (.cells rb.cs.toArray 25)) := Ext.set hn5 _
  have f5 : (m7.set d5 (.cells rb.cs.toArray 25)) d5 = some (.cells rb.cs.toArray 25 (0, 0)) := PM.set_same _ _ _
  generalize (m7.set d5 (.cells rb.cs.toArray 25)) = m8 at hx7 f5 ⊢
  ((refine opsJ_ldN rfl (by rfl) rfl rfl (hx7 _ _ E1) (cs := ra.cs) (fun j v h => by first | (rw [Nat.zero_add, List.getElem?_toArray]; exact h) | simpa using h) Try.underlying25 rfl size25 ?_; try walk_nrm))
  ((refine opsJ_new rfl (by rfl) (f := fun d6 => (.slice (some ⟨d6, 0, none⟩) 1 1)) (ob := (.cells ra.cs.toArray 25)) (fun w => by go_simp; rfl) (fun w => by simp [go_sem, ra, rb, Rt.cs]) (fun d6 hd6 hn6 => ?_); try walk_nrm))
  have hx8 : Ext m8 (m8.set d6 (.cells ra.cs.toArray 25)) := Ext.set hn6 _
  have f6 : (m8.set d6 (.cells ra.cs.toArray 25)) d6 = some (.cells ra.cs.toArray 25 (0, 0)) := PM.set_same _ _ _
  generalize (m8.set d6 (.cells ra.cs.toArray 25)) = m9 at hx8 f6 ⊢
  refine opsJ_call rfl (by rfl) rfl (by walk_nrm; exact agree_m (nA := 1) (nB := 1) (x := itB) (y := itA) (row1 (hx8 _ _ f5)) (row1 f6) (by omega) (by omega)) ?_
  rintro _ m10 _ ⟨⟨sh3, sf3, rfl⟩, rfl, hx9⟩
  rw [show agr (ofB itB itA) (min 1 1) = (false, 0) from rfl]
  change OpsJ _ _ _ _ _ _ _ _ (Act.put _ _ (.tuple #[.int .i64 0, .bool false]))
  walk_nrm
  ((refine opsJ_pure rfl (by rfl) (fun w => run_eqv (fun K hK => by go_simp; exact hK)) (fun w => by simp [go_sem]) ?_; try walk_nrm))
  ((refine opsJ_pure rfl (by rfl) (fun w => run_eqv (fun K hK => by go_simp; exact hK)) (fun w => by simp [go_sem]) ?_; try walk_nrm))
  ((refine opsJ_pure rfl (by rfl) (fun w => run_eqv (fun K hK => by go_simp; exact hK)) (fun w => by simp [go_sem]) ?_; try walk_nrm))
  ((refine opsJ_pure rfl (by rfl) (fun w => run_eqv (fun K hK => by go_simp; exact hK)) (fun w => by simp [go_sem]) ?_; try walk_nrm))
  ((refine opsJ_pure rfl (by rfl) (fun w => run_eqv (fun K hK => by go_simp; exact hK)) (fun w => by simp [go_sem]) ?_; try walk_nrm))
  refine opsJ_nil ?_
  (simp only [QJ.then, QJ.inBlock, if_true, if_false, reduceIte, Nat.reduceEqDiff])
  replace E1 := hx9 _ _ (hx8 _ _ (hx7 _ _ E1))
  replace E2 := hx9 _ _ (hx8 _ _ (hx7 _ _ E2))
  replace HX := HX.trans (hx7.trans (hx8.trans hx9))
  replace HV := HV.kept (m' := m10) fun g o _ e => hx9 _ _ (hx8 _ _ (hx7 _ _ e))
  clear hx7 hx8 hx9 f5 f6
  obtain ⟨hlen, ⟨_, h0⟩ | ⟨g, cap, cur, rfl, hg, h1, h2, h3, h4⟩⟩ := HV
  · exact absurd h0 (by decide)
  have c0 : ∀ q, q < 14 → cur[q]? = (ra.cs ++ rb.cs)[q]? := fun q hq => by
    have h4' : cur.toList.take 14 = ra.cs ++ rb.cs := h4
    rw [← h4', List.getElem?_take_of_lt hq]; simp
  have c1 : ∀ j v, ra.cs[j]? = some v → cur[0 + j]? = some v := fun j v e => by
    have hj : j < 7 := (List.getElem?_eq_some_iff.1 e).1
    rw [Nat.zero_add, c0 j (by omega), List.getElem?_append_left (by exact hj)]; exact e
  have c2 : ∀ j v, rb.cs[j]? = some v → cur[7 + j]? = some v := fun j v e => by
    have hj : j < 7 := (List.getElem?_eq_some_iff.1 e).1
    rw [c0 (7 + j) (by omega), List.getElem?_append_right (by show 7 ≤ 7 + j; omega)]
    have : 7 + j - ra.cs.length = j := by show 7 + j - 7 = j; omega
    rw [this]; exact e
  have ld0 : ∀ (l : List Value) (j : Nat) (v : Value), l[j]? = some v → l.toArray[0 + j]? = some v := fun l j v e => by rw [Nat.zero_add, List.getElem?_toArray]; exact e
  clear hlen h1 h2 h3 h4 c0 hm hm' hmγ hne hβ hγ hd1 hd2 hd3 hd4 hd5 hd6 hn1 hn2 hn3 hn4 hn5 hn6 hl
  ((first | refine wpJ_seq ?_ | refine wpJ_block ?_ | refine wpJ_skip ?_ | refine wpJ_label ?_ | refine wpJ_ret ?_ | refine wpJ_exit ?_ | refine opsJ_nil ?_))
  refine wpJ_region_draw (id := 5) (by kernel_rfl) ?_
  simp only [List.size_toArray, List.length_cons, List.length_nil, Nat.reduceAdd, Nat.zero_add]
  ((refine anyJ_take (i := 0) (v := (.slice (some ⟨g, 0, none⟩) 1 cap)) rfl (by first | kernel_rfl | decide +kernel) (by first | kernel_rfl | decide +kernel) (by first | kernel_rfl | decide +kernel) (by first | kernel_rfl | decide +kernel) (yld_pure (by rfl) (fun w => by go_simp) (fun w => by simp [go_sem])) ?_; walk_nrm))
  ((refine anyJ_take (i := 1) (v := (.int .i64 1)) rfl (by first | kernel_rfl | decide +kernel) (by first | kernel_rfl | decide +kernel) (by first | kernel_rfl | decide +kernel) (by first | kernel_rfl | decide +kernel) (yld_pure (by rfl) (fun w => by go_simp) (fun w => by simp [go_sem])) ?_; walk_nrm))
  ((refine anyJ_take (i := 2) (v := (.bool true)) rfl (by first | kernel_rfl | decide +kernel) (by first | kernel_rfl | decide +kernel) (by first | kernel_rfl | decide +kernel) (by first | kernel_rfl | decide +kernel) (yld_pure (by rfl) (fun w => by go_simp) (fun w => by simp [go_sem])) ?_; walk_nrm))
  ((refine anyJ_take (i := 3) (v := (.bool true)) rfl (by first | kernel_rfl | decide +kernel) (by first | kernel_rfl | decide +kernel) (by first | kernel_rfl | decide +kernel) (by first | kernel_rfl | decide +kernel) (yld_pure (by rfl) (fun w => by go_simp) (fun w => by simp [go_sem])) ?_; walk_nrm))
  ((refine anyJ_take (i := 4) (v := (.slice (some ⟨g, 0, none⟩) 1 cap)) rfl (by first | kernel_rfl | decide +kernel) (by first | kernel_rfl | decide +kernel) (by first | kernel_rfl | decide +kernel) (by first | kernel_rfl | decide +kernel) (yld_pure (by rfl) (fun w => by go_simp) (fun w => by simp [go_sem])) ?_; walk_nrm))
  ((refine anyJ_take (i := 5) (v := (.pointer (some ⟨g, 0, none⟩))) rfl (by first | kernel_rfl | decide +kernel) (by first | kernel_rfl | decide +kernel) (by first | kernel_rfl | decide +kernel) (by first | kernel_rfl | decide +kernel) (yld_pure (by rfl) (fun w => by go_simp) (fun w => by simp [go_sem])) ?_; walk_nrm))
  ((refine anyJ_take (i := 6) (v := (.pointer (some ⟨g, 0, none⟩))) rfl (by first | kernel_rfl | decide +kernel) (by first | kernel_rfl | decide +kernel) (by first | kernel_rfl | decide +kernel) (by first | kernel_rfl | decide +kernel) (yld_pure (by rfl) (fun w => by go_simp) (fun w => by simp [go_sem, evIdx34])) ?_; walk_nrm))
  ((refine anyJ_take (i := 7) rfl (by first | kernel_rfl | decide +kernel) (by first | kernel_rfl | decide +kernel) (by first | kernel_rfl | decide +kernel) (by first | kernel_rfl | decide +kernel) (yld_ldN (cs := ra.cs) (by rfl) rfl rfl hg c1 Try.underlying25 rfl size25) ?_; walk_nrm))
  ((refine anyJ_take (i := 8) rfl (by first | kernel_rfl | decide +kernel) (by first | kernel_rfl | decide +kernel) (by first | kernel_rfl | decide +kernel) (by first | kernel_rfl | decide +kernel) (yld_ldN (cs := ra.cs) (by rfl) rfl rfl E1 (ld0 _) Try.underlying25 rfl size25) ?_; walk_nrm))
  ((refine anyJ_take (i := 9) (v := (.bool true)) rfl (by first | kernel_rfl | decide +kernel) (by first | kernel_rfl | decide +kernel) (by first | kernel_rfl | decide +kernel) (by first | kernel_rfl | decide +kernel) (yld_pure (by rfl) (fun w => by have E := eql25 ra ra w; go_simp; try rfl) (fun w => by simp [go_sem, runGuard25, evGuard25, evEql25])) ?_; walk_nrm))
  ((refine anyJ_take (i := 10) (v := (.bool true)) rfl (by first | kernel_rfl | decide +kernel) (by first | kernel_rfl | decide +kernel) (by first | kernel_rfl | decide +kernel) (by first | kernel_rfl | decide +kernel) (yld_pure (by rfl) (fun w => by go_simp) (fun w => by simp [go_sem])) ?_; walk_nrm))
  ((refine anyJ_take (i := 11) (v := (.bool true)) rfl (by first | kernel_rfl | decide +kernel) (by first | kernel_rfl | decide +kernel) (by first | kernel_rfl | decide +kernel) (by first | kernel_rfl | decide +kernel) (yld_pure (by rfl) (fun w => by go_simp) (fun w => by simp [go_sem])) ?_; walk_nrm))
  ((refine anyJ_take (i := 12) (v := (.slice (some ⟨g, 0, none⟩) 1 cap)) rfl (by first | kernel_rfl | decide +kernel) (by first | kernel_rfl | decide +kernel) (by first | kernel_rfl | decide +kernel) (by first | kernel_rfl | decide +kernel) (yld_pure (by rfl) (fun w => by go_simp) (fun w => by simp [go_sem])) ?_; walk_nrm))
  ((refine anyJ_take (i := 13) (v := (.pointer (some ⟨g, 0, none⟩))) rfl (by first | kernel_rfl | decide +kernel) (by first | kernel_rfl | decide +kernel) (by first | kernel_rfl | decide +kernel) (by first | kernel_rfl | decide +kernel) (yld_pure (by rfl) (fun w => by go_simp) (fun w => by simp [go_sem])) ?_; walk_nrm))
  ((refine anyJ_take (i := 14) (v := (.pointer (some ⟨g, 7, none⟩))) rfl (by first | kernel_rfl | decide +kernel) (by first | kernel_rfl | decide +kernel) (by first | kernel_rfl | decide +kernel) (by first | kernel_rfl | decide +kernel) (yld_pure (by rfl) (fun w => by go_simp) (fun w => by simp [go_sem, evIdx34])) ?_; walk_nrm))
  ((refine anyJ_take (i := 15) rfl (by first | kernel_rfl | decide +kernel) (by first | kernel_rfl | decide +kernel) (by first | kernel_rfl | decide +kernel) (by first | kernel_rfl | decide +kernel) (yld_ldN (cs := rb.cs) (by rfl) rfl rfl hg c2 Try.underlying25 rfl size25) ?_; walk_nrm))
  ((refine anyJ_take (i := 16) rfl (by first | kernel_rfl | decide +kernel) (by first | kernel_rfl | decide +kernel) (by first | kernel_rfl | decide +kernel) (by first | kernel_rfl | decide +kernel) (yld_ldN (cs := rb.cs) (by rfl) rfl rfl E2 (ld0 _) Try.underlying25 rfl size25) ?_; walk_nrm))
  ((refine anyJ_take (i := 17) (v := (.bool true)) rfl (by first | kernel_rfl | decide +kernel) (by first | kernel_rfl | decide +kernel) (by first | kernel_rfl | decide +kernel) (by first | kernel_rfl | decide +kernel) (yld_pure (by rfl) (fun w => by have E := eql25 rb rb w; go_simp; try rfl) (fun w => by simp [go_sem, runGuard25, evGuard25, evEql25])) ?_; walk_nrm))
  ((refine anyJ_take (i := 18) (v := (.bool true)) rfl (by first | kernel_rfl | decide +kernel) (by first | kernel_rfl | decide +kernel) (by first | kernel_rfl | decide +kernel) (by first | kernel_rfl | decide +kernel) (yld_pure (by rfl) (fun w => by go_simp) (fun w => by simp [go_sem])) ?_; walk_nrm))
  ((refine anyJ_take (i := 19) (v := (.bool true)) rfl (by first | kernel_rfl | decide +kernel) (by first | kernel_rfl | decide +kernel) (by first | kernel_rfl | decide +kernel) (by first | kernel_rfl | decide +kernel) (yld_pure (by rfl) (fun w => by go_simp) (fun w => by simp [go_sem])) ?_; walk_nrm))
  ((refine anyJ_take (i := 20) (v := (.int .i64 1)) rfl (by first | kernel_rfl | decide +kernel) (by first | kernel_rfl | decide +kernel) (by first | kernel_rfl | decide +kernel) (by first | kernel_rfl | decide +kernel) (yld_pure (by rfl) (fun w => by go_simp) (fun w => by simp [go_sem])) ?_; walk_nrm))
  ((refine anyJ_take (i := 21) (v := (.bool true)) rfl (by first | kernel_rfl | decide +kernel) (by first | kernel_rfl | decide +kernel) (by first | kernel_rfl | decide +kernel) (by first | kernel_rfl | decide +kernel) (yld_pure (by rfl) (fun w => by go_simp) (fun w => by simp [go_sem])) ?_; walk_nrm))
  ((refine anyJ_take (i := 22) (v := (.bool true)) rfl (by first | kernel_rfl | decide +kernel) (by first | kernel_rfl | decide +kernel) (by first | kernel_rfl | decide +kernel) (by first | kernel_rfl | decide +kernel) (yld_pure (by rfl) (fun w => by go_simp) (fun w => by simp [go_sem])) ?_; walk_nrm))
  ((refine anyJ_take (i := 23) (v := (.bool true)) rfl (by first | kernel_rfl | decide +kernel) (by first | kernel_rfl | decide +kernel) (by first | kernel_rfl | decide +kernel) (by first | kernel_rfl | decide +kernel) (yld_pure (by rfl) (fun w => by go_simp) (fun w => by simp [go_sem])) ?_; walk_nrm))
  ((refine anyJ_take (i := 24) (v := (.int .i64 2)) rfl (by first | kernel_rfl | decide +kernel) (by first | kernel_rfl | decide +kernel) (by first | kernel_rfl | decide +kernel) (by first | kernel_rfl | decide +kernel) (yld_pure (by rfl) (fun w => by go_simp) (fun w => by simp [go_sem])) ?_; walk_nrm))
  ((refine anyJ_take (i := 25) (v := (.bool true)) rfl (by first | kernel_rfl | decide +kernel) (by first | kernel_rfl | decide +kernel) (by first | kernel_rfl | decide +kernel) (by first | kernel_rfl | decide +kernel) (yld_pure (by rfl) (fun w => by go_simp) (fun w => by simp [go_sem])) ?_; walk_nrm))
  ((refine anyJ_take (i := 26) (v := (.bool true)) rfl (by first | kernel_rfl | decide +kernel) (by first | kernel_rfl | decide +kernel) (by first | kernel_rfl | decide +kernel) (by first | kernel_rfl | decide +kernel) (yld_pure (by rfl) (fun w => by go_simp) (fun w => by simp [go_sem])) ?_; walk_nrm))
  ((refine anyJ_take (i := 27) (v := (.bool true)) rfl (by first | kernel_rfl | decide +kernel) (by first | kernel_rfl | decide +kernel) (by first | kernel_rfl | decide +kernel) (by first | kernel_rfl | decide +kernel) (yld_pure (by rfl) (fun w => by go_simp) (fun w => by simp [go_sem])) ?_; walk_nrm))
  ((refine anyJ_take (i := 28) (v := (.bool true)) rfl (by first | kernel_rfl | decide +kernel) (by first | kernel_rfl | decide +kernel) (by first | kernel_rfl | decide +kernel) (by first | kernel_rfl | decide +kernel) (yld_pure (by rfl) (fun w => by go_simp) (fun w => by simp [go_sem])) ?_; walk_nrm))
  ((refine anyJ_take (i := 29) (v := (.bool true)) rfl (by first | kernel_rfl | decide +kernel) (by first | kernel_rfl | decide +kernel) (by first | kernel_rfl | decide +kernel) (by first | kernel_rfl | decide +kernel) (yld_pure (by rfl) (fun w => by go_simp) (fun w => by simp [go_sem])) ?_; walk_nrm))
  ((refine anyJ_take (i := 30) (v := (.bool true)) rfl (by first | kernel_rfl | decide +kernel) (by first | kernel_rfl | decide +kernel) (by first | kernel_rfl | decide +kernel) (by first | kernel_rfl | decide +kernel) (yld_pure (by rfl) (fun w => by go_simp) (fun w => by simp [go_sem])) ?_; walk_nrm))
  ((refine anyJ_take (i := 31) (v := (.int .i64 0)) rfl (by first | kernel_rfl | decide +kernel) (by first | kernel_rfl | decide +kernel) (by first | kernel_rfl | decide +kernel) (by first | kernel_rfl | decide +kernel) (yld_pure (by rfl) (fun w => by go_simp) (fun w => by simp [go_sem])) ?_; walk_nrm))
  ((refine anyJ_take (i := 32) (v := (.bool true)) rfl (by first | kernel_rfl | decide +kernel) (by first | kernel_rfl | decide +kernel) (by first | kernel_rfl | decide +kernel) (by first | kernel_rfl | decide +kernel) (yld_pure (by rfl) (fun w => by go_simp) (fun w => by simp [go_sem])) ?_; walk_nrm))
  ((refine anyJ_take (i := 33) (v := (.bool true)) rfl (by first | kernel_rfl | decide +kernel) (by first | kernel_rfl | decide +kernel) (by first | kernel_rfl | decide +kernel) (by first | kernel_rfl | decide +kernel) (yld_pure (by rfl) (fun w => by go_simp) (fun w => by simp [go_sem])) ?_; walk_nrm))
  ((refine anyJ_take (i := 34) (v := (.bool true)) rfl (by first | kernel_rfl | decide +kernel) (by first | kernel_rfl | decide +kernel) (by first | kernel_rfl | decide +kernel) (by first | kernel_rfl | decide +kernel) (yld_pure (by rfl) (fun w => by go_simp) (fun w => by simp [go_sem])) ?_; walk_nrm))
  ((refine anyJ_take (i := 35) (v := (.bool false)) rfl (by first | kernel_rfl | decide +kernel) (by first | kernel_rfl | decide +kernel) (by first | kernel_rfl | decide +kernel) (by first | kernel_rfl | decide +kernel) (yld_pure (by rfl) (fun w => by go_simp) (fun w => by simp [go_sem])) ?_; walk_nrm))
  ((refine anyJ_take (i := 36) (v := (.bool true)) rfl (by first | kernel_rfl | decide +kernel) (by first | kernel_rfl | decide +kernel) (by first | kernel_rfl | decide +kernel) (by first | kernel_rfl | decide +kernel) (yld_pure (by rfl) (fun w => by go_simp) (fun w => by simp [go_sem])) ?_; walk_nrm))
  ((refine anyJ_take (i := 37) (v := (.bool true)) rfl (by first | kernel_rfl | decide +kernel) (by first | kernel_rfl | decide +kernel) (by first | kernel_rfl | decide +kernel) (by first | kernel_rfl | decide +kernel) (yld_pure (by rfl) (fun w => by go_simp) (fun w => by simp [go_sem])) ?_; walk_nrm))
  ((refine anyJ_take (i := 38) (v := (.bool true)) rfl (by first | kernel_rfl | decide +kernel) (by first | kernel_rfl | decide +kernel) (by first | kernel_rfl | decide +kernel) (by first | kernel_rfl | decide +kernel) (yld_pure (by rfl) (fun w => by go_simp) (fun w => by simp [go_sem])) ?_; walk_nrm))
  refine anyJ_done (by first | kernel_rfl | decide +kernel) ?_ _
  (simp only [QJ.then, QJ.inBlock, if_true, if_false, reduceIte, Nat.reduceEqDiff])
  ((first | refine wpJ_seq ?_ | refine wpJ_block ?_ | refine wpJ_skip ?_ | refine wpJ_label ?_ | refine wpJ_ret ?_ | refine wpJ_exit ?_ | refine opsJ_nil ?_))
  exact ⟨rfl, _, resultsJ_tmp Try.results7 _, ⟨_, _, rfl⟩, rfl, HX⟩
end
end Go.Proofs.Ytafnbmokegomaaa
