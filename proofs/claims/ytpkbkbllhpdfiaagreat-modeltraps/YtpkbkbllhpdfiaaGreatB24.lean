/- RAccH: The document's access: a store that halts, and one that tells. RAccN: The document's access: the first word that is told. RAs: Contracts of the document's jump, access, csr, in the words of the model. RCs: Contract of the document's csr, any op. RDo: Contract of the document's do, any instruction. RStep: Contract of the document's Step. -/
import Derived.Test.YtpkbkbllhpdfiaaGreatB19
import Derived.Deep.RegionLaw
import Derived.Test.YtpkbkbllhpdfiaaGreatB09
import Derived.Laws.AppendOwnNone
import Derived.Deep.AppendLies
import Derived.Test.YtpkbkbllhpdfiaaGreatB20
import Derived.Test.YtpkbkbllhpdfiaaGreatB18
import Derived.Test.YtpkbkbllhpdfiaaGreatB07
import Derived.Test.YtpkbkbllhpdfiaaGreatB21
import Derived.Test.YtpkbkbllhpdfiaaGreatB22
import Derived.Test.YtpkbkbllhpdfiaaGreatB23
namespace Go.Proofs.YtpkbkbllhpdfiaaGreat.M
open Go.ChangeShapes Go.WideShapes Go.ChangeAt Go.RowKit Go.Proofs.YtpkbkbllhpdfiaaGreat.Walks Go.Proofs.YtpkbkbllhpdfiaaGreat.Mod
set_option linter.unusedVariables false
set_option maxRecDepth 100000 in
set_option maxHeartbeats 1000000 in
theorem racc_halt (B C : Nat) (s : St) (v : Value) (o n y c nx t q : Int) (d a b : Nat) (ho : 16 ≤ o) (y0 : Hid (W32 y)) (AC : Hid (acc o 268435460 = c)) (G : Hid (acb o 268435460 = false)) (NX : (s.pc + 4) % 4294967296 = nx) (NX' : IntKind.u32.wrap (s.pc + 4) = nx)
    (T : Hid (V.Num.st o (268435460 % 4) y = t)) (Q : Hid (V.Num.sm o (268435460 % 4) = q)) (w : World) (hM : Hid (RAt B C s v w)) :
    Calls Tryz.prog 71 #[.pointer (some ⟨B, 0, none⟩), .agg (cells o d a b n), .int .u32 268435460, .int .u32 y] w fun e w' => e = .returned (.agg (rc s.pc 0 0 true 268435460 t q)) ∧ RNow B C v ((s.go s.pc).halt t) w w' := by
  have cp := hM.out.pc
  have zp := hM.out.z 0 (by decide)
  have ch := hM.out.h
  have zh := hM.out.z 40 (by decide)
  have cx := hM.out.x
  have zx := hM.out.z 41 (by decide)
  have hb := hM.out.lt
  have hb1 : B < w.heap.size + 1 := by omega
  have hb2 : B < w.heap.size + 1 + 1 := by omega
  have hw2 : w.heap.size < w.heap.size + 1 + 1 := by omega
  have AL : bits .andNot .u32 268435460 3 = 268435460 := by rw [clear3 (by unfold W32; decide)]; decide
  go_enter Tryz.func71, Tryz.ntmps71
  go_wp2_with fail
  refine (raccess_to _ _ _ _ (by decide) AC G _).mono ?_; rintro e w1 ⟨rfl, rfl⟩
  go_wp2_with fail
  refine (V.Walks.rstore_as _ _ _ _ (by decide) (by decide) y0.out.1 y0.out.2 rfl _ _ T Q _).mono ?_; rintro e w1 ⟨rfl, rfl⟩
  go_wp2_with fail
  try go_region
  all_goals
    try go_wp2_with fail
    refine bodyPost_ret (v := .agg (rc s.pc 0 0 true 268435460 t q)) (by simp [results, Tryz.results71, go_sem, *]) rfl ⟨rfl, ?_⟩
    exact (((((((RNow.refl hM.out).setPc nx).setH t).setPc s.pc)).alloc _).alloc _).alloc _
/-- the world in which a row is told: what was told lies in new memory behind it -/
def tellW (w : World) (B : Nat) (nx : Int) (c : Array Value) (p t q : Int) : World := (((w.setCell ⟨B, 0, none⟩ (.int .u32 nx)).alloc (.cells c 62)).alloc (.cells z7 38)).alloc (.cells (rc p 0 0 true 268435456 t q) 38)
theorem tellW_now {B C : Nat} {s : St} {v : Value} {w : World} (h : RAt B C s v w) (nx : Int) (c : Array Value) (p t q : Int) : RNow B C v (s.go nx) w (tellW w B nx c p t q) := ((((RNow.refl h).setPc nx).alloc _).alloc _).alloc _
theorem tellW_box (w : World) (B : Nat) (nx : Int) (c : Array Value) (p t q : Int) : Box (w.heap.size + 1) (tellW w B nx c p t q) := (Box.at _ _ (by simp)).alloc _
theorem tellW_size (w : World) (B : Nat) (nx : Int) (c : Array Value) (p t q : Int) : (tellW w B nx c p t q).heap.size = w.heap.size + 3 := by simp [tellW]
theorem tellW_r (w : World) (B : Nat) (nx : Int) (c : Array Value) (p t q : Int) (j : Nat) : (tellW w B nx c p t q).cell? ⟨w.heap.size + 1 + 1, j, none⟩ = (rc p 0 0 true 268435456 t q)[j]? := by
  have := Walks.box_cell (((w.setCell ⟨B, 0, none⟩ (.int .u32 nx)).alloc (.cells c 62)).alloc (.cells z7 38)) (tellW w B nx c p t q) (rc p 0 0 true 268435456 t q) 38 (Fr.refl _) j
  simpa using this
theorem RAt.told {B C : Nat} {s : St} {v v' : Value} {w W w2 : World} {y : Int} (h : RNow B C v s w W) (F : Fr W w2) (hown : w2.ownsRow 0 36 1 v' (s.t.length + 1) (s.t.map (Value.int .u32) ++ [.int .u32 y])) (hat : ∃ g, v'.ownBlock = some g ∧ W.heap.size ≤ g) : RNxt B C v (s.tell y) w (w2.setCell ⟨B, 39, none⟩ v') := by
  have h2 := h.1.fr F
  obtain ⟨g, eg, lg⟩ := hat
  have a := h.1.lt
  have b := h.1.ltc
  have n1 : v'.ownBlock ≠ some B := by rw [eg]; intro x; injection x with x; omega
  have n2 : v'.ownBlock ≠ some C := by rw [eg]; intro x; injection x with x; omega
  have c : ∀ o, o ≠ 39 → (w2.setCell ⟨B, 39, none⟩ v').cell? ⟨B, o, none⟩ = w2.cell? ⟨B, o, none⟩ := fun o ho => set_other (addr_ne (Ne.symm ho))
  refine ⟨v', ⟨by rw [c _ (by omega)]; exact h2.pc, fun k hk => by rw [c _ (by omega)]; exact h2.r k hk, fun k hk => by rw [c _ (by omega)]; exact h2.c k hk, by rw [c _ (by omega)]; exact h2.l, fun k hk => by rw [set_other (far_ne h2.bc)]; exact h2.m k hk, set_same h2.t, by rw [c _ (by omega)]; exact h2.h, by rw [c _ (by omega)]; exact h2.x, by rw [c _ (by omega)]; exact h2.n, fun k hk => by rw [World.frozen?_setCell]; exact h2.z k hk, fun k hk => by rw [World.frozen?_setCell]; exact h2.y k hk, h2.bc, ?_, n1, n2⟩, ?_, .inr ⟨g, eg, Nat.le_trans h.2.size lg⟩⟩
  · have e1 : (s.tell y).t = s.t ++ [y] := rfl
    rw [e1, List.length_append, List.map_append]
    exact own_block hown fun g' e => Below.heap_setCell _ _ _ g' (by show g' ≠ B; intro x; subst x; exact n1 e)
  · exact (h.2.fr F).set B 39 _ (.inl rfl)
theorem RAt.told1 {B C b : Nat} {s : St} {v v' : Value} {w W w2 : World} {y : Int} (h : RNow B C v s w W) (F : Fr W w2) (hown : w2.ownsRow 0 36 1 v' (s.t.length + 1) (s.t.map (Value.int .u32) ++ [.int .u32 y])) (hat : ∃ g, v'.ownBlock = some g ∧ W.heap.size ≤ g) (hb : b < W.heap.size) :
    ∃ v1, RAt B C (s.tell y) v1 (w2.setCell ⟨B, 39, none⟩ v') ∧ RChg B C w (w2.setCell ⟨B, 39, none⟩ v') ∧ Moves w v v1 ∧ v1.ownBlock ≠ some b := by
  obtain ⟨v1, h1, h2, h3⟩ := RAt.told h F hown hat
  obtain ⟨g, eg, lg⟩ := hat
  have e : v1 = v' := by
    have a := h1.t
    rw [set_same (h.1.fr F).t] at a
    injection a with a
    exact a.symm
  subst e
  exact ⟨v1, h1, h2, h3, by rw [eg]; intro x; injection x with x; omega⟩
theorem RNxt.ends {B C b : Nat} {v : Value} {s0 s : St} {u w' : World} (h0 : RAt B C s0 v u) (h : ∃ v', RAt B C s v' w' ∧ RChg B C u w' ∧ Moves u v v' ∧ v'.ownBlock ≠ some b) (hb : u.heap.size ≤ b) (p x d : Int) (g : Bool) (a y m : Int) : RNxt B C v s u (put7 w' b p x d g a y m) := by
  obtain ⟨v', h1, h2, h3, h4⟩ := h
  exact ⟨v', h1.put7 b (by have := h0.lt; omega) (by have := h0.ltc; omega) h4 _ _ _ _ _ _ _, h2.put7 b hb _ _ _ _ _ _ _, h3⟩
theorem Fr.grown {u w w' : World} {row : Option Nat} (h : Fr u w) (g : w.grownBy w' row) (hr : ∀ k, row = some k → u.heap.size ≤ k) : Fr u w' :=
  ⟨g.os.trans h.os, g.output.trans h.output, Nat.le_trans h.size g.size, fun k hk => (g.block k (Nat.lt_of_lt_of_le hk h.size) (fun e => by have := hr k e.symm; omega)).trans (h.block k hk)⟩
theorem one_all (t : List Int) : ∀ u ∈ t.map (Value.int .u32), u.oneCell' = true := by
  intro u hu
  obtain ⟨x, _, rfl⟩ := List.mem_map.1 hu
  rfl
theorem news_at (w : World) (y : Int) : ∀ j u, [Value.int .u32 y][j]? = some u → (w.alloc (.cells #[.int .u32 y] 36)).cell? ((⟨w.heap.size, 0, none⟩ : Addr).add j) = some u :=
  World.news_of_block (cs := #[.int .u32 y]) (t := 36) (fr := (0, 0)) (heap_alloc_new w _)
set_option maxRecDepth 100000 in
set_option maxHeartbeats 1000000 in
theorem racc_port (B C : Nat) (s : St) (g n0 cap : Nat) (o n y c nx t q : Int) (d a b : Nat) (ho : 16 ≤ o) (y0 : Hid (W32 y)) (AC : Hid (acc o 268435456 = c)) (G : Hid (acb o 268435456 = false)) (NX : (s.pc + 4) % 4294967296 = nx) (NX' : IntKind.u32.wrap (s.pc + 4) = nx)
    (T : Hid (V.Num.st o (268435456 % 4) y = t)) (Q : Hid (V.Num.sm o (268435456 % 4) = q)) (hl : Hid (s.t.length ≤ 100000)) (w : World) (hM : Hid (RAt B C s (.slice (some ⟨g, 0, none⟩) n0 cap) w)) :
    Calls Tryz.prog 71 #[.pointer (some ⟨B, 0, none⟩), .agg (cells o d a b n), .int .u32 268435456, .int .u32 y] w fun e w' => e = .returned (.agg (rc s.pc 0 0 true 268435456 t q)) ∧ RNxt B C (.slice (some ⟨g, 0, none⟩) n0 cap) ((s.go nx).tell t) w w' := by
  have cp := hM.out.pc
  have zp := hM.out.z 0 (by decide)
  have ct := hM.out.t
  have zt := hM.out.z 39 (by decide)
  have hb := hM.out.lt
  have hb1 : B < w.heap.size + 1 := by omega
  have hb2 : B < w.heap.size + 1 + 1 := by omega
  have hw2 : w.heap.size < w.heap.size + 1 + 1 := by omega
  have AL : bits .andNot .u32 268435456 3 = 268435456 := by rw [clear3 (by unfold W32; decide)]; decide
  have HN : Hid (s.t.length = n0) := by
    have e := hM.out.tr.2
    rcases e with ⟨e, _⟩ | ⟨g', cap', cur, e, _⟩
    · exact absurd e (by simp)
    · simp at e; exact e.2.1.symm
  obtain ⟨j0, hi, hz0, hz1, hz2⟩ := info_parts info36
  have HT := hid (tellW_now hM.out nx (cells o d a b n) s.pc t q)
  go_enter Tryz.func71, Tryz.ntmps71
  go_wp2_with fail
  refine (raccess_to _ _ _ _ (by decide) AC G _).mono ?_; rintro e w1 ⟨rfl, rfl⟩
  go_wp2_with fail
  refine (V.Walks.rstore_as _ _ _ _ (by decide) (by decide) y0.out.1 y0.out.2 rfl _ _ T Q _).mono ?_; rintro e w1 ⟨rfl, rfl⟩
  have O0 : Hid (((tellW w B nx (cells o d a b n) s.pc t q).alloc (.cells #[] 36)).ownsRow 0 36 1 (.slice (some ⟨w.heap.size + 1 + 1 + 1, 0, none⟩) 0 0) 0 []) := by
    have := World.ownsRow_made (base := 0) (e := 36) (size := 1) (tellW w B nx (cells o d a b n) s.pc t q) #[] 0 (Nat.zero_le _) (by decide) rfl
    rw [tellW_size] at this
    exact this
  have C1 : Hid (∀ j u, (s.t.map (Value.int .u32))[j]? = some u → ((tellW w B nx (cells o d a b n) s.pc t q).alloc (.cells #[] 36)).cell? ((⟨g, 0, none⟩ : Addr).add j) = some u) := (HT.out.1.alloc (.cells #[] 36)).tr.cells (g := g) rfl
  have C2 := hid (one_all s.t)
  have C3 : Hid (0 + n0 ≤ maxLen) := by have := hl.out; have := HN.out; unfold Hid maxLen; omega
  have C4 : Hid ((0 + n0) * 4 ≤ 140737488355328) := by have := hl.out; have := HN.out; unfold Hid; omega
  have C0 : Hid ((s.t.map (Value.int .u32)).length = n0 * 1) := by have := HN.out; unfold Hid; simp; omega
  go_wp2_with (first | (at_builtin; refine wpList_append_mine _ rfl _ _ 23 rfl 36 j0 (.int .u32 0) 4 Tryz.underlying23 hi hz0 hz1 hz2 rfl _ 0 [] rfl (by exact O0.out) ⟨g, 0, none⟩ n0 cap (s.t.map (Value.int .u32)) rfl C0.out (by exact C1.out) C2.out C3.out C4.out ?_))
  intro v1 w1 hown1 hgrow1 hmv1
  have SZ := hid (tellW_size w B nx (cells o d a b n) s.pc t q)
  have L1 : Hid (∃ k, v1.ownBlock = some k ∧ (tellW w B nx (cells o d a b n) s.pc t q).heap.size ≤ k) := by
    rcases hmv1 with e | ⟨k, e, l⟩
    · exact ⟨_, e, by rw [SZ.out]; exact Nat.le_refl _⟩
    · exact ⟨k, e, Nat.le_trans (((Fr.refl _).alloc _).size) l⟩
  have F1 : Hid (Fr (tellW w B nx (cells o d a b n) s.pc t q) w1) := by
    refine Fr.grown ((Fr.refl _).alloc (.cells #[] 36)) hgrow1 ?_
    intro k e
    have e2 : w.heap.size + 1 + 1 + 1 = k := by simpa [Value.ownBlock] using e
    rw [SZ.out]
    omega
  have O1 : Hid ((w1.alloc (.cells #[.int .u32 t] 36)).ownsRow 0 36 1 v1 n0 (s.t.map (Value.int .u32))) := hown1.alloc _
  have D1 := hid (news_at w1 t)
  have D2 := hid (one_u32 t)
  have D3 : Hid (n0 + 1 ≤ maxLen) := by have := hl.out; have := HN.out; unfold Hid maxLen; omega
  have D4 : Hid ((n0 + 1) * 4 ≤ 140737488355328) := by have := hl.out; have := HN.out; unfold Hid; omega
  clear hown1 hgrow1 hmv1
  go_wp2_with (first | (at_builtin; refine wpList_append_mine _ rfl _ _ 23 rfl 36 j0 (.int .u32 0) 4 Tryz.underlying23 hi hz0 hz1 hz2 rfl _ n0 _ rfl (by exact O1.out) ⟨w1.heap.size, 0, none⟩ 1 1 [.int .u32 t] rfl rfl (by exact D1.out) D2.out D3.out D4.out ?_))
  intro v2 w2 hown2 hgrow2 hmv2
  obtain ⟨g2, cap2, rfl, _, _⟩ := hown2.form (by omega)
  have F2 : Hid (Fr (tellW w B nx (cells o d a b n) s.pc t q) w2) := Fr.grown (F1.out.alloc (.cells #[.int .u32 t] 36)) hgrow2 (fun k e => by obtain ⟨k1, e1, l1⟩ := L1.out; rw [e1] at e; injection e with e; omega)
  have L2 : Hid (∃ k, (Value.slice (some ⟨g2, 0, none⟩) (n0 + 1) cap2).ownBlock = some k ∧ (tellW w B nx (cells o d a b n) s.pc t q).heap.size ≤ k) := by
    rcases hmv2 with e | ⟨k, e, l⟩
    · obtain ⟨k1, e1, l1⟩ := L1.out; exact ⟨k1, e.trans e1, l1⟩
    · exact ⟨k, e, Nat.le_trans (F1.out.alloc (.cells #[.int .u32 t] 36)).size l⟩
  have R2 := hid (HT.out.1.fr F2.out)
  have OW : Hid (w2.ownsRow 0 36 1 (Value.slice (some ⟨g2, 0, none⟩) (n0 + 1) cap2) ((s.go nx).t.length + 1) ((s.go nx).t.map (Value.int .u32) ++ [.int .u32 t])) := by
    have e1 : (s.go nx).t.length = n0 := HN.out
    unfold Hid
    rw [e1]
    exact hown2
  have t1 : w2.cell? ⟨B, 39, none⟩ = some (.slice (some ⟨g, 0, none⟩) n0 cap) := R2.out.t
  have t2 : w2.frozen? ⟨B, 39, none⟩ = false := R2.out.z 39 (by decide)
  have V : Hid (∀ j, w2.cell? ⟨w.heap.size + 1 + 1, j, none⟩ = (rc s.pc 0 0 true 268435456 t q)[j]?) := fun j => (F2.out.cell _ _ (by rw [SZ.out]; omega)).trans (tellW_r w B nx (cells o d a b n) s.pc t q j)
  have r0 : w2.cell? ⟨w.heap.size + 1 + 1, 0, none⟩ = some (.int .u32 s.pc) := V.out 0
  have r1 : w2.cell? ⟨w.heap.size + 1 + 1, 1, none⟩ = some (.int .u32 0) := V.out 1
  have r2 : w2.cell? ⟨w.heap.size + 1 + 1, 2, none⟩ = some (.int .i64 0) := V.out 2
  have r3 : w2.cell? ⟨w.heap.size + 1 + 1, 3, none⟩ = some (.bool true) := V.out 3
  have r4 : w2.cell? ⟨w.heap.size + 1 + 1, 4, none⟩ = some (.int .u32 268435456) := V.out 4
  have r5 : w2.cell? ⟨w.heap.size + 1 + 1, 5, none⟩ = some (.int .u32 t) := V.out 5
  have r6 : w2.cell? ⟨w.heap.size + 1 + 1, 6, none⟩ = some (.int .i64 q) := V.out 6
  obtain ⟨b0, b1, b2, b3, b4, b5, b6, z0, z1, z2, z3, z4, z5, z6⟩ := (tellW_box w B nx (cells o d a b n) s.pc t q).fr F2.out
  have nb : ¬ w.heap.size + 1 = B := by omega
  have nb2 : ¬ w.heap.size + 1 + 1 = B := by omega
  clear hown2 hgrow2 hmv2
  go_wp2_with fail
  refine bodyPost_ret (v := .agg (rc s.pc 0 0 true 268435456 t q)) (by simp [results, Tryz.results71, go_sem, *]) rfl ⟨rfl, ?_⟩
  refine RNxt.ends (b := w.heap.size + 1) hM.out ?_ (Nat.le_add_right _ 1) s.pc 0 0 true 268435456 t q
  exact RAt.told1 HT.out F2.out OW.out L2.out (by rw [SZ.out]; omega)
end Go.Proofs.YtpkbkbllhpdfiaaGreat.M
namespace Go.Proofs.YtpkbkbllhpdfiaaGreat.M
open Go.ChangeShapes Go.WideShapes Go.ChangeAt Go.RowKit Go.Proofs.YtpkbkbllhpdfiaaGreat.Walks Go.Proofs.YtpkbkbllhpdfiaaGreat.Mod
set_option linter.unusedVariables false
set_option maxRecDepth 100000 in
set_option maxHeartbeats 400000 in
theorem racc_portN (B C : Nat) (s : St) (o n y c nx t q : Int) (d a b : Nat) (ho : 16 ≤ o) (y0 : Hid (W32 y)) (AC : Hid (acc o 268435456 = c)) (G : Hid (acb o 268435456 = false)) (NX : (s.pc + 4) % 4294967296 = nx) (NX' : IntKind.u32.wrap (s.pc + 4) = nx)
    (T : Hid (V.Num.st o (268435456 % 4) y = t)) (Q : Hid (V.Num.sm o (268435456 % 4) = q)) (hl : Hid (s.t.length ≤ 100000)) (w : World) (hM : Hid (RAt B C s (.slice none 0 0) w)) :
    Calls Tryz.prog 71 #[.pointer (some ⟨B, 0, none⟩), .agg (cells o d a b n), .int .u32 268435456, .int .u32 y] w fun e w' => e = .returned (.agg (rc s.pc 0 0 true 268435456 t q)) ∧ RNxt B C (.slice none 0 0) ((s.go nx).tell t) w w' := by
  have cp := hM.out.pc
  have zp := hM.out.z 0 (by decide)
  have ct := hM.out.t
  have zt := hM.out.z 39 (by decide)
  have hb := hM.out.lt
  have hb1 : B < w.heap.size + 1 := by omega
  have hb2 : B < w.heap.size + 1 + 1 := by omega
  have hw2 : w.heap.size < w.heap.size + 1 + 1 := by omega
  have AL : bits .andNot .u32 268435456 3 = 268435456 := by rw [clear3 (by unfold W32; decide)]; decide
  have HN : Hid (s.t = []) := by
    have e := hM.out.tr.2
    rcases e with ⟨_, e⟩ | ⟨g', cap', cur, e, _⟩
    · exact List.eq_nil_of_length_eq_zero e
    · exact absurd e (by simp)
  obtain ⟨j0, hi, hz0, hz1, hz2⟩ := info_parts info36
  have HT := hid (tellW_now hM.out nx (cells o d a b n) s.pc t q)
  go_enter Tryz.func71, Tryz.ntmps71
  go_wp2_with fail
  refine (raccess_to _ _ _ _ (by decide) AC G _).mono ?_; rintro e w1 ⟨rfl, rfl⟩
  go_wp2_with fail
  refine (V.Walks.rstore_as _ _ _ _ (by decide) (by decide) y0.out.1 y0.out.2 rfl _ _ T Q _).mono ?_; rintro e w1 ⟨rfl, rfl⟩
  have O0 : Hid (((tellW w B nx (cells o d a b n) s.pc t q).alloc (.cells #[] 36)).ownsRow 0 36 1 (.slice (some ⟨w.heap.size + 1 + 1 + 1, 0, none⟩) 0 0) 0 []) := by
    have := World.ownsRow_made (base := 0) (e := 36) (size := 1) (tellW w B nx (cells o d a b n) s.pc t q) #[] 0 (Nat.zero_le _) (by decide) rfl
    rw [tellW_size] at this
    exact this
  have SZ := hid (tellW_size w B nx (cells o d a b n) s.pc t q)
  have F1 : Hid (Fr (tellW w B nx (cells o d a b n) s.pc t q) ((tellW w B nx (cells o d a b n) s.pc t q).alloc (.cells #[] 36))) := (Fr.refl _).alloc _
  have L1 : Hid (∃ k, (Value.slice (some ⟨w.heap.size + 1 + 1 + 1, 0, none⟩) 0 0).ownBlock = some k ∧ (tellW w B nx (cells o d a b n) s.pc t q).heap.size ≤ k) := ⟨_, rfl, by rw [SZ.out]; exact Nat.le_refl _⟩
  have O1 : Hid ((((tellW w B nx (cells o d a b n) s.pc t q).alloc (.cells #[] 36)).alloc (.cells #[.int .u32 t] 36)).ownsRow 0 36 1 (.slice (some ⟨w.heap.size + 1 + 1 + 1, 0, none⟩) 0 0) 0 []) := O0.out.alloc _
  have D1 : Hid (∀ j u, [Value.int .u32 t][j]? = some u → (((tellW w B nx (cells o d a b n) s.pc t q).alloc (.cells #[] 36)).alloc (.cells #[.int .u32 t] 36)).cell? ((⟨w.heap.size + 1 + 1 + 1 + 1, 0, none⟩ : Addr).add j) = some u) := by
    have h := news_at ((tellW w B nx (cells o d a b n) s.pc t q).alloc (.cells #[] 36)) t
    have e : ((tellW w B nx (cells o d a b n) s.pc t q).alloc (.cells #[] 36)).heap.size = w.heap.size + 1 + 1 + 1 + 1 := by simp [tellW]
    rw [e] at h
    exact h
  have D2 := hid (one_u32 t)
  have D3 : Hid (0 + 1 ≤ maxLen) := by unfold Hid maxLen; omega
  have D4 : Hid ((0 + 1) * 4 ≤ 140737488355328) := by unfold Hid; omega
  go_wp2_with (first | (at_builtin; refine wpList_append_own_none rfl _ _ 23 rfl 0 36 j0 1 Tryz.underlying23 hi _ 0 [] rfl (by exact O0.out) rfl ?_) | (at_builtin; refine wpList_append_mine _ rfl _ _ 23 rfl 36 j0 (.int .u32 0) 4 Tryz.underlying23 hi hz0 hz1 hz2 rfl _ 0 _ rfl (by exact O1.out) ⟨w.heap.size + 1 + 1 + 1 + 1, 0, none⟩ 1 1 [.int .u32 t] rfl rfl (by exact D1.out) D2.out D3.out D4.out ?_))
  intro v2 w2 hown2 hgrow2 hmv2
  obtain ⟨g2, cap2, rfl, _, _⟩ := hown2.form (by omega)
  have F2 : Hid (Fr (tellW w B nx (cells o d a b n) s.pc t q) w2) := Fr.grown (F1.out.alloc (.cells #[.int .u32 t] 36)) hgrow2 (fun k e => by obtain ⟨k1, e1, l1⟩ := L1.out; rw [e1] at e; injection e with e; omega)
  have L2 : Hid (∃ k, (Value.slice (some ⟨g2, 0, none⟩) 1 cap2).ownBlock = some k ∧ (tellW w B nx (cells o d a b n) s.pc t q).heap.size ≤ k) := by
    rcases hmv2 with e | ⟨k, e, l⟩
    · obtain ⟨k1, e1, l1⟩ := L1.out; exact ⟨k1, e.trans e1, l1⟩
    · exact ⟨k, e, Nat.le_trans (F1.out.alloc (.cells #[.int .u32 t] 36)).size l⟩
  have R2 := hid (HT.out.1.fr F2.out)
  have OW : Hid (w2.ownsRow 0 36 1 (Value.slice (some ⟨g2, 0, none⟩) 1 cap2) ((s.go nx).t.length + 1) ((s.go nx).t.map (Value.int .u32) ++ [.int .u32 t])) := by
    have e1 : (s.go nx).t = [] := HN.out
    unfold Hid
    rw [e1]
    exact hown2
  have t1 : w2.cell? ⟨B, 39, none⟩ = some (.slice none 0 0) := R2.out.t
  have t2 : w2.frozen? ⟨B, 39, none⟩ = false := R2.out.z 39 (by decide)
  have V : Hid (∀ j, w2.cell? ⟨w.heap.size + 1 + 1, j, none⟩ = (rc s.pc 0 0 true 268435456 t q)[j]?) := fun j => (F2.out.cell _ _ (by rw [SZ.out]; omega)).trans (tellW_r w B nx (cells o d a b n) s.pc t q j)
  have r0 : w2.cell? ⟨w.heap.size + 1 + 1, 0, none⟩ = some (.int .u32 s.pc) := V.out 0
  have r1 : w2.cell? ⟨w.heap.size + 1 + 1, 1, none⟩ = some (.int .u32 0) := V.out 1
  have r2 : w2.cell? ⟨w.heap.size + 1 + 1, 2, none⟩ = some (.int .i64 0) := V.out 2
  have r3 : w2.cell? ⟨w.heap.size + 1 + 1, 3, none⟩ = some (.bool true) := V.out 3
  have r4 : w2.cell? ⟨w.heap.size + 1 + 1, 4, none⟩ = some (.int .u32 268435456) := V.out 4
  have r5 : w2.cell? ⟨w.heap.size + 1 + 1, 5, none⟩ = some (.int .u32 t) := V.out 5
  have r6 : w2.cell? ⟨w.heap.size + 1 + 1, 6, none⟩ = some (.int .i64 q) := V.out 6
  obtain ⟨b0, b1, b2, b3, b4, b5, b6, z0, z1, z2, z3, z4, z5, z6⟩ := (tellW_box w B nx (cells o d a b n) s.pc t q).fr F2.out
  have nb : ¬ w.heap.size + 1 = B := by omega
  have nb2 : ¬ w.heap.size + 1 + 1 = B := by omega
  clear hown2 hgrow2 hmv2
  go_wp2_with fail
  refine bodyPost_ret (v := .agg (rc s.pc 0 0 true 268435456 t q)) (by simp [results, Tryz.results71, go_sem, *]) rfl ⟨rfl, ?_⟩
  refine RNxt.ends (b := w.heap.size + 1) hM.out ?_ (Nat.le_add_right _ 1) s.pc 0 0 true 268435456 t q
  exact RAt.told1 HT.out F2.out OW.out L2.out (by rw [SZ.out]; omega)
end Go.Proofs.YtpkbkbllhpdfiaaGreat.M
namespace Go.Proofs.YtpkbkbllhpdfiaaGreat.M
open Go.ChangeShapes Go.WideShapes Go.ChangeAt Go.RowKit Go.Proofs.YtpkbkbllhpdfiaaGreat.Walks Go.Proofs.YtpkbkbllhpdfiaaGreat.Mod
set_option linter.unusedVariables false
theorem rnxt_of {B C : Nat} {v : Value} {s' : St} {w : World} {f : Nat} {args : Array Value} {e0 : Ending} (h : Calls Tryz.prog f args w fun e w' => e = e0 ∧ RNow B C v s' w w') : Calls Tryz.prog f args w fun e w' => e = e0 ∧ RNxt B C v s' w w' :=
  h.mono fun _ _ x => ⟨x.1, x.2.nxt⟩
theorem sgo_put (s : St) (d : Nat) (z q : Int) : (s.put d z).go q = (s.go q).put d z := by unfold St.put; split <;> rfl
theorem rjump_goes (B C : Nat) (s s' : St) (v : Value) (n x y to : Int) (d a b : Nat) (I : Inv s) (hd : d < 32) (tw : W32 to) (q1 q2 q3 : Int) (q4 : Bool) (q5 q6 q7 : Int) (E : s.jmp d to = (⟨q1, q2, q3, q4, q5, q6, q7⟩, s')) (w : World) (args : Array Value)
    (bad : ¬ to % 4 = 0 → s.trap 0 to = s' → Calls Tryz.prog 69 args w fun e w' => e = .returned (.agg (rc s.pc 0 0 false 0 0 0)) ∧ RNow B C v s' w w')
    (good : to % 4 = 0 → (bare s.pc).put d s.nx = ⟨q1, q2, q3, q4, q5, q6, q7⟩ → (s.go to).put d s.nx = s' → Calls Tryz.prog 69 args w fun e w' => e = .returned (.agg (rc q1 q2 q3 q4 q5 q6 q7)) ∧ RNow B C v s' w w') :
    Calls Tryz.prog 69 args w fun e w' => e = .returned (.agg (rc q1 q2 q3 q4 q5 q6 q7)) ∧ RNxt B C v s' w w' := by
  unfold St.jmp at E
  by_cases h : to % 4 = 0
  · rw [if_pos h] at E
    obtain ⟨e1, e2⟩ := Prod.mk.inj E
    exact rnxt_of (good h e1 e2)
  · rw [if_neg h] at E
    obtain ⟨e, rfl, rfl, rfl, rfl, rfl, rfl, rfl⟩ := bare_is E
    exact rnxt_of (bad h e)
theorem tm4 {x : Int} (h : W32 x) : x.tmod 4 = x % 4 := Int.tmod_eq_emod_of_nonneg h.1
theorem rjump_jal (B C : Nat) (s s' : St) (v : Value) (n x y : Int) (d a b : Nat) (I : Inv s) (hd : d < 32) (q1 q2 q3 : Int) (q4 : Bool) (q5 q6 q7 : Int) (E : s.jmp d ((s.pc + n % 4294967296) % 4294967296) = (⟨q1, q2, q3, q4, q5, q6, q7⟩, s')) (w : World) (hM : RAt B C s v w) :
    Calls Tryz.prog 69 #[.pointer (some ⟨B, 0, none⟩), .agg (cells 3 d a b n), .int .u32 x, .int .u32 y] w fun e w' => e = .returned (.agg (rc q1 q2 q3 q4 q5 q6 q7)) ∧ RNxt B C v s' w w' := by
  have tw := W32.mod (s.pc + n % 4294967296)
  refine rjump_goes B C s s' v n x y _ d a b I hd tw q1 q2 q3 q4 q5 q6 q7 E w _ ?_ ?_
  · intro h e
    exact rjump_jal_bad B C s s' v 0 n _ x y 0 _ _ _ d a b (by omega) 0 0 0 false 0 0 0 rfl rfl rfl rfl rfl rfl rfl rfl (tm4 tw) h (by simpa using h) (by simpa using h) e I w hM
  · intro h e1 e2
    exact rjump_jal_good B C s s' v 0 n _ x y 0 _ 0 _ d a b (by omega) q1 q2 q3 q4 q5 q6 q7 rfl rfl rfl rfl rfl rfl rfl h ((tm4 tw).trans h) e1 e2 I w hM
theorem rjump_jalr (B C : Nat) (s s' : St) (v : Value) (n x y : Int) (d a b : Nat) (I : Inv s) (hd : d < 32) (q1 q2 q3 : Int) (q4 : Bool) (q5 q6 q7 : Int) (E : s.jmp d (bits .andNot .u32 ((x + n % 4294967296) % 4294967296) 1) = (⟨q1, q2, q3, q4, q5, q6, q7⟩, s')) (w : World) (hM : RAt B C s v w) :
    Calls Tryz.prog 69 #[.pointer (some ⟨B, 0, none⟩), .agg (cells 4 d a b n), .int .u32 x, .int .u32 y] w fun e w' => e = .returned (.agg (rc q1 q2 q3 q4 q5 q6 q7)) ∧ RNxt B C v s' w w' := by
  have tw := W32.bits .andNot ((x + n % 4294967296) % 4294967296) 1
  refine rjump_goes B C s s' v n x y _ d a b I hd tw q1 q2 q3 q4 q5 q6 q7 E w _ ?_ ?_
  · intro h e
    exact rjump_jalr_bad B C s s' v 0 n _ x y _ _ _ _ d a b (by omega) 0 0 0 false 0 0 0 rfl rfl rfl rfl rfl rfl rfl rfl rfl (tm4 tw) h (by simpa using h) (by simpa using h) e I w hM
  · intro h e1 e2
    exact rjump_jalr_good B C s s' v 0 n _ x y _ _ 0 _ d a b (by omega) q1 q2 q3 q4 q5 q6 q7 rfl rfl rfl rfl rfl rfl rfl rfl h ((tm4 tw).trans h) e1 e2 I w hM
theorem rjump_br (B C : Nat) (s s' : St) (v : Value) (o n x y : Int) (d a b : Nat) (h0 : 5 ≤ o) (h1 : o ≤ 10) (I : Inv s) (hd : d = 0) (q1 q2 q3 : Int) (q4 : Bool) (q5 q6 q7 : Int) (E : (if U.Num.tk o x y = true then s.jmp 0 ((s.pc + n % 4294967296) % 4294967296) else (bare s.pc, s.go s.nx)) = (⟨q1, q2, q3, q4, q5, q6, q7⟩, s')) (w : World) (hM : RAt B C s v w) :
    Calls Tryz.prog 69 #[.pointer (some ⟨B, 0, none⟩), .agg (cells o d a b n), .int .u32 x, .int .u32 y] w fun e w' => e = .returned (.agg (rc q1 q2 q3 q4 q5 q6 q7)) ∧ RNxt B C v s' w w' := by
  subst hd
  have g4 : (o == 4) = false := by rw [beq_eq_false_iff_ne]; omega
  have F : Num.lt (Num.fm o) = 66 := by
    have : o = 5 ∨ o = 6 ∨ o = 7 ∨ o = 8 ∨ o = 9 ∨ o = 10 := by omega
    rcases this with rfl | rfl | rfl | rfl | rfl | rfl <;> decide
  by_cases g : U.Num.tk o x y = true
  · rw [if_pos g] at E
    have tw := W32.mod (s.pc + n % 4294967296)
    refine rjump_goes B C s s' v n x y _ 0 a b I (by decide) tw q1 q2 q3 q4 q5 q6 q7 E w _ ?_ ?_
    · intro h e
      exact rjump_br_bad B C s s' v o n _ x y 0 _ _ _ 0 a b (by decide) 0 0 0 false 0 0 0 rfl rfl rfl rfl g4 rfl rfl F g rfl (tm4 tw) h (by simpa using h) (by simpa using h) e I w hM
    · intro h e1 e2
      exact rjump_br_good B C s s' v o n _ x y 0 _ 0 _ 0 a b (by decide) q1 q2 q3 q4 q5 q6 q7 rfl rfl rfl rfl g4 rfl rfl F g h ((tm4 tw).trans h) e1 e2 I w hM
  · rw [if_neg g] at E
    obtain ⟨rfl, rfl, rfl, rfl, rfl, rfl, rfl, rfl⟩ := bare_is E
    exact rnxt_of (rjump_not B C s s v o n _ x y 0 _ 0 _ 0 a b (by decide) 0 0 0 false 0 0 0 rfl rfl rfl rfl g4 rfl rfl F (by unfold Hid; simpa using g) I w hM)
theorem tdiv4 {x : Int} (h : 0 ≤ x) : x.tdiv 4 = x / 4 := Int.tdiv_eq_ediv_of_nonneg h
theorem racc_loads (B C : Nat) (s s' : St) (v : Value) (o n A y : Int) (d a b : Nat) (h0 : 11 ≤ o) (h1 : o ≤ 15) (hd : d < 32) (aw : W32 A) (I : Inv s) (q1 q2 q3 : Int) (q4 : Bool) (q5 q6 q7 : Int) (E : s.lod o d A = (⟨q1, q2, q3, q4, q5, q6, q7⟩, s')) (w : World) (hM : RAt B C s v w) :
    Calls Tryz.prog 71 #[.pointer (some ⟨B, 0, none⟩), .agg (cells o d a b n), .int .u32 A, .int .u32 y] w fun e w' => e = .returned (.agg (rc q1 q2 q3 q4 q5 q6 q7)) ∧ RNxt B C v s' w w' := by
  unfold St.lod at E
  by_cases g : acb o A = true
  · rw [if_pos g] at E
    obtain ⟨e, rfl, rfl, rfl, rfl, rfl, rfl, rfl⟩ := bare_is E
    exact rnxt_of (racc_bad B C s s' v o n A y _ d a b aw.1 rfl (Mod.acc_in o A) g e I w hM)
  · rw [if_neg g] at E
    have g' : acb o A = false := by simpa using g
    have l := acb_load o A h0 h1 g'
    have a0 := aw.1
    have m := I.m (A / 4).toNat (by omega)
    obtain ⟨e1, e2⟩ := Prod.mk.inj (show ((bare s.pc).put d _, (s.go s.nx).put d _) = _ from E)
    exact rnxt_of (racc_load B C s s' v o n A y _ _ _ _ d a b (A / 4).toNat (by unfold Hid; omega) h1 q1 q2 q3 q4 q5 q6 q7 aw rfl g' rfl rfl (by omega) (by rw [tdiv4 a0]; omega) (by omega) rfl m rfl e1 e2 w hM)
theorem rtold_as (B C : Nat) (s : St) (v : Value) (o n y c t q : Int) (d a b : Nat) (ho : 16 ≤ o) (y0 : W32 y) (AC : acc o 268435456 = c) (G : acb o 268435456 = false) (T : V.Num.st o 0 y = t) (Q : V.Num.sm o 0 = q) (hl : s.t.length ≤ 100000) (w : World) (hM : RAt B C s v w) :
    Calls Tryz.prog 71 #[.pointer (some ⟨B, 0, none⟩), .agg (cells o d a b n), .int .u32 268435456, .int .u32 y] w fun e w' => e = .returned (.agg (rc s.pc 0 0 true 268435456 t q)) ∧ RNxt B C v ((s.go s.nx).tell t) w w' := by
  rcases hM.tr.2 with ⟨rfl, _⟩ | ⟨g, cap, cur, rfl, _⟩
  · exact racc_portN B C s o n y c s.nx t q d a b ho y0 AC G rfl rfl T Q hl w hM
  · exact racc_port B C s g _ cap o n y c s.nx t q d a b ho y0 AC G rfl rfl T Q hl w hM
theorem racc_stores (B C : Nat) (s s' : St) (v : Value) (o n A y : Int) (d a b : Nat) (h0 : 16 ≤ o) (h1 : o ≤ 18) (aw : W32 A) (yw : W32 y) (I : Inv s) (hl : s.t.length ≤ 100000) (q1 q2 q3 : Int) (q4 : Bool) (q5 q6 q7 : Int) (E : s.sto o A y = (⟨q1, q2, q3, q4, q5, q6, q7⟩, s')) (w : World) (hM : RAt B C s v w) :
    Calls Tryz.prog 71 #[.pointer (some ⟨B, 0, none⟩), .agg (cells o d a b n), .int .u32 A, .int .u32 y] w fun e w' => e = .returned (.agg (rc q1 q2 q3 q4 q5 q6 q7)) ∧ RNxt B C v s' w w' := by
  unfold St.sto at E
  by_cases g : acb o A = true
  · rw [if_pos g] at E
    obtain ⟨e, rfl, rfl, rfl, rfl, rfl, rfl, rfl⟩ := bare_is E
    exact rnxt_of (racc_bad B C s s' v o n A y _ d a b aw.1 rfl (Mod.acc_in o A) g e I w hM)
  · rw [if_neg g] at E
    have g' : acb o A = false := by simpa using g
    have l := acb_store o A h0 h1 g'
    have a0 := aw.1
    have tw := W32.st o (A % 4) yw (Mod.quarter A)
    obtain ⟨e1, e2⟩ := Prod.mk.inj E
    injection e1 with e1 f2 f3 f4 f5 f6 f7
    subst e1 f2 f3 f4 f5 f6 f7 e2
    unfold St.kp
    rcases l with rfl | rfl | l
    · rw [if_neg (show ¬ (268435456 : Int) = 268435460 by decide), if_pos (show (268435456 : Int) - 268435456 % 4 = 268435456 by decide)]
      exact rtold_as B C s v o n y _ _ _ d a b h0 yw rfl g' rfl rfl hl w hM
    · rw [if_pos (show (268435460 : Int) = 268435460 from rfl), if_neg (show ¬ (268435460 : Int) - 268435460 % 4 = 268435456 by decide), if_pos (show (268435460 : Int) - 268435460 % 4 = 268435460 by decide)]
      exact rnxt_of (racc_halt B C s v o n y _ _ _ _ d a b h0 yw rfl g' rfl rfl rfl rfl w hM)
    · rw [if_neg (by omega), if_neg (by omega), if_neg (by omega)]
      have m := I.m (A / 4).toNat (by omega)
      have e : (A - A % 4) / 4 = A / 4 := by omega
      rw [e]
      exact rnxt_of (racc_mem B C s v o n A y _ _ _ _ _ _ _ d a b (A / 4).toNat h0 aw yw rfl g' rfl rfl (clear3 aw) (by rw [beq_eq_false_iff_ne]; omega) (by rw [beq_eq_false_iff_ne]; omega) (by omega) (by rw [tdiv4 a0]; omega) (by omega) rfl m rfl tw rfl rfl w hM)
end Go.Proofs.YtpkbkbllhpdfiaaGreat.M
namespace Go.Proofs.YtpkbkbllhpdfiaaGreat.M
open Go.ChangeShapes Go.WideShapes Go.ChangeAt Go.RowKit Go.Proofs.YtpkbkbllhpdfiaaGreat.Walks Go.Proofs.YtpkbkbllhpdfiaaGreat.Mod
set_option linter.unusedVariables false
theorem csv50 (old x : Int) : csv 50 old x = x := by unfold csv; rw [if_pos rfl]
theorem csv53 (old x : Int) : csv 53 old x = x := by unfold csv; rw [if_neg (by decide), if_pos rfl]
theorem csv51 (old x : Int) : csv 51 old x = bits .or .u32 old x := by unfold csv; rw [if_neg (by decide), if_neg (by decide), if_pos rfl]
theorem csv54 (old x : Int) : csv 54 old x = bits .or .u32 old x := by unfold csv; rw [if_neg (by decide), if_neg (by decide), if_neg (by decide), if_pos rfl]
theorem csv52 (old x : Int) : csv 52 old x = bits .andNot .u32 old x := by unfold csv; rw [if_neg (by decide), if_neg (by decide), if_neg (by decide), if_neg (by decide)]
theorem csv55 (old x : Int) : csv 55 old x = bits .andNot .u32 old x := by unfold csv; rw [if_neg (by decide), if_neg (by decide), if_neg (by decide), if_neg (by decide)]
theorem csz0 (y : Int) : csz 0 y = bits .andNot .u32 y 3 := by unfold csz; rw [if_pos rfl]
theorem csz2 (y : Int) : csz 2 y = bits .andNot .u32 y 3 := by unfold csz; rw [if_neg (by decide), if_pos rfl]
theorem cszk (k y : Int) (h0 : ¬ k = 0) (h2 : ¬ k = 2) : csz k y = y := by unfold csz; rw [if_neg h0, if_neg h2]
theorem rcsr_as (B C : Nat) (s s' : St) (v : Value) (o n vv x : Int) (d a b : Nat) (h0 : 50 ≤ o) (h1 : o ≤ 55) (ha : a < 32) (hd : d < 32) (n0 : 0 ≤ n) (n1 : n ≤ 4095) (I : Inv s) (q1 q2 q3 : Int) (q4 : Bool) (q5 q6 q7 : Int)
    (E : s.csr o d (T.Num.ix n) vv (if o ≤ 52 then x else (a : Int)) = (⟨q1, q2, q3, q4, q5, q6, q7⟩, s')) (w : World) (hM : RAt B C s v w) :
    Calls Tryz.prog 72 #[.pointer (some ⟨B, 0, none⟩), .agg (cells o d a b n), .int .u32 vv, .int .u32 x] w fun e w' => e = .returned (.agg (rc q1 q2 q3 q4 q5 q6 q7)) ∧ RNxt B C v s' w w' := by
  unfold St.csr at E
  rcases ix_in n with k | ⟨k0, k1⟩
  · rw [k, if_pos (by decide)] at E
    obtain ⟨e, rfl, rfl, rfl, rfl, rfl, rfl, rfl⟩ := bare_is E
    exact rnxt_of (rcsr_bad B C s s' v o n vv x d a b n0 n1 k e I w hM)
  · rw [if_neg (by omega)] at E
    obtain ⟨k, hk⟩ := Int.eq_ofNat_of_zero_le k0
    rw [hk] at E k1
    obtain ⟨e1, e2⟩ := Prod.mk.inj (show ((bare s.pc).put d (s.c k), ((s.setC k (csz k (csv o (s.c k) (if o ≤ 52 then x else (a : Int))))).go s.nx).put d (s.c k)) = _ from E)
    clear E
    have e : o = 50 ∨ o = 51 ∨ o = 52 ∨ o = 53 ∨ o = 54 ∨ o = 55 := by omega
    have kk : k = 0 ∨ k = 2 ∨ (¬ (k : Int) = 0 ∧ ¬ (k : Int) = 2) := by omega
    rcases e with rfl | rfl | rfl | rfl | rfl | rfl
    · rw [if_pos (by decide), csv50] at e2
      rcases kk with rfl | rfl | ⟨g0, g2⟩
      · rw [show ((0 : Nat) : Int) = 0 from rfl, csz0] at e2
        exact rnxt_of (rcsr50_0 B C s s' v n vv x _ 0 _ _ d a b n0 n1 (by unfold Hid; omega) (by omega) (by omega) hk rfl rfl rfl q1 q2 q3 q4 q5 q6 q7 e1 e2 w hM)
      · rw [show ((2 : Nat) : Int) = 2 from rfl, csz2] at e2
        exact rnxt_of (rcsr50_2 B C s s' v n vv x _ 0 _ _ d a b n0 n1 (by unfold Hid; omega) (by omega) (by omega) hk rfl rfl rfl q1 q2 q3 q4 q5 q6 q7 e1 e2 w hM)
      · rw [cszk _ _ g0 g2] at e2
        exact rnxt_of (rcsr50_k B C s s' v n vv x _ 0 0 _ d a b k k1 n0 n1 (by unfold Hid; omega) (by omega) (by omega) hk rfl (by rw [beq_eq_false_iff_ne]; exact g0) (by rw [beq_eq_false_iff_ne]; exact g2) rfl q1 q2 q3 q4 q5 q6 q7 e1 e2 w hM)
    · rw [if_pos (by decide), csv51] at e2
      rcases kk with rfl | rfl | ⟨g0, g2⟩
      · rw [show ((0 : Nat) : Int) = 0 from rfl, csz0] at e2
        exact rnxt_of (rcsr51_0 B C s s' v n vv x _ _ _ _ d a b n0 n1 (by unfold Hid; omega) (by omega) (by omega) hk rfl rfl rfl rfl q1 q2 q3 q4 q5 q6 q7 e1 e2 w hM)
      · rw [show ((2 : Nat) : Int) = 2 from rfl, csz2] at e2
        exact rnxt_of (rcsr51_2 B C s s' v n vv x _ _ _ _ d a b n0 n1 (by unfold Hid; omega) (by omega) (by omega) hk rfl rfl rfl rfl q1 q2 q3 q4 q5 q6 q7 e1 e2 w hM)
      · rw [cszk _ _ g0 g2] at e2
        exact rnxt_of (rcsr51_k B C s s' v n vv x _ _ 0 _ d a b k k1 n0 n1 (by unfold Hid; omega) (by omega) (by omega) hk rfl rfl (by rw [beq_eq_false_iff_ne]; exact g0) (by rw [beq_eq_false_iff_ne]; exact g2) rfl q1 q2 q3 q4 q5 q6 q7 e1 e2 w hM)
    · rw [if_pos (by decide), csv52] at e2
      rcases kk with rfl | rfl | ⟨g0, g2⟩
      · rw [show ((0 : Nat) : Int) = 0 from rfl, csz0] at e2
        exact rnxt_of (rcsr52_0 B C s s' v n vv x _ _ _ _ d a b n0 n1 (by unfold Hid; omega) (by omega) (by omega) hk rfl rfl rfl rfl q1 q2 q3 q4 q5 q6 q7 e1 e2 w hM)
      · rw [show ((2 : Nat) : Int) = 2 from rfl, csz2] at e2
        exact rnxt_of (rcsr52_2 B C s s' v n vv x _ _ _ _ d a b n0 n1 (by unfold Hid; omega) (by omega) (by omega) hk rfl rfl rfl rfl q1 q2 q3 q4 q5 q6 q7 e1 e2 w hM)
      · rw [cszk _ _ g0 g2] at e2
        exact rnxt_of (rcsr52_k B C s s' v n vv x _ _ 0 _ d a b k k1 n0 n1 (by unfold Hid; omega) (by omega) (by omega) hk rfl rfl (by rw [beq_eq_false_iff_ne]; exact g0) (by rw [beq_eq_false_iff_ne]; exact g2) rfl q1 q2 q3 q4 q5 q6 q7 e1 e2 w hM)
    · rw [if_neg (by decide), csv53] at e2
      rcases kk with rfl | rfl | ⟨g0, g2⟩
      · rw [show ((0 : Nat) : Int) = 0 from rfl, csz0] at e2
        exact rnxt_of (rcsr53_0 B C s s' v n vv x _ 0 _ _ d a b n0 n1 (by unfold Hid; omega) (by omega) (by omega) hk rfl rfl rfl q1 q2 q3 q4 q5 q6 q7 e1 e2 w hM)
      · rw [show ((2 : Nat) : Int) = 2 from rfl, csz2] at e2
        exact rnxt_of (rcsr53_2 B C s s' v n vv x _ 0 _ _ d a b n0 n1 (by unfold Hid; omega) (by omega) (by omega) hk rfl rfl rfl q1 q2 q3 q4 q5 q6 q7 e1 e2 w hM)
      · rw [cszk _ _ g0 g2] at e2
        exact rnxt_of (rcsr53_k B C s s' v n vv x _ 0 0 _ d a b k k1 n0 n1 (by unfold Hid; omega) (by omega) (by omega) hk rfl (by rw [beq_eq_false_iff_ne]; exact g0) (by rw [beq_eq_false_iff_ne]; exact g2) rfl q1 q2 q3 q4 q5 q6 q7 e1 e2 w hM)
    · rw [if_neg (by decide), csv54] at e2
      rcases kk with rfl | rfl | ⟨g0, g2⟩
      · rw [show ((0 : Nat) : Int) = 0 from rfl, csz0] at e2
        exact rnxt_of (rcsr54_0 B C s s' v n vv x _ _ _ _ d a b n0 n1 (by unfold Hid; omega) (by omega) (by omega) hk rfl rfl rfl rfl q1 q2 q3 q4 q5 q6 q7 e1 e2 w hM)
      · rw [show ((2 : Nat) : Int) = 2 from rfl, csz2] at e2
        exact rnxt_of (rcsr54_2 B C s s' v n vv x _ _ _ _ d a b n0 n1 (by unfold Hid; omega) (by omega) (by omega) hk rfl rfl rfl rfl q1 q2 q3 q4 q5 q6 q7 e1 e2 w hM)
      · rw [cszk _ _ g0 g2] at e2
        exact rnxt_of (rcsr54_k B C s s' v n vv x _ _ 0 _ d a b k k1 n0 n1 (by unfold Hid; omega) (by omega) (by omega) hk rfl rfl (by rw [beq_eq_false_iff_ne]; exact g0) (by rw [beq_eq_false_iff_ne]; exact g2) rfl q1 q2 q3 q4 q5 q6 q7 e1 e2 w hM)
    · rw [if_neg (by decide), csv55] at e2
      rcases kk with rfl | rfl | ⟨g0, g2⟩
      · rw [show ((0 : Nat) : Int) = 0 from rfl, csz0] at e2
        exact rnxt_of (rcsr55_0 B C s s' v n vv x _ _ _ _ d a b n0 n1 (by unfold Hid; omega) (by omega) (by omega) hk rfl rfl rfl rfl q1 q2 q3 q4 q5 q6 q7 e1 e2 w hM)
      · rw [show ((2 : Nat) : Int) = 2 from rfl, csz2] at e2
        exact rnxt_of (rcsr55_2 B C s s' v n vv x _ _ _ _ d a b n0 n1 (by unfold Hid; omega) (by omega) (by omega) hk rfl rfl rfl rfl q1 q2 q3 q4 q5 q6 q7 e1 e2 w hM)
      · rw [cszk _ _ g0 g2] at e2
        exact rnxt_of (rcsr55_k B C s s' v n vv x _ _ 0 _ d a b k k1 n0 n1 (by unfold Hid; omega) (by omega) (by omega) hk rfl rfl (by rw [beq_eq_false_iff_ne]; exact g0) (by rw [beq_eq_false_iff_ne]; exact g2) rfl q1 q2 q3 q4 q5 q6 q7 e1 e2 w hM)
end Go.Proofs.YtpkbkbllhpdfiaaGreat.M
namespace Go.Proofs.YtpkbkbllhpdfiaaGreat.M
open Go.ChangeShapes Go.WideShapes Go.ChangeAt Go.RowKit Go.Proofs.YtpkbkbllhpdfiaaGreat.Walks Go.Proofs.YtpkbkbllhpdfiaaGreat.Mod
set_option linter.unusedVariables false
/-- a register's write: none, or one -/
theorem rwrt (B C : Nat) (s s' : St) (v : Value) (o n z vv : Int) (d a b : Nat) (hd : d < 32) (q1 q2 q3 : Int) (q4 : Bool) (q5 q6 q7 : Int) (E : s.wrt d z = (⟨q1, q2, q3, q4, q5, q6, q7⟩, s')) (w : World)
    (zero : d = 0 → Calls Tryz.prog 40 #[.pointer (some ⟨B, 0, none⟩), .agg (cells o 0 a b n), .int .u32 vv] w fun e w' => e = .returned (.agg (rc s.pc 0 0 false 0 0 0)) ∧ RNow B C v (s.go s.nx) w w')
    (reg : (1 : Int) ≤ d → (d : Int) ≤ 31 → Calls Tryz.prog 40 #[.pointer (some ⟨B, 0, none⟩), .agg (cells o d a b n), .int .u32 vv] w fun e w' => e = .returned (.agg (rc s.pc z d false 0 0 0)) ∧ RNow B C v ((s.setR d z).go s.nx) w w') :
    Calls Tryz.prog 40 #[.pointer (some ⟨B, 0, none⟩), .agg (cells o d a b n), .int .u32 vv] w fun e w' => e = .returned (.agg (rc q1 q2 q3 q4 q5 q6 q7)) ∧ RNxt B C v s' w w' := by
  obtain ⟨e1, e2⟩ := Prod.mk.inj (show ((bare s.pc).put d z, (s.go s.nx).put d z) = _ from E)
  by_cases h : d = 0
  · subst h
    unfold Rt.put at e1
    unfold St.put at e2
    rw [if_pos rfl] at e1 e2
    obtain ⟨_, rfl, rfl, rfl, rfl, rfl, rfl, rfl⟩ := bare_is (s := s') (s' := s') (Prod.ext e1 rfl)
    subst e2
    exact rnxt_of (zero rfl)
  · unfold Rt.put at e1
    unfold St.put at e2
    rw [if_neg h] at e1 e2
    unfold bare at e1
    injection e1 with a1 a2 a3 a4 a5 a6 a7
    subst a1 a2 a3 a4 a5 a6 a7 e2
    exact rnxt_of (reg (by omega) (by omega))
theorem sz0 (o : Int) (h : o < 11 ∨ 18 < o) : V.Num.sz o = 0 := by
  unfold V.Num.sz
  rw [if_neg (by omega), if_neg (by omega), if_neg (by omega), if_neg (by omega), if_neg (by omega), if_neg (by omega), if_neg (by omega), if_neg (by omega)]
theorem szP (o : Int) (h0 : 11 ≤ o) (h1 : o ≤ 18) : 0 < V.Num.sz o := by
  have : o = 11 ∨ o = 12 ∨ o = 13 ∨ o = 14 ∨ o = 15 ∨ o = 16 ∨ o = 17 ∨ o = 18 := by omega
  rcases this with rfl | rfl | rfl | rfl | rfl | rfl | rfl | rfl <;> decide
theorem ltL (o : Int) (h0 : 11 ≤ o) (h1 : o ≤ 18) : (Num.lt (Num.fm o) == 66) = false ∧ (Num.lt (Num.fm o) == 74) = false := by
  have : o = 11 ∨ o = 12 ∨ o = 13 ∨ o = 14 ∨ o = 15 ∨ o = 16 ∨ o = 17 ∨ o = 18 := by omega
  rcases this with rfl | rfl | rfl | rfl | rfl | rfl | rfl | rfl <;> decide
theorem ltI (o : Int) (h0 : 19 ≤ o) (h1 : o ≤ 27) : (Num.lt (Num.fm o) == 66) = false ∧ (Num.lt (Num.fm o) == 74) = false ∧ (Num.lt (Num.fm o) == 67) = false ∧ (Num.lt (Num.fm o) == 82) = false := by
  have : o = 19 ∨ o = 20 ∨ o = 21 ∨ o = 22 ∨ o = 23 ∨ o = 24 ∨ o = 25 ∨ o = 26 ∨ o = 27 := by omega
  rcases this with rfl | rfl | rfl | rfl | rfl | rfl | rfl | rfl | rfl <;> decide
theorem fmB (o : Int) (h0 : 5 ≤ o) (h1 : o ≤ 10) : Num.fm o = 6 := by
  have : o = 5 ∨ o = 6 ∨ o = 7 ∨ o = 8 ∨ o = 9 ∨ o = 10 := by omega
  rcases this with rfl | rfl | rfl | rfl | rfl | rfl <;> decide
theorem fmR (o : Int) (h0 : 28 ≤ o) (h1 : o ≤ 45) : Num.fm o = 2 := by
  unfold Num.fm
  rw [if_neg (by omega), if_neg (by omega), if_neg (by omega), if_neg (by omega), if_neg (by omega), if_neg (by omega), if_neg (by omega), if_neg (by omega), if_neg (by omega), if_pos h1]
theorem ltC (o : Int) (h0 : 50 ≤ o) (h1 : o ≤ 55) : Num.lt (Num.fm o) = 67 := by
  have : o = 50 ∨ o = 51 ∨ o = 52 ∨ o = 53 ∨ o = 54 ∨ o = 55 := by omega
  rcases this with rfl | rfl | rfl | rfl | rfl | rfl <;> decide
theorem rdo_as (B C : Nat) (s s' : St) (v : Value) (vv o n : Int) (d a b : Nat) (hi : Ins vv o n d a b) (vw : W32 vv) (I : Inv s) (hl : s.t.length ≤ 100000) (q : Rt) (E : Hid (s.doI o d a b n vv = (q, s'))) (w : World) (hM : Hid (RAt B C s v w)) :
    Calls Tryz.prog 40 #[.pointer (some ⟨B, 0, none⟩), .agg (cells o d a b n), .int .u32 vv] w fun e w' => e = .returned (.agg (rc q.pc q.v q.d q.s q.a q.y q.k)) ∧ RNxt B C v s' w w' := by
  obtain ⟨q1, q2, q3, q4, q5, q6, q7⟩ := q
  have E := E.out
  have ha := hi.a31
  have hb := hi.b31
  have hd := hi.d31
  have o1 := hi.o1
  have o55 := hi.o55
  have hc := hi.csr
  have ok := Num.dec_ok _ _ _ _ _ _ hi.dec
  have ra := I.r a ha
  have rb := I.r b hb
  have un := W32.mod n
  have a31 : (a : Int) ≤ 31 := by omega
  have b31 : (b : Int) ≤ 31 := by omega
  clear hi
  have p : o = 1 ∨ o = 2 ∨ o = 3 ∨ o = 4 ∨ (5 ≤ o ∧ o ≤ 10) ∨ (11 ≤ o ∧ o ≤ 15) ∨ (16 ≤ o ∧ o ≤ 18) ∨ (19 ≤ o ∧ o ≤ 27) ∨ (28 ≤ o ∧ o ≤ 45) ∨ o = 46 ∨ o = 47 ∨ o = 48 ∨ o = 49 ∨ (50 ≤ o ∧ o ≤ 55) := by omega
  have ne : ∀ k : Int, ¬ o = k → (o == k) = false := fun k h => by rw [beq_eq_false_iff_ne]; exact h
  rcases p with rfl | rfl | rfl | rfl | p | p | p | p | p | rfl | rfl | rfl | rfl | p
  · rw [doI1] at E
    exact rwrt B C s s' v 1 n _ vv d a b hd q1 q2 q3 q4 q5 q6 q7 E w (fun _ => rdo_p1z B C s v 0 0 n _ _ _ 0 _ vv a b a31 b31 rfl rfl rfl rfl rfl rfl rfl w hM) (fun h0 h1 => rdo_p1r B C s v 0 0 n _ _ _ 0 _ vv a b d h0 h1 a31 b31 rfl rfl rfl rfl rfl rfl rfl w hM)
  · rw [doI2] at E
    exact rwrt B C s s' v 2 n _ vv d a b hd q1 q2 q3 q4 q5 q6 q7 E w (fun _ => rdo_p2z B C s v 0 0 n _ _ _ _ _ vv a b a31 b31 rfl rfl rfl rfl rfl rfl rfl rfl w hM) (fun h0 h1 => rdo_p2r B C s v 0 0 n _ _ _ _ _ vv a b d h0 h1 a31 b31 rfl rfl rfl rfl rfl rfl rfl rfl w hM)
  · rw [doI3] at E
    exact rdo_jj B C s s' v 0 0 n _ _ _ 0 0 vv d a b a31 b31 q1 q2 q3 q4 q5 q6 q7 rfl rfl rfl rfl rfl (fun w h => rjump_jal B C s s' v n _ _ d a b I hd q1 q2 q3 q4 q5 q6 q7 E w h) w hM
  · rw [doI4] at E
    exact rdo_jr B C s s' v 0 0 n _ _ _ 0 0 vv d a b a31 b31 q1 q2 q3 q4 q5 q6 q7 rfl rfl rfl rfl rfl (fun w h => rjump_jalr B C s s' v n _ _ d a b I hd q1 q2 q3 q4 q5 q6 q7 E w h) w hM
  · rw [doIB s o p.1 p.2] at E
    have f := fmB o p.1 p.2
    have d0 : d = 0 := by rw [f] at ok; have := (Num.ok6 ok).1; omega
    exact rdo_jb B C s s' v o 0 n _ _ _ 0 0 vv d a b a31 b31 q1 q2 q3 q4 q5 q6 q7 rfl rfl rfl rfl (by unfold Hid; rw [f]; rfl) (fun w h => rjump_br B C s s' v o n _ _ d a b p.1 p.2 I d0 q1 q2 q3 q4 q5 q6 q7 E w h) w hM
  · rw [doIL s o p.1 p.2] at E
    have l := ltL o p.1 (by omega)
    exact rdo_acc B C s s' v o _ n _ _ _ _ _ vv d a b a31 b31 q1 q2 q3 q4 q5 q6 q7 rfl rfl rfl rfl rfl l.1 l.2 (ne 4 (by omega)) rfl (szP o p.1 (by omega)) rfl rfl (fun w h => racc_loads B C s s' v o n _ _ d a b p.1 p.2 hd (W32.mod _) I q1 q2 q3 q4 q5 q6 q7 E w h) w hM
  · rw [doIS s o p.1 p.2] at E
    have l := ltL o (by omega) p.2
    exact rdo_acc B C s s' v o _ n _ _ _ _ _ vv d a b a31 b31 q1 q2 q3 q4 q5 q6 q7 rfl rfl rfl rfl rfl l.1 l.2 (ne 4 (by omega)) rfl (szP o (by omega) p.2) rfl rfl (fun w h => racc_stores B C s s' v o n _ _ d a b p.1 p.2 (W32.mod _) rb I hl q1 q2 q3 q4 q5 q6 q7 E w h) w hM
  · rw [doII s o p.1 p.2] at E
    have l := ltI o p.1 p.2
    have n46 : ¬ o = 46 := by omega
    exact rwrt B C s s' v o n _ vv d a b hd q1 q2 q3 q4 q5 q6 q7 E w (fun _ => rdo_pIz B C s v o _ n _ _ _ _ _ vv a b a31 b31 rfl rfl rfl rfl rfl rfl l.1 l.2.1 l.2.2.1 l.2.2.2 (sz0 o (by omega)) (ne 4 (by omega)) (ne 47 (by omega)) (ne 48 (by omega)) (ne 49 (by omega)) (ne 1 (by omega)) (ne 2 (by omega)) (ne 46 n46) n46 (by simpa using n46) ra un rfl w hM)
      (fun h0 h1 => rdo_pIr B C s v o _ n _ _ _ _ _ vv a b d h0 h1 a31 b31 rfl rfl rfl rfl rfl rfl l.1 l.2.1 l.2.2.1 l.2.2.2 (sz0 o (by omega)) (ne 4 (by omega)) (ne 47 (by omega)) (ne 48 (by omega)) (ne 49 (by omega)) (ne 1 (by omega)) (ne 2 (by omega)) (ne 46 n46) n46 (by simpa using n46) ra un rfl w hM)
  · rw [doIR s o p.1 p.2] at E
    have f : Num.lt (Num.fm o) = 82 := by rw [fmR o p.1 p.2]; rfl
    exact rwrt B C s s' v o n _ vv d a b hd q1 q2 q3 q4 q5 q6 q7 E w (fun _ => rdo_pRz B C s v o 0 n _ _ _ _ _ vv a b a31 b31 rfl rfl rfl rfl rfl f (sz0 o (by omega)) (ne 4 (by omega)) (ne 47 (by omega)) (ne 48 (by omega)) (ne 49 (by omega)) (ne 1 (by omega)) (ne 2 (by omega)) ra rb rfl w hM)
      (fun h0 h1 => rdo_pRr B C s v o 0 n _ _ _ _ _ vv a b d h0 h1 a31 b31 rfl rfl rfl rfl rfl f (sz0 o (by omega)) (ne 4 (by omega)) (ne 47 (by omega)) (ne 48 (by omega)) (ne 49 (by omega)) (ne 1 (by omega)) (ne 2 (by omega)) ra rb rfl w hM)
  · rw [doI46] at E
    obtain ⟨rfl, rfl, rfl, rfl, rfl, rfl, rfl, rfl⟩ := bare_is E
    exact rnxt_of (rdo_46 B C s v n _ _ _ _ _ vv d a b a31 b31 rfl rfl rfl rfl rfl rfl rfl w hM)
  · rw [doI47] at E
    obtain ⟨e, rfl, rfl, rfl, rfl, rfl, rfl, rfl⟩ := bare_is E
    exact rdo_e47 B C s s' v 0 0 n _ _ _ 0 0 vv d a b a31 b31 _ _ _ _ _ _ _ rfl rfl rfl rfl rfl rfl (fun w h => rnxt_of (rtrap_as B C s s' v _ _ _ I rfl (by decide) (by decide) e w h)) w hM
  · rw [doI48] at E
    obtain ⟨e, rfl, rfl, rfl, rfl, rfl, rfl, rfl⟩ := bare_is E
    exact rdo_e48 B C s s' v 0 0 n _ _ _ 0 0 vv d a b a31 b31 _ _ _ _ _ _ _ rfl rfl rfl rfl rfl rfl (fun w h => rnxt_of (rtrap_as B C s s' v _ _ _ I rfl (by decide) (by decide) e w h)) w hM
  · rw [doI49] at E
    obtain ⟨rfl, rfl, rfl, rfl, rfl, rfl, rfl, rfl⟩ := bare_is E
    exact rnxt_of (rdo_49 B C s v n _ _ _ _ _ vv d a b a31 b31 rfl rfl rfl rfl rfl rfl rfl w hM)
  · rw [doIC s o p.1] at E
    have c := hc p.1
    exact rdo_csr B C s s' v o 0 n _ _ _ 0 0 vv d a b a31 b31 q1 q2 q3 q4 q5 q6 q7 rfl rfl rfl rfl (ltC o p.1 p.2) (ne 4 (by omega)) (sz0 o (by omega)) (fun w h => rcsr_as B C s s' v o n vv _ d a b p.1 p.2 ha hd c.1 c.2 I q1 q2 q3 q4 q5 q6 q7 E w h) w hM
end Go.Proofs.YtpkbkbllhpdfiaaGreat.M
namespace Go.Proofs.YtpkbkbllhpdfiaaGreat.M
open Go.ChangeShapes Go.WideShapes Go.ChangeAt Go.RowKit Go.Proofs.YtpkbkbllhpdfiaaGreat.Walks Go.Proofs.YtpkbkbllhpdfiaaGreat.Mod
set_option linter.unusedVariables false
/-- a machine that has not halted: its step -/
theorem rstep_as (B C : Nat) (s : St) (v : Value) (I : Inv s) (H : s.h = false) (n1 : s.n ≤ 100000) (q : Rt) (s' : St) (E : Hid (s.stp = (q, s'))) (w : World) (hM : Hid (RAt B C s v w)) :
    Calls Tryz.prog 22 #[.pointer (some ⟨B, 0, none⟩)] w fun e w' => e = .returned (.tuple #[.agg (rc q.pc q.v q.d q.s q.a q.y q.k), .bool true]) ∧ RNxt B C v s' w w' := by
  obtain ⟨q1, q2, q3, q4, q5, q6, q7⟩ := q
  have E := E.out
  have n0 := I.n
  have p0 := I.p.1
  unfold St.stp at E
  by_cases e : T.Num.fb (s.pc % 4 == 0) (T.Num.ins s.pc) = true
  · rw [if_pos e] at E
    obtain ⟨es, rfl, rfl, rfl, rfl, rfl, rfl, rfl⟩ := bare_is E
    refine (rstep_fetch B C s s' v _ _ H n1 n0 rfl p0 rfl ?_ e I.more es w hM).mono fun _ _ x => ⟨x.1, x.2.nxt⟩
    generalize T.Num.ins s.pc = i
    generalize (s.pc % 4 == 0) = z
    cases i <;> cases z <;> (unfold Hid; decide)
  · rw [if_neg e] at E
    have e' : T.Num.fb (s.pc % 4 == 0) (T.Num.ins s.pc) = false := by simpa using e
    have q := fb_in e'
    have xw := I.m (s.pc / 4).toNat (by omega)
    have hk : s.pc / 4 = ((s.pc / 4).toNat : Int) := by omega
    generalize hx : s.m (s.pc / 4).toNat = x at *
    by_cases z : Num.op x = 0
    · rw [if_pos z] at E
      obtain ⟨es, rfl, rfl, rfl, rfl, rfl, rfl, rfl⟩ := bare_is E
      have D : Num.Dec x 0 0 0 0 0 false := ⟨z, rfl, rfl, rfl, rfl, rfl⟩
      exact (rstep_bad B C s s' v _ _ x (s.pc / 4).toNat H n1 n0 rfl p0 rfl e' hk (by rw [Int.tdiv_eq_ediv_of_nonneg p0]; exact hk) (by omega) hx xw D I.more es w hM).mono fun _ _ x => ⟨x.1, x.2.nxt⟩
    · rw [if_neg z] at E
      have i := Ins.mk_of x z
      have t := I.t
      refine rstep_do B C s s' v _ _ x _ _ _ _ _ (s.pc / 4).toNat H n1 n0 rfl p0 rfl e' hk (by rw [Int.tdiv_eq_ediv_of_nonneg p0]; exact hk) (by omega) hx xw i.dec q1 q2 q3 q4 q5 q6 q7 ?_ w hM
      intro w2 h2
      exact rdo_as B C s.more s' v x _ _ _ _ _ i xw I.more (by show s.t.length ≤ 100000; omega) ⟨q1, q2, q3, q4, q5, q6, q7⟩ E w2 h2
end Go.Proofs.YtpkbkbllhpdfiaaGreat.M
