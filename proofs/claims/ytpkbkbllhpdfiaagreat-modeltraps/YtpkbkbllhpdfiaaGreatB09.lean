/- Keep: Contracts of the program's behindStore and keep. Store: Contract of the program's stores. Csr: Contracts of the program's csrBehind, fixedZeros, swaps. Swaps: Contract of the program's swaps. -/
import Derived.Test.YtpkbkbllhpdfiaaGreatB07
import Derived.Test.YtpkbkbllhpdfiaaGreatB03
import Derived.Deep.RegionLaw
import Derived.Handy
import Derived.Deep.AppendLies
import Derived.Test.YtpkbkbllhpdfiaaGreatB08
import Derived.Test.YtpkbkbllhpdfiaaGreatB04
namespace Go.Proofs.YtpkbkbllhpdfiaaGreat.M
open Go.ChangeShapes Go.WideShapes Go.ChangeAt Go.RowKit Go.Proofs.YtpkbkbllhpdfiaaGreat.Walks Go.Proofs.YtpkbkbllhpdfiaaGreat.Mod
set_option linter.unusedVariables false
/-- it is so now, and nothing else has turned; what it told may lie elsewhere -/
def Nxt (B : Nat) (v : Value) (s : St) (w w' : World) : Prop := ∃ v', MAt B s v' w' ∧ Chg B v w w' ∧ Moves w v v'
theorem Now.nxt {B : Nat} {v : Value} {s : St} {w w' : World} (h : Now B v s w w') : Nxt B v s w w' := ⟨v, h.1, h.2, .inl rfl⟩
set_option maxHeartbeats 600000 in
theorem behind_halt (B : Nat) (s : St) (v : Value) (w : World) (hM : Hid (MAt B s v w)) :
    Calls Tryz.prog 97 #[.pointer (some ⟨B, 0, none⟩), .int .u32 268435460] w fun e w' => e = .returned (.int .u32 s.pc) ∧ w' = w := by
  have c0 := hM.out.pc
  go_enter Tryz.func97, Tryz.ntmps97
  go_wp2_with fail
  go_ret
  exact ⟨rfl, rfl⟩
set_option maxHeartbeats 600000 in
theorem behind_on (B : Nat) (s : St) (v : Value) (a : Int) (g : (a == 268435460) = false) (w : World) (hM : Hid (MAt B s v w)) :
    Calls Tryz.prog 97 #[.pointer (some ⟨B, 0, none⟩), .int .u32 a] w fun e w' => e = .returned (.int .u32 s.nx) ∧ w' = w := by
  have c0 := hM.out.pc
  go_enter Tryz.func97, Tryz.ntmps97
  go_wp2_with fail
  go_ret
  exact ⟨rfl, rfl⟩
theorem behind_as (B : Nat) (s : St) (v : Value) (a q : Int) (Q : Hid ((if a = 268435460 then s.pc else s.nx) = q)) (w : World) (hM : Hid (MAt B s v w)) :
    Calls Tryz.prog 97 #[.pointer (some ⟨B, 0, none⟩), .int .u32 a] w fun e w' => e = .returned (.int .u32 q) ∧ w' = w := by
  obtain rfl : (if a = 268435460 then s.pc else s.nx) = q := Q
  by_cases h : a = 268435460
  · rw [if_pos h]; subst h; exact behind_halt B s v w hM
  · rw [if_neg h]; exact behind_on B s v a (by rw [beq_eq_false_iff_ne]; exact h) w hM
set_option maxHeartbeats 600000 in
theorem keep_halt (B : Nat) (s : St) (v : Value) (p x d : Int) (g : Bool) (y k : Int) (w : World) (hM : Hid (MAt B s v w)) :
    Calls Tryz.prog 98 #[.pointer (some ⟨B, 0, none⟩), .agg (rc p x d g 268435460 y k)] w fun e w' => e = .returned (.tuple #[]) ∧ Now B v (s.halt y) w w' := by
  have c0 := hM.out.h
  have c1 := hM.out.x
  have z0 := hM.out.z 1064 (by decide)
  have z1 := hM.out.z 1065 (by decide)
  have hb := hM.out.lt
  go_enter Tryz.func98, Tryz.ntmps98
  go_wp2_with fail
  go_region
  all_goals
    go_wp2_with fail
    go_returns
    refine ⟨rfl, ?_⟩
    exact (((Now.refl hM.out).setH y).alloc _).drew
set_option maxHeartbeats 2000000 in
theorem keep_mem (B : Nat) (s : St) (v : Value) (p x d : Int) (g : Bool) (a y k m c : Int) (i : Nat) (hi : (i : Int) ≤ 1023) (a0 : Hid (0 ≤ a)) (I : a / 4 = (i : Int)) (g1 : (a == 268435456) = false) (g2 : (a == 268435460) = false)
    (O : Hid (s.m i = m)) (m0 : Hid (0 ≤ m ∧ m ≤ 4294967295)) (y0 : Hid (0 ≤ y ∧ y ≤ 4294967295)) (C : Hid (V.Num.mgm m y k = c)) (w : World) (hM : Hid (MAt B s v w)) :
    Calls Tryz.prog 98 #[.pointer (some ⟨B, 0, none⟩), .agg (rc p x d g a y k)] w fun e w' => e = .returned (.tuple #[]) ∧ Now B v (s.setM i c) w w' := by
  have c0 := hM.out.m i (by omega)
  rw [O.out] at c0
  have z0 := hM.out.z (38 + i) (by omega)
  have hb := hM.out.lt
  have K1 : a.tdiv 4 = (i : Int) := by rw [Int.tdiv_eq_ediv_of_nonneg a0.out]; exact I
  have K2 : IntKind.u32.wrap (i : Int) = i := by rw [wrap_is]; omega
  have k0 : (0 : Int) ≤ i := by omega
  have k9 : (i : Int) < 1024 := by omega
  have i0 := hid (Walks.box_cell w (w.alloc (.cells (rc p x d g a y k) 38)) _ 38 (Fr.refl _))
  have i5 : (w.alloc (.cells (rc p x d g a y k) 38)).cell? ⟨w.heap.size, 5, none⟩ = some (.int .u32 y) := i0.out 5
  have i6 : (w.alloc (.cells (rc p x d g a y k) 38)).cell? ⟨w.heap.size, 6, none⟩ = some (.int .i64 k) := i0.out 6
  go_enter Tryz.func98, Tryz.ntmps98
  go_wp2_with fail
  go_region_with (go_at_call 138; refine (V.Walks.merge_as _ _ _ _ m0.out.1 m0.out.2 y0.out.1 y0.out.2 C _).mono ?_; rintro e w1 ⟨rfl, rfl⟩)
  all_goals
    go_wp2_with fail
    go_returns
    refine ⟨rfl, ?_⟩
    exact (((Now.refl hM.out).setM i (by omega) c).alloc _).drew
theorem info36 : (Tryz.prog.info? 36).map (fun i => (i.zero, i.size, i.bytes)) = some (some (.int .u32 0), 1, 4) := by kernel_rfl
theorem own_fr {w w' : World} {v : Value} {n : Nat} {xs : List Value} (h : w.ownsRow 0 36 1 v n xs) (F : Fr w w') : w'.ownsRow 0 36 1 v n xs := own_block h fun g e => F.block g (own_lt h e)
theorem news1 (w : World) (o : Obj) (y : Int) : ∀ j u, [Value.int .u32 y][j]? = some u → ((w.alloc o).alloc (.cells #[.int .u32 y] 36)).drew.cell? ((⟨w.heap.size + 1, 0, none⟩ : Addr).add j) = some u :=
  World.news_of_block (cs := #[.int .u32 y]) (t := 36) (fr := (0, 0)) (heap_alloc2_new w o _)
/-- a row that grew, and then the cell that holds it -/
theorem MAt.told {B : Nat} {s : St} {v v' : Value} {w u w1 : World} {y : Int} (h : MAt B s v w) (F : Fr w u) (hown : w1.ownsRow 0 36 1 v' (s.t.length + 1) (s.t.map (Value.int .u32) ++ [.int .u32 y])) (hg : u.grownBy w1 v.ownBlock)
    (hat : v'.ownBlock = v.ownBlock ∨ ∃ g, v'.ownBlock = some g ∧ u.heap.size ≤ g) : Nxt B v (s.tell y) w (w1.setCell ⟨B, 1062, none⟩ v') := by
  have hu := h.fr F
  have bB : w1.heap[B]? = u.heap[B]? := hg.block B hu.lt (fun e => h.ne e.symm)
  have c : ∀ o, w1.cell? ⟨B, o, none⟩ = u.cell? ⟨B, o, none⟩ := fun o => World.cell?_of_block (w := u) bB
  have z : ∀ o, w1.frozen? ⟨B, o, none⟩ = u.frozen? ⟨B, o, none⟩ := fun o => World.frozen?_of_block (w := u) bB
  have mv : Moves w v v' := by
    rcases hat with e | ⟨g, e, l⟩
    · exact .inl e
    · exact .inr ⟨g, e, Nat.le_trans F.size l⟩
  have ne : v'.ownBlock ≠ some B := by
    rcases hat with e | ⟨g, e, l⟩
    · rw [e]; exact h.ne
    · rw [e]; intro x; have := hu.lt; injection x with x; omega
  refine ⟨v', ⟨?_, ?_, ?_, ?_, set_same (by rw [c]; exact hu.t), ?_, ?_, ?_, ?_, ?_, ne⟩, ?_, mv⟩
  · rw [set_other (addr_ne (by omega)), c]; exact hu.pc
  · intro k hk; rw [set_other (addr_ne (by omega)), c]; exact hu.r k hk
  · intro k hk; rw [set_other (addr_ne (by omega)), c]; exact hu.c k hk
  · intro k hk; rw [set_other (addr_ne (by omega)), c]; exact hu.m k hk
  · rw [set_other (addr_ne (by omega)), c]; exact hu.n
  · rw [set_other (addr_ne (by omega)), c]; exact hu.h
  · rw [set_other (addr_ne (by omega)), c]; exact hu.x
  · intro k hk; rw [World.frozen?_setCell, z]; exact hu.z k hk
  · have e1 : (s.tell y).t = s.t ++ [y] := rfl
    rw [e1, List.length_append, List.map_append]
    exact own_block hown fun g e => Below.heap_setCell _ _ _ g (by show g ≠ B; intro x; subst x; exact ne e)
  · refine Chg.set ⟨hg.os.trans F.os, hg.output.trans F.output, Nat.le_trans F.size hg.size, fun k a b e => (hg.block k (Nat.lt_of_lt_of_le a F.size) (fun x => e x.symm)).trans (F.block k a)⟩ _ _
theorem one_u32 (y : Int) : ∀ u ∈ [Value.int .u32 y], u.oneCell' = true := by
  intro u hu
  simp only [List.mem_cons, List.not_mem_nil, or_false] at hu
  subst hu
  rfl
set_option maxHeartbeats 2000000 in
theorem keep_port (B : Nat) (s : St) (v : Value) (p x d : Int) (g : Bool) (y k : Int) (hl : Hid (s.t.length ≤ 100000)) (w : World) (hM : Hid (MAt B s v w)) :
    Calls Tryz.prog 98 #[.pointer (some ⟨B, 0, none⟩), .agg (rc p x d g 268435456 y k)] w fun e w' => e = .returned (.tuple #[]) ∧ Nxt B v (s.tell y) w w' := by
  have c0 := hM.out.t
  have z0 := hM.out.z 1062 (by decide)
  have hb := hM.out.lt
  obtain ⟨j0, hi, hz0, hz1, hz2⟩ := info_parts info36
  have C2 := hid (one_u32 y)
  have C3 : Hid (s.t.length + 1 ≤ maxLen) := by have := hl.out; unfold Hid maxLen; omega
  have C4 : Hid ((s.t.length + 1) * 4 ≤ 140737488355328) := by have := hl.out; unfold Hid; omega
  have i0 := hid (Walks.box_cell w (w.alloc (.cells (rc p x d g 268435456 y k) 38)) _ 38 (Fr.refl _))
  have i5 : (w.alloc (.cells (rc p x d g 268435456 y k) 38)).cell? ⟨w.heap.size, 5, none⟩ = some (.int .u32 y) := i0.out 5
  go_enter Tryz.func98, Tryz.ntmps98
  go_wp2_with fail
  go_region_law ((refine step_append_lies _ (by rfl) _ _ _ (by rfl) 0 36 j0 (.int .u32 0) 1 4 Tryz.underlying23 hi hz0 hz1 hz2 rfl (by decide) v _ _ (by rfl) (by exact own_fr hM.out.tr (by repeat (first | with_reducible exact Fr.refl _ | with_reducible apply Fr.drew | with_reducible apply Fr.alloc))) ⟨w.heap.size + 1, 0, none⟩ 1 1 [.int .u32 y] (by rfl) rfl (by exact news1 w _ y) C2.out (by decide) C3.out C4.out (Nat.zero_le _) _ rfl ?_; intro gg cap w1 hown hgrow hat hlt; have t1 : w1.cell? ⟨B, 1062, none⟩ = some v := (hgrow.cell_far _ (by simp; omega) (fun e => hM.out.ne e.symm)).trans (((((Fr.refl w).alloc _).alloc _).drew.cell B 1062 hb).trans c0); have f1 : w1.frozen? ⟨B, 1062, none⟩ = false := (hgrow.frozen_far _ (by simp; omega) (fun e => hM.out.ne e.symm)).trans (((((Fr.refl w).alloc _).alloc _).drew.frozen B 1062 hb).trans z0)))
  all_goals
    go_wp2_with fail
    go_returns
    refine ⟨rfl, ?_⟩
    exact hM.out.told (by repeat (first | with_reducible exact Fr.refl _ | with_reducible apply Fr.drew | with_reducible apply Fr.alloc)) hown hgrow (by rcases hat with e | e; exact .inl e.symm; exact .inr ⟨gg, rfl, by rw [e]; exact Nat.le_refl _⟩)
/-- what is stored at a, in whichever of the three places that may be -/
theorem keep_as (B : Nat) (s s' : St) (v : Value) (p x d : Int) (g : Bool) (a y k : Int) (ha : a = 268435456 ∨ a = 268435460 ∨ 0 ≤ a ∧ a < 4096) (hm : ∀ i, i < 1024 → 0 ≤ s.m i ∧ s.m i ≤ 4294967295) (y0 : 0 ≤ y) (y1 : y ≤ 4294967295) (hl : s.t.length ≤ 100000)
    (S : Hid (s.kp a y k = s')) (w : World) (hM : Hid (MAt B s v w)) :
    Calls Tryz.prog 98 #[.pointer (some ⟨B, 0, none⟩), .agg (rc p x d g a y k)] w fun e w' => e = .returned (.tuple #[]) ∧ Nxt B v s' w w' := by
  obtain rfl : s.kp a y k = s' := S
  unfold St.kp
  rcases ha with rfl | rfl | ⟨a0, a1⟩
  · rw [if_pos rfl]
    exact keep_port B s v p x d g y k hl w hM
  · rw [if_neg (by decide), if_pos rfl]
    exact (keep_halt B s v p x d g y k w hM).mono fun e w' h => ⟨h.1, h.2.nxt⟩
  · rw [if_neg (by omega), if_neg (by omega)]
    have b := hm (a / 4).toNat (by omega)
    exact (keep_mem B s v p x d g a y k _ _ (a / 4).toNat (by omega) a0 (by omega) (by rw [beq_eq_false_iff_ne]; omega) (by rw [beq_eq_false_iff_ne]; omega) rfl b ⟨y0, y1⟩ rfl w hM).mono fun e w' h => ⟨h.1, h.2.nxt⟩
end Go.Proofs.YtpkbkbllhpdfiaaGreat.M
namespace Go.Proofs.YtpkbkbllhpdfiaaGreat.M
open Go.ChangeShapes Go.WideShapes Go.ChangeAt Go.RowKit Go.Proofs.YtpkbkbllhpdfiaaGreat.Walks Go.Proofs.YtpkbkbllhpdfiaaGreat.Mod
set_option linter.unusedVariables false
theorem Moves.past {u w : World} {v v' : Value} (h : Moves w v v') (k : u.heap.size ≤ w.heap.size) : Moves u v v' := by
  rcases h with e | ⟨g, e, l⟩
  · exact .inl e
  · exact .inr ⟨g, e, Nat.le_trans k l⟩
theorem Nxt.past {B : Nat} {v : Value} {s : St} {u w w' : World} (k : Chg B v u w) (h : Nxt B v s w w') : Nxt B v s u w' := by
  obtain ⟨v', h1, h2, h3⟩ := h
  exact ⟨v', h1, k.trans h2, h3.past k.size⟩
theorem Nxt.chg {B : Nat} {v : Value} {s : St} {w w' : World} (h : Nxt B v s w w') : Chg B v w w' := by obtain ⟨_, _, h2, _⟩ := h; exact h2
/-- a method's end: its result goes into a box b that is new since u, and was there in w -/
theorem Nxt.ends {B b : Nat} {v : Value} {s0 s : St} {u w w' : World} (h0 : MAt B s0 v u) (k : Chg B v u w) (h : Nxt B v s w w') (hb : u.heap.size ≤ b) (hw : b < w.heap.size) (p x d : Int) (g : Bool) (a y m : Int) : Nxt B v s u (put7 w' b p x d g a y m) := by
  obtain ⟨v', h1, h2, h3⟩ := h
  have n2 : v'.ownBlock ≠ some b := by
    rcases h3 with e | ⟨g, e, l⟩
    · rw [e]; intro x; have := own_lt h0.tr x; omega
    · rw [e]; intro x; injection x with x; omega
  exact ⟨v', h1.put7 b (by have := h0.lt; omega) n2 _ _ _ _ _ _ _, (k.trans h2).put7 b hb _ _ _ _ _ _ _, h3.past k.size⟩
theorem Box.chg1 {B b : Nat} {v : Value} {s0 : St} {u w w' : World} (h : Box b w) (h0 : MAt B s0 v u) (hb : u.heap.size ≤ b) (k : Chg B v w w') : Box b w' :=
  h.chg k (by have := h0.lt; omega) (fun e => by have := own_lt h0.tr e; omega)
/-- the cells of a new variable behind a call -/
theorem var_kept {B : Nat} {v : Value} {s : St} {w w' : World} {c : Array Value} {t : TypeId} (h : MAt B s v w) (k : Chg B v (w.alloc (.cells c t)) w') (j : Nat) : w'.cell? ⟨w.heap.size, j, none⟩ = c[j]? := by
  rw [k.cell _ _ (by simp) (by have := h.lt; omega) (fun e => by have := own_lt h.tr e; omega), World.cell?_alloc_at _ _ _ _ rfl]
  try rfl
set_option maxRecDepth 100000 in
set_option maxHeartbeats 1000000 in
theorem stores_bad (B : Nat) (s : St) (v : Value) (o n x u ad c : Int) (a b d : Nat) (ha : (a : Int) ≤ 31)
    (X : Hid (s.r a = x)) (N : n % 4294967296 = u) (AD : (x + u) % 4294967296 = ad) (a0 : Hid (0 ≤ ad)) (C : Hid (acc o ad = c)) (c0 : Hid (0 ≤ c ∧ c ≤ 11)) (G : Hid (acb o ad = true)) (w : World) (hM : Hid (MAt B s v w)) :
    Calls Tryz.prog 54 #[.pointer (some ⟨B, 0, none⟩), .agg (cells o d a b n)] w fun e w' => e = .returned (.agg (rc s.pc 0 0 false 0 0 0)) ∧ Now B v (s.trap c ad) w w' := by
  have ca := hM.out.r a (by omega)
  rw [X.out] at ca
  have hb := hM.out.lt
  have HW := hid (Now.inst hM.out (cells o d a b n))
  have BX := hid (Box.inst w (cells o d a b n))
  have N' : IntKind.u32.wrap n = u := N
  have AD' : IntKind.u32.wrap (x + u) = ad := AD
  go_enter Tryz.func54, Tryz.ntmps54
  go_wp2_with fail
  go_region
  all_goals
    go_wp2_with fail
    refine (access_to _ _ _ _ a0.out C G _).mono ?_; rintro e w1 ⟨rfl, rfl⟩
    go_wp2_with fail
    refine (trapped_as B s v _ _ c0.out.1 c0.out.2 _ (by exact HW.out.1.alike ⟨rfl, rfl, rfl⟩)).mono ?_; rintro e w1 ⟨rfl, hN⟩
    obtain ⟨b0, b1, b2, b3, b4, b5, b6, y0, y1, y2, y3, y4, y5, y6⟩ := Now.boxed (by exact HW.out.alike ⟨rfl, rfl, rfl⟩) hM.out (Nat.le_add_right _ 1) (by exact BX.out.alike ⟨rfl, rfl, rfl⟩) hN
    go_wp2_with fail
    refine bodyPost_ret (v := .agg (rc s.pc 0 0 false 0 0 0)) (by simp [results, Tryz.results54, go_sem, *]) rfl ⟨rfl, ?_⟩
    exact (Now.then (by exact HW.out.alike ⟨rfl, rfl, rfl⟩) hN).ends1 hM.out (Nat.le_add_right _ 1) s.pc 0 0 false 0 0 0
set_option maxRecDepth 100000 in
set_option maxHeartbeats 4000000 in
theorem stores_good (B : Nat) (s : St) (v : Value) (o n x y u ad al c t q f g : Int) (a b d : Nat) (ha : (a : Int) ≤ 31) (hb31 : (b : Int) ≤ 31) (s' : St)
    (X : Hid (s.r a = x)) (Y : Hid (s.r b = y)) (y0 : Hid (0 ≤ y ∧ y ≤ 4294967295)) (N : n % 4294967296 = u) (AD : (x + u) % 4294967296 = ad) (AL : bits .andNot .u32 ad 3 = al) (a0 : Hid (0 ≤ ad ∧ ad ≤ 4294967295)) (C : Hid (acc o ad = c)) (G : Hid (acb o ad = false))
    (T : Hid (V.Num.st o (ad % 4) y = t)) (Q : Hid (V.Num.sm o (ad % 4) = q)) (F : Hid ((if ad = 268435460 then s.pc else s.nx) = f))
    (KP : Hid (∀ w, MAt B (s.go f) v w → Calls Tryz.prog 98 #[.pointer (some ⟨B, 0, none⟩), .agg (rc s.pc 0 0 true al t q)] w fun e w' => e = .returned (.tuple #[]) ∧ Nxt B v s' w w')) (w : World) (hM : Hid (MAt B s v w)) :
    Calls Tryz.prog 54 #[.pointer (some ⟨B, 0, none⟩), .agg (cells o d a b n)] w fun e w' => e = .returned (.agg (rc s.pc 0 0 true al t q)) ∧ Nxt B v s' w w' := by
  have ca := hM.out.r a (by omega)
  rw [X.out] at ca
  have cb := hM.out.r b (by omega)
  rw [Y.out] at cb
  have hb := hM.out.lt
  have HW := hid (Now.inst hM.out (cells o d a b n))
  have BX := hid (Box.inst w (cells o d a b n))
  have N' : IntKind.u32.wrap n = u := N
  have AD' : IntKind.u32.wrap (x + u) = ad := AD
  have e0 : (0 : Int) ≤ b := by omega
  have e9 : (b : Int) < 32 := by omega
  go_enter Tryz.func54, Tryz.ntmps54
  go_wp2_with fail
  go_region
  all_goals
    go_wp2_with fail
    refine (access_to _ _ _ _ a0.out.1 C G _).mono ?_; rintro e w1 ⟨rfl, rfl⟩
    go_wp2_with fail
    go_region_with (go_at_call 96; refine (V.Walks.store_as _ _ _ _ a0.out.1 a0.out.2 y0.out.1 y0.out.2 rfl _ _ T Q _).mono ?_; rintro e w1 ⟨rfl, hA⟩)
    all_goals
      go_wp2_with fail
      have H1 := hid (Now.alike (w := _) (by exact HW.out.alike ⟨rfl, rfl, rfl⟩) hA)
      have B1 := hid (Box.alike (w := _) (by exact BX.out.alike ⟨rfl, rfl, rfl⟩) hA)
      refine (behind_as B s v _ _ F _ (by exact H1.out.1)).mono ?_; rintro e w1 ⟨rfl, rfl⟩
      go_wp2_with fail
      refine (goesTo_as B s v _ _ rfl _ H1.out.1).mono ?_; rintro e w2 ⟨rfl, hN⟩
      have H2 := hid (H1.out.then hN)
      have B2 := hid (H1.out.boxed hM.out (Nat.le_add_right _ 1) B1.out hN)
      go_wp2_with fail
      refine (KP.out _ (by exact H2.out.1.alloc _)).mono ?_; rintro e w3 ⟨rfl, hX⟩
      have V := hid (fun j => var_kept H2.out.1 hX.chg j)
      have r0 : w3.cell? ⟨w2.heap.size, 0, none⟩ = some (.int .u32 s.pc) := V.out 0
      have r1 : w3.cell? ⟨w2.heap.size, 1, none⟩ = some (.int .u32 0) := V.out 1
      have r2 : w3.cell? ⟨w2.heap.size, 2, none⟩ = some (.int .i64 0) := V.out 2
      have r3 : w3.cell? ⟨w2.heap.size, 3, none⟩ = some (.bool true) := V.out 3
      have r4 : w3.cell? ⟨w2.heap.size, 4, none⟩ = some (.int .u32 al) := V.out 4
      have r5 : w3.cell? ⟨w2.heap.size, 5, none⟩ = some (.int .u32 t) := V.out 5
      have r6 : w3.cell? ⟨w2.heap.size, 6, none⟩ = some (.int .i64 q) := V.out 6
      obtain ⟨b0, b1, b2, b3, b4, b5, b6, y0, y1, y2, y3, y4, y5, y6⟩ := (B2.out.alloc (.cells (rc s.pc 0 0 true al t q) 38)).chg1 hM.out (Nat.le_add_right _ 1) hX.chg
      have sz := hid (cell_lt B2.out.c0)
      go_wp2_with fail
      refine bodyPost_ret (v := .agg (rc s.pc 0 0 true al t q)) (by simp [results, Tryz.results54, go_sem, *]) rfl ⟨rfl, ?_⟩
      exact Nxt.ends hM.out (H2.out.2.alloc _) hX (Nat.le_add_right _ 1) (by have := sz.out; simp; omega) s.pc 0 0 true al t q
end Go.Proofs.YtpkbkbllhpdfiaaGreat.M
namespace Go.Proofs.YtpkbkbllhpdfiaaGreat.M
open Go.ChangeShapes Go.WideShapes Go.ChangeAt Go.RowKit Go.Proofs.YtpkbkbllhpdfiaaGreat.Walks Go.Proofs.YtpkbkbllhpdfiaaGreat.Mod
set_option linter.unusedVariables false
set_option maxHeartbeats 600000 in
theorem behind50 (B : Nat) (s : St) (v : Value) (n x old : Int) (a b d : Nat) (ha : (a : Int) ≤ 31) (X : Hid (s.r a = x)) (w : World) (hM : Hid (MAt B s v w)) :
    Calls Tryz.prog 109 #[.pointer (some ⟨B, 0, none⟩), .agg (cells 50 d a b n), .int .u32 old] w fun e w' => e = .returned (.int .u32 x) ∧ Fr w w' := by
  have ca := hM.out.r a (by omega)
  rw [X.out] at ca
  have hb := hM.out.lt
  go_enter Tryz.func109, Tryz.ntmps109
  go_wp2_with fail
  go_region
  all_goals
    go_wp2_with fail
    go_ret
    exact ⟨rfl, ((Fr.refl w).alloc _).drew⟩
set_option maxHeartbeats 600000 in
theorem behind51 (B : Nat) (s : St) (v : Value) (n x old : Int) (a b d : Nat) (ha : (a : Int) ≤ 31) (X : Hid (s.r a = x)) (w : World) (hM : Hid (MAt B s v w)) :
    Calls Tryz.prog 109 #[.pointer (some ⟨B, 0, none⟩), .agg (cells 51 d a b n), .int .u32 old] w fun e w' => e = .returned (.int .u32 (bits .or .u32 old x)) ∧ Fr w w' := by
  have ca := hM.out.r a (by omega)
  rw [X.out] at ca
  have hb := hM.out.lt
  go_enter Tryz.func109, Tryz.ntmps109
  go_wp2_with fail
  go_region
  all_goals
    go_wp2_with fail
    go_ret
    exact ⟨rfl, ((Fr.refl w).alloc _).drew⟩
set_option maxHeartbeats 600000 in
theorem behind52 (B : Nat) (s : St) (v : Value) (n x old : Int) (a b d : Nat) (ha : (a : Int) ≤ 31) (X : Hid (s.r a = x)) (w : World) (hM : Hid (MAt B s v w)) :
    Calls Tryz.prog 109 #[.pointer (some ⟨B, 0, none⟩), .agg (cells 52 d a b n), .int .u32 old] w fun e w' => e = .returned (.int .u32 (bits .andNot .u32 old x)) ∧ Fr w w' := by
  have ca := hM.out.r a (by omega)
  rw [X.out] at ca
  have hb := hM.out.lt
  go_enter Tryz.func109, Tryz.ntmps109
  go_wp2_with fail
  go_region
  all_goals
    go_wp2_with fail
    go_ret
    exact ⟨rfl, ((Fr.refl w).alloc _).drew⟩
set_option maxHeartbeats 600000 in
theorem behind53 (B : Nat) (s : St) (v : Value) (n x old : Int) (a b d : Nat) (ha : (a : Int) ≤ 31) (X : (a : Int) % 4294967296 = x) (X' : IntKind.u32.wrap (a : Int) = x) (w : World) (hM : Hid (MAt B s v w)) :
    Calls Tryz.prog 109 #[.pointer (some ⟨B, 0, none⟩), .agg (cells 53 d a b n), .int .u32 old] w fun e w' => e = .returned (.int .u32 x) ∧ Fr w w' := by
  have hb := hM.out.lt
  go_enter Tryz.func109, Tryz.ntmps109
  go_wp2_with fail
  go_ret
  exact ⟨rfl, (Fr.refl w).alloc _⟩
set_option maxHeartbeats 600000 in
theorem behind54 (B : Nat) (s : St) (v : Value) (n x old : Int) (a b d : Nat) (ha : (a : Int) ≤ 31) (X : (a : Int) % 4294967296 = x) (X' : IntKind.u32.wrap (a : Int) = x) (w : World) (hM : Hid (MAt B s v w)) :
    Calls Tryz.prog 109 #[.pointer (some ⟨B, 0, none⟩), .agg (cells 54 d a b n), .int .u32 old] w fun e w' => e = .returned (.int .u32 (bits .or .u32 old x)) ∧ Fr w w' := by
  have hb := hM.out.lt
  go_enter Tryz.func109, Tryz.ntmps109
  go_wp2_with fail
  go_ret
  exact ⟨rfl, (Fr.refl w).alloc _⟩
set_option maxHeartbeats 600000 in
theorem behind55 (B : Nat) (s : St) (v : Value) (n x old : Int) (a b d : Nat) (ha : (a : Int) ≤ 31) (X : (a : Int) % 4294967296 = x) (X' : IntKind.u32.wrap (a : Int) = x) (w : World) (hM : Hid (MAt B s v w)) :
    Calls Tryz.prog 109 #[.pointer (some ⟨B, 0, none⟩), .agg (cells 55 d a b n), .int .u32 old] w fun e w' => e = .returned (.int .u32 (bits .andNot .u32 old x)) ∧ Fr w w' := by
  have hb := hM.out.lt
  go_enter Tryz.func109, Tryz.ntmps109
  go_wp2_with fail
  go_ret
  exact ⟨rfl, (Fr.refl w).alloc _⟩
set_option maxHeartbeats 600000 in
theorem zeros0 (w : World) : Calls Tryz.prog 110 #[.int .i64 0] w fun e w' => e = .returned (.int .u32 3) ∧ w' = w := by
  go_enter Tryz.func110, Tryz.ntmps110
  go_wp2_with fail
  go_ret
  exact ⟨rfl, rfl⟩
set_option maxHeartbeats 600000 in
theorem zeros1 (w : World) : Calls Tryz.prog 110 #[.int .i64 1] w fun e w' => e = .returned (.int .u32 0) ∧ w' = w := by
  go_enter Tryz.func110, Tryz.ntmps110
  go_wp2_with fail
  go_ret
  exact ⟨rfl, rfl⟩
set_option maxHeartbeats 600000 in
theorem zeros2 (w : World) : Calls Tryz.prog 110 #[.int .i64 2] w fun e w' => e = .returned (.int .u32 3) ∧ w' = w := by
  go_enter Tryz.func110, Tryz.ntmps110
  go_wp2_with fail
  go_ret
  exact ⟨rfl, rfl⟩
set_option maxHeartbeats 600000 in
theorem zeros3 (w : World) : Calls Tryz.prog 110 #[.int .i64 3] w fun e w' => e = .returned (.int .u32 0) ∧ w' = w := by
  go_enter Tryz.func110, Tryz.ntmps110
  go_wp2_with fail
  go_ret
  exact ⟨rfl, rfl⟩
set_option maxHeartbeats 600000 in
theorem zeros4 (w : World) : Calls Tryz.prog 110 #[.int .i64 4] w fun e w' => e = .returned (.int .u32 0) ∧ w' = w := by
  go_enter Tryz.func110, Tryz.ntmps110
  go_wp2_with fail
  go_ret
  exact ⟨rfl, rfl⟩
end Go.Proofs.YtpkbkbllhpdfiaaGreat.M
namespace Go.Proofs.YtpkbkbllhpdfiaaGreat.M
open Go.ChangeShapes Go.WideShapes Go.ChangeAt Go.RowKit Go.Proofs.YtpkbkbllhpdfiaaGreat.Walks Go.Proofs.YtpkbkbllhpdfiaaGreat.Mod
set_option linter.unusedVariables false
/-- csrBehind, for each op: x is the register's number, or the five bits -/
theorem csrBehind_as (B : Nat) (s : St) (v : Value) (o n x old c : Int) (a b d : Nat) (h0 : 50 ≤ o) (h1 : o ≤ 55) (ha : (a : Int) ≤ 31) (X : Hid ((if o ≤ 52 then s.r a else (a : Int)) = x)) (C : Hid (csv o old x = c)) (w : World) (hM : Hid (MAt B s v w)) :
    Calls Tryz.prog 109 #[.pointer (some ⟨B, 0, none⟩), .agg (cells o d a b n), .int .u32 old] w fun e w' => e = .returned (.int .u32 c) ∧ Fr w w' := by
  obtain rfl : csv o old x = c := C
  have X := X.out
  have e : o = 50 ∨ o = 51 ∨ o = 52 ∨ o = 53 ∨ o = 54 ∨ o = 55 := by omega
  have m : (a : Int) % 4294967296 = a := by omega
  rcases e with rfl | rfl | rfl | rfl | rfl | rfl
  · rw [if_pos (by decide)] at X; exact behind50 B s v n x old a b d ha X w hM
  · rw [if_pos (by decide)] at X; exact behind51 B s v n x old a b d ha X w hM
  · rw [if_pos (by decide)] at X; exact behind52 B s v n x old a b d ha X w hM
  · rw [if_neg (by decide)] at X; subst X; exact behind53 B s v n _ old a b d ha m m w hM
  · rw [if_neg (by decide)] at X; subst X; exact behind54 B s v n _ old a b d ha m m w hM
  · rw [if_neg (by decide)] at X; subst X; exact behind55 B s v n _ old a b d ha m m w hM
def fz (k : Nat) : Int := if k = 0 then 3 else if k = 2 then 3 else 0
theorem zeros_as (k : Nat) (hk : (k : Int) ≤ 4) (f : Int) (F : Hid (fz k = f)) (w : World) : Calls Tryz.prog 110 #[.int .i64 (k : Int)] w fun e w' => e = .returned (.int .u32 f) ∧ w' = w := by
  obtain rfl : fz k = f := F
  have e : k = 0 ∨ k = 1 ∨ k = 2 ∨ k = 3 ∨ k = 4 := by omega
  rcases e with rfl | rfl | rfl | rfl | rfl
  · exact zeros0 w
  · exact zeros1 w
  · exact zeros2 w
  · exact zeros3 w
  · exact zeros4 w
theorem andNot0 (y : Int) (h0 : 0 ≤ y) (h1 : y ≤ 4294967295) : bits .andNot .u32 y 0 = y := by
  obtain ⟨x, rfl⟩ := Int.eq_ofNat_of_zero_le h0
  rw [show (0 : Int) = ((0 : Nat) : Int) from rfl, u32_andNot_nat x 0 (by omega) (by decide)]
  show ((x &&& (2 ^ 32 - 1) : Nat) : Int) = x
  rw [Nat.and_two_pow_sub_one_eq_mod]
  omega
theorem csz_is (k : Nat) (y : Int) (h0 : 0 ≤ y) (h1 : y ≤ 4294967295) : bits .andNot .u32 y (fz k) = csz (k : Int) y := by
  by_cases a : k = 0
  · subst a; rfl
  · by_cases b : k = 2
    · subst b; rfl
    · have e1 : fz k = 0 := by unfold fz; rw [if_neg a, if_neg b]
      have e2 : csz (k : Int) y = y := by unfold csz; rw [if_neg (by omega), if_neg (by omega)]
      rw [e1, e2]; exact andNot0 y h0 h1
set_option maxRecDepth 100000 in
set_option maxHeartbeats 300000 in
theorem swaps_bad (B : Nat) (s : St) (v : Value) (o n vv : Int) (a b d : Nat) (n0 : 0 ≤ n) (n1 : n ≤ 4095) (K : Hid (T.Num.ix n = -1)) (w : World) (hM : Hid (MAt B s v w)) :
    Calls Tryz.prog 57 #[.pointer (some ⟨B, 0, none⟩), .agg (cells o d a b n), .int .u32 vv] w fun e w' => e = .returned (.agg (rc s.pc 0 0 false 0 0 0)) ∧ Now B v (s.trap 2 vv) w w' := by
  have hb := hM.out.lt
  have HW := hid (Now.inst hM.out (cells o d a b n))
  have BX := hid (Box.inst w (cells o d a b n))
  go_enter Tryz.func57, Tryz.ntmps57
  go_wp2_with fail
  refine (T.Walks.index_as _ _ K _).mono ?_; rintro e w1 ⟨rfl, rfl⟩
  go_wp2_with fail
  refine (trapped_as B s v _ _ (by decide) (by decide) _ (by exact HW.out.1)).mono ?_; rintro e w1 ⟨rfl, hN⟩
  obtain ⟨b0, b1, b2, b3, b4, b5, b6, y0, y1, y2, y3, y4, y5, y6⟩ := Now.boxed HW.out hM.out (Nat.le_add_right _ 1) BX.out hN
  go_wp2_with fail
  refine bodyPost_ret (v := .agg (rc s.pc 0 0 false 0 0 0)) (by simp [results, Tryz.results57, go_sem, *]) rfl ⟨rfl, ?_⟩
  exact (Now.then HW.out hN).ends1 hM.out (Nat.le_add_right _ 1) s.pc 0 0 false 0 0 0
theorem inst_cell (w : World) (c : Array Value) (j : Nat) : ((w.alloc (.cells c 62)).alloc (.cells z7 38)).cell? ⟨w.heap.size, j, none⟩ = c[j]? := Walks.box_cell w _ c 62 ((Fr.refl _).alloc _) j
set_option maxRecDepth 100000 in
set_option maxHeartbeats 1000000 in
theorem swaps_good (B : Nat) (s : St) (v : Value) (o n vv x old c f z : Int) (a b d k : Nat) (n0 : 0 ≤ n) (n1 : n ≤ 4095) (h0 : Hid (50 ≤ o ∧ o ≤ 55)) (ha : Hid ((a : Int) ≤ 31)) (hd : Hid ((d : Int) ≤ 31)) (hk : (k : Int) ≤ 4) (k0 : (0 : Int) ≤ k) (q1 q2 q3 : Int) (q4 : Bool) (q5 q6 q7 : Int) (s' : St)
    (K : Hid (T.Num.ix n = (k : Int))) (X : Hid ((if o ≤ 52 then s.r a else (a : Int)) = x)) (O : Hid (s.c k = old)) (C : Hid (csv o old x = c)) (F : Hid (fz k = f)) (Z : bits .andNot .u32 c f = z)
    (E : Hid ((s.setC k z).wrt d old = (⟨q1, q2, q3, q4, q5, q6, q7⟩, s'))) (p0 : Hid (0 ≤ s.pc ∧ s.pc ≤ 4294967295)) (w : World) (hM : Hid (MAt B s v w)) :
    Calls Tryz.prog 57 #[.pointer (some ⟨B, 0, none⟩), .agg (cells o d a b n), .int .u32 vv] w fun e w' => e = .returned (.agg (rc q1 q2 q3 q4 q5 q6 q7)) ∧ Now B v s' w w' := by
  have ck := hM.out.c k (by omega)
  rw [O.out] at ck
  have zk := hM.out.z (33 + k) (by omega)
  have hb := hM.out.lt
  have k9 : (k : Int) < 5 := by omega
  have HW := hid (Now.inst hM.out (cells o d a b n))
  have BX := hid (Box.inst w (cells o d a b n))
  go_enter Tryz.func57, Tryz.ntmps57
  go_wp2_with fail
  refine (T.Walks.index_as _ _ K _).mono ?_; rintro e w1 ⟨rfl, rfl⟩
  go_wp2_with fail
  go_region_with (first
    | (go_at_call 109; refine (csrBehind_as B s v o n x old c a b d h0.out.1 h0.out.2 ha.out X C _ (by exact HW.out.1.alike ⟨rfl, rfl, rfl⟩)).mono ?_; rintro e w1 ⟨rfl, hF⟩; have H1 : Hid (Now B v s w w1) := Now.fr (by exact HW.out.alike ⟨rfl, rfl, rfl⟩) hF; have B1 : Hid (Box (w.heap.size + 1) w1) := Box.fr (by exact BX.out.alike ⟨rfl, rfl, rfl⟩) hF; have k1 : w1.cell? ⟨B, 33 + k, none⟩ = some (.int .u32 old) := (by rw [H1.out.1.c k (by omega), O.out]); have k2 : w1.frozen? ⟨B, 33 + k, none⟩ = false := H1.out.1.z _ (by omega); have k3 : w1.cell? ⟨w.heap.size, 1, none⟩ = some (.int .i64 d) := (hF.cell _ _ (by simp; omega)).trans (inst_cell w (cells o d a b n) 1))
    | (go_at_call 110; refine (zeros_as k hk f F _).mono ?_; rintro e w1 ⟨rfl, rfl⟩))
  all_goals
    go_wp2_with fail
    have H2 := hid (H1.out.setC k (by omega) z)
    have B2 := hid (B1.out.set ⟨B, 33 + k, none⟩ (.int .u32 z) (by show w.heap.size + 1 ≠ B; omega))
    refine (writes_as B (s.setC k z) v _ d hd.out _ s' E p0.out.1 p0.out.2 _ H2.out.1).mono ?_; rintro e w2 ⟨rfl, hN⟩
    obtain ⟨b0, b1, b2, b3, b4, b5, b6, y0, y1, y2, y3, y4, y5, y6⟩ := H2.out.boxed hM.out (Nat.le_add_right _ 1) B2.out hN
    go_wp2_with fail
    refine bodyPost_ret (v := .agg (rc q1 q2 q3 q4 q5 q6 q7)) (by simp [results, Tryz.results57, go_sem, *]) rfl ⟨rfl, ?_⟩
    exact (H2.out.then hN).ends1 hM.out (Nat.le_add_right _ 1) q1 q2 q3 q4 q5 q6 q7
end Go.Proofs.YtpkbkbllhpdfiaaGreat.M
