/- Words: Rows of words in new memory: how they grow; contracts of word, Set, Out, Stop. Tword: Contracts of the tape's Word, reckon, csr: some word. Touch: Contract of the tape's touch: three words. PieceZ: Contract of the tape's piece, at no depth: some words. Piece: Contract of the tape's piece, deeper: some words. Copy: A row that is copied into a new, longer one. Image: Contracts of image and Image: 776 words. RawT: Contract of the tape's Raw: some words. Known: Contract of the law's known. Open: A law's slices, opened: numbers and words in memory; append of any words onto a row of one's own. -/
import Derived.Test.YtpkbkbllhpdfiaaGreatB27
import Derived.Test.YtpkbkbllhpdfiaaGreatB30
import Derived.Test.YtpkbkbllhpdfiaaGreatB13
import Derived.Test.YtpkbkbllhpdfiaaGreatB12
import Derived.Test.YtpkbkbllhpdfiaaGreatB31
import Derived.Test.YtpkbkbllhpdfiaaGreatB25
import Derived.OpenShut
namespace Go.Proofs.YtpkbkbllhpdfiaaGreat.M
open Go.ChangeShapes Go.WideShapes Go.ChangeAt Go.RowKit Go.Proofs.YtpkbkbllhpdfiaaGreat.Walks Go.Proofs.YtpkbkbllhpdfiaaGreat.Mod
set_option linter.unusedVariables false
/-- a row of n words, of one's own, at block g -/
def Row (base : Nat) (w : World) (g n cap : Nat) (t : List Int) : Prop := t.length = n ∧ w.ownsRow base 36 1 (.slice (some ⟨g, 0, none⟩) n cap) n (t.map (Value.int .u32))
theorem Row.cells {base g n cap : Nat} {w : World} {t : List Int} (h : Row base w g n cap t) : ∀ j u, (t.map (Value.int .u32))[j]? = some u → w.cell? ⟨g, j, none⟩ = some u := fun j u hu => by
  have := h.2.cells (g := g) rfl j u hu
  rw [Addr.add_lit, Nat.zero_add] at this
  exact this
theorem Row.fr {base g n cap : Nat} {w w' : World} {t : List Int} (h : Row base w g n cap t) (k : Fr w w') : Row base w' g n cap t := ⟨h.1, own_frN h.2 k⟩
theorem Row.tf {b base g n cap : Nat} {w w' : World} {t : List Int} (h : Row base w g n cap t) (k : FrG b w w') (hb : b < base) : Row base w' g n cap t := ⟨h.1, own_tf h.2 k hb⟩
theorem Row.lower {base base' g n cap : Nat} {w : World} {t : List Int} (h : Row base w g n cap t) (k : base' ≤ base) : Row base' w g n cap t := ⟨h.1, ownsRow_lower h.2 k⟩
theorem Row.ge {base g n cap : Nat} {w : World} {t : List Int} (h : Row base w g n cap t) : base ≤ g := (h.2.lt g rfl).1
theorem Row.lt {base g n cap : Nat} {w : World} {t : List Int} (h : Row base w g n cap t) : g < w.heap.size := (h.2.lt g rfl).2
/-- another row, that has grown apart from it -/
theorem Row.apart {base g n cap : Nat} {w w' : World} {t : List Int} {v : Value} (h : Row base w g n cap t) (k : w.grownBy w' v.ownBlock) (hv : v.ownBlock ≠ some g) : Row base w' g n cap t := by
  refine ⟨h.1, h.2.1, ?_⟩
  rcases h.2.2 with h' | ⟨b, cap', cur, e, h2, h3, h4⟩
  · exact .inl h'
  · refine .inr ⟨b, cap', cur, e, h2, ?_, h4⟩
    injection e with e1
    injection e1 with e1
    injection e1 with e1
    subst e1
    rw [k.block g h.lt (fun e => hv e.symm)]
    exact h3
theorem row_new (w : World) (base : Nat) (hb : base ≤ w.heap.size) (t : List Int) (n : Nat) (hn : t.length = n) (c : Array Value) (hc : c = (t.map (Value.int .u32)).toArray) (m : n ≤ 1000) : Row base (w.alloc (.cells c 36)) w.heap.size n n t := by
  subst hc
  refine ⟨hn, ?_⟩
  exact ⟨by simp [hn], .inr ⟨w.heap.size, n, (t.map (Value.int .u32)).toArray, rfl, hb, by show (w.heap.push _)[w.heap.size]? = _; simp, Nat.le_refl _, by unfold maxLen; omega, by simp [hn], by rw [Nat.mul_one]; exact List.take_of_length_le (by simp [hn])⟩⟩
/-- append onto a row, in a plain region -/
theorem wpList_app {ops : Array Oper} {rest : List Oper} {o : Oper} {a : Act} {Q : Exit → Act → World → Prop} (w : World) (hgd : o.guard = none) (s x : Operand)
    (ho : o.op = .call { callee := .builtin .append, args := #[s, x], argTypes := #[23, 23] }) (base : Nat) (v : Value) (n : Nat) (t : List Int) (hs : a.eval s = v) (hO : w.ownsRow base 36 1 v n (t.map (Value.int .u32))) (ht : t.length = n)
    (b m c : Nat) (t2 : List Int) (hx : a.eval x = .slice (some ⟨b, 0, none⟩) m c) (hm : t2.length = m) (hC : ∀ j u, (t2.map (Value.int .u32))[j]? = some u → w.cell? ⟨b, j, none⟩ = some u) (N : Nat) (hN : n + m = N) (m1 : 1 ≤ m) (hl : N ≤ 5000) (hb : base ≤ w.heap.size)
    (h : ∀ g cap w', Hid (Row base w' g N cap (t ++ t2)) → Hid (w.grownBy w' v.ownBlock) → wpList Tryz.prog ops Q rest (a.put o.dst (.slice (some ⟨g, 0, none⟩) N cap)) w') : wpList Tryz.prog ops Q (o :: rest) a w := by
  obtain ⟨j0, hi, hz0, hz1, hz2⟩ := info_parts info36
  subst hN
  refine wpList_append_own w hgd s x 23 ho base 36 j0 (.int .u32 0) 1 4 Tryz.underlying23 hi hz0 hz1 hz2 rfl (by decide) v n _ hs hO ⟨b, 0, none⟩ m c (t2.map (Value.int .u32)) hx (by simp [hm]) (fun j u hu => by rw [Addr.add_lit, Nat.zero_add]; exact hC j u hu) (one_some t2) (by unfold maxLen; omega) (by omega) hb ?_
  intro v' w' hown hgrow hnil
  have ne : v' ≠ .slice none 0 0 := fun e => by have := hnil.1 e; omega
  obtain ⟨g, cap, rfl, _⟩ := own_form hown ne
  refine h g cap w' ⟨by simp [ht, hm], ?_⟩ hgrow
  rw [List.map_append]
  exact hown
set_option maxHeartbeats 400000 in
theorem word_as (o d a b n v : Int) (g : Bool) (E : Hid (Num.En o d a b n v g)) (w : World) :
    Calls Tryz.prog 42 #[.int .i64 o, .int .i64 d, .int .i64 a, .int .i64 b, .int .i32 n] w fun e w' => e = .returned (.int .u32 v) ∧ Fr w w' := by
  go_enter Tryz.func42, Tryz.ntmps42
  go_wp2_with fail
  refine (rencode_as o d a b n v g E _).mono ?_; rintro e w1 ⟨rfl, hF⟩
  go_wp2_with fail
  go_ret
  exact ⟨rfl, hF⟩
theorem En.w32 {o d a b n v : Int} {g : Bool} (E : Num.En o d a b n v g) : W32 v := by
  cases g with
  | false => rw [E.no rfl]; exact W32.zero
  | true =>
    rw [E.yes rfl, ← Num.raw_ref o d a b n (E.hg.1 rfl)]
    unfold Num.rw0
    split <;> exact W32.bits _ _ _
/-- some word -/
theorem word_any (o d a b n : Int) (w : World) :
    Calls Tryz.prog 42 #[.int .i64 o, .int .i64 d, .int .i64 a, .int .i64 b, .int .i32 n] w fun e w' => ∃ v, e = .returned (.int .u32 v) ∧ W32 v ∧ Fr w w' := by
  obtain ⟨v, g, E⟩ := Num.En.ex o d a b n
  refine (word_as o d a b n v g E w).mono ?_
  rintro e w' ⟨rfl, hF⟩
  exact ⟨v, rfl, En.w32 E, hF⟩
set_option maxHeartbeats 400000 in
theorem set_of (d n l u x y : Int) (g1 g2 : Bool) (LW : wrap32 (n * 1048576 % 4294967296) / 1048576 = l) (UP : wrap32 (bits .andNot .u32 ((n - l) % 4294967296) 4095) = u) (E1 : Hid (Num.En 1 d 0 0 u x g1)) (E2 : Hid (Num.En 19 d d 0 l y g2)) (w : World) :
    Calls Tryz.prog 29 #[.int .i64 d, .int .u32 n] w fun e w' => ∃ g cap, e = .returned (.slice (some ⟨g, 0, none⟩) 2 cap) ∧ Row w.heap.size w' g 2 cap [x, y] ∧ Fr w w' := by
  go_enter Tryz.func29, Tryz.ntmps29
  go_wp2_with fail
  refine (word_as 1 d 0 0 u x g1 E1 _).mono ?_; rintro e w1 ⟨rfl, hF1⟩
  have F1 := hid hF1
  clear hF1
  go_wp2_with fail
  refine (word_as 19 d d 0 l y g2 E2 _).mono ?_; rintro e w2 ⟨rfl, hF2⟩
  have F2 := hid (F1.out.trans hF2)
  clear hF2
  go_wp2_with fail
  go_ret
  exact ⟨_, _, rfl, row_new _ _ F2.out.size [x, y] 2 rfl _ rfl (by decide), F2.out.alloc _⟩
/-- two words -/
theorem set_any (d n : Int) (w : World) :
    Calls Tryz.prog 29 #[.int .i64 d, .int .u32 n] w fun e w' => ∃ g cap x y, e = .returned (.slice (some ⟨g, 0, none⟩) 2 cap) ∧ Row w.heap.size w' g 2 cap [x, y] ∧ W32 x ∧ W32 y ∧ Fr w w' := by
  obtain ⟨x, g1, E1⟩ := Num.En.ex 1 d 0 0 (wrap32 (bits .andNot .u32 ((n - wrap32 (n * 1048576 % 4294967296) / 1048576) % 4294967296) 4095))
  obtain ⟨y, g2, E2⟩ := Num.En.ex 19 d d 0 (wrap32 (n * 1048576 % 4294967296) / 1048576)
  refine (set_of d n _ _ x y g1 g2 rfl rfl E1 E2 w).mono ?_
  rintro e w' ⟨g, cap, rfl, h1, h2⟩
  exact ⟨g, cap, x, y, rfl, h1, En.w32 E1, En.w32 E2, h2⟩
set_option maxHeartbeats 400000 in
theorem out_of (r x y z : Int) (g1 g2 g3 : Bool) (E1 : Hid (Num.En 1 31 0 0 268435456 x g1)) (E2 : Hid (Num.En 19 31 31 0 0 y g2)) (E3 : Hid (Num.En 18 0 31 r 0 z g3)) (w : World) :
    Calls Tryz.prog 30 #[.int .i64 r] w fun e w' => ∃ g cap, e = .returned (.slice (some ⟨g, 0, none⟩) 3 cap) ∧ Row w.heap.size w' g 3 cap [x, y, z] ∧ Fr w w' := by
  go_enter Tryz.func30, Tryz.ntmps30
  go_wp2_with fail
  refine (set_of 31 268435456 0 268435456 x y g1 g2 (by decide +kernel) (by decide +kernel) E1 E2 _).mono ?_; rintro e w1 ⟨g, cap, rfl, hR, hF1⟩
  have F1 := hid hF1
  have R1 := hid hR
  clear hF1 hR
  go_wp2_with fail
  refine (word_as 18 0 31 r 0 z g3 E3 _).mono ?_; rintro e w2 ⟨rfl, hF2⟩
  have F2 := hid (F1.out.trans hF2)
  have R2 := hid (R1.out.fr hF2)
  clear hF2 R1 F1
  have A1 := hid ((Fr.refl w2).alloc (.cells #[.int .u32 z] 36))
  go_wp2_with (first | (at_builtin; refine wpList_app _ rfl _ _ rfl w.heap.size _ 2 [x, y] rfl (by exact (R2.out.fr A1.out).2) rfl w2.heap.size 1 1 [z] rfl rfl (row_new w2 0 (Nat.zero_le _) [z] 1 rfl _ rfl (by decide)).cells 3 rfl (by decide) (by decide) (by have := F2.out.size; simp; omega) ?_))
  intro g4 cap4 w4 R4 G4
  have F4 : Hid (Fr w w4) := Fr.grow (F2.out.trans A1.out) (own_ge (by exact (R2.out.fr A1.out).2)) G4.out
  clear G4
  go_wp2_with fail
  go_ret
  exact ⟨_, _, rfl, R4.out, F4.out⟩
set_option maxHeartbeats 400000 in
theorem stop_of (r x y z : Int) (g1 g2 g3 : Bool) (E1 : Hid (Num.En 1 31 0 0 268435456 x g1)) (E2 : Hid (Num.En 19 31 31 0 4 y g2)) (E3 : Hid (Num.En 18 0 31 r 0 z g3)) (w : World) :
    Calls Tryz.prog 31 #[.int .i64 r] w fun e w' => ∃ g cap, e = .returned (.slice (some ⟨g, 0, none⟩) 3 cap) ∧ Row w.heap.size w' g 3 cap [x, y, z] ∧ Fr w w' := by
  go_enter Tryz.func31, Tryz.ntmps31
  go_wp2_with fail
  refine (set_of 31 268435460 4 268435456 x y g1 g2 (by decide +kernel) (by decide +kernel) E1 E2 _).mono ?_; rintro e w1 ⟨g, cap, rfl, hR, hF1⟩
  have F1 := hid hF1
  have R1 := hid hR
  clear hF1 hR
  go_wp2_with fail
  refine (word_as 18 0 31 r 0 z g3 E3 _).mono ?_; rintro e w2 ⟨rfl, hF2⟩
  have F2 := hid (F1.out.trans hF2)
  have R2 := hid (R1.out.fr hF2)
  clear hF2 R1 F1
  have A1 := hid ((Fr.refl w2).alloc (.cells #[.int .u32 z] 36))
  go_wp2_with (first | (at_builtin; refine wpList_app _ rfl _ _ rfl w.heap.size _ 2 [x, y] rfl (by exact (R2.out.fr A1.out).2) rfl w2.heap.size 1 1 [z] rfl rfl (row_new w2 0 (Nat.zero_le _) [z] 1 rfl _ rfl (by decide)).cells 3 rfl (by decide) (by decide) (by have := F2.out.size; simp; omega) ?_))
  intro g4 cap4 w4 R4 G4
  have F4 : Hid (Fr w w4) := Fr.grow (F2.out.trans A1.out) (own_ge (by exact (R2.out.fr A1.out).2)) G4.out
  clear G4
  go_wp2_with fail
  go_ret
  exact ⟨_, _, rfl, R4.out, F4.out⟩
/-- three words -/
theorem out_any (r : Int) (w : World) :
    Calls Tryz.prog 30 #[.int .i64 r] w fun e w' => ∃ g cap x y z, e = .returned (.slice (some ⟨g, 0, none⟩) 3 cap) ∧ Row w.heap.size w' g 3 cap [x, y, z] ∧ W32 x ∧ W32 y ∧ W32 z ∧ Fr w w' := by
  obtain ⟨x, g1, E1⟩ := Num.En.ex 1 31 0 0 268435456
  obtain ⟨y, g2, E2⟩ := Num.En.ex 19 31 31 0 0
  obtain ⟨z, g3, E3⟩ := Num.En.ex 18 0 31 r 0
  refine (out_of r x y z g1 g2 g3 E1 E2 E3 w).mono ?_
  rintro e w' ⟨g, cap, rfl, h1, h2⟩
  exact ⟨g, cap, x, y, z, rfl, h1, En.w32 E1, En.w32 E2, En.w32 E3, h2⟩
/-- three words -/
theorem stop_any (r : Int) (w : World) :
    Calls Tryz.prog 31 #[.int .i64 r] w fun e w' => ∃ g cap x y z, e = .returned (.slice (some ⟨g, 0, none⟩) 3 cap) ∧ Row w.heap.size w' g 3 cap [x, y, z] ∧ W32 x ∧ W32 y ∧ W32 z ∧ Fr w w' := by
  obtain ⟨x, g1, E1⟩ := Num.En.ex 1 31 0 0 268435456
  obtain ⟨y, g2, E2⟩ := Num.En.ex 19 31 31 0 4
  obtain ⟨z, g3, E3⟩ := Num.En.ex 18 0 31 r 0
  refine (stop_of r x y z g1 g2 g3 E1 E2 E3 w).mono ?_
  rintro e w' ⟨g, cap, rfl, h1, h2⟩
  exact ⟨g, cap, x, y, z, rfl, h1, En.w32 E1, En.w32 E2, En.w32 E3, h2⟩
end Go.Proofs.YtpkbkbllhpdfiaaGreat.M
namespace Go.Proofs.YtpkbkbllhpdfiaaGreat.M
open Go.ChangeShapes Go.WideShapes Go.ChangeAt Go.RowKit Go.Proofs.YtpkbkbllhpdfiaaGreat.Walks Go.Proofs.YtpkbkbllhpdfiaaGreat.Mod
set_option linter.unusedVariables false
abbrev tab8 : Array Value := #[.int .u32 0, .int .u32 1, .int .u32 4294967295, .int .u32 2147483648, .int .u32 2147483647, .int .u32 2147483649, .int .u32 255, .int .u32 65536]
theorem tab8_at (k : Nat) (h : k < 8) : ∃ t : Int, tab8[k]? = some (.int .u32 t) ∧ W32 t := by
  rcases k with _ | _ | _ | _ | _ | _ | _ | _ | k
  all_goals first | exact ⟨_, rfl, by unfold W32; omega⟩ | omega
/-- a table that was made ahead of a read of the tape -/
theorem tab_kept {g : Nat} {L : TL} {w w' : World} {c : Array Value} {e : TypeId} (T : Tp g L w) (k : Only g (w.alloc (.cells c e)) w') (j : Nat) : w'.cell? ⟨w.heap.size, j, none⟩ = c[j]? := by
  have := T.lt
  rw [k.cell w.heap.size j (by omega), World.cell?_alloc_at _ _ _ _ rfl]
set_option maxHeartbeats 600000 in
theorem tword_as (g : Nat) (L : TL) (w : World) (T : Hid (Tp g L w)) :
    Calls Tryz.prog 26 #[.pointer (some ⟨g, 0, none⟩)] w fun e w' => ∃ v, e = .returned (.int .u32 v) ∧ W32 v ∧ TF g L w w' := by
  go_enter Tryz.func26, Tryz.ntmps26
  go_wp2_with fail
  refine (next_t _ (by decide) (by decide) g L _ T.out).mono ?_; rintro e w1 ⟨q, rfl, hq, hT, hO⟩
  have T1 := hid ((TF.refl T.out).next hT hO)
  clear hT hO
  by_cases h0 : (q : Int) = 0
  · go_wp2_with fail
    refine (next_t _ (by decide) (by decide) g L _ T1.out.t).mono ?_; rintro e w2 ⟨q2, rfl, hq2, hT, hO⟩
    have T2 := hid (T1.out.next hT hO)
    clear hT hO
    go_wp2_with fail
    refine (next_t _ (by decide) (by decide) g L _ T2.out.t).mono ?_; rintro e w3 ⟨q3, rfl, hq3, hT, hO⟩
    have T3 := hid (T2.out.next hT hO)
    clear hT hO
    go_wp2_with fail
    go_ret
    exact ⟨_, rfl, W32.bits _ _ _, T3.out⟩
  by_cases h1 : (q : Int) = 1
  · go_wp2_with fail
    refine (next_t _ (by decide) (by decide) g L _ (by exact T1.out.t.alloc _)).mono ?_; rintro e w2 ⟨q2, rfl, hq2, hT, hO⟩
    have T2 := hid ((T1.out.alloc _).next hT hO)
    obtain ⟨x, hx, hw⟩ := tab8_at q2 (by omega)
    have c1 : w2.cell? ⟨w1.heap.size, q2, none⟩ = some (.int .u32 x) := (tab_kept T1.out.t hO q2).trans hx
    have W := hid hw
    have q0 : (0 : Int) ≤ q2 := by omega
    clear hT hO hx hw
    go_wp2_with fail
    go_ret
    exact ⟨_, rfl, W.out, T2.out⟩
  · go_wp2_with fail
    refine (next_t _ (by decide) (by decide) g L _ T1.out.t).mono ?_; rintro e w2 ⟨q2, rfl, hq2, hT, hO⟩
    have T2 := hid (T1.out.next hT hO)
    clear hT hO
    go_wp2_with fail
    go_ret
    exact ⟨_, rfl, by first | exact W32.mod _ | (unfold W32; omega), T2.out⟩
set_option maxRecDepth 100000 in
set_option maxHeartbeats 600000 in
theorem reckon_as (g : Nat) (L : TL) (w : World) (T : Hid (Tp g L w)) :
    Calls Tryz.prog 75 #[.pointer (some ⟨g, 0, none⟩)] w fun e w' => ∃ v, e = .returned (.int .u32 v) ∧ W32 v ∧ TF g L w w' := by
  go_enter Tryz.func75, Tryz.ntmps75
  go_wp2_with fail
  refine (next_t _ (by decide) (by decide) g L _ T.out).mono ?_; rintro e w1 ⟨q1, rfl, hq1, hT, hO⟩
  have T1 := hid ((TF.refl T.out).next hT hO)
  clear hT hO
  go_wp2_with fail
  refine (next_t _ (by decide) (by decide) g L _ T1.out.t).mono ?_; rintro e w2 ⟨q2, rfl, hq2, hT, hO⟩
  have T2 := hid (T1.out.next hT hO)
  clear hT hO
  go_wp2_with fail
  refine (next_t _ (by decide) (by decide) g L _ T2.out.t).mono ?_; rintro e w3 ⟨q3, rfl, hq3, hT, hO⟩
  have T3 := hid (T2.out.next hT hO)
  clear hT hO
  go_wp2_with fail
  refine (next_t _ (by decide) (by decide) g L _ T3.out.t).mono ?_; rintro e w4 ⟨q4, rfl, hq4, hT, hO⟩
  have T4 := hid (T3.out.next hT hO)
  clear hT hO
  by_cases h0 : (q4 : Int) = 0
  · go_wp2_with fail
    refine (next_t _ (by decide) (by decide) g L _ T4.out.t).mono ?_; rintro e w5 ⟨q5, rfl, hq5, hT, hO⟩
    have T5 := hid (T4.out.next hT hO)
    clear hT hO
    go_wp2_with fail
    refine (next_t _ (by decide) (by decide) g L _ T5.out.t).mono ?_; rintro e w6 ⟨q6, rfl, hq6, hT, hO⟩
    have T6 := hid (T5.out.next hT hO)
    clear hT hO
    by_cases h6 : (25 : Int) ≤ 19 + q5
    · go_wp2_with fail
      refine (word_any _ _ _ _ _ _).mono ?_; rintro e w7 ⟨v, rfl, hv, hF⟩
      have T7 := hid (T6.out.fr hF)
      clear hF
      go_wp2_with fail
      go_ret
      exact ⟨_, rfl, hv, T7.out⟩
    · go_wp2_with fail
      refine (word_any _ _ _ _ _ _).mono ?_; rintro e w7 ⟨v, rfl, hv, hF⟩
      have T7 := hid (T6.out.fr hF)
      clear hF
      go_wp2_with fail
      go_ret
      exact ⟨_, rfl, hv, T7.out⟩
  · go_wp2_with fail
    refine (next_t _ (by decide) (by decide) g L _ T4.out.t).mono ?_; rintro e w5 ⟨q5, rfl, hq5, hT, hO⟩
    have T5 := hid (T4.out.next hT hO)
    clear hT hO
    go_wp2_with fail
    refine (word_any _ _ _ _ _ _).mono ?_; rintro e w7 ⟨v, rfl, hv, hF⟩
    have T7 := hid (T5.out.fr hF)
    clear hF
    go_wp2_with fail
    go_ret
    exact ⟨_, rfl, hv, T7.out⟩
abbrev tab5 : Array Value := #[.int .i32 832, .int .i32 832, .int .i32 833, .int .i32 834, .int .i32 835]
theorem tab5_at (k : Nat) (h : k < 5) : ∃ t : Int, tab5[k]? = some (.int .i32 t) := by
  rcases k with _ | _ | _ | _ | _ | k
  all_goals first | exact ⟨_, rfl⟩ | omega
set_option maxHeartbeats 600000 in
theorem csr_t (g : Nat) (L : TL) (w : World) (T : Hid (Tp g L w)) :
    Calls Tryz.prog 77 #[.pointer (some ⟨g, 0, none⟩)] w fun e w' => ∃ v, e = .returned (.int .u32 v) ∧ W32 v ∧ TF g L w w' := by
  go_enter Tryz.func77, Tryz.ntmps77
  go_wp2_with fail
  refine (next_t _ (by decide) (by decide) g L _ T.out).mono ?_; rintro e w1 ⟨q1, rfl, hq1, hT, hO⟩
  have T1 := hid ((TF.refl T.out).next hT hO)
  clear hT hO
  go_wp2_with fail
  refine (next_t _ (by decide) (by decide) g L _ T1.out.t).mono ?_; rintro e w2 ⟨q2, rfl, hq2, hT, hO⟩
  have T2 := hid (T1.out.next hT hO)
  clear hT hO
  go_wp2_with fail
  refine (next_t _ (by decide) (by decide) g L _ T2.out.t).mono ?_; rintro e w3 ⟨q3, rfl, hq3, hT, hO⟩
  have T3 := hid (T2.out.next hT hO)
  clear hT hO
  go_wp2_with fail
  refine (next_t _ (by decide) (by decide) g L _ (by exact T3.out.t.alloc _)).mono ?_; rintro e w4 ⟨q4, rfl, hq4, hT, hO⟩
  have T4 := hid ((T3.out.alloc _).next hT hO)
  obtain ⟨x, hx⟩ := tab5_at q4 (by omega)
  have c1 : w4.cell? ⟨w3.heap.size, q4, none⟩ = some (.int .i32 x) := (tab_kept T3.out.t hO q4).trans hx
  have q0 : (0 : Int) ≤ q4 := by omega
  clear hT hO hx
  go_wp2_with fail
  refine (word_any _ _ _ _ _ _).mono ?_; rintro e w7 ⟨v, rfl, hv, hF⟩
  have T7 := hid (T4.out.fr hF)
  clear hF
  go_wp2_with fail
  go_ret
  exact ⟨_, rfl, hv, T7.out⟩
end Go.Proofs.YtpkbkbllhpdfiaaGreat.M
namespace Go.Proofs.YtpkbkbllhpdfiaaGreat.M
open Go.ChangeShapes Go.WideShapes Go.ChangeAt Go.RowKit Go.Proofs.YtpkbkbllhpdfiaaGreat.Walks Go.Proofs.YtpkbkbllhpdfiaaGreat.Mod
set_option linter.unusedVariables false
abbrev tab6 : Array Value := #[.int .i64 0, .int .i64 0, .int .i64 0, .int .i64 1, .int .i64 2, .int .i64 3]
theorem tab6_at (k : Nat) (h : k < 6) : ∃ t : Int, tab6[k]? = some (.int .i64 t) ∧ 0 ≤ t ∧ t ≤ 3 := by
  rcases k with _ | _ | _ | _ | _ | _ | k
  all_goals first | exact ⟨_, rfl, by decide, by decide⟩ | omega
set_option maxRecDepth 100000 in
set_option maxHeartbeats 1000000 in
theorem touch_as (g : Nat) (L : TL) (w : World) (T : Hid (Tp g L w)) :
    Calls Tryz.prog 76 #[.pointer (some ⟨g, 0, none⟩)] w fun e w' => ∃ b cap t, e = .returned (.slice (some ⟨b, 0, none⟩) 3 cap) ∧ Row w.heap.size w' b 3 cap t ∧ (∀ x ∈ t, W32 x) ∧ TF g L w w' := by
  go_enter Tryz.func76, Tryz.ntmps76
  have B0 := hid T.out.lt
  have T0 := hid (TF.refl T.out)
  go_wp2_with fail
  refine (next_t _ (by decide) (by decide) g L _ T0.out.t).mono ?_; rintro e w5 ⟨q5, rfl, hq5, hT, hO⟩
  have T5 := hid (T0.out.next hT hO)
  clear hT hO
  go_wp2_with fail
  refine (next_t _ (by decide) (by decide) g L _ (by exact T5.out.t.alloc _)).mono ?_; rintro e w6 ⟨q6, rfl, hq6, hT, hO⟩
  have T6 := hid ((T5.out.alloc _).next hT hO)
  obtain ⟨z, hz, z0, z1⟩ := tab6_at q6 (by omega)
  have c1 : w6.cell? ⟨w5.heap.size, q6, none⟩ = some (.int .i64 z) := (tab_kept T5.out.t hO q6).trans hz
  have q0 : (0 : Int) ≤ q6 := by omega
  clear hT hO hz
  go_wp2_with fail
  refine (set_any _ _ _).mono ?_; rintro e w7 ⟨b, cap, x, y, rfl, hR, hx, hy, hF⟩
  have T7 := hid (T6.out.fr hF)
  have R7 := hid (hR.lower T6.out.f.size)
  have XY : Hid (W32 x ∧ W32 y) := ⟨hx, hy⟩
  clear hF hR hx hy
  go_wp2_with fail
  refine (next_t _ (by decide) (by decide) g L _ T7.out.t).mono ?_; rintro e w8 ⟨q8, rfl, hq8, hT, hO⟩
  have T8 := hid (T7.out.next hT hO)
  have R8 := hid (R7.out.tf (FrG.only (FrG.refl g _) hO) B0.out)
  clear hT hO
  by_cases h8 : (q8 : Int) = 0
  · go_wp2_with fail
    refine (next_t _ (by decide) (by decide) g L _ T8.out.t).mono ?_; rintro e w9 ⟨q9, rfl, hq9, hT, hO⟩
    have T9 := hid (T8.out.next hT hO)
    have R9 := hid (R8.out.tf (FrG.only (FrG.refl g _) hO) B0.out)
    clear hT hO
    go_wp2_with fail
    refine (next_t _ (by decide) (by decide) g L _ T9.out.t).mono ?_; rintro e w10 ⟨q10, rfl, hq10, hT, hO⟩
    have T10 := hid (T9.out.next hT hO)
    have R10 := hid (R9.out.tf (FrG.only (FrG.refl g _) hO) B0.out)
    clear hT hO
    go_wp2_with fail
    refine (next_t _ (by decide) (by decide) g L _ T10.out.t).mono ?_; rintro e w11 ⟨q11, rfl, hq11, hT, hO⟩
    have T11 := hid (T10.out.next hT hO)
    have R11 := hid (R10.out.tf (FrG.only (FrG.refl g _) hO) B0.out)
    clear hT hO
    go_wp2_with fail
    refine (word_any _ _ _ _ _ _).mono ?_; rintro e w20 ⟨v, rfl, hv, hF⟩
    have T20 := hid (T11.out.fr hF)
    have R20 := hid (R11.out.fr hF)
    have V := hid hv
    clear hF hv
    have A1 := hid ((Fr.refl w20).alloc (.cells #[.int .u32 v] 36))
    go_wp2_with (first | (at_builtin; refine wpList_app _ rfl _ _ rfl w.heap.size _ 2 [x, y] rfl (by exact (R20.out.fr A1.out).2) rfl w20.heap.size 1 1 [v] rfl rfl (row_new w20 0 (Nat.zero_le _) [v] 1 rfl _ rfl (by decide)).cells 3 rfl (by decide) (by decide) (by have := T20.out.f.size; simp; omega) ?_))
    intro g4 cap4 w4 R4 G4
    have T21 := hid (TF.grow (T20.out.alloc (.cells #[.int .u32 v] 36)) (own_ge (by exact (R20.out.fr A1.out).2)) G4.out)
    clear G4
    go_wp2_with fail
    go_ret
    exact ⟨_, _, _, rfl, R4.out, by simp [XY.out.1, XY.out.2, V.out], T21.out⟩
  · go_wp2_with fail
    refine (next_t _ (by decide) (by decide) g L _ T8.out.t).mono ?_; rintro e w9 ⟨q9, rfl, hq9, hT, hO⟩
    have T9 := hid (T8.out.next hT hO)
    have R9 := hid (R8.out.tf (FrG.only (FrG.refl g _) hO) B0.out)
    clear hT hO
    go_wp2_with fail
    refine (next_t _ (by decide) (by decide) g L _ T9.out.t).mono ?_; rintro e w10 ⟨q10, rfl, hq10, hT, hO⟩
    have T10 := hid (T9.out.next hT hO)
    have R10 := hid (R9.out.tf (FrG.only (FrG.refl g _) hO) B0.out)
    clear hT hO
    go_wp2_with fail
    refine (next_t _ (by decide) (by decide) g L _ T10.out.t).mono ?_; rintro e w11 ⟨q11, rfl, hq11, hT, hO⟩
    have T11 := hid (T10.out.next hT hO)
    have R11 := hid (R10.out.tf (FrG.only (FrG.refl g _) hO) B0.out)
    clear hT hO
    go_wp2_with fail
    refine (word_any _ _ _ _ _ _).mono ?_; rintro e w20 ⟨v, rfl, hv, hF⟩
    have T20 := hid (T11.out.fr hF)
    have R20 := hid (R11.out.fr hF)
    have V := hid hv
    clear hF hv
    have A1 := hid ((Fr.refl w20).alloc (.cells #[.int .u32 v] 36))
    go_wp2_with (first | (at_builtin; refine wpList_app _ rfl _ _ rfl w.heap.size _ 2 [x, y] rfl (by exact (R20.out.fr A1.out).2) rfl w20.heap.size 1 1 [v] rfl rfl (row_new w20 0 (Nat.zero_le _) [v] 1 rfl _ rfl (by decide)).cells 3 rfl (by decide) (by decide) (by have := T20.out.f.size; simp; omega) ?_))
    intro g4 cap4 w4 R4 G4
    have T21 := hid (TF.grow (T20.out.alloc (.cells #[.int .u32 v] 36)) (own_ge (by exact (R20.out.fr A1.out).2)) G4.out)
    clear G4
    go_wp2_with fail
    go_ret
    exact ⟨_, _, _, rfl, R4.out, by simp [XY.out.1, XY.out.2, V.out], T21.out⟩
end Go.Proofs.YtpkbkbllhpdfiaaGreat.M
namespace Go.Proofs.YtpkbkbllhpdfiaaGreat.M
open Go.ChangeShapes Go.WideShapes Go.ChangeAt Go.RowKit Go.Proofs.YtpkbkbllhpdfiaaGreat.Walks Go.Proofs.YtpkbkbllhpdfiaaGreat.Mod
set_option linter.unusedVariables false
set_option maxRecDepth 100000 in
set_option maxHeartbeats 2000000 in
theorem piece0 (g : Nat) (L : TL) (w : World) (T : Hid (Tp g L w)) :
    Calls Tryz.prog 43 #[.pointer (some ⟨g, 0, none⟩), .int .i64 0] w fun e w' => ∃ b m cap t, e = .returned (.slice (some ⟨b, 0, none⟩) m cap) ∧ Row w.heap.size w' b m cap t ∧ (∀ x ∈ t, W32 x) ∧ 1 ≤ m ∧ m ≤ 3 ∧ TF g L w w' := by
  have B0 := hid T.out.lt
  go_enter Tryz.func43, Tryz.ntmps43
  go_wp2_with fail
  refine (next_t _ (by decide) (by decide) g L _ T.out).mono ?_; rintro e w1 ⟨q, rfl, hq, hT, hO⟩
  have T1 := hid ((TF.refl T.out).next hT hO)
  clear hT hO
  by_cases h0 : (q : Int) < 5
  · go_wp2_with fail
    refine (reckon_as g L _ T1.out.t).mono ?_; rintro e w2 ⟨v, rfl, hv, hT⟩
    have T2 := hid (T1.out.trans hT)
    clear hT
    go_wp2_with fail
    go_ret
    exact ⟨_, _, _, _, rfl, row_new _ _ T2.out.f.size [v] 1 rfl _ rfl (by decide), by simp [hv], by decide, by omega, T2.out.alloc _⟩
  by_cases h1 : (q : Int) < 7
  · go_wp2_with fail
    refine (touch_as g L _ T1.out.t).mono ?_; rintro e w2 ⟨b, cap, t, rfl, hR, hw, hT⟩
    have T2 := hid (T1.out.trans hT)
    have R2 := hid (hR.lower T1.out.f.size)
    clear hT hR
    go_wp2_with fail
    go_ret
    exact ⟨_, _, _, _, rfl, R2.out, hw, by decide, by omega, T2.out⟩
  by_cases h2 : (q : Int) = 7
  · go_wp2_with fail
    refine (next_t _ (by decide) (by decide) g L _ T1.out.t).mono ?_; rintro e w2 ⟨q2, rfl, hq2, hT, hO⟩
    have T2 := hid (T1.out.next hT hO)
    clear hT hO
    go_wp2_with fail
    refine (out_any _ _).mono ?_; rintro e w3 ⟨b, cap, x, y, z, rfl, hR, hx, hy, hz, hF⟩
    have T3 := hid (T2.out.fr hF)
    have R3 := hid (hR.lower T2.out.f.size)
    clear hF hR
    go_wp2_with fail
    go_ret
    exact ⟨_, _, _, _, rfl, R3.out, by simp [hx, hy, hz], by decide, by omega, T3.out⟩
  by_cases h3 : (q : Int) = 8
  · go_wp2_with fail
    refine (csr_t g L _ T1.out.t).mono ?_; rintro e w2 ⟨v, rfl, hv, hT⟩
    have T2 := hid (T1.out.trans hT)
    clear hT
    go_wp2_with fail
    go_ret
    exact ⟨_, _, _, _, rfl, row_new _ _ T2.out.f.size [v] 1 rfl _ rfl (by decide), by simp [hv], by decide, by omega, T2.out.alloc _⟩
  by_cases h4 : (q : Int) = 9
  · go_wp2_with fail
    refine (next_t _ (by decide) (by decide) g L _ T1.out.t).mono ?_; rintro e w2 ⟨q2, rfl, hq2, hT, hO⟩
    have T2 := hid (T1.out.next hT hO)
    clear hT hO
    go_wp2_with fail
    refine (tword_as g L _ T2.out.t).mono ?_; rintro e w3 ⟨v, rfl, hv, hT⟩
    have T3 := hid (T2.out.trans hT)
    clear hT
    go_wp2_with fail
    refine (set_any _ _ _).mono ?_; rintro e w4 ⟨b, cap, x, y, rfl, hR, hx, hy, hF⟩
    have T4 := hid (T3.out.fr hF)
    have R4 := hid (hR.lower T3.out.f.size)
    clear hF hR
    go_wp2_with fail
    go_ret
    exact ⟨_, _, _, _, rfl, R4.out, by simp [hx, hy], by decide, by omega, T4.out⟩
  by_cases h5 : (q : Int) = 10
  · go_wp2_with fail
    refine (next_t _ (by decide) (by decide) g L _ T1.out.t).mono ?_; rintro e w2 ⟨q2, rfl, hq2, hT, hO⟩
    have T2 := hid (T1.out.next hT hO)
    clear hT hO
    go_wp2_with fail
    refine (tword_as g L _ T2.out.t).mono ?_; rintro e w3 ⟨v, rfl, hv, hT⟩
    have T3 := hid (T2.out.trans hT)
    clear hT
    go_wp2_with fail
    refine (set_any _ _ _).mono ?_; rintro e w4 ⟨b, cap, x, y, rfl, hR, hx, hy, hF⟩
    have T4 := hid (T3.out.fr hF)
    have R4 := hid (hR.lower T3.out.f.size)
    clear hF hR
    go_wp2_with fail
    go_ret
    exact ⟨_, _, _, _, rfl, R4.out, by simp [hx, hy], by decide, by omega, T4.out⟩
  · go_wp2_with fail
    refine (next_t _ (by decide) (by decide) g L _ T1.out.t).mono ?_; rintro e w2 ⟨q2, rfl, hq2, hT, hO⟩
    have T2 := hid (T1.out.next hT hO)
    clear hT hO
    go_wp2_with fail
    refine (tword_as g L _ T2.out.t).mono ?_; rintro e w3 ⟨v, rfl, hv, hT⟩
    have T3 := hid (T2.out.trans hT)
    clear hT
    go_wp2_with fail
    refine (set_any _ _ _).mono ?_; rintro e w4 ⟨b, cap, x, y, rfl, hR, hx, hy, hF⟩
    have T4 := hid (T3.out.fr hF)
    have R4 := hid (hR.lower T3.out.f.size)
    clear hF hR
    go_wp2_with fail
    go_ret
    exact ⟨_, _, _, _, rfl, R4.out, by simp [hx, hy], by decide, by omega, T4.out⟩
end Go.Proofs.YtpkbkbllhpdfiaaGreat.M
namespace Go.Proofs.YtpkbkbllhpdfiaaGreat.M
open Go.ChangeShapes Go.WideShapes Go.ChangeAt Go.RowKit Go.Proofs.YtpkbkbllhpdfiaaGreat.Walks Go.Proofs.YtpkbkbllhpdfiaaGreat.Mod
set_option linter.unusedVariables false
set_option maxRecDepth 100000 in
set_option maxHeartbeats 2000000 in
theorem piece1 (g : Nat) (L : TL) (CA : Hid (∀ w, Tp g L w → Calls Tryz.prog 43 #[.pointer (some ⟨g, 0, none⟩), .int .i64 0] w fun e w' => ∃ b m cap t, e = .returned (.slice (some ⟨b, 0, none⟩) m cap) ∧ Row w.heap.size w' b m cap t ∧ (∀ x ∈ t, W32 x) ∧ 1 ≤ m ∧ m ≤ 3 ∧ TF g L w w')) (w : World) (T : Hid (Tp g L w)) :
    Calls Tryz.prog 43 #[.pointer (some ⟨g, 0, none⟩), .int .i64 1] w fun e w' => ∃ b m cap t, e = .returned (.slice (some ⟨b, 0, none⟩) m cap) ∧ Row w.heap.size w' b m cap t ∧ (∀ x ∈ t, W32 x) ∧ 1 ≤ m ∧ m ≤ 6 ∧ TF g L w w' := by
  have B0 := hid T.out.lt
  go_enter Tryz.func43, Tryz.ntmps43
  go_wp2_with fail
  refine (next_t _ (by decide) (by decide) g L _ T.out).mono ?_; rintro e w1 ⟨q, rfl, hq, hT, hO⟩
  have T1 := hid ((TF.refl T.out).next hT hO)
  clear hT hO
  by_cases h0 : (q : Int) < 5
  · go_wp2_with fail
    refine (reckon_as g L _ T1.out.t).mono ?_; rintro e w2 ⟨v, rfl, hv, hT⟩
    have T2 := hid (T1.out.trans hT)
    clear hT
    go_wp2_with fail
    go_ret
    exact ⟨_, _, _, _, rfl, row_new _ _ T2.out.f.size [v] 1 rfl _ rfl (by decide), by simp [hv], by decide, by omega, T2.out.alloc _⟩
  by_cases h1 : (q : Int) < 7
  · go_wp2_with fail
    refine (touch_as g L _ T1.out.t).mono ?_; rintro e w2 ⟨b, cap, t, rfl, hR, hw, hT⟩
    have T2 := hid (T1.out.trans hT)
    have R2 := hid (hR.lower T1.out.f.size)
    clear hT hR
    go_wp2_with fail
    go_ret
    exact ⟨_, _, _, _, rfl, R2.out, hw, by decide, by omega, T2.out⟩
  by_cases h2 : (q : Int) = 7
  · go_wp2_with fail
    refine (next_t _ (by decide) (by decide) g L _ T1.out.t).mono ?_; rintro e w2 ⟨q2, rfl, hq2, hT, hO⟩
    have T2 := hid (T1.out.next hT hO)
    clear hT hO
    go_wp2_with fail
    refine (out_any _ _).mono ?_; rintro e w3 ⟨b, cap, x, y, z, rfl, hR, hx, hy, hz, hF⟩
    have T3 := hid (T2.out.fr hF)
    have R3 := hid (hR.lower T2.out.f.size)
    clear hF hR
    go_wp2_with fail
    go_ret
    exact ⟨_, _, _, _, rfl, R3.out, by simp [hx, hy, hz], by decide, by omega, T3.out⟩
  by_cases h3 : (q : Int) = 8
  · go_wp2_with fail
    refine (csr_t g L _ T1.out.t).mono ?_; rintro e w2 ⟨v, rfl, hv, hT⟩
    have T2 := hid (T1.out.trans hT)
    clear hT
    go_wp2_with fail
    go_ret
    exact ⟨_, _, _, _, rfl, row_new _ _ T2.out.f.size [v] 1 rfl _ rfl (by decide), by simp [hv], by decide, by omega, T2.out.alloc _⟩
  by_cases h4 : (q : Int) = 9
  · go_wp2_with fail
    refine (CA.out _ T1.out.t).mono ?_; rintro e w2 ⟨b, m, cap, t, rfl, hR, hw, m1, m2, hT⟩
    have T2 := hid (T1.out.trans hT)
    have R2 := hid (hR.lower T1.out.f.size)
    have WW := hid hw
    have m3 : (m : Int) ≤ 20 := by omega
    have m0 : (0 : Int) ≤ m := by omega
    clear hT hR hw
    go_wp2_with fail
    refine (next_t _ (by decide) (by decide) g L _ T2.out.t).mono ?_; rintro e w3 ⟨q3, rfl, hq3, hT, hO⟩
    have T3 := hid (T2.out.next hT hO)
    have R3 := hid (R2.out.tf (FrG.only (FrG.refl g _) hO) B0.out)
    clear hT hO
    go_wp2_with fail
    refine (next_t _ (by decide) (by decide) g L _ T3.out.t).mono ?_; rintro e w4 ⟨q4, rfl, hq4, hT, hO⟩
    have T4 := hid (T3.out.next hT hO)
    have R4 := hid (R3.out.tf (FrG.only (FrG.refl g _) hO) B0.out)
    clear hT hO
    go_wp2_with fail
    refine (next_t _ (by decide) (by decide) g L _ T4.out.t).mono ?_; rintro e w5 ⟨q5, rfl, hq5, hT, hO⟩
    have T5 := hid (T4.out.next hT hO)
    have R5 := hid (R4.out.tf (FrG.only (FrG.refl g _) hO) B0.out)
    clear hT hO
    go_wp2_with fail
    refine (word_any _ _ _ _ _ _).mono ?_; rintro e w6 ⟨v, rfl, hv, hF⟩
    have T6 := hid (T5.out.fr hF)
    have R6 := hid (R5.out.fr hF)
    have V := hid hv
    clear hF hv
    have A1 := hid ((Fr.refl w6).alloc (.cells #[.int .u32 v] 36))
    have N6 := hid (row_new w6 w.heap.size T6.out.f.size [v] 1 rfl _ rfl (by decide))
    go_wp2_with (first | (at_builtin; refine wpList_app _ rfl _ _ rfl w.heap.size _ 1 [v] rfl (by exact N6.out.2) rfl b m cap t rfl R6.out.1 (by exact (R6.out.fr A1.out).cells) (1 + m) rfl m1 (by omega) (by have := T6.out.f.size; simp; omega) ?_))
    intro g4 cap4 w7 R7 G7
    have T7 := hid (TF.grow (T6.out.alloc (.cells #[.int .u32 v] 36)) (own_ge (by exact N6.out.2)) G7.out)
    clear G7
    go_wp2_with fail
    go_ret
    exact ⟨_, _, _, _, rfl, R7.out, by intro x hx; rcases List.mem_cons.1 hx with rfl | h; exact V.out; exact WW.out x h, by omega, by omega, T7.out⟩
  by_cases h5 : (q : Int) = 10
  · go_wp2_with fail
    refine (CA.out _ T1.out.t).mono ?_; rintro e w2 ⟨b, m, cap, t, rfl, hR, hw, m1, m2, hT⟩
    have T2 := hid (T1.out.trans hT)
    have R2 := hid (hR.lower T1.out.f.size)
    have WW := hid hw
    have m3 : (m : Int) ≤ 20 := by omega
    have m0 : (0 : Int) ≤ m := by omega
    clear hT hR hw
    go_wp2_with fail
    refine (next_t _ (by decide) (by decide) g L _ T2.out.t).mono ?_; rintro e w3 ⟨q3, rfl, hq3, hT, hO⟩
    have T3 := hid (T2.out.next hT hO)
    have R3 := hid (R2.out.tf (FrG.only (FrG.refl g _) hO) B0.out)
    clear hT hO
    go_wp2_with fail
    refine (word_any _ _ _ _ _ _).mono ?_; rintro e w6 ⟨v, rfl, hv, hF⟩
    have T6 := hid (T3.out.fr hF)
    have R6 := hid (R3.out.fr hF)
    have V := hid hv
    clear hF hv
    have A1 := hid ((Fr.refl w6).alloc (.cells #[.int .u32 v] 36))
    have N6 := hid (row_new w6 w.heap.size T6.out.f.size [v] 1 rfl _ rfl (by decide))
    go_wp2_with (first | (at_builtin; refine wpList_app _ rfl _ _ rfl w.heap.size _ 1 [v] rfl (by exact N6.out.2) rfl b m cap t rfl R6.out.1 (by exact (R6.out.fr A1.out).cells) (1 + m) rfl m1 (by omega) (by have := T6.out.f.size; simp; omega) ?_))
    intro g4 cap4 w7 R7 G7
    have T7 := hid (TF.grow (T6.out.alloc (.cells #[.int .u32 v] 36)) (own_ge (by exact N6.out.2)) G7.out)
    clear G7
    go_wp2_with fail
    refine (word_any _ _ _ _ _ _).mono ?_; rintro e w8 ⟨v2, rfl, hv, hF⟩
    have T8 := hid (T7.out.fr hF)
    have R8 := hid (R7.out.fr hF)
    have V2 := hid hv
    clear hF hv
    go_wp2_with fail
    refine (word_any _ _ _ _ _ _).mono ?_; rintro e w9 ⟨v3, rfl, hv, hF⟩
    have T9 := hid (T8.out.fr hF)
    have R9 := hid (R8.out.fr hF)
    have V3 := hid hv
    clear hF hv
    have A2 := hid ((Fr.refl w9).alloc (.cells #[.int .u32 v2, .int .u32 v3] 36))
    have N9 := hid (row_new w9 w.heap.size T9.out.f.size [v2, v3] 2 rfl _ rfl (by decide))
    go_wp2_with (first | (at_builtin; refine wpList_app _ rfl _ _ rfl w.heap.size _ (1 + m) ([v] ++ t) rfl (by exact (R9.out.fr A2.out).2) R9.out.1 w9.heap.size 2 2 [v2, v3] rfl rfl (by exact N9.out.cells) (1 + m + 2) rfl (by decide) (by omega) (by have := T9.out.f.size; simp; omega) ?_))
    intro g5 cap5 w10 R10 G10
    have T10 := hid (TF.grow (T9.out.alloc (.cells #[.int .u32 v2, .int .u32 v3] 36)) (own_ge (by exact (R9.out.fr A2.out).2)) G10.out)
    clear G10
    go_wp2_with fail
    go_ret
    exact ⟨_, _, _, _, rfl, R10.out, by intro x hx; rcases List.mem_cons.1 hx with rfl | h; exact V.out; rcases List.mem_append.1 h with h | h; exact WW.out x h; (simp at h; rcases h with rfl | rfl; exact V2.out; exact V3.out), by omega, by omega, T10.out⟩
  · go_wp2_with fail
    refine (next_t _ (by decide) (by decide) g L _ T1.out.t).mono ?_; rintro e w2 ⟨q2, rfl, hq2, hT, hO⟩
    have T2 := hid (T1.out.next hT hO)
    clear hT hO
    go_wp2_with fail
    refine (tword_as g L _ T2.out.t).mono ?_; rintro e w3 ⟨v, rfl, hv, hT⟩
    have T3 := hid (T2.out.trans hT)
    clear hT
    go_wp2_with fail
    refine (set_any _ _ _).mono ?_; rintro e w4 ⟨b, cap, x, y, rfl, hR, hx, hy, hF⟩
    have T4 := hid (T3.out.fr hF)
    have R4 := hid (hR.lower T3.out.f.size)
    clear hF hR
    go_wp2_with fail
    go_ret
    exact ⟨_, _, _, _, rfl, R4.out, by simp [hx, hy], by decide, by omega, T4.out⟩
set_option maxRecDepth 100000 in
set_option maxHeartbeats 2000000 in
theorem piece2 (g : Nat) (L : TL) (CA : Hid (∀ w, Tp g L w → Calls Tryz.prog 43 #[.pointer (some ⟨g, 0, none⟩), .int .i64 1] w fun e w' => ∃ b m cap t, e = .returned (.slice (some ⟨b, 0, none⟩) m cap) ∧ Row w.heap.size w' b m cap t ∧ (∀ x ∈ t, W32 x) ∧ 1 ≤ m ∧ m ≤ 6 ∧ TF g L w w')) (w : World) (T : Hid (Tp g L w)) :
    Calls Tryz.prog 43 #[.pointer (some ⟨g, 0, none⟩), .int .i64 2] w fun e w' => ∃ b m cap t, e = .returned (.slice (some ⟨b, 0, none⟩) m cap) ∧ Row w.heap.size w' b m cap t ∧ (∀ x ∈ t, W32 x) ∧ 1 ≤ m ∧ m ≤ 9 ∧ TF g L w w' := by
  have B0 := hid T.out.lt
  go_enter Tryz.func43, Tryz.ntmps43
  go_wp2_with fail
  refine (next_t _ (by decide) (by decide) g L _ T.out).mono ?_; rintro e w1 ⟨q, rfl, hq, hT, hO⟩
  have T1 := hid ((TF.refl T.out).next hT hO)
  clear hT hO
  by_cases h0 : (q : Int) < 5
  · go_wp2_with fail
    refine (reckon_as g L _ T1.out.t).mono ?_; rintro e w2 ⟨v, rfl, hv, hT⟩
    have T2 := hid (T1.out.trans hT)
    clear hT
    go_wp2_with fail
    go_ret
    exact ⟨_, _, _, _, rfl, row_new _ _ T2.out.f.size [v] 1 rfl _ rfl (by decide), by simp [hv], by decide, by omega, T2.out.alloc _⟩
  by_cases h1 : (q : Int) < 7
  · go_wp2_with fail
    refine (touch_as g L _ T1.out.t).mono ?_; rintro e w2 ⟨b, cap, t, rfl, hR, hw, hT⟩
    have T2 := hid (T1.out.trans hT)
    have R2 := hid (hR.lower T1.out.f.size)
    clear hT hR
    go_wp2_with fail
    go_ret
    exact ⟨_, _, _, _, rfl, R2.out, hw, by decide, by omega, T2.out⟩
  by_cases h2 : (q : Int) = 7
  · go_wp2_with fail
    refine (next_t _ (by decide) (by decide) g L _ T1.out.t).mono ?_; rintro e w2 ⟨q2, rfl, hq2, hT, hO⟩
    have T2 := hid (T1.out.next hT hO)
    clear hT hO
    go_wp2_with fail
    refine (out_any _ _).mono ?_; rintro e w3 ⟨b, cap, x, y, z, rfl, hR, hx, hy, hz, hF⟩
    have T3 := hid (T2.out.fr hF)
    have R3 := hid (hR.lower T2.out.f.size)
    clear hF hR
    go_wp2_with fail
    go_ret
    exact ⟨_, _, _, _, rfl, R3.out, by simp [hx, hy, hz], by decide, by omega, T3.out⟩
  by_cases h3 : (q : Int) = 8
  · go_wp2_with fail
    refine (csr_t g L _ T1.out.t).mono ?_; rintro e w2 ⟨v, rfl, hv, hT⟩
    have T2 := hid (T1.out.trans hT)
    clear hT
    go_wp2_with fail
    go_ret
    exact ⟨_, _, _, _, rfl, row_new _ _ T2.out.f.size [v] 1 rfl _ rfl (by decide), by simp [hv], by decide, by omega, T2.out.alloc _⟩
  by_cases h4 : (q : Int) = 9
  · go_wp2_with fail
    refine (CA.out _ T1.out.t).mono ?_; rintro e w2 ⟨b, m, cap, t, rfl, hR, hw, m1, m2, hT⟩
    have T2 := hid (T1.out.trans hT)
    have R2 := hid (hR.lower T1.out.f.size)
    have WW := hid hw
    have m3 : (m : Int) ≤ 20 := by omega
    have m0 : (0 : Int) ≤ m := by omega
    clear hT hR hw
    go_wp2_with fail
    refine (next_t _ (by decide) (by decide) g L _ T2.out.t).mono ?_; rintro e w3 ⟨q3, rfl, hq3, hT, hO⟩
    have T3 := hid (T2.out.next hT hO)
    have R3 := hid (R2.out.tf (FrG.only (FrG.refl g _) hO) B0.out)
    clear hT hO
    go_wp2_with fail
    refine (next_t _ (by decide) (by decide) g L _ T3.out.t).mono ?_; rintro e w4 ⟨q4, rfl, hq4, hT, hO⟩
    have T4 := hid (T3.out.next hT hO)
    have R4 := hid (R3.out.tf (FrG.only (FrG.refl g _) hO) B0.out)
    clear hT hO
    go_wp2_with fail
    refine (next_t _ (by decide) (by decide) g L _ T4.out.t).mono ?_; rintro e w5 ⟨q5, rfl, hq5, hT, hO⟩
    have T5 := hid (T4.out.next hT hO)
    have R5 := hid (R4.out.tf (FrG.only (FrG.refl g _) hO) B0.out)
    clear hT hO
    go_wp2_with fail
    refine (word_any _ _ _ _ _ _).mono ?_; rintro e w6 ⟨v, rfl, hv, hF⟩
    have T6 := hid (T5.out.fr hF)
    have R6 := hid (R5.out.fr hF)
    have V := hid hv
    clear hF hv
    have A1 := hid ((Fr.refl w6).alloc (.cells #[.int .u32 v] 36))
    have N6 := hid (row_new w6 w.heap.size T6.out.f.size [v] 1 rfl _ rfl (by decide))
    go_wp2_with (first | (at_builtin; refine wpList_app _ rfl _ _ rfl w.heap.size _ 1 [v] rfl (by exact N6.out.2) rfl b m cap t rfl R6.out.1 (by exact (R6.out.fr A1.out).cells) (1 + m) rfl m1 (by omega) (by have := T6.out.f.size; simp; omega) ?_))
    intro g4 cap4 w7 R7 G7
    have T7 := hid (TF.grow (T6.out.alloc (.cells #[.int .u32 v] 36)) (own_ge (by exact N6.out.2)) G7.out)
    clear G7
    go_wp2_with fail
    go_ret
    exact ⟨_, _, _, _, rfl, R7.out, by intro x hx; rcases List.mem_cons.1 hx with rfl | h; exact V.out; exact WW.out x h, by omega, by omega, T7.out⟩
  by_cases h5 : (q : Int) = 10
  · go_wp2_with fail
    refine (CA.out _ T1.out.t).mono ?_; rintro e w2 ⟨b, m, cap, t, rfl, hR, hw, m1, m2, hT⟩
    have T2 := hid (T1.out.trans hT)
    have R2 := hid (hR.lower T1.out.f.size)
    have WW := hid hw
    have m3 : (m : Int) ≤ 20 := by omega
    have m0 : (0 : Int) ≤ m := by omega
    clear hT hR hw
    go_wp2_with fail
    refine (next_t _ (by decide) (by decide) g L _ T2.out.t).mono ?_; rintro e w3 ⟨q3, rfl, hq3, hT, hO⟩
    have T3 := hid (T2.out.next hT hO)
    have R3 := hid (R2.out.tf (FrG.only (FrG.refl g _) hO) B0.out)
    clear hT hO
    go_wp2_with fail
    refine (word_any _ _ _ _ _ _).mono ?_; rintro e w6 ⟨v, rfl, hv, hF⟩
    have T6 := hid (T3.out.fr hF)
    have R6 := hid (R3.out.fr hF)
    have V := hid hv
    clear hF hv
    have A1 := hid ((Fr.refl w6).alloc (.cells #[.int .u32 v] 36))
    have N6 := hid (row_new w6 w.heap.size T6.out.f.size [v] 1 rfl _ rfl (by decide))
    go_wp2_with (first | (at_builtin; refine wpList_app _ rfl _ _ rfl w.heap.size _ 1 [v] rfl (by exact N6.out.2) rfl b m cap t rfl R6.out.1 (by exact (R6.out.fr A1.out).cells) (1 + m) rfl m1 (by omega) (by have := T6.out.f.size; simp; omega) ?_))
    intro g4 cap4 w7 R7 G7
    have T7 := hid (TF.grow (T6.out.alloc (.cells #[.int .u32 v] 36)) (own_ge (by exact N6.out.2)) G7.out)
    clear G7
    go_wp2_with fail
    refine (word_any _ _ _ _ _ _).mono ?_; rintro e w8 ⟨v2, rfl, hv, hF⟩
    have T8 := hid (T7.out.fr hF)
    have R8 := hid (R7.out.fr hF)
    have V2 := hid hv
    clear hF hv
    go_wp2_with fail
    refine (word_any _ _ _ _ _ _).mono ?_; rintro e w9 ⟨v3, rfl, hv, hF⟩
    have T9 := hid (T8.out.fr hF)
    have R9 := hid (R8.out.fr hF)
    have V3 := hid hv
    clear hF hv
    have A2 := hid ((Fr.refl w9).alloc (.cells #[.int .u32 v2, .int .u32 v3] 36))
    have N9 := hid (row_new w9 w.heap.size T9.out.f.size [v2, v3] 2 rfl _ rfl (by decide))
    go_wp2_with (first | (at_builtin; refine wpList_app _ rfl _ _ rfl w.heap.size _ (1 + m) ([v] ++ t) rfl (by exact (R9.out.fr A2.out).2) R9.out.1 w9.heap.size 2 2 [v2, v3] rfl rfl (by exact N9.out.cells) (1 + m + 2) rfl (by decide) (by omega) (by have := T9.out.f.size; simp; omega) ?_))
    intro g5 cap5 w10 R10 G10
    have T10 := hid (TF.grow (T9.out.alloc (.cells #[.int .u32 v2, .int .u32 v3] 36)) (own_ge (by exact (R9.out.fr A2.out).2)) G10.out)
    clear G10
    go_wp2_with fail
    go_ret
    exact ⟨_, _, _, _, rfl, R10.out, by intro x hx; rcases List.mem_cons.1 hx with rfl | h; exact V.out; rcases List.mem_append.1 h with h | h; exact WW.out x h; (simp at h; rcases h with rfl | rfl; exact V2.out; exact V3.out), by omega, by omega, T10.out⟩
  · go_wp2_with fail
    refine (next_t _ (by decide) (by decide) g L _ T1.out.t).mono ?_; rintro e w2 ⟨q2, rfl, hq2, hT, hO⟩
    have T2 := hid (T1.out.next hT hO)
    clear hT hO
    go_wp2_with fail
    refine (tword_as g L _ T2.out.t).mono ?_; rintro e w3 ⟨v, rfl, hv, hT⟩
    have T3 := hid (T2.out.trans hT)
    clear hT
    go_wp2_with fail
    refine (set_any _ _ _).mono ?_; rintro e w4 ⟨b, cap, x, y, rfl, hR, hx, hy, hF⟩
    have T4 := hid (T3.out.fr hF)
    have R4 := hid (hR.lower T3.out.f.size)
    clear hF hR
    go_wp2_with fail
    go_ret
    exact ⟨_, _, _, _, rfl, R4.out, by simp [hx, hy], by decide, by omega, T4.out⟩
theorem piece_as (g : Nat) (L : TL) (w : World) (T : Hid (Tp g L w)) :
    Calls Tryz.prog 43 #[.pointer (some ⟨g, 0, none⟩), .int .i64 2] w fun e w' => ∃ b m cap t, e = .returned (.slice (some ⟨b, 0, none⟩) m cap) ∧ Row w.heap.size w' b m cap t ∧ (∀ x ∈ t, W32 x) ∧ 1 ≤ m ∧ m ≤ 9 ∧ TF g L w w' :=
  piece2 g L (fun w h => piece1 g L (fun w h => piece0 g L w h) w h) w T
end Go.Proofs.YtpkbkbllhpdfiaaGreat.M
namespace Go.Proofs.YtpkbkbllhpdfiaaGreat.M
open Go.ChangeShapes Go.WideShapes Go.ChangeAt Go.RowKit Go.Proofs.YtpkbkbllhpdfiaaGreat.Walks Go.Proofs.YtpkbkbllhpdfiaaGreat.Mod
set_option linter.unusedVariables false
theorem make768 (w : World) : (Instr.makeSlice 23 (.int .i64 768) (.int .i64 768)).run Tryz.prog w = .ok (.slice (some ⟨w.heap.size, 0, none⟩) 768 768) (w.alloc (.cells (madeCells #[.int .u32 0] 768) 36)) :=
  run_make_row' (P := Tryz.prog) 23 36 (.int .u32 0) 4 Tryz.underlying23 info36b rfl .i64 .i64 768 (by omega) (by omega) w
theorem make1025 (w : World) : (Instr.makeSlice 23 (.int .i64 1025) (.int .i64 1025)).run Tryz.prog w = .ok (.slice (some ⟨w.heap.size, 0, none⟩) 1025 1025) (w.alloc (.cells (madeCells #[.int .u32 0] 1025) 36)) :=
  run_make_row' (P := Tryz.prog) 23 36 (.int .u32 0) 4 Tryz.underlying23 info36b rfl .i64 .i64 1025 (by omega) (by omega) w
theorem copy_words (base b n cap N : Nat) (t : List Int) (w : World) (hR : Row base w b n cap t) (hw : ∀ x ∈ t, W32 x) (hb : base ≤ w.heap.size) (hn : n ≤ N) (hN : N ≤ 5000) (c : Array Value) (hc : madeCells #[Value.int .u32 0] N = c) :
    ∃ W2 t', (Builtin.copy_ #[23, 23] 3 #[.slice (some ⟨w.heap.size, 0, none⟩) N N, .slice (some ⟨b, 0, none⟩) n cap]).run Tryz.prog (w.alloc (.cells c 36)) = .ok (.int .i64 n) W2 ∧ Row base W2 w.heap.size N N t' ∧ (∀ x ∈ t', W32 x) ∧ Fr w W2 := by
  have i36 : (Tryz.prog.info? 36).map (·.size) = some 1 := by kernel_rfl
  have hz : c.size = N := by rw [← hc]; exact made_size N
  have hcs : ∀ k : Nat, k < N → c[k]? = some (Value.int .u32 0) := fun k hk => by rw [← hc]; exact made_u32 N k hk
  have hg : (w.alloc (.cells c 36)).heap[w.heap.size]? = some (.cells c 36) := by show (w.heap.push _)[w.heap.size]? = _; simp
  have r := run_copy_row (P := Tryz.prog) (w.alloc (.cells c 36)) 23 23 3 36 w.heap.size 0 N N ⟨b, 0, none⟩ n cap c 36 (t.map (Value.int .u32)) Tryz.underlying23 i36 hg (by rw [List.length_map, hR.1]; exact (Nat.min_eq_left hn).symm) (fun j u hu => by
    rw [Addr.add_lit, Nat.zero_add, ((Fr.refl w).alloc _).cell b j hR.lt]; exact hR.cells j u hu) (by simp [hR.1, hz]; omega) (one_some t)
  rw [List.length_map, hR.1] at r
  refine ⟨_, t ++ List.replicate (N - n) 0, r, ⟨by simp [hR.1]; omega, ?_⟩, ?_, ?_⟩
  · have e := setRow_heap (w.alloc (.cells c 36)) w.heap.size c (c.toList.take 0 ++ t.map (Value.int .u32) ++ c.toList.drop (0 + n)).toArray 36 (0, 0) hg
    have d : c.toList.drop n = (List.replicate (N - n) (0 : Int)).map (Value.int .u32) := by
      apply List.ext_getElem?
      intro i
      rw [List.getElem?_drop, List.getElem?_map]
      by_cases hi : i < N - n
      · rw [List.getElem?_replicate_of_lt hi]
        have := hcs (n + i) (by omega)
        simpa using this
      · rw [List.getElem?_eq_none (by simp [hz]; omega), List.getElem?_eq_none (by simp; omega)]
        rfl
    refine ⟨by simp [hR.1]; omega, .inr ⟨w.heap.size, N, _, rfl, hb, e, Nat.le_refl _, by unfold maxLen; omega, by simp [hR.1, hz]; omega, ?_⟩⟩
    rw [Nat.mul_one, Nat.zero_add, d]
    simp only [List.take_zero, List.nil_append, List.map_append]
    exact List.take_of_length_le (by simp [hR.1]; omega)
  · intro x hx
    rcases List.mem_append.1 hx with h | h
    · exact hw x h
    · rw [(List.mem_replicate.1 h).2]; exact W32.zero
  · refine ⟨rfl, rfl, by simp [World.setRow], fun k hk => ?_⟩
    exact (setRow_other _ _ k _ (by omega)).trans (((Fr.refl w).alloc _).block k hk)
end Go.Proofs.YtpkbkbllhpdfiaaGreat.M
namespace Go.Proofs.YtpkbkbllhpdfiaaGreat.M
open Go.ChangeShapes Go.WideShapes Go.ChangeAt Go.RowKit Go.Proofs.YtpkbkbllhpdfiaaGreat.Walks Go.Proofs.YtpkbkbllhpdfiaaGreat.Mod
set_option linter.unusedVariables false
/-- a row of numbers, and where it lies -/
def NumsIn (w : World) (L : TL) : Prop := L.len ≤ 9223372036854775807 ∧ ∀ j, j < L.len → ∃ b o, L.A = some ⟨b, o, none⟩ ∧ b < w.heap.size ∧ w.cell? ⟨b, o + j, none⟩ = some (.int .i64 (L.zs j))
theorem NumsIn.fr {w w' : World} {L : TL} (h : NumsIn w L) (k : Fr w w') : NumsIn w' L := ⟨h.1, fun j hj => by
  obtain ⟨b, o, h1, h2, h3⟩ := h.2 j hj
  exact ⟨b, o, h1, Nat.lt_of_lt_of_le h2 k.size, by rw [k.cell b _ h2]; exact h3⟩⟩
/-- a tape that is new -/
theorem tp_new {w : World} {L : TL} (h : NumsIn w L) : Tp w.heap.size L (w.alloc (.cells #[.slice L.A L.len L.cap, .int .i64 0] 58)) := by
  refine ⟨0, Nat.zero_le _, h.1, by rw [World.cell?_alloc_at _ _ _ _ rfl]; rfl, by rw [World.cell?_alloc_at _ _ _ _ rfl]; rfl, by rw [World.frozen?_alloc_at _ _ _ _ rfl], fun j hj => ?_⟩
  obtain ⟨b, o, h1, h2, h3⟩ := h.2 j hj
  exact ⟨b, o, h1, by omega, by rw [((Fr.refl w).alloc _).cell b _ h2]; exact h3⟩
/-- the tape is new too -/
theorem tf_out {w w' : World} {L : TL} {o : Obj} (h : TF w.heap.size L (w.alloc o) w') : Fr w w' :=
  ⟨h.f.os, h.f.output, by have := h.f.size; simp at this; omega, fun k hk => (h.f.block k (by simp; omega) (by omega)).trans (((Fr.refl w).alloc o).block k hk)⟩
theorem S0 {w w' : World} {L : TL} {o : Obj} (h : TF w.heap.size L (w.alloc o) w') : w.heap.size + 1 ≤ w'.heap.size := by have := h.f.size; simp at this; omega
theorem SU {w : World} {o : Obj} {v : Value} (h : ∀ b, v.ownBlock = some b → w.heap.size + 1 ≤ b) : ∀ b, v.ownBlock = some b → (w.alloc o).heap.size ≤ b := fun b e => by have := h b e; simp; omega
/-- append onto a row, and where it lies then -/
theorem wpList_appM {ops : Array Oper} {rest : List Oper} {o : Oper} {a : Act} {Q : Exit → Act → World → Prop} (w : World) (hgd : o.guard = none) (s x : Operand)
    (ho : o.op = .call { callee := .builtin .append, args := #[s, x], argTypes := #[23, 23] }) (base gs n cs : Nat) (t : List Int) (hs : a.eval s = .slice (some ⟨gs, 0, none⟩) n cs) (hO : Row base w gs n cs t)
    (b m c : Nat) (t2 : List Int) (hx : a.eval x = .slice (some ⟨b, 0, none⟩) m c) (hm : t2.length = m) (hC : ∀ j u, (t2.map (Value.int .u32))[j]? = some u → w.cell? ⟨b, j, none⟩ = some u) (N : Nat) (hN : n + m = N) (m1 : 1 ≤ m) (hl : N ≤ 5000) (hb : base ≤ w.heap.size)
    (h : ∀ g cap w', Hid (Row base w' g N cap (t ++ t2)) → Hid (w.grownBy w' (some gs)) → Hid (g = gs ∨ w.heap.size ≤ g) → wpList Tryz.prog ops Q rest (a.put o.dst (.slice (some ⟨g, 0, none⟩) N cap)) w') : wpList Tryz.prog ops Q (o :: rest) a w := by
  obtain ⟨j0, hi, hz0, hz1, hz2⟩ := info_parts info36
  subst hN
  refine wpList_append_mine w hgd s x 23 ho 36 j0 (.int .u32 0) 4 Tryz.underlying23 hi hz0 hz1 hz2 rfl _ n _ hs (ownsRow_lower hO.2 (Nat.zero_le _)) ⟨b, 0, none⟩ m c (t2.map (Value.int .u32)) hx (by simp [hm]) (fun j u hu => by rw [Addr.add_lit, Nat.zero_add]; exact hC j u hu) (one_some t2) (by unfold maxLen; omega) (by omega) ?_
  intro v' w' hown hgrow hmv
  have hg := hO.ge
  rcases hown.2 with ⟨_, h0⟩ | ⟨g, cap, cur, rfl, h2, h3, h4⟩
  · omega
  · have hw : g = gs ∨ w.heap.size ≤ g := by
      rcases hmv with e | ⟨g', e, l⟩
      · left; simpa [Value.ownBlock] using e
      · right; simp [Value.ownBlock] at e; omega
    refine h g cap w' ⟨by simp [hO.1, hm], by rw [List.map_append]; exact hown.1, ?_⟩ hgrow hw
    refine .inr ⟨g, cap, cur, rfl, by omega, h3, h4.1, h4.2.1, h4.2.2.1, ?_⟩
    rw [List.map_append]
    exact h4.2.2.2
set_option maxRecDepth 100000 in
set_option maxHeartbeats 4000000 in
theorem image_as (L : TL) (w : World) (hN : Hid (NumsIn w L)) :
    Calls Tryz.prog 24 #[.slice L.A L.len L.cap, .int .i64 14] w fun e w' => ∃ b cap t, e = .returned (.slice (some ⟨b, 0, none⟩) 776 cap) ∧ Row w.heap.size w' b 776 cap t ∧ (∀ x ∈ t, W32 x) ∧ Fr w w' := by
  obtain ⟨c, hc0⟩ : ∃ c : Array Value, madeCells #[Value.int .u32 0] 768 = c := ⟨_, rfl⟩
  have MK := make768
  rw [hc0] at MK
  have hc0 := hid hc0
  have T0 := hid (TF.refl (tp_new hN.out))
  have B0 : Hid (w.heap.size < w.heap.size + 1) := Nat.lt_succ_self _
  go_enter Tryz.func24, Tryz.ntmps24
  go_wp2_with fail
  refine (set_any _ _ _).mono ?_; rintro e w1 ⟨b, cap, x0, y0, rfl, hR, hx, hy, hF⟩
  have T1 := hid (T0.out.fr hF)
  have R1 := hid (hR.lower (S0 T0.out))
  have XY : Hid (W32 x0 ∧ W32 y0) := ⟨hx, hy⟩
  clear hF hR hx hy
  go_wp2_with fail
  refine (word_any _ _ _ _ _ _).mono ?_; rintro e w2 ⟨v2, rfl, hv, hF⟩
  have T2 := hid (T1.out.fr hF)
  have R2 := hid (R1.out.fr hF)
  have V2 := hid hv
  clear hF hv
  have A3 := hid ((Fr.refl w2).alloc (.cells #[.int .u32 v2] 36))
  have N3 := hid (row_new w2 (w.heap.size + 1) (S0 T2.out) [v2] 1 rfl _ rfl (by decide))
  go_wp2_with (first | (at_builtin; refine wpList_app _ rfl _ _ rfl (w.heap.size + 1) _ 2 [x0, y0] rfl (by exact (R2.out.fr A3.out).2) rfl w2.heap.size 1 1 [v2] rfl rfl (by exact N3.out.cells) 3 rfl (by decide) (by omega) (by have := S0 T2.out; simp; omega) ?_))
  intro g3 cap3 w3 R3 G3
  have T3 := hid (TF.grow (T2.out.alloc (.cells #[.int .u32 v2] 36)) (SU (own_ge (by exact (R2.out.fr A3.out).2))) G3.out)
  clear G3 N3 A3
  have WW3 : Hid (∀ p ∈ [x0, y0] ++ [v2], W32 p) := by
    intro p hp
    simp at hp
    rcases hp with rfl | rfl | rfl
    · exact XY.out.1
    · exact XY.out.2
    · exact V2.out
  clear V2 XY
  go_wp2_with fail
  refine (next_t _ (by decide) (by decide) w.heap.size L _ T3.out.t).mono ?_; rintro e w4 ⟨q4, rfl, hq4, hT, hO⟩
  have T4 := hid (T3.out.next hT hO)
  have R4 := hid (R3.out.tf (FrG.only (FrG.refl _ _) hO) B0.out)
  clear hT hO
  have q40 : (0 : Int) ≤ 2 + q4 := by omega
  go_wp2_with fail
  go_loopw [6, 7] (fun o d wr => ∃ k b n cap : Nat, (k : Int) ≤ 20 ∧ (n : Int) ≤ 400 ∧ o = .slice (some ⟨b, 0, none⟩) n cap ∧ d = .int .i64 k ∧ Hid (∃ t, Row (w.heap.size + 1) wr b n cap t ∧ (∀ x ∈ t, W32 x) ∧ TF w.heap.size L (w.alloc (.cells #[.slice L.A L.len L.cap, .int .i64 0] 58)) wr)) (fun _ d _ => (intOf d).toNat)
  case atStart => exact ⟨2 + q4, _, _, _, by omega, by decide, rfl, by rw [Int.natCast_add]; rfl, _, R4.out, WW3.out, T4.out⟩
  case round =>
    obtain ⟨k, b, n, cap, hk, hn, rfl, rfl, HD⟩ := hrel
    rename_i wr
    clear R4 T4 T1 T2 T3 R1 R2 R3 WW3
    obtain ⟨t, hR, hw, hT⟩ := HD.out
    have T5 := hid hT
    have R5 := hid hR
    have W5 := hid hw
    clear HD hT hR hw
    by_cases hlt : (0 : Int) < k
    · go_wp2_with fail
      refine (piece_as w.heap.size L _ T5.out.t).mono ?_; rintro e w6 ⟨b6, m, cap6, t6, rfl, hR, hw, m1, m2, hT⟩
      have T6 := hid (T5.out.trans hT)
      have R6 := hid (R5.out.tf hT.f B0.out)
      have N6 := hid (hR.lower (S0 T5.out))
      have W6 := hid hw
      clear hT hR hw
      by_cases hs : (n : Int) + m < 400
      · go_wp2_with (first | (at_builtin; refine wpList_app _ rfl _ _ rfl (w.heap.size + 1) _ n t rfl (by exact R6.out.2) R6.out.1 b6 m cap6 t6 rfl N6.out.1 (by exact N6.out.cells) (n + m) rfl m1 (by omega) (by exact S0 T6.out) ?_))
        intro g7 cap7 w7 R7 G7
        have T7 := hid (TF.grow T6.out (SU (own_ge (by exact R6.out.2))) G7.out)
        clear G7
        go_wp2_with fail
        exact ⟨⟨k - 1, _, _, _, by omega, by omega, rfl, by congr 1; omega, _, R7.out, by intro x hx; rcases List.mem_append.1 hx with h | h; exact W5.out x h; exact W6.out x h, T7.out⟩, by simp [intOf]; omega⟩
      · go_wp2_with fail
        exact ⟨⟨k - 1, _, _, _, by omega, by omega, rfl, by congr 1; omega, _, R6.out, W5.out, T6.out⟩, by simp [intOf]; omega⟩
    · have n9 : (n : Int) ≤ 400 := hn
      go_wp2_with fail
      refine (next_t _ (by decide) (by decide) w.heap.size L _ T5.out.t).mono ?_; rintro e w8 ⟨q8, rfl, hq8, hT, hO⟩
      have T8 := hid (T5.out.next hT hO)
      have R8 := hid (R5.out.tf (FrG.only (FrG.refl _ _) hO) B0.out)
      clear hT hO
      by_cases h8 : (0 : Int) < q8
      · go_wp2_with fail
        refine (next_t _ (by decide) (by decide) w.heap.size L _ T8.out.t).mono ?_; rintro e w9 ⟨q9, rfl, hq9, hT, hO⟩
        have T9 := hid (T8.out.next hT hO)
        have R9 := hid (R8.out.tf (FrG.only (FrG.refl _ _) hO) B0.out)
        clear hT hO
        go_wp2_with fail
        refine (stop_any _ _).mono ?_; rintro e w10 ⟨b10, cap10, x, y, z, rfl, hR, hx, hy, hz, hF⟩
        have T10 := hid (T9.out.fr hF)
        have R10 := hid (R9.out.fr hF)
        have N10 := hid (hR.lower (S0 T9.out))
        have W10 : Hid (∀ p ∈ t ++ [x, y, z], W32 p) := by
          intro p hp
          rcases List.mem_append.1 hp with h | h
          · exact W5.out p h
          · simp at h
            rcases h with rfl | rfl | rfl
            · exact hx
            · exact hy
            · exact hz
        clear hF hR hx hy hz
        go_wp2_with (first | (at_builtin; refine wpList_app _ rfl _ _ rfl (w.heap.size + 1) _ n t rfl (by exact R10.out.2) R10.out.1 b10 3 cap10 [x, y, z] rfl rfl (by exact N10.out.cells) (n + 3) rfl (by decide) (by omega) (by exact S0 T10.out) ?_))
        intro g11 cap11 w11 R11 G11
        have T11 := hid (TF.grow T10.out (SU (own_ge (by exact R10.out.2))) G11.out)
        clear G11 N10 R10 R9 R8 R5
        obtain ⟨W2, t2, RC, hR2, hw2, hF2⟩ := copy_words (w.heap.size + 1) _ (n + 3) _ 768 _ w11 R11.out W10.out (S0 T11.out) (by omega) (by decide) c hc0
        have RA := hid hR2
        have WA := hid hw2
        have TA := hid (T11.out.fr hF2)
        clear hR2 hw2 hF2
        go_wp2_with fail
        refine (word_any _ _ _ _ _ _).mono ?_; rintro e w40 ⟨v40, rfl, hv, hF⟩
        have T40 := hid (TA.out.fr hF)
        have RA40 := hid (RA.out.fr hF)
        have V40 := hid hv
        clear hF hv
        have N40 := hid (row_new w40 (w.heap.size + 1) (S0 T40.out) [v40] 1 rfl _ rfl (by decide))
        have A40 := hid ((Fr.refl w40).alloc (.cells #[.int .u32 v40] 36))
        go_wp2_with fail
        refine (out_any _ _).mono ?_; rintro e w41 ⟨b41, cap41, x, y, z, rfl, hR, hx, hy, hz, hF⟩
        have T41 := hid ((T40.out.alloc (.cells #[.int .u32 v40] 36)).fr hF)
        have RA41 := hid ((RA40.out.fr A40.out).fr hF)
        have N41 := hid (N40.out.fr hF)
        have R41 := hid (hR.lower (base' := w.heap.size + 1) (by have := S0 T40.out; simp; omega))
        have XYZ : Hid (W32 x ∧ W32 y ∧ W32 z) := ⟨hx, hy, hz⟩
        have D41 : Hid (b41 ≠ w40.heap.size) := by have := hR.ge; unfold Hid; simp at this; omega
        have L40 := hid RA40.out.lt
        clear hF hR hx hy hz N40 A40 RA40 RA
        go_wp2_with (first | (at_builtin; refine wpList_appM _ rfl _ _ rfl (w.heap.size + 1) w40.heap.size 1 1 [v40] rfl (by exact N41.out) b41 3 cap41 [x, y, z] rfl rfl (by exact R41.out.cells) 4 rfl (by decide) (by decide) (by exact S0 T41.out) ?_))
        intro g42 cap42 w42 R42 G42 D0
        have T42 := hid (TF.grow (v := .slice (some ⟨w40.heap.size, 0, none⟩) 1 1) T41.out (SU (own_ge (by exact N41.out.2))) G42.out)
        have RA42 := hid (RA41.out.apart (v := .slice (some ⟨w40.heap.size, 0, none⟩) 1 1) G42.out (by have := L40.out; simp [Value.ownBlock]; omega))
        have D42 : Hid (g42 ≠ w11.heap.size) := by have := L40.out; have := D0.out; have := RA41.out.lt; unfold Hid; omega
        clear G42 N41 RA41 R41 D41 L40 D0
        go_wp2_with fail
        refine (word_any _ _ _ _ _ _).mono ?_; rintro e w43 ⟨v43, rfl, hv, hF⟩
        have T43 := hid (T42.out.fr hF)
        have R43 := hid (R42.out.fr hF)
        have RA43 := hid (RA42.out.fr hF)
        have V43 := hid hv
        clear hF hv R42 RA42
        go_wp2_with fail
        refine (word_any _ _ _ _ _ _).mono ?_; rintro e w44 ⟨v44, rfl, hv, hF⟩
        have T44 := hid (T43.out.fr hF)
        have R44 := hid (R43.out.fr hF)
        have RA44 := hid (RA43.out.fr hF)
        have V44 := hid hv
        clear hF hv R43 RA43
        go_wp2_with fail
        refine (word_any _ _ _ _ _ _).mono ?_; rintro e w45 ⟨v45, rfl, hv, hF⟩
        have T45 := hid (T44.out.fr hF)
        have R45 := hid (R44.out.fr hF)
        have RA45 := hid (RA44.out.fr hF)
        have V45 := hid hv
        clear hF hv R44 RA44
        go_wp2_with fail
        refine (word_any _ _ _ _ _ _).mono ?_; rintro e w46 ⟨v46, rfl, hv, hF⟩
        have T46 := hid (T45.out.fr hF)
        have R46 := hid (R45.out.fr hF)
        have RA46 := hid (RA45.out.fr hF)
        have V46 := hid hv
        clear hF hv R45 RA45
        have A47 := hid ((Fr.refl w46).alloc (.cells #[.int .u32 v43, .int .u32 v44, .int .u32 v45, .int .u32 v46] 36))
        have N47 := hid (row_new w46 (w.heap.size + 1) (S0 T46.out) [v43, v44, v45, v46] 4 rfl _ rfl (by decide))
        go_wp2_with (first | (at_builtin; refine wpList_app _ rfl _ _ rfl (w.heap.size + 1) _ 4 ([v40] ++ [x, y, z]) rfl (by exact (R46.out.fr A47.out).2) rfl w46.heap.size 4 4 [v43, v44, v45, v46] rfl rfl (by exact N47.out.cells) 8 rfl (by decide) (by decide) (by have := S0 T46.out; simp; omega) ?_))
        intro g48 cap48 w48 R48 G48
        have T48 := hid (TF.grow (T46.out.alloc (.cells #[.int .u32 v43, .int .u32 v44, .int .u32 v45, .int .u32 v46] 36)) (SU (own_ge (by exact (R46.out.fr A47.out).2))) G48.out)
        have RA48 := hid ((RA46.out.fr A47.out).apart G48.out (by simp [Value.ownBlock]; exact D42.out))
        have L48 := hid RA48.out.lt
        clear G48 A47 N47 RA46 R46
        go_wp2_with (first | (at_builtin; refine wpList_app _ rfl _ _ rfl (w.heap.size + 1) _ 768 t2 rfl (by exact RA48.out.2) RA48.out.1 g48 8 cap48 _ rfl R48.out.1 (by exact R48.out.cells) 776 rfl (by decide) (by decide) (by exact S0 T48.out) ?_))
        intro g49 cap49 w49 R49 G49
        have T49 := hid (TF.grow T48.out (SU (own_ge (by exact RA48.out.2))) G49.out)
        clear G49
        go_wp2_with fail
        go_ret
        refine ⟨_, _, _, rfl, R49.out.lower (by omega), ?_, tf_out T49.out⟩
        intro p hp
        rcases List.mem_append.1 hp with h | h
        · exact WA.out p h
        · have := XYZ.out
          have := V40.out
          have := V43.out
          have := V44.out
          have := V45.out
          have := V46.out
          simp at h
          rcases h with rfl | rfl | rfl | rfl | rfl | rfl | rfl | rfl <;> first | assumption | exact XYZ.out.1 | exact XYZ.out.2.1 | exact XYZ.out.2.2
      · go_wp2_with fail
        refine (next_t _ (by decide) (by decide) w.heap.size L _ T8.out.t).mono ?_; rintro e w9 ⟨q9, rfl, hq9, hT, hO⟩
        have T9 := hid (T8.out.next hT hO)
        have R9 := hid (R8.out.tf (FrG.only (FrG.refl _ _) hO) B0.out)
        clear hT hO
        by_cases h9 : (q9 : Int) = 0
        · go_wp2_with fail
          refine (word_any _ _ _ _ _ _).mono ?_; rintro e w10 ⟨v10, rfl, hv, hF⟩
          have T10 := hid (T9.out.fr hF)
          have R10 := hid (R9.out.fr hF)
          have W10 : Hid (∀ p ∈ t ++ [v10], W32 p) := by
            intro p hp
            rcases List.mem_append.1 hp with h | h
            · exact W5.out p h
            · rw [List.mem_singleton.1 h]; exact hv
          clear hF hv
          have A11 := hid ((Fr.refl w10).alloc (.cells #[.int .u32 v10] 36))
          have N11 := hid (row_new w10 (w.heap.size + 1) (S0 T10.out) [v10] 1 rfl _ rfl (by decide))
          go_wp2_with (first | (at_builtin; refine wpList_app _ rfl _ _ rfl (w.heap.size + 1) _ n t rfl (by exact (R10.out.fr A11.out).2) R10.out.1 w10.heap.size 1 1 [v10] rfl rfl (by exact N11.out.cells) (n + 1) rfl (by decide) (by omega) (by have := S0 T10.out; simp; omega) ?_))
          intro g11 cap11 w11 R11 G11
          have T11 := hid (TF.grow (T10.out.alloc (.cells #[.int .u32 v10] 36)) (SU (own_ge (by exact (R10.out.fr A11.out).2))) G11.out)
          clear G11 N11 A11
          clear R10 R9 R8 R5
          obtain ⟨W2, t2, RC, hR2, hw2, hF2⟩ := copy_words (w.heap.size + 1) _ (n + 1) _ 768 _ w11 R11.out W10.out (S0 T11.out) (by omega) (by decide) c hc0
          have RA := hid hR2
          have WA := hid hw2
          have TA := hid (T11.out.fr hF2)
          clear hR2 hw2 hF2
          go_wp2_with fail
          refine (word_any _ _ _ _ _ _).mono ?_; rintro e w40 ⟨v40, rfl, hv, hF⟩
          have T40 := hid (TA.out.fr hF)
          have RA40 := hid (RA.out.fr hF)
          have V40 := hid hv
          clear hF hv
          have N40 := hid (row_new w40 (w.heap.size + 1) (S0 T40.out) [v40] 1 rfl _ rfl (by decide))
          have A40 := hid ((Fr.refl w40).alloc (.cells #[.int .u32 v40] 36))
          go_wp2_with fail
          refine (out_any _ _).mono ?_; rintro e w41 ⟨b41, cap41, x, y, z, rfl, hR, hx, hy, hz, hF⟩
          have T41 := hid ((T40.out.alloc (.cells #[.int .u32 v40] 36)).fr hF)
          have RA41 := hid ((RA40.out.fr A40.out).fr hF)
          have N41 := hid (N40.out.fr hF)
          have R41 := hid (hR.lower (base' := w.heap.size + 1) (by have := S0 T40.out; simp; omega))
          have XYZ : Hid (W32 x ∧ W32 y ∧ W32 z) := ⟨hx, hy, hz⟩
          have D41 : Hid (b41 ≠ w40.heap.size) := by have := hR.ge; unfold Hid; simp at this; omega
          have L40 := hid RA40.out.lt
          clear hF hR hx hy hz N40 A40 RA40 RA
          go_wp2_with (first | (at_builtin; refine wpList_appM _ rfl _ _ rfl (w.heap.size + 1) w40.heap.size 1 1 [v40] rfl (by exact N41.out) b41 3 cap41 [x, y, z] rfl rfl (by exact R41.out.cells) 4 rfl (by decide) (by decide) (by exact S0 T41.out) ?_))
          intro g42 cap42 w42 R42 G42 D0
          have T42 := hid (TF.grow (v := .slice (some ⟨w40.heap.size, 0, none⟩) 1 1) T41.out (SU (own_ge (by exact N41.out.2))) G42.out)
          have RA42 := hid (RA41.out.apart (v := .slice (some ⟨w40.heap.size, 0, none⟩) 1 1) G42.out (by have := L40.out; simp [Value.ownBlock]; omega))
          have D42 : Hid (g42 ≠ w11.heap.size) := by have := L40.out; have := D0.out; have := RA41.out.lt; unfold Hid; omega
          clear G42 N41 RA41 R41 D41 L40 D0
          go_wp2_with fail
          refine (word_any _ _ _ _ _ _).mono ?_; rintro e w43 ⟨v43, rfl, hv, hF⟩
          have T43 := hid (T42.out.fr hF)
          have R43 := hid (R42.out.fr hF)
          have RA43 := hid (RA42.out.fr hF)
          have V43 := hid hv
          clear hF hv R42 RA42
          go_wp2_with fail
          refine (word_any _ _ _ _ _ _).mono ?_; rintro e w44 ⟨v44, rfl, hv, hF⟩
          have T44 := hid (T43.out.fr hF)
          have R44 := hid (R43.out.fr hF)
          have RA44 := hid (RA43.out.fr hF)
          have V44 := hid hv
          clear hF hv R43 RA43
          go_wp2_with fail
          refine (word_any _ _ _ _ _ _).mono ?_; rintro e w45 ⟨v45, rfl, hv, hF⟩
          have T45 := hid (T44.out.fr hF)
          have R45 := hid (R44.out.fr hF)
          have RA45 := hid (RA44.out.fr hF)
          have V45 := hid hv
          clear hF hv R44 RA44
          go_wp2_with fail
          refine (word_any _ _ _ _ _ _).mono ?_; rintro e w46 ⟨v46, rfl, hv, hF⟩
          have T46 := hid (T45.out.fr hF)
          have R46 := hid (R45.out.fr hF)
          have RA46 := hid (RA45.out.fr hF)
          have V46 := hid hv
          clear hF hv R45 RA45
          have A47 := hid ((Fr.refl w46).alloc (.cells #[.int .u32 v43, .int .u32 v44, .int .u32 v45, .int .u32 v46] 36))
          have N47 := hid (row_new w46 (w.heap.size + 1) (S0 T46.out) [v43, v44, v45, v46] 4 rfl _ rfl (by decide))
          go_wp2_with (first | (at_builtin; refine wpList_app _ rfl _ _ rfl (w.heap.size + 1) _ 4 ([v40] ++ [x, y, z]) rfl (by exact (R46.out.fr A47.out).2) rfl w46.heap.size 4 4 [v43, v44, v45, v46] rfl rfl (by exact N47.out.cells) 8 rfl (by decide) (by decide) (by have := S0 T46.out; simp; omega) ?_))
          intro g48 cap48 w48 R48 G48
          have T48 := hid (TF.grow (T46.out.alloc (.cells #[.int .u32 v43, .int .u32 v44, .int .u32 v45, .int .u32 v46] 36)) (SU (own_ge (by exact (R46.out.fr A47.out).2))) G48.out)
          have RA48 := hid ((RA46.out.fr A47.out).apart G48.out (by simp [Value.ownBlock]; exact D42.out))
          have L48 := hid RA48.out.lt
          clear G48 A47 N47 RA46 R46
          go_wp2_with (first | (at_builtin; refine wpList_app _ rfl _ _ rfl (w.heap.size + 1) _ 768 t2 rfl (by exact RA48.out.2) RA48.out.1 g48 8 cap48 _ rfl R48.out.1 (by exact R48.out.cells) 776 rfl (by decide) (by decide) (by exact S0 T48.out) ?_))
          intro g49 cap49 w49 R49 G49
          have T49 := hid (TF.grow T48.out (SU (own_ge (by exact RA48.out.2))) G49.out)
          clear G49
          go_wp2_with fail
          go_ret
          refine ⟨_, _, _, rfl, R49.out.lower (by omega), ?_, tf_out T49.out⟩
          intro p hp
          rcases List.mem_append.1 hp with h | h
          · exact WA.out p h
          · have := XYZ.out
            have := V40.out
            have := V43.out
            have := V44.out
            have := V45.out
            have := V46.out
            simp at h
            rcases h with rfl | rfl | rfl | rfl | rfl | rfl | rfl | rfl <;> first | assumption | exact XYZ.out.1 | exact XYZ.out.2.1 | exact XYZ.out.2.2
        · clear R8 R5
          obtain ⟨W2, t2, RC, hR2, hw2, hF2⟩ := copy_words (w.heap.size + 1) _ n _ 768 t w9 R9.out W5.out (S0 T9.out) (by omega) (by decide) c hc0
          have RA := hid hR2
          have WA := hid hw2
          have TA := hid (T9.out.fr hF2)
          clear hR2 hw2 hF2
          go_wp2_with fail
          refine (word_any _ _ _ _ _ _).mono ?_; rintro e w40 ⟨v40, rfl, hv, hF⟩
          have T40 := hid (TA.out.fr hF)
          have RA40 := hid (RA.out.fr hF)
          have V40 := hid hv
          clear hF hv
          have N40 := hid (row_new w40 (w.heap.size + 1) (S0 T40.out) [v40] 1 rfl _ rfl (by decide))
          have A40 := hid ((Fr.refl w40).alloc (.cells #[.int .u32 v40] 36))
          go_wp2_with fail
          refine (out_any _ _).mono ?_; rintro e w41 ⟨b41, cap41, x, y, z, rfl, hR, hx, hy, hz, hF⟩
          have T41 := hid ((T40.out.alloc (.cells #[.int .u32 v40] 36)).fr hF)
          have RA41 := hid ((RA40.out.fr A40.out).fr hF)
          have N41 := hid (N40.out.fr hF)
          have R41 := hid (hR.lower (base' := w.heap.size + 1) (by have := S0 T40.out; simp; omega))
          have XYZ : Hid (W32 x ∧ W32 y ∧ W32 z) := ⟨hx, hy, hz⟩
          have D41 : Hid (b41 ≠ w40.heap.size) := by have := hR.ge; unfold Hid; simp at this; omega
          have L40 := hid RA40.out.lt
          clear hF hR hx hy hz N40 A40 RA40 RA
          go_wp2_with (first | (at_builtin; refine wpList_appM _ rfl _ _ rfl (w.heap.size + 1) w40.heap.size 1 1 [v40] rfl (by exact N41.out) b41 3 cap41 [x, y, z] rfl rfl (by exact R41.out.cells) 4 rfl (by decide) (by decide) (by exact S0 T41.out) ?_))
          intro g42 cap42 w42 R42 G42 D0
          have T42 := hid (TF.grow (v := .slice (some ⟨w40.heap.size, 0, none⟩) 1 1) T41.out (SU (own_ge (by exact N41.out.2))) G42.out)
          have RA42 := hid (RA41.out.apart (v := .slice (some ⟨w40.heap.size, 0, none⟩) 1 1) G42.out (by have := L40.out; simp [Value.ownBlock]; omega))
          have D42 : Hid (g42 ≠ w9.heap.size) := by have := L40.out; have := D0.out; have := RA41.out.lt; unfold Hid; omega
          clear G42 N41 RA41 R41 D41 L40 D0
          go_wp2_with fail
          refine (word_any _ _ _ _ _ _).mono ?_; rintro e w43 ⟨v43, rfl, hv, hF⟩
          have T43 := hid (T42.out.fr hF)
          have R43 := hid (R42.out.fr hF)
          have RA43 := hid (RA42.out.fr hF)
          have V43 := hid hv
          clear hF hv R42 RA42
          go_wp2_with fail
          refine (word_any _ _ _ _ _ _).mono ?_; rintro e w44 ⟨v44, rfl, hv, hF⟩
          have T44 := hid (T43.out.fr hF)
          have R44 := hid (R43.out.fr hF)
          have RA44 := hid (RA43.out.fr hF)
          have V44 := hid hv
          clear hF hv R43 RA43
          go_wp2_with fail
          refine (word_any _ _ _ _ _ _).mono ?_; rintro e w45 ⟨v45, rfl, hv, hF⟩
          have T45 := hid (T44.out.fr hF)
          have R45 := hid (R44.out.fr hF)
          have RA45 := hid (RA44.out.fr hF)
          have V45 := hid hv
          clear hF hv R44 RA44
          go_wp2_with fail
          refine (word_any _ _ _ _ _ _).mono ?_; rintro e w46 ⟨v46, rfl, hv, hF⟩
          have T46 := hid (T45.out.fr hF)
          have R46 := hid (R45.out.fr hF)
          have RA46 := hid (RA45.out.fr hF)
          have V46 := hid hv
          clear hF hv R45 RA45
          have A47 := hid ((Fr.refl w46).alloc (.cells #[.int .u32 v43, .int .u32 v44, .int .u32 v45, .int .u32 v46] 36))
          have N47 := hid (row_new w46 (w.heap.size + 1) (S0 T46.out) [v43, v44, v45, v46] 4 rfl _ rfl (by decide))
          go_wp2_with (first | (at_builtin; refine wpList_app _ rfl _ _ rfl (w.heap.size + 1) _ 4 ([v40] ++ [x, y, z]) rfl (by exact (R46.out.fr A47.out).2) rfl w46.heap.size 4 4 [v43, v44, v45, v46] rfl rfl (by exact N47.out.cells) 8 rfl (by decide) (by decide) (by have := S0 T46.out; simp; omega) ?_))
          intro g48 cap48 w48 R48 G48
          have T48 := hid (TF.grow (T46.out.alloc (.cells #[.int .u32 v43, .int .u32 v44, .int .u32 v45, .int .u32 v46] 36)) (SU (own_ge (by exact (R46.out.fr A47.out).2))) G48.out)
          have RA48 := hid ((RA46.out.fr A47.out).apart G48.out (by simp [Value.ownBlock]; exact D42.out))
          have L48 := hid RA48.out.lt
          clear G48 A47 N47 RA46 R46
          go_wp2_with (first | (at_builtin; refine wpList_app _ rfl _ _ rfl (w.heap.size + 1) _ 768 t2 rfl (by exact RA48.out.2) RA48.out.1 g48 8 cap48 _ rfl R48.out.1 (by exact R48.out.cells) 776 rfl (by decide) (by decide) (by exact S0 T48.out) ?_))
          intro g49 cap49 w49 R49 G49
          have T49 := hid (TF.grow T48.out (SU (own_ge (by exact RA48.out.2))) G49.out)
          clear G49
          go_wp2_with fail
          go_ret
          refine ⟨_, _, _, rfl, R49.out.lower (by omega), ?_, tf_out T49.out⟩
          intro p hp
          rcases List.mem_append.1 hp with h | h
          · exact WA.out p h
          · have := XYZ.out
            have := V40.out
            have := V43.out
            have := V44.out
            have := V45.out
            have := V46.out
            simp at h
            rcases h with rfl | rfl | rfl | rfl | rfl | rfl | rfl | rfl <;> first | assumption | exact XYZ.out.1 | exact XYZ.out.2.1 | exact XYZ.out.2.2
set_option maxHeartbeats 400000 in
theorem Image_as (L : TL) (w : World) (hN : Hid (NumsIn w L)) :
    Calls Tryz.prog 8 #[.slice L.A L.len L.cap] w fun e w' => ∃ b cap t, e = .returned (.slice (some ⟨b, 0, none⟩) 776 cap) ∧ Row w.heap.size w' b 776 cap t ∧ (∀ x ∈ t, W32 x) ∧ Fr w w' := by
  go_enter Tryz.func8, Tryz.ntmps8
  go_wp2_with fail
  refine (image_as L _ hN).mono ?_; rintro e w1 ⟨b, cap, t, rfl, hR, hw, hF⟩
  go_wp2_with fail
  go_ret
  exact ⟨_, _, _, rfl, hR, hw, hF⟩
end Go.Proofs.YtpkbkbllhpdfiaaGreat.M
namespace Go.Proofs.YtpkbkbllhpdfiaaGreat.M
open Go.ChangeShapes Go.WideShapes Go.ChangeAt Go.RowKit Go.Proofs.YtpkbkbllhpdfiaaGreat.Walks Go.Proofs.YtpkbkbllhpdfiaaGreat.Mod
set_option linter.unusedVariables false
/-- words of one's own, or none -/
def Own (base : Nat) (w : World) (v : Value) (t : List Int) : Prop := w.ownsRow base 36 1 v t.length (t.map (Value.int .u32)) ∧ ∀ x ∈ t, W32 x
theorem Own.tf {g base : Nat} {w w' : World} {v : Value} {t : List Int} (h : Own base w v t) (k : FrG g w w') (hg : g < base) : Own base w' v t := ⟨own_tf h.1 k hg, h.2⟩
theorem Own.fr {base : Nat} {w w' : World} {v : Value} {t : List Int} (h : Own base w v t) (k : Fr w w') : Own base w' v t := ⟨own_frN h.1 k, h.2⟩
theorem Own.more {base g N cap : Nat} {w w' : World} {v : Value} {t : List Int} {x : Int} (h : Own base w v t) (k : Row base w' g N cap (t ++ [x])) (hx : W32 x) : Own base w' (.slice (some ⟨g, 0, none⟩) N cap) (t ++ [x]) := by
  refine ⟨by rw [k.1]; exact k.2, fun y hy => ?_⟩
  rcases List.mem_append.1 hy with h' | h'
  · exact h.2 y h'
  · rw [List.mem_singleton.1 h']; exact hx
set_option maxRecDepth 100000 in
set_option maxHeartbeats 2000000 in
theorem Raw_as (L : TL) (k : Nat) (hk : (k : Int) ≤ 100) (w : World) (hN : Hid (NumsIn w L)) :
    Calls Tryz.prog 10 #[.slice L.A L.len L.cap, .int .i64 (k : Int)] w fun e w' => ∃ v t, e = .returned v ∧ Own w.heap.size w' v t ∧ t.length ≤ k ∧ Fr w w' := by
  have T0 := hid (TF.refl (tp_new hN.out))
  have B0 : Hid (w.heap.size < w.heap.size + 1) := Nat.lt_succ_self _
  go_enter Tryz.func10, Tryz.ntmps10
  go_wp2_with fail
  go_loopw [6, 7] (fun o d wr => ∃ (i : Nat) (t : List Int), (i : Int) ≤ k ∧ d = .int .i64 i ∧ Hid (Own (w.heap.size + 1) wr o t ∧ t.length ≤ i ∧ TF w.heap.size L (w.alloc (.cells #[.slice L.A L.len L.cap, .int .i64 0] 58)) wr)) (fun _ d _ => k - (intOf d).toNat)
  case atStart => exact ⟨0, [], by omega, rfl, ⟨World.ownsRow_nil _ _ _ _, by simp⟩, by simp, T0.out⟩
  case round =>
    obtain ⟨i, t, hi, rfl, HD⟩ := hrel
    have O5 := hid HD.out.1
    have N5 := hid HD.out.2.1
    have T5 := hid HD.out.2.2
    clear HD
    by_cases hlt : (i : Int) < k
    · obtain ⟨j, hj, hl, hT⟩ := T5.out.t
      have ca := hT.ha
      by_cases hjl : (j : Int) < L.len
      · clear hT
        go_wp2_with fail
        refine (next_t _ (by decide) (by decide) w.heap.size L _ T5.out.t).mono ?_; rintro e w6 ⟨q, rfl, hq, hT, hO⟩
        have T6 := hid (T5.out.next hT hO)
        have O6 := hid (O5.out.tf (FrG.only (FrG.refl _ _) hO) B0.out)
        clear hT hO ca
        by_cases h0 : (q : Int) = 0
        · go_wp2_with fail
          refine (tword_as w.heap.size L _ T6.out.t).mono ?_; rintro e w7 ⟨v, rfl, hv, hT⟩
          have T7 := hid (T6.out.trans hT)
          have O7 := hid (O6.out.tf hT.f B0.out)
          have V := hid hv
          clear hT hv
          have A7 := hid ((Fr.refl w7).alloc (.cells #[.int .u32 v] 36))
          have N7 := hid (row_new w7 (w.heap.size + 1) (S0 T7.out) [v] 1 rfl _ rfl (by decide))
          go_wp2_with (first | (at_builtin; refine wpList_app _ rfl _ _ rfl (w.heap.size + 1) u6 t.length t rfl (by exact (O7.out.fr A7.out).1) rfl w7.heap.size 1 1 [v] rfl rfl (by exact N7.out.cells) (t.length + 1) rfl (by decide) (by have := N5.out; omega) (by have := S0 T7.out; simp; omega) ?_))
          intro g8 cap8 w8 R8 G8
          have T8 := hid (TF.grow (T7.out.alloc (.cells #[.int .u32 v] 36)) (SU (own_ge (by exact (O7.out.fr A7.out).1))) G8.out)
          have O8 := hid (O7.out.more R8.out V.out)
          clear G8
          go_wp2_with fail
          exact ⟨⟨i + 1, t ++ [v], by omega, by rw [Int.natCast_add]; rfl, O8.out, by have := N5.out; simp; omega, T8.out⟩, by simp [intOf]; omega⟩
        · go_wp2_with fail
          refine (inst_t w.heap.size L _ T6.out.t).mono ?_; rintro e w7 ⟨⟨io, id, ia, ib, im, rfl, hok⟩, hT⟩
          have T7 := hid (T6.out.trans hT)
          have O7 := hid (O6.out.tf hT.f B0.out)
          clear hT hok
          obtain ⟨v, g, E⟩ := Num.En.ex io id ia ib im
          have V := hid (En.w32 E)
          have EE := hid E
          clear E
          go_wp2_with fail
          refine (rencode_as io id ia ib im v g EE _).mono ?_; rintro e w9 ⟨rfl, hF⟩
          have T9 := hid (T7.out.fr hF)
          have O9 := hid (O7.out.fr hF)
          clear hF
          have A7 := hid ((Fr.refl w9).alloc (.cells #[.int .u32 v] 36))
          have N7 := hid (row_new w9 (w.heap.size + 1) (S0 T9.out) [v] 1 rfl _ rfl (by decide))
          go_wp2_with (first | (at_builtin; refine wpList_app _ rfl _ _ rfl (w.heap.size + 1) u6 t.length t rfl (by exact (O9.out.fr A7.out).1) rfl w9.heap.size 1 1 [v] rfl rfl (by exact N7.out.cells) (t.length + 1) rfl (by decide) (by have := N5.out; omega) (by have := S0 T9.out; simp; omega) ?_))
          intro g8 cap8 w8 R8 G8
          have T8 := hid (TF.grow (T9.out.alloc (.cells #[.int .u32 v] 36)) (SU (own_ge (by exact (O9.out.fr A7.out).1))) G8.out)
          have O8 := hid (O9.out.more R8.out V.out)
          clear G8
          go_wp2_with fail
          exact ⟨⟨i + 1, t ++ [v], by omega, by rw [Int.natCast_add]; rfl, O8.out, by have := N5.out; simp; omega, T8.out⟩, by simp [intOf]; omega⟩
      · clear hT
        go_wp2_with fail
        go_ret
        exact ⟨_, rfl, t, ⟨ownsRow_lower O5.out.1 (by omega), O5.out.2⟩, (by have := N5.out; omega), tf_out T5.out⟩
    · go_wp2_with fail
      go_ret
      exact ⟨_, rfl, t, ⟨ownsRow_lower O5.out.1 (by omega), O5.out.2⟩, (by have := N5.out; omega), tf_out T5.out⟩
end Go.Proofs.YtpkbkbllhpdfiaaGreat.M
namespace Go.Proofs.YtpkbkbllhpdfiaaGreat.M
open Go.ChangeShapes Go.WideShapes Go.ChangeAt Go.RowKit Go.Proofs.YtpkbkbllhpdfiaaGreat.Walks Go.Proofs.YtpkbkbllhpdfiaaGreat.Mod
set_option linter.unusedVariables false
theorem Row.words {base g n cap : Nat} {w : World} {t : List Int} (h : Row base w g n cap t) (hw : ∀ x ∈ t, W32 x) : WordsIn w (some ⟨g, 0, none⟩) n (fun j => t.getD j 0) := fun j hj => by
  have hl : j < t.length := by rw [h.1]; exact hj
  refine ⟨g, 0, rfl, h.lt, ?_, ?_⟩
  · rw [Nat.zero_add]
    exact h.cells j _ (by simp [List.getElem?_map, List.getElem?_eq_getElem hl, List.getD])
  · have : t.getD j 0 = t[j] := by simp [List.getD, List.getElem?_eq_getElem hl]
    show W32 (t.getD j 0)
    rw [this]
    exact hw _ (List.getElem_mem hl)
/-- a machine in new memory: what was there is as it was -/
theorem chg_fr {u w w' : World} {B : Nat} {v : Value} (F : Fr u w) (c : Chg B v w w') (hB : u.heap.size ≤ B) (hv : ∀ g, v.ownBlock = some g → u.heap.size ≤ g) : Fr u w' :=
  ⟨c.os.trans F.os, c.output.trans F.output, Nat.le_trans F.size c.size, fun k hk => (c.block k (Nat.lt_of_lt_of_le hk F.size) (by omega) (fun e => by have := hv k e; omega)).trans (F.block k hk)⟩
theorem moves_ge {u w : World} {v v' : Value} (F : u.heap.size ≤ w.heap.size) (m : Moves w v v') (hv : ∀ g, v.ownBlock = some g → u.heap.size ≤ g) : ∀ g, v'.ownBlock = some g → u.heap.size ≤ g := fun g e => by
  rcases m with h | ⟨g', h, l⟩
  · exact hv g (h ▸ e)
  · rw [e] at h; injection h with h; omega
theorem kw_w32 : ∀ x ∈ kw, W32 x := by unfold W32 kw; decide +kernel
theorem run_k (B : Nat) (v : Value) (w : World) (hM : Hid (MAt B ks v w)) :
    Calls Tryz.prog 14 #[.pointer (some ⟨B, 0, none⟩), .int .i64 100] w fun e w' => e = .returned (.int .i64 8) ∧ Nxt B v (its 100 ks) w w' := by
  have h := run_as B ks v 100 (ini_inv _ 8 k_w) (by decide) (by unfold Hid; show (0 : Int) + ((100 : Nat) : Int) ≤ 100000; decide) w hM
  rw [k_did] at h
  exact h
set_option maxRecDepth 100000 in
set_option maxHeartbeats 1000000 in
theorem known_as (w : World) : Calls Tryz.prog 11 #[] w fun e w' => e = .returned (.bool true) ∧ Fr w w' := by
  obtain ⟨c, hc0⟩ : ∃ c : Array Value, madeCells #[Value.int .u32 0] 1025 = c := ⟨_, rfl⟩
  have MK := make1025
  rw [hc0] at MK
  clear hc0
  go_enter Tryz.func11, Tryz.ntmps11
  go_wp2_with fail
  refine (set_of 5 77 77 0 695 80904851 true true (by decide +kernel) (by decide +kernel) en1 en2 _).mono ?_; rintro e w1 ⟨g1, cap1, rfl, hR, hF⟩
  have F1 := hid hF
  have R1 := hid hR
  clear hF hR
  go_wp2_with fail
  refine (out_of 5 268439479 1019795 6266915 true true true en3 en4 en5 _).mono ?_; rintro e w2 ⟨g2, cap2, rfl, hR, hF⟩
  have F2 := hid (F1.out.trans hF)
  have R21 := hid (R1.out.fr hF)
  have R2 := hid (hR.lower F1.out.size)
  have D2 : Hid (g1 ≠ g2) := by have := hR.ge; have := R1.out.lt; unfold Hid; omega
  clear hF hR
  go_wp2_with fail
  refine (stop_of 5 268439479 5214099 6266915 true true true en3 en6 en5 _).mono ?_; rintro e w3 ⟨g3, cap3, rfl, hR, hF⟩
  have F3 := hid (F2.out.trans hF)
  have R31 := hid (R21.out.fr hF)
  have R32 := hid (R2.out.fr hF)
  have R3 := hid (hR.lower F2.out.size)
  clear hF hR
  go_wp2_with (first | (at_builtin; refine wpList_app _ rfl _ _ rfl w.heap.size _ 3 [268439479, 1019795, 6266915] rfl (by exact R32.out.2) rfl g3 3 cap3 [268439479, 5214099, 6266915] rfl rfl (by exact R3.out.cells) 6 rfl (by decide) (by decide) (by exact F3.out.size) ?_))
  intro g4 cap4 w4 R4 G4
  have F4 : Hid (Fr w w4) := Fr.grow F3.out (own_ge (by exact R32.out.2)) G4.out
  have R41 := hid (R31.out.apart G4.out (by simp [Value.ownBlock]; have := D2.out; omega))
  clear G4
  go_wp2_with (first | (at_builtin; refine wpList_app _ rfl _ _ rfl w.heap.size _ 2 [695, 80904851] rfl (by exact R41.out.2) rfl g4 6 cap4 _ rfl R4.out.1 (by exact R4.out.cells) 8 rfl (by decide) (by decide) (by exact F4.out.size) ?_))
  intro g5 cap5 w5 R5 G5
  have F5 : Hid (Fr w w5) := Fr.grow F4.out (own_ge (by exact R41.out.2)) G5.out
  have W5 : Hid (WordsIn w5 (some ⟨g5, 0, none⟩) 8 (fun j => kw.getD j 0)) := Row.words (t := kw) R5.out kw_w32
  clear G5 R1 R2 R3 R4 R5 R21 R31 R32 R41 D2
  go_wp2_with fail
  refine (new_as _ 8 cap5 (fun j => kw.getD j 0) (by decide) _ W5.out).mono ?_; rintro e w6 ⟨rfl, hM, hF⟩
  have F6 := hid (F5.out.trans hF)
  have M6 : Hid (MAt w5.heap.size ks (.slice none 0 0) w6) := hM
  have F56 := hid hF
  clear hM hF
  have hB : Hid (w.heap.size ≤ w5.heap.size) := F5.out.size
  generalize w5.heap.size = B at *
  go_wp2_with fail
  refine (new_long _ 1025 _ (by decide) _).mono ?_; rintro e w7 ⟨rfl, rfl⟩
  go_wp2_with fail
  have A6 := hid ((Fr.refl w6).alloc (.cells c 36))
  refine (run_k B _ _ (by exact M6.out.fr A6.out)).mono ?_; rintro e w8 ⟨rfl, v8, hm, hc, hv⟩
  have F8 : Hid (Fr w w8) := chg_fr (F6.out.trans A6.out) hc hB.out (fun g e => by simp [Value.ownBlock] at e)
  have M8 := hid hm
  have V8 : Hid (∀ g, v8.ownBlock = some g → w.heap.size ≤ g) := moves_ge (F6.out.trans A6.out).size hv (fun g e => by simp [Value.ownBlock] at e)
  have kh := k_h
  have kx := k_x
  have kt := hid k_t
  have kn := k_n
  have kr := k_r
  clear hm hc hv A6 M6 F56 F6 F5 F4 F3 F2 F1 MK W5
  generalize its 100 ks = s at *
  go_wp2_with fail
  refine (halted_as B s v8 _ M8).mono ?_; rintro e w9 ⟨rfl, hA⟩
  have F9 : Hid (Fr w8 w9) := (Fr.refl _).alike hA
  clear hA
  go_wp2_with fail
  refine (trace_as B s v8 (by unfold Hid; rw [kt.out]; decide) _ (M8.out.fr F9.out)).mono ?_; rintro e w10 ⟨vt, rfl, hO, hF⟩
  rw [kt.out] at hO
  obtain ⟨At, ct, rfl, hr⟩ := own_rowIn hO
  obtain ⟨b, rfl, hb, hcell⟩ := hr 0 (by decide)
  have F10 := hid (F9.out.trans hF)
  have C10 := hid hcell
  have L10 := hid hb
  have G10 := hid (hO.lt b rfl).1
  have S9 := hid F9.out.size
  clear hO hF hr hcell hb F9
  go_wp2_with fail
  refine (step_halted B s v8 kh _ (M8.out.fr F10.out)).mono ?_; rintro e w11 ⟨rfl, hN⟩
  have C11 : w11.cell? ⟨b, 0, none⟩ = some (.int .u32 77) := (hN.2.cell b 0 L10.out (by have := G10.out; have := S9.out; have := M8.out.lt; omega) (fun e => by have := G10.out; have := S9.out; have := own_lt M8.out.tr e; omega)).trans C10.out
  have F11 : Hid (Fr w w11) := chg_fr (F8.out.trans F10.out) hN.2 hB.out V8.out
  have M11 := hid hN.1
  have L11 : b < w11.heap.size := Nat.lt_of_lt_of_le L10.out hN.2.size
  clear hN C10 L10 G10 S9 F10 M8 F8
  have A11 := hid ((Fr.refl w11).alloc (.cells z7 38))
  go_wp2_with fail
  refine (steps_as B s v8 _ (by exact M11.out.fr A11.out)).mono ?_; rintro e w12 ⟨rfl, e12⟩
  go_wp2_with fail
  refine (state_as B s v8 _ (by exact M11.out.fr A11.out)).mono ?_; rintro e w13 ⟨vs, rfl, hO, hn, hF⟩
  have F13 : Hid (Fr w w13) := (F11.out.trans A11.out).trans hF
  clear hO hF
  have f1 := field_r s vs
  have f2 := index_r5 s
  go_wp2_with fail
  go_ret
  exact ⟨rfl, F13.out⟩
end Go.Proofs.YtpkbkbllhpdfiaaGreat.M
namespace Go.Proofs.YtpkbkbllhpdfiaaGreat.M
open Go.ChangeShapes Go.WideShapes Go.ChangeAt Go.RowKit Go.Proofs.YtpkbkbllhpdfiaaGreat.Walks Go.Proofs.YtpkbkbllhpdfiaaGreat.Mod
set_option linter.unusedVariables false
theorem laidOut : laidOutB Tryz.prog = true := by kernel_rfl
theorem cells36 : Tryz.prog.cellsOf 36 = 1 := by kernel_rfl
theorem cells3 : Tryz.prog.cellsOf 3 = 1 := by kernel_rfl
theorem add_at (b o i : Nat) : (⟨b, o, none⟩ : Addr).add i = ⟨b, o + i, none⟩ := Addr.add_mid b o i
theorem ints_open {H : Type} {enc : TypeId × Value → H} {W : World} {t e : TypeId} {k : IntKind} {A : Option Addr} {len cap : Nat} {d : DataW H} {ps : List MemPlace}
    (ht : Tryz.prog.underlying t = some (.slice e)) (he : Tryz.prog.underlying e = some (.int k)) (hc : Tryz.prog.cellsOf e = 1)
    (h : DataW.Trod enc Tryz.prog W 0 (fun _ => true) true t (.slice A len cap) d ps) (hlt : ∀ x ∈ ps, x.block < W.heap.size) :
    ∃ zs : Nat → Int, (∀ j, j < len → ∃ b o, A = some ⟨b, o, none⟩ ∧ b < W.heap.size ∧ W.cell? ⟨b, o + j, none⟩ = some (.int k (zs j)) ∧ (Lit.int k (zs j)).wf = true) ∧ len ≤ cap ∧ cap ≤ maxLen ∧ (A = none → len = 0 ∧ cap = 0) := by
  obtain ⟨fuel, hf⟩ := h
  rcases open_ints ht he hc hf with ⟨hcs, hx⟩ | ⟨a, len', cap', zs, hcs, _, hl, hm, hz, hx, hcell, hwz⟩
  · simp [Value.cells] at hcs
    obtain ⟨rfl, rfl, rfl⟩ := hcs
    exact ⟨fun _ => 0, fun j hj => absurd hj (Nat.not_lt_zero _), Nat.le_refl _, Nat.zero_le _, fun _ => ⟨rfl, rfl⟩⟩
  · simp [Value.cells] at hcs
    obtain ⟨rfl, rfl, rfl⟩ := hcs
    simp only [Prod.mk.injEq] at hx
    obtain ⟨rfl, rfl⟩ := hx
    simp only [if_true] at hz
    refine ⟨fun j => zs.getD j 0, fun j hj => ?_, hl, hm, fun e => by cases e⟩
    obtain ⟨b, off, spot⟩ := a
    have hspot : spot = none := by simpa [Addr.add] using World.cell?_spot (hcell 0 (by omega))
    subst hspot
    refine ⟨b, off, rfl, hlt (.cell b off) (MemPlace.mem_row.2 ⟨0, by omega, by simp⟩), ?_, ?_⟩
    · rw [← add_at]; exact hcell j (by omega)
    · have hj' : j < zs.length := by omega
      have e : zs.getD j 0 = zs[j] := by simp [List.getD, List.getElem?_eq_getElem hj']
      show (Lit.int k (zs.getD j 0)).wf = true
      rw [e]
      exact hwz _ (List.getElem_mem hj')
theorem nums_open {H : Type} {enc : TypeId × Value → H} {W : World} {A : Option Addr} {len cap : Nat} {d : DataW H} {ps : List MemPlace}
    (h : DataW.Trod enc Tryz.prog W 0 (fun _ => true) true 25 (.slice A len cap) d ps) (hlt : ∀ x ∈ ps, x.block < W.heap.size) : ∃ zs, NumsIn W ⟨A, len, cap, zs⟩ := by
  obtain ⟨zs, hz, h1, h2, _⟩ := ints_open Tryz.underlying25 Tryz.underlying3 cells3 h hlt
  refine ⟨zs, by show len ≤ _; unfold maxLen at h2; omega, fun j hj => ?_⟩
  obtain ⟨b, o, e1, e2, e3, _⟩ := hz j hj
  exact ⟨b, o, e1, e2, e3⟩
theorem words_open {H : Type} {enc : TypeId × Value → H} {W : World} {A : Option Addr} {len cap : Nat} {d : DataW H} {ps : List MemPlace}
    (h : DataW.Trod enc Tryz.prog W 0 (fun _ => true) true 23 (.slice A len cap) d ps) (hlt : ∀ x ∈ ps, x.block < W.heap.size) : ∃ zs, WordsIn W A len zs ∧ len ≤ cap ∧ cap ≤ maxLen ∧ (A = none → len = 0 ∧ cap = 0) := by
  obtain ⟨zs, hz, h1, h2, h3⟩ := ints_open Tryz.underlying23 Tryz.underlying36 cells36 h hlt
  refine ⟨zs, fun j hj => ?_, h1, h2, h3⟩
  obtain ⟨b, o, e1, e2, e3, e4⟩ := hz j hj
  obtain ⟨l0, l1⟩ := bounds_u32 e4
  exact ⟨b, o, e1, e2, e3, l0, by omega⟩
/-- words of one's own, as an image -/
theorem Own.words {base : Nat} {w : World} {v : Value} {t : List Int} (h : Own base w v t) : ∃ A cap, v = .slice A t.length cap ∧ WordsIn w A t.length (fun j => t.getD j 0) ∧ (A = none → t.length = 0 ∧ cap = 0) := by
  rcases h.1.2 with ⟨rfl, hn⟩ | ⟨g, cap, cur, rfl, h2, h3, h4⟩
  · exact ⟨none, 0, by rw [hn], fun j hj => by omega, fun _ => ⟨hn, rfl⟩⟩
  · exact ⟨_, cap, rfl, Row.words (base := base) (cap := cap) ⟨rfl, h.1⟩ h.2, fun e => by cases e⟩
theorem wordsL (w : World) (A : Option Addr) (m : Nat) (zs : Nat → Int) (h : WordsIn w A m zs) : ∀ x ∈ rowI zs m, W32 x := by
  intro x hx
  unfold rowI at hx
  obtain ⟨j, hj, rfl⟩ := List.mem_map.1 hx
  obtain ⟨_, _, _, _, _, h5⟩ := h j (by simpa using hj)
  exact h5
set_option maxRecDepth 100000 in
/-- append, guarded or not, of any words -/
theorem wpList_appW {ops : Array Oper} {rest : List Oper} {o : Oper} {a : Act} {Q : Exit → Act → World → Prop} (u w : World) (hw : Region.wanted o (yielded ops a.tmps) = true) (s x : Operand)
    (ho : o.op = .call { callee := .builtin .append, args := #[s, x], argTypes := #[23, 23] }) (v : Value) (t : List Int) (hs : a.eval s = v) (hO : Own u.heap.size w v t)
    (A : Option Addr) (m c : Nat) (zs : Nat → Int) (hx : a.eval x = .slice A m c) (hC : WordsIn w A m zs) (hA : A = none → m = 0 ∧ c = 0) (hl : t.length + m ≤ 5000) (hF : Fr u w)
    (h : ∀ v' t' w', Hid (Own u.heap.size w' v' t') → t'.length = t.length + m → Hid (Fr u w') → wpList Tryz.prog ops Q rest (a.put o.dst v') w') : wpList Tryz.prog ops Q (o :: rest) a w := by
  obtain ⟨j0, hi, hz0, hz1, hz2⟩ := info_parts info36
  refine BigFrame.wpList_want hw fun K hK => ?_
  rcases A with _ | ad
  · obtain ⟨rfl, rfl⟩ := hA rfl
    have hrun := run_append_owned_none (P := Tryz.prog) (w := w) u.heap.size 23 o.type 36 j0 1 Tryz.underlying23 hi v t.length _ hO.1
    unfold Oper.wp
    simp [execOp, ho, resolve, invoke, builtin, hs, hx, hrun, Result.andThen]
    exact hK _ _ (h v t w hO rfl hF)
  · refine wp_append_own w s x 23 ho u.heap.size 36 j0 (.int .u32 0) 1 4 Tryz.underlying23 hi hz0 hz1 hz2 rfl (by decide) v t.length _ hs hO.1 ad m c ((rowI zs m).map (Value.int .u32)) hx (by simp [rowI_len]) (fun j y hy => ?_) (one_some _) (by unfold maxLen; omega) (by omega) hF.size fun v' w' hown hgrow _ => hK _ _ ?_
    · rw [List.getElem?_map, rowI_at] at hy
      by_cases hj : j < m
      · rw [if_pos hj] at hy
        injection hy with hy
        subst hy
        obtain ⟨b, o', e1, _, e3, _⟩ := hC j hj
        injection e1 with e1
        subst e1
        rw [add_at]; exact e3
      · rw [if_neg hj] at hy; simp at hy
    · refine h v' (t ++ rowI zs m) w' ⟨?_, fun y hy => ?_⟩ (by simp [rowI_len]) (Fr.grow hF (own_ge hO.1) hgrow)
      · rw [List.length_append, rowI_len, List.map_append]; exact hown
      · rcases List.mem_append.1 hy with h' | h'
        · exact hO.2 y h'
        · exact wordsL w (some ad) m zs hC y h'
end Go.Proofs.YtpkbkbllhpdfiaaGreat.M
