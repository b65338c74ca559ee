/- What a Load tells behind two Saves and one or two turned bits. -/
import Derived.Test.YtfhijdnbhbonpaaDoorKnow
namespace Go.Proofs.YtfhijdnbhbonpaaDoor.Walks
open Go.ChangeShapes Go.WideShapes Go.ChangeAt Go.RowKit
set_option linter.unusedVariables false
def Sv2 (pa pb ws : Nat → Nat) : Prop := Fine False allOk (hv 0 pb pa) ws
def Tn1 (pa pb : Nat → Nat) (i : Int) (ws : Nat → Nat) : Prop := ∃ us, Sv2 pa pb us ∧ ws = flW 79 us i
def Tn2 (pa pb : Nat → Nat) (i k : Int) (ws : Nat → Nat) : Prop := ∃ us, Sv2 pa pb us ∧ ws = flW 79 (flW 79 us i) k
def Told (p ws : Nat → Nat) : Prop := TellL ws (p 0) (rgs p) (css p) (p 37) true
theorem bit_at (i : Int) (h0 : 0 ≤ i) (h1 : i ≤ 3080) : ∃ j q : Nat, i = ((39 * j + q : Nat) : Int) ∧ j < 79 ∧ q < 39 := ⟨i.toNat / 39, i.toNat % 39, by omega, by omega, by omega⟩
theorem in_bit (i : Int) (h0 : 0 ≤ i) (h1 : i ≤ 3080) : inF 79 i = true := by
  obtain ⟨j, q, hi, hj, hq⟩ := bit_at i h0 h1
  exact inF_in hi hj hq
theorem mends_one (pa pb : Nat → Nat) (hb : pb 38 = mk (pb 37)) (i : Int) (h0 : 0 ≤ i) (h1 : i ≤ 3080) : ∀ ws, Tn1 pa pb i ws → Told pb ws := by
  rintro ws ⟨us, h, rfl⟩
  obtain ⟨j, q, hi, hj, hq⟩ := bit_at i h0 h1
  exact Fine.told (Fine.flip1 h i j q hi hj hq) (by decide) hb
theorem mends_two (pa pb : Nat → Nat) (ha : pa 38 = mk (pa 37)) (hb : pb 38 = mk (pb 37)) (i k : Int) (h0 : 0 ≤ i) (h1 : i ≤ 3080) (k0 : 0 ≤ k) (k1 : k ≤ 3080) :
    (∀ ws, Tn2 pa pb i k ws → Told pb ws) ∨ (∀ ws, Tn2 pa pb i k ws → Told pa ws) ∨ (∀ ws, Tn2 pa pb i k ws → TellL ws 0 w0 w0 0 false) := by
  obtain ⟨j, q, hi, hj, hq⟩ := bit_at i h0 h1
  obtain ⟨n, r, hk, hn, hr⟩ := bit_at k k0 k1
  by_cases e : j = n
  · subst e
    by_cases e2 : q = r
    · subst e2
      refine .inl ?_
      rintro ws ⟨us, h, rfl⟩
      refine Fine.told (e := False) (l := 0) (q := pa) ?_ (by decide) hb
      rw [flW_in _ hk hn hr, flW_in _ hi hj hq]
      intro x hx ho
      obtain ⟨a, c⟩ := h x hx ho
      refine ⟨a, ?_⟩
      by_cases g : x = j
      · subst g
        rw [upd_at, upd_at, Nat.xor_assoc, Nat.xor_self, Nat.xor_zero]; exact c
      · rw [upd_off _ _ _ _ g, upd_off _ _ _ _ g]; exact c
    · have bad : ∀ us, Sv2 pa pb us → Num.mendS (flW 79 (flW 79 us i) k j) = 2 ∧ Fine False (fun x => allOk x ∧ x ≠ j) (hv 0 pb pa) (flW 79 (flW 79 us i) k) := by
        intro us h
        rw [flW_in _ hk hn hr, flW_in _ hi hj hq]
        refine ⟨?_, ?_⟩
        · obtain ⟨a, c | ⟨f, _⟩⟩ := h j hj trivial
          · rw [upd_at, upd_at, c]
            exact Num.mend_two _ _ _ a hq hr e2
          · exact f.elim
        · intro x hx ho
          rw [upd_off _ _ _ _ ho.2, upd_off _ _ _ _ ho.2]
          exact h x hx trivial
      by_cases g78 : j = 78
      · refine .inr (.inr ?_)
        rintro ws ⟨us, h, rfl⟩
        subst g78
        exact tell0 (bad us h).1
      · by_cases g39 : j < 39
        · refine .inr (.inl ?_)
          rintro ws ⟨us, h, rfl⟩
          refine (bad us h).2.tell2 (l := 0) ⟨trivial, by omega⟩ (by rw [hv_78]) j g39 (by rw [Nat.mul_zero, Nat.zero_add]; exact (bad us h).1) (fun x hx => ⟨trivial, by omega⟩) ?_ (fun x hx => hv_o pb pa (by decide) x hx)
          rw [hv_o pb pa (by decide) _ (by decide), hv_o pb pa (by decide) _ (by decide)]; exact ha
        · refine .inl ?_
          rintro ws ⟨us, h, rfl⟩
          refine (bad us h).2.tell1 (l := 0) ⟨trivial, by omega⟩ (by rw [hv_78]) (fun x hx => ⟨trivial, by omega⟩) ?_ (fun x hx => hv_l pb pa (by decide) x hx)
          rw [hv_l pb pa (by decide) _ (by decide), hv_l pb pa (by decide) _ (by decide)]; exact hb
  · refine .inl ?_
    rintro ws ⟨us, h, rfl⟩
    refine Fine.told (e := True) (l := 0) (q := pa) ?_ (by decide) hb
    rw [flW_in _ hk hn hr, flW_in _ hi hj hq]
    intro x hx ho
    obtain ⟨a, c | ⟨f, _⟩⟩ := h x hx ho
    · refine ⟨a, ?_⟩
      by_cases g : x = n
      · subst g
        rw [upd_at, upd_off _ _ _ _ (fun y => e y.symm), c]
        exact .inr ⟨trivial, r, hr, rfl⟩
      · rw [upd_off _ _ _ _ g]
        by_cases g2 : x = j
        · subst g2
          rw [upd_at, c]
          exact .inr ⟨trivial, q, hq, rfl⟩
        · rw [upd_off _ _ _ _ g2]; exact .inl c
    · exact f.elim
/-- what was saved, by lists -/
theorem told_is {pc z : Nat} {rs cs ws : Nat → Nat} (h : Told (pnt pc rs cs z) ws) : TellL ws pc (upd rs 0 0) cs z true := by
  obtain ⟨a, b, c, d, f⟩ := h
  exact ⟨a, b.trans (rgs_pnt _ _ _ _), c.trans (css_pnt _ _ _ _), d, f⟩
theorem upd_twice (f : Nat → Nat) : upd (upd f 0 0) 0 0 = upd f 0 0 := by
  funext i
  by_cases e : i = 0
  · subst e; rw [upd_at, upd_at]
  · rw [upd_off _ _ _ _ e]
theorem sv2_saves {ws : Nat → Nat} {pa : Nat → Nat} (ha : ∀ i, i < 39 → pa i < 4294967296) (h : Fine False allOk (hv 0 pz pz) ws) : Fine False allOk (hv 1 pa pz) (svW ws pa) := Fine.save h (by decide) ha
theorem sv2_again {ws : Nat → Nat} {pa pb : Nat → Nat} (hb : ∀ i, i < 39 → pb i < 4294967296) (h : Fine False allOk (hv 1 pa pz) ws) : Sv2 pa pb (svW ws pb) := Fine.save h (by decide) hb
/-! Go's == of any two arrays -/
theorem items_any (f g : Nat → Nat) (n : Nat) : ∀ (l : List Nat), (∀ i ∈ l, i < n) → ∃ b, ∀ W, (Op.eqItems 9999 26 1 (wn f n).toArray (wn g n).toArray l).run Tryd.prog W = .ok b W
  | [], _ => ⟨true, fun W => by simp [Op.eqItems]⟩
  | i :: l, h => by
    obtain ⟨b, ih⟩ := items_any f g n l (fun j hj => h j (by simp [hj]))
    refine ⟨((f i : Nat) : Int) == ((g i : Nat) : Int) && b, fun W => ?_⟩
    have e1 := run_part_plain W plain23 (xs := (wn f n).toArray) (off := i * 1) (v := .int .u32 ((f i : Nat) : Int)) (by rw [Nat.mul_one]; exact wn_arr f n i (h i (by simp)))
    have e2 := run_part_plain W plain23 (xs := (wn g n).toArray) (off := i * 1) (v := .int .u32 ((g i : Nat) : Int)) (by rw [Nat.mul_one]; exact wn_arr g n i (h i (by simp)))
    have e3 := run_equalIn_int W 9998 26 .u32 .u32 ((f i : Nat) : Int) ((g i : Nat) : Int) Tryd.underlying26
    simp only [Op.eqItems, Sem.run_bind, e1, e2, e3, Result.andThen_ok]
    cases hb : (((f i : Nat) : Int) == ((g i : Nat) : Int))
    · simp
    · simpa using ih W
theorem eqlA (f g : Nat → Nat) : ∃ b, ∀ W, (binOp .eql 27 (.agg (wn f 32).toArray) (.agg (wn g 32).toArray)).run Tryd.prog W = .ok (.bool b) W := by
  obtain ⟨j0, hi, _, _, _⟩ := info_parts info23
  obtain ⟨b, hb⟩ := items_any f g 32 (List.range 32) (fun i hi => by simpa using hi)
  refine ⟨b, fun W => ?_⟩
  rw [run_eql_struct, run_equalIn_array W 9999 _ _ Tryd.underlying27 hi, cells23', hb W]; rfl
theorem eqlC (f g : Nat → Nat) : ∃ b, ∀ W, (binOp .eql 28 (.agg (wn f 5).toArray) (.agg (wn g 5).toArray)).run Tryd.prog W = .ok (.bool b) W := by
  obtain ⟨j0, hi, _, _, _⟩ := info_parts info23
  obtain ⟨b, hb⟩ := items_any f g 5 (List.range 5) (fun i hi => by simpa using hi)
  refine ⟨b, fun W => ?_⟩
  rw [run_eql_struct, run_equalIn_array W 9999 _ _ Tryd.underlying28 hi, cells23', hb W]; rfl
/-- the lowest 16 bits -/
theorem and_16 (n : Int) : ∃ c : Nat, bits .and .i64 n 65535 = (c : Int) ∧ (c : Int) ≤ 65535 := by
  have h : (BitVec.ofInt 64 n &&& BitVec.ofInt 64 65535).toNat ≤ 65535 := by
    rw [BitVec.toNat_and]
    exact Nat.le_trans Nat.and_le_right (by decide)
  have h64 : IntKind.i64.wrap (((BitVec.ofInt 64 n &&& BitVec.ofInt 64 65535).toNat : Nat) : Int) = (((BitVec.ofInt 64 n &&& BitVec.ofInt 64 65535).toNat : Nat) : Int) := by
    rw [IntKind.wrap_i64]; omega
  exact ⟨(BitVec.ofInt 64 n &&& BitVec.ofInt 64 65535).toNat, h64, by omega⟩
theorem num_small (c : Nat) (h : (c : Int) ≤ 65535) : num (c : Int) = c := by unfold num; omega
end Go.Proofs.YtfhijdnbhbonpaaDoor.Walks
