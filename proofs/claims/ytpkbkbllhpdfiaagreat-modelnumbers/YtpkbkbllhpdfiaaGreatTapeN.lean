/- Contract of the law's tape: 260 numbers. -/
import Derived.Test.YtpkbkbllhpdfiaaGreatB32
namespace Go.Proofs.YtpkbkbllhpdfiaaGreat.M
open Go.ChangeShapes Go.WideShapes Go.ChangeAt Go.RowKit Go.Proofs.YtpkbkbllhpdfiaaGreat.Walks Go.Proofs.YtpkbkbllhpdfiaaGreat.Mod
set_option linter.unusedVariables false
theorem info3 : (Tryz.prog.info? 3).map (fun i => (i.zero, i.size, i.bytes)) = some (some (.int .i64 0), 1, 8) := by kernel_rfl
/-- numbers of one's own, or none -/
def Nums (base : Nat) (w : World) (v : Value) (t : List Int) : Prop := w.ownsRow base 3 1 v t.length (t.map (Value.int .i64))
theorem Nums.nums {base : Nat} {w : World} {v : Value} {t : List Int} (h : Nums base w v t) (hl : t.length ≤ 5000) : ∃ A cap, v = .slice A t.length cap ∧ NumsIn w ⟨A, t.length, cap, fun j => t.getD j 0⟩ := by
  rcases h.2 with ⟨rfl, hn⟩ | ⟨g, cap, cur, rfl, h2, h3, h4⟩
  · exact ⟨none, 0, by rw [hn], by show t.length ≤ _; omega, fun j hj => by have : j < t.length := hj; omega⟩
  · refine ⟨some ⟨g, 0, none⟩, cap, rfl, by show t.length ≤ _; omega, fun j hj => ⟨g, 0, rfl, (h.lt g rfl).2, ?_⟩⟩
    have hj' : j < t.length := hj
    have := h.cells (g := g) rfl j (.int .i64 (t.getD j 0)) (by simp [List.getElem?_map, List.getElem?_eq_getElem hj', List.getD])
    rw [Addr.add_lit] at this
    exact this
theorem one_i64 (t : List Int) : ∀ u ∈ t.map (Value.int .i64), u.oneCell' = true := by
  intro u hu
  obtain ⟨x, _, rfl⟩ := List.mem_map.1 hu
  rfl
theorem parts3 : ∃ i, Tryz.prog.info? 3 = some i ∧ i.zero = some (.int .i64 0) ∧ i.size = 1 ∧ i.bytes = 8 := by
  have h := info3
  cases hq : Tryz.prog.info? 3 with
  | none => rw [hq] at h; simp at h
  | some i => rw [hq] at h; simp at h; exact ⟨i, rfl, h.1, h.2.1, h.2.2⟩
set_option maxRecDepth 100000 in
set_option maxHeartbeats 1000000 in
theorem tape_as (k : Int) (k0 : 0 ≤ k) (k1 : k ≤ 60) (w : World) :
    Calls Tryz.prog 9 #[.int .i64 k] w fun e w' => ∃ A len cap zs, e = .returned (.slice A len cap) ∧ NumsIn w' ⟨A, len, cap, zs⟩ ∧ Fr w w' := by
  obtain ⟨j0, hi, hz0, hz1, hz2⟩ := parts3
  go_enter Tryz.func9, Tryz.ntmps9
  go_wp2_with fail
  go_loopw [3, 4] (fun o d wr => ∃ (i : Nat) (t : List Int), (i : Int) ≤ 260 ∧ d = .int .i64 i ∧ Hid (Nums w.heap.size wr o t ∧ t.length = i ∧ Fr w wr)) (fun _ d _ => 260 - (intOf d).toNat)
  case atStart => exact ⟨0, [], by omega, rfl, World.ownsRow_nil _ _ _ _, rfl, Fr.refl _⟩
  case round =>
    obtain ⟨i, t, hi', rfl, HD⟩ := hrel
    rename_i wr
    have O5 := hid HD.out.1
    have N5 := hid HD.out.2.1
    have F5 := hid HD.out.2.2
    clear HD
    by_cases hlt : (i : Int) < 260
    · have i2 : (0 : Int) ≤ (i : Int) * i ∧ (i : Int) * i ≤ 67600 := ⟨Int.mul_nonneg (by omega) (by omega), by have := Int.mul_le_mul (show (i : Int) ≤ 260 by omega) (show (i : Int) ≤ 260 by omega) (by omega) (by omega); omega⟩
      have ik : (0 : Int) ≤ (i : Int) * k ∧ (i : Int) * k ≤ 15600 := ⟨Int.mul_nonneg (by omega) (by omega), by have := Int.mul_le_mul (show (i : Int) ≤ 260 by omega) k1 k0 (by omega); omega⟩
      obtain ⟨p, hp⟩ : ∃ p, (i : Int) * i = p := ⟨_, rfl⟩
      obtain ⟨q, hq⟩ : ∃ q, (i : Int) * k = q := ⟨_, rfl⟩
      rw [hp] at i2
      rw [hq] at ik
      obtain ⟨i20, i21⟩ := i2
      obtain ⟨ik0, ik1⟩ := ik
      obtain ⟨r, hr⟩ : ∃ r, (p * 7 + k * 23 + q).tmod 211 = r := ⟨_, rfl⟩
      have A7 := hid ((Fr.refl wr).alloc (.cells #[.int .i64 r] 3))
      have C7 : Hid (∀ j u, ([r].map (Value.int .i64))[j]? = some u → (wr.alloc (.cells #[.int .i64 r] 3)).cell? ((⟨wr.heap.size, 0, none⟩ : Addr).add j) = some u) := fun j u hu => by
        rw [Addr.add_lit, Nat.zero_add, World.cell?_alloc_at _ _ _ _ rfl]
        simpa using hu
      have O7 : Hid ((wr.alloc (.cells #[.int .i64 r] 3)).ownsRow w.heap.size 3 1 u3 t.length (t.map (Value.int .i64))) := by
        refine ⟨O5.out.1, ?_⟩
        rcases O5.out.2 with h' | ⟨g, cap, cur, e, h2, h3, h4⟩
        · exact .inl h'
        · exact .inr ⟨g, cap, cur, e, h2, by rw [A7.out.block g (O5.out.lt g (by rw [e]; rfl)).2]; exact h3, h4⟩
      go_wp2_with (first | (at_builtin; refine wpList_append_own _ rfl _ _ 25 rfl w.heap.size 3 j0 (.int .i64 0) 1 8 Tryz.underlying25 hi hz0 hz1 hz2 rfl (by decide) u3 t.length _ rfl (by exact O7.out) ⟨wr.heap.size, 0, none⟩ 1 1 ([r].map (Value.int .i64)) rfl rfl (by exact C7.out) (one_i64 [r]) (by have := N5.out; unfold maxLen; omega) (by have := N5.out; omega) (by have := F5.out.size; simp; omega) ?_))
      intro v' w' hown hgrow hnil
      have ne : v' ≠ .slice none 0 0 := hnil
      have F8 : Hid (Fr w w') := Fr.grow (F5.out.trans A7.out) (fun b e => (O7.out.lt b e).1) hgrow
      have O8 : Hid (Nums w.heap.size w' v' (t ++ [r])) := by
        unfold Hid Nums
        rw [List.length_append, List.map_append]
        exact hown
      rcases hown.2 with ⟨rfl, _⟩ | ⟨g, cap, cur, rfl, _⟩
      · exact (ne rfl).elim
      clear hown hgrow hnil ne
      go_wp2_with fail
      exact ⟨⟨i + 1, t ++ [r], by omega, by rw [Int.natCast_add]; rfl, O8.out, by have := N5.out; simp; omega, F8.out⟩, by simp [intOf]; omega⟩
    · go_wp2_with fail
      obtain ⟨A, cap, rfl, hN⟩ := Nums.nums O5.out (by have := N5.out; omega)
      go_ret
      exact ⟨_, _, _, rfl, ⟨_, hN⟩, F5.out⟩
end Go.Proofs.YtpkbkbllhpdfiaaGreat.M
