/- Numbers: two instructions that have words and are not the same have not the same word, nor the same text. -/
import Derived.Test.YtlnliiihcajboaaDoorTextA
namespace Go.Proofs.YtlnliiihcajboaaDoor.Num
open Go.ChangeShapes Go.WideShapes Go.ChangeAt Go.RowKit
set_option linter.unusedVariables false
theorem dg_all : ∀ (k u : Nat), u ≤ k → ∀ c ∈ Lib.decDigits u, 48 ≤ c.toNat ∧ c.toNat ≤ 57 := by
  intro k
  induction k with
  | zero =>
    intro u hu c hc
    have : u = 0 := by omega
    subst this
    rw [Lib.decDigits_one (by decide)] at hc
    simp at hc; subst hc; decide
  | succ k ih =>
    intro u hu c hc
    by_cases h : u < 10
    · rw [Lib.decDigits_one h] at hc
      simp at hc; subst hc
      simp; omega
    · rw [Lib.decDigits, dif_neg h] at hc
      rcases List.mem_append.1 hc with hc | hc
      · exact ih (u / 10) (by omega) c hc
      · simp at hc; subst hc
        simp; omega
theorem dg_ne (u : Nat) : Lib.decDigits u ≠ [] := by
  intro h
  have := Lib.decDigits_length u
  rw [h] at this
  have := Lib.nDigits_pos u
  simp at *; omega
theorem dg_big (u : Nat) (h : ¬ u < 10) : Lib.decDigits u = Lib.decDigits (u / 10) ++ [UInt8.ofNat (48 + u % 10)] := by rw [Lib.decDigits, dif_neg h]
theorem dg_inj : ∀ (k u v : Nat), u ≤ k → Lib.decDigits u = Lib.decDigits v → u = v := by
  intro k
  induction k with
  | zero =>
    intro u v hu h
    have : u = 0 := by omega
    subst this
    by_cases hv : v < 10
    · rw [Lib.decDigits_one (by decide), Lib.decDigits_one hv] at h
      simp only [List.cons.injEq, and_true] at h
      have := congrArg UInt8.toNat h
      simp at this; omega
    · have := congrArg List.length h
      rw [Lib.decDigits_one (by decide), Lib.decDigits_length, Lib.nDigits_big hv] at this
      have := Lib.nDigits_pos (v / 10)
      simp at *; omega
  | succ k ih =>
    intro u v hu h
    by_cases hu' : u < 10
    · by_cases hv : v < 10
      · rw [Lib.decDigits_one hu', Lib.decDigits_one hv] at h
        simp only [List.cons.injEq, and_true] at h
        have := congrArg UInt8.toNat h
        simp at this; omega
      · have := congrArg List.length h
        rw [Lib.decDigits_one hu', Lib.decDigits_length, Lib.nDigits_big hv] at this
        have := Lib.nDigits_pos (v / 10)
        simp at *; omega
    · by_cases hv : v < 10
      · have := congrArg List.length h
        rw [Lib.decDigits_one hv, Lib.decDigits_length, Lib.nDigits_big hu'] at this
        have := Lib.nDigits_pos (u / 10)
        simp at *; omega
      · rw [dg_big u hu', dg_big v hv] at h
        obtain ⟨h1, h2⟩ := List.append_inj' h rfl
        have e := ih (u / 10) (v / 10) (by omega) h1
        simp only [List.cons.injEq, and_true] at h2
        have := congrArg UInt8.toNat h2
        simp at this; omega
theorem itoa_inj (n m : Int) (h : Lib.itoa n = Lib.itoa m) : n = m := by
  unfold Lib.itoa at h
  by_cases a : n < 0 <;> by_cases b : m < 0
  · rw [if_pos a, if_pos b] at h
    have := dg_inj _ _ _ (Nat.le_refl _) (List.cons.inj h).2
    omega
  · rw [if_pos a, if_neg b] at h
    have := dg_all _ _ (Nat.le_refl _) 45 (by rw [← h]; simp)
    simp at this
  · rw [if_neg a, if_pos b] at h
    have := dg_all _ _ (Nat.le_refl _) 45 (by rw [h]; simp)
    simp at this
  · rw [if_neg a, if_neg b] at h
    have := dg_inj _ _ _ (Nat.le_refl _) h
    omega
theorem itoa_free (n : Int) : (32 : UInt8) ∉ Lib.itoa n := by
  intro h
  unfold Lib.itoa at h
  split at h
  · rcases List.mem_cons.1 h with h | h
    · revert h; decide
    · have := dg_all _ _ (Nat.le_refl _) _ h; simp at this
  · have := dg_all _ _ (Nat.le_refl _) _ h; simp at this
theorem rg_free (n : Int) : (32 : UInt8) ∉ rg n := by
  intro h
  rcases List.mem_append.1 h with h | h
  · revert h; decide
  · exact itoa_free n h
theorem rg_inj (n m : Int) (h : rg n = rg m) : n = m := itoa_inj n m (List.append_cancel_left h)
theorem nm_free : ∀ l ∈ nmL, (32 : UInt8) ∉ l := by decide
theorem tl_free (o : Int) : (32 : UInt8) ∉ tl o := by
  unfold tl
  rw [List.getD_eq_getElem?_getD]
  rcases hq : nmL[o.toNat]? with _ | x
  · simp
  · exact nm_free x (List.mem_of_getElem? hq)
theorem nm_apart : ∀ i : Fin 56, ∀ j : Fin 56, nmL.getD i.val [] = nmL.getD j.val [] → i = j := by decide +kernel
theorem tl_inj (o p : Int) (o0 : 1 ≤ o) (o1 : o ≤ 55) (p0 : 1 ≤ p) (p1 : p ≤ 55) (h : tl o = tl p) : o = p := by
  have := nm_apart ⟨o.toNat, by omega⟩ ⟨p.toNat, by omega⟩ h
  have := congrArg Fin.val this
  simp at this; omega
/-- a text parted at its first blank -/
theorem part : ∀ (x y r s : List UInt8), (32 : UInt8) ∉ x → (32 : UInt8) ∉ y → (r = [] ∨ ∃ t, r = 32 :: t) → (s = [] ∨ ∃ t, s = 32 :: t) → x ++ r = y ++ s → x = y ∧ r = s := by
  intro x
  induction x with
  | nil =>
    intro y r s hx hy hr hs h
    cases y with
    | nil => exact ⟨rfl, h⟩
    | cons c y =>
      exfalso
      rcases hr with rfl | ⟨t, rfl⟩
      · simp at h
      · simp at h; exact hy (by simp [h.1])
  | cons b x ih =>
    intro y r s hx hy hr hs h
    cases y with
    | nil =>
      exfalso
      rcases hs with rfl | ⟨t, rfl⟩
      · simp at h
      · simp at h; exact hx (by simp [h.1])
    | cons c y =>
      simp only [List.cons_append, List.cons.injEq] at h
      obtain ⟨h1, h2⟩ := ih y r s (fun k => hx (by simp [k])) (fun k => hy (by simp [k])) hr hs h.2
      exact ⟨by rw [h.1, h1], h2⟩
theorem tail_form (xs : List (List UInt8)) : Lib.joinTail [32] xs = [] ∨ ∃ t, Lib.joinTail [32] xs = 32 :: t := by
  cases xs with
  | nil => exact .inl rfl
  | cons x xs => exact .inr ⟨x ++ Lib.joinTail [32] xs, by simp [Lib.joinTail]⟩
theorem tail_inj : ∀ (xs ys : List (List UInt8)), (∀ l ∈ xs, (32 : UInt8) ∉ l) → (∀ l ∈ ys, (32 : UInt8) ∉ l) → Lib.joinTail [32] xs = Lib.joinTail [32] ys → xs = ys := by
  intro xs
  induction xs with
  | nil =>
    intro ys hx hy h
    cases ys with
    | nil => rfl
    | cons y ys => simp [Lib.joinTail] at h
  | cons x xs ih =>
    intro ys hx hy h
    cases ys with
    | nil => simp [Lib.joinTail] at h
    | cons y ys =>
      have e : x ++ Lib.joinTail [32] xs = y ++ Lib.joinTail [32] ys := by simpa [Lib.joinTail] using h
      obtain ⟨h1, h2⟩ := part x y _ _ (hx x (by simp)) (hy y (by simp)) (tail_form xs) (tail_form ys) e
      rw [h1, ih ys (fun l hl => hx l (by simp [hl])) (fun l hl => hy l (by simp [hl])) h2]
theorem opT_free (f d a b n : Int) : ∀ l ∈ opT f d a b n, (32 : UInt8) ∉ l := by
  intro l hl
  unfold opT at hl
  repeat' split at hl
  all_goals simp only [List.mem_cons, List.not_mem_nil, or_false] at hl
  all_goals
    first
    | (rcases hl with rfl | rfl | rfl <;> first | exact rg_free _ | exact itoa_free _)
    | (rcases hl with rfl | rfl <;> first | exact rg_free _ | exact itoa_free _)
theorem opT_inj (f d a b n d' a' b' n' : Int) (k : Ok f d a b n) (k' : Ok f d' a' b' n') (h : opT f d a b n = opT f d' a' b' n') : d = d' ∧ a = a' ∧ b = b' ∧ n = n' := by
  rcases k.fmt with rfl | rfl | rfl | rfl | rfl | rfl | rfl | rfl | rfl | rfl
  · have := ok1 k; have := ok1 k'; omega
  · have q := ok2 k; have q' := ok2 k'
    have e : [rg d, rg a, rg b] = [rg d', rg a', rg b'] := h
    simp only [List.cons.injEq, and_true] at e
    exact ⟨rg_inj _ _ e.1, rg_inj _ _ e.2.1, rg_inj _ _ e.2.2, by omega⟩
  · have q := ok3 k; have q' := ok3 k'
    have e : [rg d, rg a, Lib.itoa n] = [rg d', rg a', Lib.itoa n'] := h
    simp only [List.cons.injEq, and_true] at e
    exact ⟨rg_inj _ _ e.1, rg_inj _ _ e.2.1, by omega, itoa_inj _ _ e.2.2⟩
  · have q := ok4 k; have q' := ok4 k'
    have e : [rg d, rg a, Lib.itoa n] = [rg d', rg a', Lib.itoa n'] := h
    simp only [List.cons.injEq, and_true] at e
    exact ⟨rg_inj _ _ e.1, rg_inj _ _ e.2.1, by omega, itoa_inj _ _ e.2.2⟩
  · have q := ok5 k; have q' := ok5 k'
    have e : [rg a, rg b, Lib.itoa n] = [rg a', rg b', Lib.itoa n'] := h
    simp only [List.cons.injEq, and_true] at e
    exact ⟨by omega, rg_inj _ _ e.1, rg_inj _ _ e.2.1, itoa_inj _ _ e.2.2⟩
  · have q := ok6 k; have q' := ok6 k'
    have e : [rg a, rg b, Lib.itoa n] = [rg a', rg b', Lib.itoa n'] := h
    simp only [List.cons.injEq, and_true] at e
    exact ⟨by omega, rg_inj _ _ e.1, rg_inj _ _ e.2.1, itoa_inj _ _ e.2.2⟩
  · have q := ok7 k; have q' := ok7 k'
    have e : [rg d, Lib.itoa n] = [rg d', Lib.itoa n'] := h
    simp only [List.cons.injEq, and_true] at e
    exact ⟨rg_inj _ _ e.1, by omega, by omega, itoa_inj _ _ e.2⟩
  · have q := ok8 k; have q' := ok8 k'
    have e : [rg d, Lib.itoa n] = [rg d', Lib.itoa n'] := h
    simp only [List.cons.injEq, and_true] at e
    exact ⟨rg_inj _ _ e.1, by omega, by omega, itoa_inj _ _ e.2⟩
  · have q := ok9 k; have q' := ok9 k'
    have e : [rg d, rg a, Lib.itoa n] = [rg d', rg a', Lib.itoa n'] := h
    simp only [List.cons.injEq, and_true] at e
    exact ⟨rg_inj _ _ e.1, rg_inj _ _ e.2.1, by omega, itoa_inj _ _ e.2.2⟩
  · have q := ok10 k; have q' := ok10 k'
    have e : [rg d, Lib.itoa a, Lib.itoa n] = [rg d', Lib.itoa a', Lib.itoa n'] := h
    simp only [List.cons.injEq, and_true] at e
    exact ⟨rg_inj _ _ e.1, itoa_inj _ _ e.2.1, by omega, itoa_inj _ _ e.2.2⟩
theorem tx_inj (o d a b n o' d' a' b' n' : Int) (k : Ok (fm o) d a b n) (k' : Ok (fm o') d' a' b' n') (h : tx o d a b n true = tx o' d' a' b' n' true) : o = o' ∧ d = d' ∧ a = a' ∧ b = b' ∧ n = n' := by
  rw [tx, tx, if_pos rfl, if_pos rfl, Lib.join_cons, Lib.join_cons] at h
  obtain ⟨h1, h2⟩ := part _ _ _ _ (tl_free o) (tl_free o') (tail_form _) (tail_form _) h
  have r := ok_in o d a b n k
  have r' := ok_in o' d' a' b' n' k'
  have e := tl_inj o o' r.1 r.2 r'.1 r'.2 h1
  subst e
  have q := tail_inj _ _ (opT_free _ _ _ _ _) (opT_free _ _ _ _ _) h2
  exact ⟨rfl, opT_inj _ _ _ _ _ _ _ _ _ k k' q⟩
theorem wd_inj (o d a b n o' d' a' b' n' : Int) (k : Ok (fm o) d a b n) (k' : Ok (fm o') d' a' b' n') (h : wd o d a b n = wd o' d' a' b' n') : o = o' ∧ d = d' ∧ a = a' ∧ b = b' ∧ n = n' := by
  obtain ⟨ho, hd, ha, hb, hn, hg⟩ := ok_dec o d a b n k
  obtain ⟨ho', hd', ha', hb', hn', hg'⟩ := ok_dec o' d' a' b' n' k'
  rw [h] at ho hd ha hb hn
  have e : o = o' := ho.symm.trans ho'
  subst e
  exact ⟨rfl, hd.symm.trans hd', ha.symm.trans ha', hb.symm.trans hb', hn.symm.trans hn'⟩
theorem wd_in (o d a b n : Int) (k : Ok (fm o) d a b n) : 0 ≤ wd o d a b n ∧ wd o d a b n ≤ 4294967295 := by
  rw [← raw_ok o d a b n k]; exact ⟨bits_lo_u32 _ _ _, bits_hi_u32 _ _ _⟩
theorem bs_inj (x y : List UInt8) (h : bs x = bs y) : x = y := by
  have := congrArg (fun b : ByteArray => b.data.toList) h
  simpa [bs] using this
theorem beq_apart (s t : ByteArray) (h : ¬ s = t) : (s.toList == t.toList) = false := by
  have : s.toList ≠ t.toList := by
    intro e
    rw [ByteArray.toList_eq, ByteArray.toList_eq] at e
    obtain ⟨⟨x⟩⟩ := s
    obtain ⟨⟨y⟩⟩ := t
    exact h (by rw [show x = y from e])
  simpa using this
end Go.Proofs.YtlnliiihcajboaaDoor.Num
