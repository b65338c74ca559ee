/- What a store's words are worth: behind Saves, Gets, turned bits; what a Load tells of them. -/
import Derived.Test.YtfhijdnbhbonpaaDoorRLoadAs
import Derived.Test.YtfhijdnbhbonpaaDoorSNew
namespace Go.Proofs.YtfhijdnbhbonpaaDoor.Walks
open Go.RowKit
set_option linter.unusedVariables false
/-- each word of ok is the code word of vv, or (where e) that with one bit turned -/
def Fine (e : Prop) (ok : Nat → Prop) (vv ws : Nat → Nat) : Prop :=
  ∀ i, i < 79 → ok i → vv i < 4294967296 ∧ (ws i = Num.enc (vv i) ∨ (e ∧ ∃ q, q < 39 ∧ ws i = Num.enc (vv i) ^^^ 2 ^ q))
def allOk : Nat → Prop := fun _ => True
/-- n words of p laid from b on -/
def ptv (vv : Nat → Nat) (b : Nat) (p : Nat → Nat) (n i : Nat) : Nat := if b ≤ i ∧ i < b + n then p (i - b) else vv i
section
variable {e : Prop} {ok : Nat → Prop} {vv vv' ws p : Nat → Nat} {b i j k l n : Nat}
theorem Fine.congr (h : Fine e ok vv ws) (c : ∀ i, i < 79 → vv i = vv' i) : Fine e ok vv' ws := fun i hi ho => by rw [← c i hi]; exact h i hi ho
theorem Fine.weak {e' : Prop} {ok' : Nat → Prop} (h : Fine e ok vv ws) (he : e → e') (ho : ∀ i, ok' i → ok i) : Fine e' ok' vv ws := fun i hi hok => by
  obtain ⟨a, c⟩ := h i hi (ho i hok)
  exact ⟨a, c.imp id fun ⟨x, y⟩ => ⟨he x, y⟩⟩
theorem Fine.at (h : Fine e ok vv ws) (hi : i < 79) (ho : ok i) : Num.mendW (ws i) = Num.enc (vv i) ∧ Num.mendS (ws i) ≠ 2 := by
  obtain ⟨a, c | ⟨_, q, hq, c⟩⟩ := h i hi ho
  · have := Num.mend_good _ (Num.enc_lt _ a) (Num.syn_enc _ a)
    rw [c]; exact ⟨this.1, by rw [this.2]; decide⟩
  · have := Num.mend_one _ q a hq
    rw [c]; exact ⟨this.1, by rw [this.2]; decide⟩
theorem Fine.vw (h : Fine e ok vv ws) (hi : i < 79) (ho : ok i) : vw ws i = vv i := by
  unfold Walks.vw
  rw [(h.at hi ho).1, Num.enc_mod _ (h i hi ho).1]
theorem Fine.gtW (h : Fine e ok vv ws) (x : Int) : Fine e ok vv (gtW 79 ws x) := by
  rcases inB_cases 79 x with ⟨q, _⟩ | ⟨q, k, rfl, hk⟩
  · have : Walks.gtW 79 ws x = ws := by unfold Walks.gtW; simp [q]
    rw [this]; exact h
  · rw [gtW_in ws rfl hk]
    split
    · intro i hi ho
      by_cases g : i = k
      · subst g
        rw [upd_at]
        exact ⟨(h i hi ho).1, .inl (h.at hi ho).1⟩
      · rw [upd_off _ _ _ _ g]; exact h i hi ho
    · exact h
theorem Fine.gtK (h : Fine e ok vv ws) (b : Nat) : ∀ k, Fine e ok vv (gtK ws b k)
  | 0 => h
  | k + 1 => (Fine.gtK h b k).gtW _
theorem Fine.ptW (h : Fine e ok vv ws) (hk : k < 79) (v : Nat) (hv : v < 4294967296) : Fine e ok (upd vv k v) (ptW 79 ws (k : Int) v) := by
  rw [ptW_in ws v rfl hk]
  intro i hi ho
  by_cases g : i = k
  · subst g
    rw [upd_at, upd_at]
    exact ⟨hv, .inl rfl⟩
  · rw [upd_off _ _ _ _ g, upd_off _ _ _ _ g]; exact h i hi ho
theorem Fine.ptK (h : Fine e ok vv ws) (b : Nat) (p : Nat → Nat) : ∀ n, b + n ≤ 79 → (∀ i, i < n → p i < 4294967296) → Fine e ok (ptv vv b p n) (ptK ws b p n)
  | 0, _, _ => h.congr fun i _ => by unfold ptv; rw [if_neg (by omega)]
  | n + 1, hn, hp => ((Fine.ptK h b p n (by omega) (fun i hi => hp i (by omega))).ptW (k := b + n) (by omega) (p n) (hp n (by omega))).congr fun i _ => by
    by_cases g : i = b + n
    · subst g
      rw [upd_at]; unfold ptv; rw [if_pos (by omega), show b + n - b = n by omega]
    · rw [upd_off _ _ _ _ g]; unfold ptv
      by_cases g2 : b ≤ i ∧ i < b + n
      · rw [if_pos g2, if_pos (by omega)]
      · rw [if_neg g2, if_neg (by omega)]
theorem Fine.bad (h : Fine e ok vv ws) (b : Nat) : ∀ k, b + k ≤ 79 → (∀ j, j < k → ok (b + j)) → gtBad ws b k = false
  | 0, _, _ => rfl
  | k + 1, hk, ho => by
    show (gtBad ws b k || Num.mendS (ws (b + k)) == 2) = false
    rw [Fine.bad h b k (by omega) (fun j hj => ho j (by omega)), beq_eq_false_iff_ne.2 (h.at (by omega) (ho k (by omega))).2]; rfl
theorem gtBad_of (us : Nat → Nat) (c : Nat) (k : Nat) : ∀ j, j < k → Num.mendS (us (c + j)) = 2 → gtBad us c k = true := by
  induction k with
  | zero => intro j h _; exact absurd h (Nat.not_lt_zero _)
  | succ k ih =>
    intro j h hs
    unfold gtBad
    by_cases g : j = k
    · subst g
      rw [beq_iff_eq.2 hs, Bool.or_true]
    · rw [ih j (by omega) hs, Bool.true_or]
theorem Fine.gok (h : Fine e ok vv ws) (hb : b + 39 ≤ 79) (ho : ∀ j, j < 39 → ok (b + j)) (hm : vv (b + 38) = mk (vv (b + 37))) : gok ws b = true := by
  have e1 : gtV ws b 38 = vv (b + 38) := h.vw (by omega) (ho 38 (by decide))
  have e2 : gtV ws b 37 = vv (b + 37) := h.vw (by omega) (ho 37 (by decide))
  unfold Walks.gok
  rw [h.bad b 39 hb ho, e1, e2, hm]
  simp
theorem Fine.lat (h : Fine e ok vv ws) (ho : ok 78) : lat ws = vv 78 % 2 := by unfold Walks.lat; rw [h.vw (by decide) ho]
theorem Fine.knw (h : Fine e ok vv ws) (ho : ok 78) : knw ws = true := by
  unfold Walks.knw
  rw [beq_eq_false_iff_ne.2 (h.at (by decide) ho).2]; rfl
/-- the words' worth behind a Save -/
def svv (vv : Nat → Nat) (p : Nat → Nat) : Nat → Nat := upd (ptv vv (39 * (1 - vv 78 % 2)) p 39) 78 (1 - vv 78 % 2)
theorem Fine.svW (h : Fine e ok vv ws) (ho : ok 78) (p : Nat → Nat) (hp : ∀ i, i < 39 → p i < 4294967296) : Fine e ok (svv vv p) (svW ws p) := by
  unfold Walks.svW svv
  rw [h.lat ho]
  have h1 : Fine e ok vv (ws1 ws) := h.gtW 78
  exact (h1.ptK _ p 39 (by omega) hp).ptW (k := 78) (by decide) _ (by omega)
/-- what a Load tells, by lists -/
structure TellL (ws : Nat → Nat) (u : Nat) (rr cc : Nat → Nat) (n : Nat) (v : Bool) : Prop where
  u : tP ws = u
  r : wn (tR ws) 32 = wn rr 32
  c : wn (tC ws) 5 = wn cc 5
  n : tN ws = n
  v : ldV ws = v
theorem TellL.tld {bb : Bool} (h : TellL ws i p vv' n bb) : tld ws = .tuple #[.int .u32 (i : Int), .agg (wn p 32).toArray, .agg (wn vv' 5).toArray, .int .i64 (n : Int), .bool bb] := by
  unfold Walks.tld
  rw [h.u, h.r, h.c, h.n, h.v]
theorem tell_of (hv : ldV ws = true) (c : ∀ i, i < 39 → ldC ws i = p i) : TellL ws (p 0) (rgs p) (css p) (p 37) true := by
  refine ⟨?_, wn_congr _ _ _ fun i hi => ?_, wn_congr _ _ _ fun i hi => ?_, ?_, hv⟩
  · unfold tP; rw [if_pos hv, c 0 (by decide)]
  · unfold tR rgs; rw [if_pos hv]
    split
    · exact c i (by omega)
    · rfl
  · unfold tC css; rw [if_pos hv, c (32 + i) (by omega)]
  · unfold tN; rw [if_pos hv, c 37 (by decide)]
theorem Fine.tell1 (h : Fine e ok vv ws) (h78 : ok 78) (hl : vv 78 % 2 = l) (ho : ∀ j, j < 39 → ok (39 * l + j)) (hm : vv (39 * l + 38) = mk (vv (39 * l + 37))) (hp : ∀ i, i < 39 → vv (39 * l + i) = p i) : TellL ws (p 0) (rgs p) (css p) (p 37) true := by
  have h1 : Fine e ok vv (ws1 ws) := h.gtW 78
  have hl' : Walks.lat ws = l := by rw [h.lat h78, hl]
  have d1 : ld1 ws = true := by unfold ld1; rw [hl']; exact h1.gok (by omega) ho hm
  refine tell_of (by unfold ldV; rw [d1, h.knw h78]; rfl) fun i hi => ?_
  unfold ldC
  rw [if_pos d1, hl']
  show Walks.vw _ _ = _
  rw [h1.vw (by omega) (ho i hi), hp i hi]
theorem Fine.tell2 (h : Fine e ok vv ws) (h78 : ok 78) (hl : vv 78 % 2 = l) (j : Nat) (hj : j < 39) (hs : Num.mendS (ws (39 * l + j)) = 2) (ho : ∀ j, j < 39 → ok (39 * (1 - l) + j)) (hm : vv (39 * (1 - l) + 38) = mk (vv (39 * (1 - l) + 37))) (hp : ∀ i, i < 39 → vv (39 * (1 - l) + i) = p i) : TellL ws (p 0) (rgs p) (css p) (p 37) true := by
  have h1 : Fine e ok vv (ws1 ws) := h.gtW 78
  have hl' : Walks.lat ws = l := by rw [h.lat h78, hl]
  have s1 : Num.mendS (ws1 ws (39 * l + j)) = 2 := by unfold ws1; rw [gtW_off _ _ _ _ (by omega)]; exact hs
  have d1 : ld1 ws = false := by unfold ld1 Walks.gok; rw [hl', gtBad_of _ _ 39 j hj s1]; rfl
  have hA : Fine e ok vv (ldA ws) := by unfold ldA; exact h1.gtK _ 39
  have d2 : ld2 ws = true := by unfold ld2; rw [hl']; exact hA.gok (by omega) ho hm
  refine tell_of (by unfold ldV; rw [d1, d2, h.knw h78]; rfl) fun i hi => ?_
  rw [ldC_2 d1, hl']
  show Walks.vw _ _ = _
  rw [hA.vw (by omega) (ho i hi), hp i hi]
theorem tell0 (hs : Num.mendS (ws 78) = 2) : TellL ws 0 w0 w0 0 false := by
  have hk : Walks.knw ws = false := by unfold Walks.knw; rw [hs]; rfl
  have hv : ldV ws = false := by unfold ldV; rw [hk, Bool.and_false]
  have nv : ¬ ldV ws = true := by rw [hv]; decide
  refine ⟨by unfold tP; rw [if_neg nv], wn_congr _ _ _ fun i _ => by unfold tR; rw [if_neg nv]; rfl, wn_congr _ _ _ fun i _ => by unfold tC; rw [if_neg nv]; rfl, by unfold tN; rw [if_neg nv], hv⟩
end
/-- the worth of a store whose latest copy, at l, is p, and its elder one q -/
def hv (l : Nat) (p q : Nat → Nat) (i : Nat) : Nat := if i = 78 then l else if i / 39 = l then p (i % 39) else q (i % 39)
theorem hv_78 (l : Nat) (p q : Nat → Nat) : hv l p q 78 = l := by unfold hv; rw [if_pos rfl]
theorem hv_l {l : Nat} (p q : Nat → Nat) (hl : l ≤ 1) (i : Nat) (hi : i < 39) : hv l p q (39 * l + i) = p i := by
  unfold hv
  rw [if_neg (by omega), if_pos (by omega), show (39 * l + i) % 39 = i by omega]
theorem hv_o {l : Nat} (p q : Nat → Nat) (hl : l ≤ 1) (i : Nat) (hi : i < 39) : hv l p q (39 * (1 - l) + i) = q i := by
  unfold hv
  rw [if_neg (by omega), if_neg (by omega), show (39 * (1 - l) + i) % 39 = i by omega]
theorem svv_hv {l : Nat} (hl : l ≤ 1) (p q r : Nat → Nat) (i : Nat) (hi : i < 79) : svv (hv l p q) r i = hv (1 - l) r p i := by
  unfold svv
  rw [hv_78, Nat.mod_eq_of_lt (show l < 2 by omega)]
  by_cases g : i = 78
  · subst g; rw [upd_at, hv_78]
  · rw [upd_off _ _ _ _ g]
    unfold ptv
    by_cases g2 : i / 39 = 1 - l
    · rw [if_pos (by omega)]
      unfold hv
      rw [if_neg g, if_pos g2, show i - 39 * (1 - l) = i % 39 by omega]
    · rw [if_neg (by omega)]
      unfold hv
      rw [if_neg g, if_neg g, if_pos (by omega), if_neg g2]
theorem Fine.save {e : Prop} {ws p q r : Nat → Nat} {l : Nat} (h : Fine e allOk (hv l p q) ws) (hl : l ≤ 1) (hr : ∀ i, i < 39 → r i < 4294967296) : Fine e allOk (hv (1 - l) r p) (Walks.svW ws r) :=
  (h.svW trivial r hr).congr fun i hi => svv_hv hl p q r i hi
theorem pnt_mk (pc : Nat) (rs cs : Nat → Nat) (z : Nat) : pnt pc rs cs z 38 = mk (pnt pc rs cs z 37) := rfl
theorem Fine.told {e : Prop} {ws p q : Nat → Nat} {l : Nat} (h : Fine e allOk (hv l p q) ws) (hl : l ≤ 1) (hm : p 38 = mk (p 37)) : TellL ws (p 0) (rgs p) (css p) (p 37) true :=
  h.tell1 trivial (by rw [hv_78]; omega) (fun _ _ => trivial) (by rw [hv_l p q hl _ (by decide), hv_l p q hl _ (by decide)]; exact hm) (fun i hi => hv_l p q hl i hi)
/-- a new store -/
theorem fine_new : Fine False allOk (hv 0 (pnt 0 w0 w0 0) (pnt 0 w0 w0 0)) (nwK 2) := by
  have hp : ∀ i, i < 39 → pnt 0 w0 w0 0 i < 4294967296 := fun i _ => pnt_lt2 (by decide) (w0_wd _) (w0_wd _) (by decide) i
  have h0 : Fine False allOk w0 w0 := fun i _ _ => ⟨by unfold w0; decide, .inl (by unfold w0; decide +kernel)⟩
  refine ((h0.ptK (39 * 0) _ 39 (by decide) hp).ptK (39 * 1) _ 39 (by decide) hp).congr fun i hi => ?_
  unfold ptv hv w0
  by_cases g : i = 78
  · subst g; rfl
  · rw [if_neg g]
    by_cases g2 : i / 39 = 0
    · rw [if_pos g2, if_neg (by omega), if_pos (by omega), show i - 39 * 0 = i % 39 by omega]
    · rw [if_neg g2, if_pos (by omega), show i - 39 * 1 = i % 39 by omega]
/-- Gets change nothing where all words are code words -/
theorem Fine.gets {ok : Nat → Prop} {vv ws : Nat → Nat} (h : Fine False ok vv ws) (x : Nat) (hx : x < 79) (ho : ok x) : Walks.gtW 79 ws (x : Int) = ws ∧ pkS 79 ws (x : Int) = 0 := by
  obtain ⟨a, c | ⟨f, _⟩⟩ := h x hx ho
  · have s : Num.mendS (ws x) = 0 := by rw [c]; exact (Num.mend_good _ (Num.enc_lt _ a) (Num.syn_enc _ a)).2
    refine ⟨?_, by rw [pkS_is ws hx, s]⟩
    rw [gtW_in ws rfl hx, if_neg (by rw [s]; decide)]
  · exact f.elim
theorem pnt_0 (pc : Nat) (rs cs : Nat → Nat) (z : Nat) : pnt pc rs cs z 0 = pc := rfl
theorem pnt_37 (pc : Nat) (rs cs : Nat → Nat) (z : Nat) : pnt pc rs cs z 37 = z := rfl
theorem rgs_pnt (pc : Nat) (rs cs : Nat → Nat) (z : Nat) : wn (rgs (pnt pc rs cs z)) 32 = wn (upd rs 0 0) 32 := wn_congr _ _ _ fun i hi => by
  unfold rgs
  by_cases g : i = 0
  · subst g; rw [upd_at, if_neg (by omega)]
  · rw [upd_off _ _ _ _ g, if_pos (by omega)]; unfold pnt; rw [if_neg g, if_pos hi]
theorem css_pnt (pc : Nat) (rs cs : Nat → Nat) (z : Nat) : wn (css (pnt pc rs cs z)) 5 = wn cs 5 := wn_congr _ _ _ fun i hi => by
  unfold css pnt; rw [if_neg (by omega), if_neg (by omega), if_pos (by omega), show 32 + i - 32 = i by omega]
theorem Fine.told_pnt {e : Prop} {ws q rs cs : Nat → Nat} {l pc z : Nat} (h : Fine e allOk (hv l (pnt pc rs cs z) q) ws) (hl : l ≤ 1) : TellL ws pc (upd rs 0 0) cs z true := by
  obtain ⟨a, b, c, d, f⟩ := h.told hl (pnt_mk _ _ _ _)
  exact ⟨a, b.trans (rgs_pnt _ _ _ _), c.trans (css_pnt _ _ _ _), d, f⟩
end Go.Proofs.YtfhijdnbhbonpaaDoor.Walks
