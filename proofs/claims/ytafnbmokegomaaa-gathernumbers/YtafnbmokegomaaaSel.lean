/-
  A SELECT OF TWO RECEIVES, EACH OF WHICH MAY PROCEED: from the buffer (with a sender parked there, or none), from a closed channel, or not at all.
-/
import Derived.Conc.CrowdSel
set_option linter.unusedSimpArgs false
namespace Go.Proofs.Ytafnbmokegomaaa
open Go.Conc

/-- What is at a channel that is received from. -/
inductive Way1 (gs : Array Goroutine) (i : Nat) (w : World) : CommCase → Prop
  | buf {c : Nat} {z : Value} {cap s r : Nat} {buf : Array Value} {cl : Bool} (hc : w.heap[c]? = some (.chan cap buf cl s r false)) (hb : 0 < buf.size) (hp : partners (gs.setIfInBounds i ph) c true = []) : Way1 gs i w (rcase c z)
  | bufS {c : Nat} {z : Value} {cap s r : Nat} {buf : Array Value} {cl : Bool} {j : Nat} {gj : Goroutine} {v zj : Value} (hc : w.heap[c]? = some (.chan cap buf cl s r false)) (hb : 0 < buf.size) (hij : j ≠ i) (hj : gs[j]? = some (parked gj #[scase c v zj] .send))
      (hp : partners (gs.setIfInBounds i ph) c true = [(j, 0)]) : Way1 gs i w (rcase c z)
  | shut {c : Nat} {z : Value} {cap s r : Nat} (hc : w.heap[c]? = some (.chan cap #[] true s r false)) (hp : partners (gs.setIfInBounds i ph) c true = []) : Way1 gs i w (rcase c z)

/-- What comes of it. -/
inductive Took (P : Program) (gs : Array Goroutine) (i : Nat) (g₂ : Goroutine) (cases : Array CommCase) (w : World) (sl : Option (Nat × Nat)) (k : Nat) : CommCase → Machine → Array MemOp → Prop
  | buf {c : Nat} {z : Value} {cap s r : Nat} {buf : Array Value} {cl : Bool} (hc : w.heap[c]? = some (.chan cap buf cl s r false)) (hb : 0 < buf.size) (hp : partners (gs.setIfInBounds i ph) c true = []) :
      Took P gs i g₂ cases w sl k (rcase c z) (crowd (gs.setIfInBounds i (Go.Conc.served g₂ (commResult cases .select k (buf.getD 0 undef) true))) (w.setChan c cap (buf.extract 1 buf.size) cl s (r + 1) false) sl)
        #[{ g := i, fn := g₂.frame.fn, pos := g₂.frame.place, act := .recv c r cap }, { g := i, fn := g₂.frame.fn, pos := g₂.frame.place, act := .recvDone c r }]
  | bufS {c : Nat} {z : Value} {cap s r : Nat} {buf : Array Value} {cl : Bool} {j : Nat} {gj : Goroutine} {v zj : Value} (hc : w.heap[c]? = some (.chan cap buf cl s r false)) (hb : 0 < buf.size) (hij : j ≠ i) (hj : gs[j]? = some (parked gj #[scase c v zj] .send))
      (hp : partners (gs.setIfInBounds i ph) c true = [(j, 0)]) :
      Took P gs i g₂ cases w sl k (rcase c z) (crowd ((gs.setIfInBounds j (Go.Conc.served gj undef)).setIfInBounds i (Go.Conc.served g₂ (commResult cases .select k (buf.getD 0 undef) true))) (w.setChan c cap ((buf.extract 1 buf.size).push v) cl (s + 1) (r + 1) false) sl)
        #[{ g := i, fn := g₂.frame.fn, pos := g₂.frame.place, act := .recv c r cap }, { g := i, fn := g₂.frame.fn, pos := g₂.frame.place, act := .recvDone c r },
          { g := j, fn := gj.frame.fn, pos := gj.frame.place, act := .send c s }, { g := j, fn := gj.frame.fn, pos := gj.frame.place, act := .sendDone c s }]
  | shut {c : Nat} {z : Value} {cap s r : Nat} (hc : w.heap[c]? = some (.chan cap #[] true s r false)) (hp : partners (gs.setIfInBounds i ph) c true = []) :
      Took P gs i g₂ cases w sl k (rcase c z) (crowd (gs.setIfInBounds i (Go.Conc.served g₂ (commResult cases .select k z false))) w sl)
        #[{ g := i, fn := g₂.frame.fn, pos := g₂.frame.place, act := .recvClosed c }]

theorem finishComm_served' (P : Program) (g : Goroutine) (cs : Array CommCase) (sh : CommShape) (k : Int) (v : Value) (ok : Bool) : g.finishComm P cs sh k v ok = Go.Conc.served g (commResult cs sh k v ok) := rfl

section
variable {P : Program} {gs : Array Goroutine} {w w₁ : World} {sl : Option (Nat × Nat)} {i : Nat} {g g₂ : Goroutine} {es : Array Event}

theorem Way1.made {cc : CommCase} (h : Way1 gs i w cc) : illMade w cc = false := by
  cases h with
  | buf hc _ _ => exact made_recv _ hc
  | bufS hc _ _ _ _ => exact made_recv _ hc
  | shut hc _ => exact made_recv _ hc

/-- The one way of it. -/
theorem Way1.ways {cc : CommCase} (h : Way1 gs i w cc) : ∃ x, Go.ways w (gs.setIfInBounds i ph) cc = [x] := by
  cases h with
  | buf hc hb hp => exact ⟨.buffer, by simp [Go.ways, rcase, hc, hb]⟩
  | bufS hc hb _ _ hp => exact ⟨.buffer, by simp [Go.ways, rcase, hc, hb]⟩
  | shut hc hp => exact ⟨.closed, by simp [Go.ways, rcase, hc, hp]⟩

/-- JUST CASE k HAS A WAY, or the tape has picked it: the rest of the communication, in the world behind the draw. -/
theorem comm_pick {cases : Array CommCase} (hill : cases.any (illMade w₁) = false) {rdy : List (Nat × CommCase × List Way)}
    (hr : ((cases.zipIdx.toList.map fun (c, k) => (k, c, Go.ways w₁ (gs.setIfInBounds i ph) c)).filter fun (_, _, ws) => !ws.isEmpty) = rdy) (hne : rdy ≠ [])
    (hw : ∀ x ∈ rdy, Way1 gs i w₁ x.2.1 ∧ x.2.2 = Go.ways w₁ (gs.setIfInBounds i ph) x.2.1) :
    ∃ k cc d m ops, (k, cc, Go.ways w₁ (gs.setIfInBounds i ph) cc) ∈ rdy ∧ communicate P (crowd gs w₁ sl).rest (gs.setIfInBounds i ph) i g₂ cases true .select w₁ = (.next m, ops) ∧ Took P gs i g₂ cases (w₁.at d) sl k cc m ops := by
  have hemp : rdy.isEmpty = false := by cases rdy <;> simp_all
  -- the draw
  obtain ⟨n, d, hd⟩ : ∃ n d, (choose (.select rdy.length)).run P w₁ = .ok n (w₁.at d) ∧ n < rdy.length := by
    by_cases h1 : rdy.length ≤ 1
    · refine ⟨0, w₁.drawn, by simp [choose, Sem.run, Question.forced, h1, World.at], ?_⟩
      cases rdy <;> simp_all
    · refine ⟨_, w₁.drawn + 1, by simp [choose, Sem.run, Question.forced, h1, World.at]; rfl, ?_⟩
      simp only [Question.cut]
      exact Nat.mod_lt _ (by omega)
  obtain ⟨⟨k, cc, ws⟩, hx⟩ : ∃ x, rdy[n]? = some x := ⟨_, List.getElem?_eq_getElem hd.2⟩
  have hmem := List.mem_of_getElem? hx
  obtain ⟨h1, h2⟩ := hw _ hmem
  simp only at h1 h2
  subst h2
  have hgd : rdy.getD n (0, default, []) = (k, cc, Go.ways w₁ (gs.setIfInBounds i ph) cc) := by rw [List.getD_eq_getElem?_getD, hx]; rfl
  have hwr : ∀ x, Go.ways w₁ (gs.setIfInBounds i ph) cc = [x] → (do
      let a ← choose (.select rdy.length)
      let (k, c, ws) := rdy.getD a (0, default, [])
      let b ← choose (.extern "which waiting goroutine is the partner" ws.length)
      pure (k, c, ws.getD b .closed) : Sem (Nat × CommCase × Way)).run P w₁ = .ok (k, cc, x) (w₁.at d) := by
    intro x hx'
    rw [Sem.run_bind, hd.1]
    simp [hx, hx', choose, Sem.run, Question.forced, bind, Sem.bind, pure]
  refine ⟨k, cc, d, ?_⟩
  cases h1 with
  | @buf c z cap s r buf cl hc hb hp =>
    have hx' : Go.ways w₁ (gs.setIfInBounds i ph) (rcase c z) = [.buffer] := by simp [Go.ways, rcase, hc, hb]
    refine ⟨_, _, hmem, ?_, Took.buf (w := w₁.at d) hc hb hp⟩
    unfold communicate
    simp only [hr, hemp, hwr _ hx']
    rw [if_neg (by rw [Bool.not_eq_true]; exact hill)]
    simp [rcase, World.at, hc, hp, World.setChan, crowd, finishComm_served']
  | @bufS c z cap s r buf cl j gj v zj hc hb hij hj hp =>
    have hx' : Go.ways w₁ (gs.setIfInBounds i ph) (rcase c z) = [.buffer] := by simp [Go.ways, rcase, hc, hb]
    have hj' := stand_get (i := i) hij hj
    have hfp := finishPartner_at P (gs.setIfInBounds i ph) hj' (cs := #[scase c v zj]) (sh := .send) rfl 0 undef
    have hgd' : (gs.setIfInBounds i ph).getD j default = parked gj #[scase c v zj] .send := by rw [Array.getD_eq_getD_getElem?, hj']; rfl
    have hov : offeredValue (gs.setIfInBounds i ph) j 0 = v := by simp [offeredValue, hj', parked, scase]
    refine ⟨_, _, hmem, ?_, Took.bufS (w := w₁.at d) hc hb hij hj hp⟩
    unfold communicate
    simp only [hr, hemp, hwr _ hx']
    rw [if_neg (by rw [Bool.not_eq_true]; exact hill)]
    simp [rcase, World.at, hc, hp, World.setChan, crowd, finishComm_served', choose, Sem.run, Question.forced, hfp, hgd', hov, set_stand2, finishComm_parked, scase, parked]
    rfl
  | @shut c z cap s r hc hp =>
    have hx' : Go.ways w₁ (gs.setIfInBounds i ph) (rcase c z) = [.closed] := by simp [Go.ways, rcase, hc, hp]
    refine ⟨_, _, hmem, ?_, Took.shut (w := w₁.at d) hc hp⟩
    unfold communicate
    simp only [hr, hemp, hwr _ hx']
    rw [if_neg (by rw [Bool.not_eq_true]; exact hill)]
    simp [rcase, World.at, crowd, finishComm_served']

/-- ████ THE SELECT OF TWO. ████ -/
theorem crowd_sel2 {c0 c1 : CommCase} (hi : gs[i]? = some g) (h : stepG P (i == 0) g w = .comm g₂ #[c0, c1] true .select w₁ es)
    (h0 : NoWays w₁ (gs.setIfInBounds i ph) c0 ∨ Way1 gs i w₁ c0) (h1 : NoWays w₁ (gs.setIfInBounds i ph) c1 ∨ Way1 gs i w₁ c1) (hs : Way1 gs i w₁ c0 ∨ Way1 gs i w₁ c1) :
    ∃ k cc d m ops, ((k = 0 ∧ cc = c0) ∨ (k = 1 ∧ cc = c1)) ∧ runT P (crowd gs w sl) i = (.next m, MemOp.ofEvents i g.frame.fn g.frame.place es ++ ops) ∧ Took P gs i g₂ #[c0, c1] (w₁.at d) sl k cc m ops := by
  have hill : (#[c0, c1] : Array CommCase).any (illMade w₁) = false := by
    have e0 : illMade w₁ c0 = false := h0.elim (·.1) (·.made)
    have e1 : illMade w₁ c1 = false := h1.elim (·.1) (·.made)
    simp [e0, e1]
  have key : ∃ rdy, ((#[c0, c1].zipIdx.toList.map fun (c, k) => (k, c, Go.ways w₁ (gs.setIfInBounds i ph) c)).filter fun (_, _, ws) => !ws.isEmpty) = rdy ∧ rdy ≠ [] ∧
      ∀ x ∈ rdy, Way1 gs i w₁ x.2.1 ∧ x.2.2 = Go.ways w₁ (gs.setIfInBounds i ph) x.2.1 ∧ ((x.1 = 0 ∧ x.2.1 = c0) ∨ (x.1 = 1 ∧ x.2.1 = c1)) := by
    rcases h0 with n0 | y0 <;> rcases h1 with n1 | y1
    · exfalso
      rcases hs with y | y
      · obtain ⟨x, hx⟩ := y.ways; rw [n0.2] at hx; cases hx
      · obtain ⟨x, hx⟩ := y.ways; rw [n1.2] at hx; cases hx
    · obtain ⟨x1, hx1⟩ := y1.ways
      refine ⟨[(1, c1, [x1])], by simp [n0.2, hx1, List.zipIdx_cons], by simp, fun x hx => ?_⟩
      simp only [List.mem_singleton] at hx
      subst hx
      exact ⟨y1, hx1.symm, .inr ⟨rfl, rfl⟩⟩
    · obtain ⟨x0, hx0⟩ := y0.ways
      refine ⟨[(0, c0, [x0])], by simp [n1.2, hx0, List.zipIdx_cons], by simp, fun x hx => ?_⟩
      simp only [List.mem_singleton] at hx
      subst hx
      exact ⟨y0, hx0.symm, .inl ⟨rfl, rfl⟩⟩
    · obtain ⟨x0, hx0⟩ := y0.ways
      obtain ⟨x1, hx1⟩ := y1.ways
      refine ⟨[(0, c0, [x0]), (1, c1, [x1])], by simp [hx0, hx1, List.zipIdx_cons], by simp, fun x hx => ?_⟩
      simp only [List.mem_cons, List.not_mem_nil, or_false] at hx
      rcases hx with rfl | rfl
      · exact ⟨y0, hx0.symm, .inl ⟨rfl, rfl⟩⟩
      · exact ⟨y1, hx1.symm, .inr ⟨rfl, rfl⟩⟩
  obtain ⟨rdy, hr, hne, hall⟩ := key
  obtain ⟨k, cc, d, m, ops, hm, hc, ht⟩ := comm_pick (P := P) (sl := sl) (g₂ := g₂) hill hr hne (fun x hx => ⟨(hall x hx).1, (hall x hx).2.1⟩)
  refine ⟨k, cc, d, m, ops, (hall _ hm).2.2, ?_, ht⟩
  rw [runT_crowd_comm hi h]
  have e : (crowd gs w sl).rest = (crowd gs w₁ sl).rest := rfl
  rw [e, hc]

end
end Go.Proofs.Ytafnbmokegomaaa
