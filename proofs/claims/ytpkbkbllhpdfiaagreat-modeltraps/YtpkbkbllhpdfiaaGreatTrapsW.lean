/- ModelTraps: its walk. -/
import Derived.Test.YtpkbkbllhpdfiaaGreatBoxes
namespace Go.Proofs.YtpkbkbllhpdfiaaGreat.M
open Go.ChangeShapes Go.WideShapes Go.ChangeAt Go.RowKit Go.Proofs.YtpkbkbllhpdfiaaGreat.Walks Go.Proofs.YtpkbkbllhpdfiaaGreat.Mod
set_option linter.unusedVariables false
set_option maxRecDepth 100000 in
set_option maxHeartbeats 8000000 in
theorem traps (L0 L1 : TL) (w : World) (h0 : Hid (NumsIn w L0)) (h1 : Hid (NumsIn w L1)) :
    Calls Tryz.prog 6 #[.slice L0.A L0.len L0.cap, .slice L1.A L1.len L1.cap] w fun e w' => e = .returned (.bool true) ∧ Fr w w' := by
  go_enter Tryz.func6, Tryz.ntmps6
  go_wp2_with fail
  refine (Raw_as L1 30 (by decide) _ h1).mono ?_; rintro e u1 ⟨v1, t1, rfl, hO, hl1, hF⟩
  have F1 := hid hF
  have O1 := hid hO
  have L30 := hid hl1
  clear hF hO hl1
  go_wp2_with fail
  refine (Image_as L0 _ (h0.out.fr F1.out)).mono ?_; rintro e u2 ⟨b2, c2, t2, rfl, hR, hw, hF⟩
  have F2 := hid (F1.out.trans hF)
  have O2 := hid (O1.out.fr hF)
  have W2 := hid (Row.words hR hw)
  clear hF hR hw O1 F1
  go_wp2_with (first | (at_builtin; refine wpList_appW w _ (by rfl) _ _ rfl v1 t1 rfl (by exact O2.out) _ 776 c2 _ rfl (by exact W2.out) (fun e => by cases e) (by have := L30.out; omega) (by exact F2.out) ?_))
  intro v3 t3 u3 O3 e3 F3
  obtain ⟨A3, c3, rfl, hW3, _⟩ := O3.out.words
  have W3 := hid hW3
  have T3 : Hid (t3.length ≤ 1024) := by have := L30.out; unfold Hid; omega
  clear hW3 e3 O3
  obtain ⟨s, hs⟩ : ∃ s, ini (fun j => t3.getD j 0) t3.length = s := ⟨_, rfl⟩
  have I : Hid (Inv s) := by
    rw [← hs]
    exact ini_inv _ _ fun j hj => by obtain ⟨_, _, _, _, _, h⟩ := W3.out j hj; exact h
  have n0 : Hid (s.n = 0) := by unfold Hid; rw [← hs]; rfl
  have HS := hid hs
  clear hs
  go_wp2_with fail
  refine (new_as A3 t3.length c3 _ T3.out _ W3.out).mono ?_; rintro e u4 ⟨rfl, hM, hF⟩
  rw [HS.out] at hM
  have F4 := hid (F3.out.trans hF)
  have hB : Hid (w.heap.size ≤ u3.heap.size) := F3.out.size
  have MM := hid hM
  clear hM hF
  generalize u3.heap.size = B at *
  go_wp2_with fail
  go_loopw [7] (fun t wr => ∃ d : Nat, (d : Int) ≤ 120 ∧ t = .int .i64 d ∧ Hid (∃ v, MAt B (its d s) v wr ∧ Fr w wr ∧ ∀ g, v.ownBlock = some g → w.heap.size ≤ g)) (fun t _ => 120 - (intOf t).toNat)
  case atStart => exact ⟨0, by omega, rfl, _, MM.out, F4.out, fun g e => by simp [Value.ownBlock] at e⟩
  case round =>
    obtain ⟨d, hd9, rfl, HD⟩ := hrel
    rename_i wr
    obtain ⟨v, hm, hF, hvb⟩ := HD.out
    have M0 := hid hm
    have F0 := hid hF
    have V0 := hid hvb
    have ND : Hid ((its d s).n ≤ 100000) := by
      have a1 := its_n d s
      have a2 := did_le d s
      have a3 := n0.out
      unfold Hid
      omega
    have ID := hid (its_inv d I.out)
    have LD : Hid ((its d s).t.length ≤ 100000) := by have := ID.out.t; have := ND.out; unfold Hid; omega
    have LE0 : Hid ((its (d + 1) s).t.length ≤ 100000) := by
      have a1 := its_n (d + 1) s
      have a2 := did_le (d + 1) s
      have a3 := n0.out
      have a4 := (its_inv (d + 1) I.out).t
      unfold Hid
      omega
    have EN := hid (its_succ d s)
    clear HD hm hF hvb
    generalize its d s = st at *
    by_cases hlt : (d : Int) < 120
    · go_wp2_with fail
      refine (state_as B st v _ M0).mono ?_; rintro e w1 ⟨v1, rfl, hO, hn, hF1⟩
      obtain ⟨g1, cap1, rfl, hg1⟩ := own_form hO hn
      have F1 := hid hF1
      clear hO hn hF1 hg1
      go_wp2_with (first | (refine wpList_st39 w1 rfl _ _ rfl st g1 cap1 rfl rfl ?_))
      intro W2 X2 G2
      have F2 := hid (F1.out.trans G2.out)
      go_wp2_with fail
      refine (trace_as B st v LD.out _ (M0.out.fr F2.out)).mono ?_; rintro e w3 ⟨vt, rfl, hO, hF3⟩
      obtain ⟨At, ct, rfl, _⟩ := own_rowIn hO
      have F3 := hid (F2.out.trans hF3)
      have X3 := hid (X2.out.fr hF3)
      have S1 := hid F1.out.size
      clear hO hF3 X2 F2 G2
      by_cases hh : st.h = true
      · go_wp2_with fail
        refine (step_halted B st v hh _ (M0.out.fr F3.out)).mono ?_; rintro e w4 ⟨rfl, hN⟩
        have F4 : Hid (Fr w w4) := chg_fr (F0.out.trans F3.out) hN.2 hB.out V0.out
        clear hN
        go_wp2_with fail
        refine (known_as _).mono ?_; rintro e w5 ⟨rfl, hF⟩
        have F5 := hid ((F4.out.alloc _).trans hF)
        clear hF
        go_wp2_with fail
        go_ret
        exact ⟨rfl, F5.out⟩
      · obtain ⟨q, s', E⟩ : ∃ q s', st.stp = (q, s') := ⟨_, _, rfl⟩
        have hf : st.h = false := by simpa using hh
        have E1 : Hid (its (d + 1) s = s') := by unfold Hid; rw [EN.out, if_neg hh, E]
        have sy := says st
        rw [E] at sy
        have LE : Hid (s'.t.length ≤ 100000) := by have := LE0.out; rw [E1.out] at this; exact this
        have EE := hid E
        obtain ⟨q1, q2, q3, q4, q5, q6, q7⟩ := q
        obtain rfl : q1 = st.pc := sy.pc
        have SY := hid sy
        clear E sy hh EN LE0
        go_wp2_with fail
        refine (step_as B st v ID.out hf ND.out _ s' EE _ (M0.out.fr F3.out)).mono ?_; rintro e w4 ⟨rfl, v4, hm, hc, hv⟩
        have M4 := hid hm
        have X4 : Hid (St39 w1.heap.size st (.slice (some ⟨g1, 0, none⟩) 1024 cap1) w4) := X3.out.block (hc.block _ X3.out.lt (by have := M0.out.lt; have := S1.out; omega) (fun e => by have := own_lt M0.out.tr e; have := S1.out; omega))
        have F4 : Hid (Fr w w4) := chg_fr (F0.out.trans F3.out) hc hB.out V0.out
        have V4 : Hid (∀ g, v4.ownBlock = some g → w.heap.size ≤ g) := moves_ge (F0.out.trans F3.out).size hv V0.out
        clear hm hc hv X3 F3 M0 V0 F0
        have A4 := hid ((Fr.refl w4).alloc (.cells (rc st.pc q2 q3 q4 q5 q6 q7) 38))
        go_wp2_with fail
        refine (state_as B s' v4 _ (by exact M4.out.fr A4.out)).mono ?_; rintro e w5 ⟨v5, rfl, hO, hn, hF5⟩
        obtain ⟨g5, cap5, rfl, hg5⟩ := own_form hO hn
        have F5 := hid hF5
        clear hO hn hF5 hg5
        go_wp2_with (first | (refine wpList_st39 w5 rfl _ _ rfl s' g5 cap5 rfl rfl ?_))
        intro W6 X6 G6
        have F56 := hid (F5.out.trans G6.out)
        have F6 := hid ((F4.out.trans A4.out).trans F56.out)
        have M6 := hid ((M4.out.fr A4.out).fr F56.out)
        have X8 := hid ((X4.out.fr A4.out).fr F56.out)
        have rr : ∀ k, W6.cell? ⟨w4.heap.size, k, none⟩ = (rc st.pc q2 q3 q4 q5 q6 q7)[k]? := fun k => by
          rw [F56.out.cell w4.heap.size k (by simp), World.cell?_alloc_at _ _ _ _ rfl]
        have r0 : W6.cell? ⟨w4.heap.size, 0, none⟩ = some (.int .u32 st.pc) := rr 0
        have r2 : W6.cell? ⟨w4.heap.size, 2, none⟩ = some (.int .i64 q3) := rr 2
        have r3 : W6.cell? ⟨w4.heap.size, 3, none⟩ = some (.bool q4) := rr 3
        clear rr
        have a0 := X8.out.p
        have a33 := X8.out.c 0 (by decide)
        have a35 := X8.out.c 2 (by decide)
        have a36 := X8.out.c 3 (by decide)
        have a37 := X8.out.c 4 (by decide)
        have b0 := X6.out.p
        have b35 := X6.out.c 2 (by decide)
        have b36 := X6.out.c 3 (by decide)
        have b37 := X6.out.c 4 (by decide)
        clear X4 G6 F5 A4 F56 M4 F4
        by_cases h2 : s'.c 2 = st.c 2
        · by_cases h3 : s'.c 3 = st.c 3
          · by_cases h4 : s'.c 4 = st.c 4
            · cases q4
              · have ht : s'.t = st.t := SY.out.t rfl
                go_wp2_with fail
                refine (trace_as B s' v4 LE.out _ (M6.out)).mono ?_; rintro e w7 ⟨vt, rfl, hO, hF⟩
                rw [ht] at hO
                obtain ⟨At, ct, rfl, _⟩ := own_rowIn hO
                have F7 := hid (F6.out.trans hF)
                have M7 := hid (M6.out.fr hF)
                clear hO hF
                go_wp2_with fail
                exact ⟨⟨d + 1, by omega, by rw [Int.natCast_add]; rfl, v4, by rw [E1.out]; exact M7.out, F7.out, V4.out⟩, by simp [intOf]; omega⟩
              · go_wp2_with fail
                exact ⟨⟨d + 1, by omega, by rw [Int.natCast_add]; rfl, v4, by rw [E1.out]; exact M6.out, F6.out, V4.out⟩, by simp [intOf]; omega⟩
            · by_cases hd : q3 = 0
              · cases q4
                · have ht : s'.t = st.t := SY.out.t rfl
                  have hr : s'.r = st.r := SY.out.r hd
                  have Rb : Hid (W6.rangeAt w5.heap.size 1 [.int .u32 (st.r 0), .int .u32 (st.r 1), .int .u32 (st.r 2), .int .u32 (st.r 3), .int .u32 (st.r 4), .int .u32 (st.r 5), .int .u32 (st.r 6), .int .u32 (st.r 7), .int .u32 (st.r 8), .int .u32 (st.r 9), .int .u32 (st.r 10), .int .u32 (st.r 11), .int .u32 (st.r 12), .int .u32 (st.r 13), .int .u32 (st.r 14), .int .u32 (st.r 15), .int .u32 (st.r 16), .int .u32 (st.r 17), .int .u32 (st.r 18), .int .u32 (st.r 19), .int .u32 (st.r 20), .int .u32 (st.r 21), .int .u32 (st.r 22), .int .u32 (st.r 23), .int .u32 (st.r 24), .int .u32 (st.r 25), .int .u32 (st.r 26), .int .u32 (st.r 27), .int .u32 (st.r 28), .int .u32 (st.r 29), .int .u32 (st.r 30), .int .u32 (st.r 31)]) := by
                    have := X6.out.r
                    unfold rgL at this
                    rw [hr] at this
                    exact this
                  have Ra : Hid (W6.rangeAt w1.heap.size 1 [.int .u32 (st.r 0), .int .u32 (st.r 1), .int .u32 (st.r 2), .int .u32 (st.r 3), .int .u32 (st.r 4), .int .u32 (st.r 5), .int .u32 (st.r 6), .int .u32 (st.r 7), .int .u32 (st.r 8), .int .u32 (st.r 9), .int .u32 (st.r 10), .int .u32 (st.r 11), .int .u32 (st.r 12), .int .u32 (st.r 13), .int .u32 (st.r 14), .int .u32 (st.r 15), .int .u32 (st.r 16), .int .u32 (st.r 17), .int .u32 (st.r 18), .int .u32 (st.r 19), .int .u32 (st.r 20), .int .u32 (st.r 21), .int .u32 (st.r 22), .int .u32 (st.r 23), .int .u32 (st.r 24), .int .u32 (st.r 25), .int .u32 (st.r 26), .int .u32 (st.r 27), .int .u32 (st.r 28), .int .u32 (st.r 29), .int .u32 (st.r 30), .int .u32 (st.r 31)]) := X8.out.r
                  have e1 := rg_neq st
                  by_cases h5 : s'.pc = st.c 0
                  · by_cases h6 : s'.c 2 = st.pc
                    · go_wp2_with (first
                        | (refine load_want (by rfl) 41 _ rfl w5.heap.size 1 rfl [.int .u32 (st.r 0), .int .u32 (st.r 1), .int .u32 (st.r 2), .int .u32 (st.r 3), .int .u32 (st.r 4), .int .u32 (st.r 5), .int .u32 (st.r 6), .int .u32 (st.r 7), .int .u32 (st.r 8), .int .u32 (st.r 9), .int .u32 (st.r 10), .int .u32 (st.r 11), .int .u32 (st.r 12), .int .u32 (st.r 13), .int .u32 (st.r 14), .int .u32 (st.r 15), .int .u32 (st.r 16), .int .u32 (st.r 17), .int .u32 (st.r 18), .int .u32 (st.r 19), .int .u32 (st.r 20), .int .u32 (st.r 21), .int .u32 (st.r 22), .int .u32 (st.r 23), .int .u32 (st.r 24), .int .u32 (st.r 25), .int .u32 (st.r 26), .int .u32 (st.r 27), .int .u32 (st.r 28), .int .u32 (st.r 29), .int .u32 (st.r 30), .int .u32 (st.r 31)] _ Rb.out Tryz.underlying41 rfl size41 ?_)
                        | (refine load_want (by rfl) 41 _ rfl w1.heap.size 1 rfl [.int .u32 (st.r 0), .int .u32 (st.r 1), .int .u32 (st.r 2), .int .u32 (st.r 3), .int .u32 (st.r 4), .int .u32 (st.r 5), .int .u32 (st.r 6), .int .u32 (st.r 7), .int .u32 (st.r 8), .int .u32 (st.r 9), .int .u32 (st.r 10), .int .u32 (st.r 11), .int .u32 (st.r 12), .int .u32 (st.r 13), .int .u32 (st.r 14), .int .u32 (st.r 15), .int .u32 (st.r 16), .int .u32 (st.r 17), .int .u32 (st.r 18), .int .u32 (st.r 19), .int .u32 (st.r 20), .int .u32 (st.r 21), .int .u32 (st.r 22), .int .u32 (st.r 23), .int .u32 (st.r 24), .int .u32 (st.r 25), .int .u32 (st.r 26), .int .u32 (st.r 27), .int .u32 (st.r 28), .int .u32 (st.r 29), .int .u32 (st.r 30), .int .u32 (st.r 31)] _ Ra.out Tryz.underlying41 rfl size41 ?_))
                      refine (trace_as B s' v4 LE.out _ (M6.out)).mono ?_; rintro e w7 ⟨vt, rfl, hO, hF⟩
                      rw [ht] at hO
                      obtain ⟨At, ct, rfl, _⟩ := own_rowIn hO
                      have F7 := hid (F6.out.trans hF)
                      have M7 := hid (M6.out.fr hF)
                      clear hO hF
                      go_wp2_with fail
                      exact ⟨⟨d + 1, by omega, by rw [Int.natCast_add]; rfl, v4, by rw [E1.out]; exact M7.out, F7.out, V4.out⟩, by simp [intOf]; omega⟩
                    · go_wp2_with fail
                      exact ⟨⟨d + 1, by omega, by rw [Int.natCast_add]; rfl, v4, by rw [E1.out]; exact M6.out, F6.out, V4.out⟩, by simp [intOf]; omega⟩
                  · go_wp2_with fail
                    exact ⟨⟨d + 1, by omega, by rw [Int.natCast_add]; rfl, v4, by rw [E1.out]; exact M6.out, F6.out, V4.out⟩, by simp [intOf]; omega⟩
                · go_wp2_with fail
                  exact ⟨⟨d + 1, by omega, by rw [Int.natCast_add]; rfl, v4, by rw [E1.out]; exact M6.out, F6.out, V4.out⟩, by simp [intOf]; omega⟩
              · cases q4
                · have ht : s'.t = st.t := SY.out.t rfl
                  go_wp2_with fail
                  refine (trace_as B s' v4 LE.out _ (M6.out)).mono ?_; rintro e w7 ⟨vt, rfl, hO, hF⟩
                  rw [ht] at hO
                  obtain ⟨At, ct, rfl, _⟩ := own_rowIn hO
                  have F7 := hid (F6.out.trans hF)
                  have M7 := hid (M6.out.fr hF)
                  clear hO hF
                  go_wp2_with fail
                  exact ⟨⟨d + 1, by omega, by rw [Int.natCast_add]; rfl, v4, by rw [E1.out]; exact M7.out, F7.out, V4.out⟩, by simp [intOf]; omega⟩
                · go_wp2_with fail
                  exact ⟨⟨d + 1, by omega, by rw [Int.natCast_add]; rfl, v4, by rw [E1.out]; exact M6.out, F6.out, V4.out⟩, by simp [intOf]; omega⟩
          · by_cases hd : q3 = 0
            · cases q4
              · have ht : s'.t = st.t := SY.out.t rfl
                have hr : s'.r = st.r := SY.out.r hd
                have Rb : Hid (W6.rangeAt w5.heap.size 1 [.int .u32 (st.r 0), .int .u32 (st.r 1), .int .u32 (st.r 2), .int .u32 (st.r 3), .int .u32 (st.r 4), .int .u32 (st.r 5), .int .u32 (st.r 6), .int .u32 (st.r 7), .int .u32 (st.r 8), .int .u32 (st.r 9), .int .u32 (st.r 10), .int .u32 (st.r 11), .int .u32 (st.r 12), .int .u32 (st.r 13), .int .u32 (st.r 14), .int .u32 (st.r 15), .int .u32 (st.r 16), .int .u32 (st.r 17), .int .u32 (st.r 18), .int .u32 (st.r 19), .int .u32 (st.r 20), .int .u32 (st.r 21), .int .u32 (st.r 22), .int .u32 (st.r 23), .int .u32 (st.r 24), .int .u32 (st.r 25), .int .u32 (st.r 26), .int .u32 (st.r 27), .int .u32 (st.r 28), .int .u32 (st.r 29), .int .u32 (st.r 30), .int .u32 (st.r 31)]) := by
                  have := X6.out.r
                  unfold rgL at this
                  rw [hr] at this
                  exact this
                have Ra : Hid (W6.rangeAt w1.heap.size 1 [.int .u32 (st.r 0), .int .u32 (st.r 1), .int .u32 (st.r 2), .int .u32 (st.r 3), .int .u32 (st.r 4), .int .u32 (st.r 5), .int .u32 (st.r 6), .int .u32 (st.r 7), .int .u32 (st.r 8), .int .u32 (st.r 9), .int .u32 (st.r 10), .int .u32 (st.r 11), .int .u32 (st.r 12), .int .u32 (st.r 13), .int .u32 (st.r 14), .int .u32 (st.r 15), .int .u32 (st.r 16), .int .u32 (st.r 17), .int .u32 (st.r 18), .int .u32 (st.r 19), .int .u32 (st.r 20), .int .u32 (st.r 21), .int .u32 (st.r 22), .int .u32 (st.r 23), .int .u32 (st.r 24), .int .u32 (st.r 25), .int .u32 (st.r 26), .int .u32 (st.r 27), .int .u32 (st.r 28), .int .u32 (st.r 29), .int .u32 (st.r 30), .int .u32 (st.r 31)]) := X8.out.r
                have e1 := rg_neq st
                by_cases h5 : s'.pc = st.c 0
                · by_cases h6 : s'.c 2 = st.pc
                  · go_wp2_with (first
                      | (refine load_want (by rfl) 41 _ rfl w5.heap.size 1 rfl [.int .u32 (st.r 0), .int .u32 (st.r 1), .int .u32 (st.r 2), .int .u32 (st.r 3), .int .u32 (st.r 4), .int .u32 (st.r 5), .int .u32 (st.r 6), .int .u32 (st.r 7), .int .u32 (st.r 8), .int .u32 (st.r 9), .int .u32 (st.r 10), .int .u32 (st.r 11), .int .u32 (st.r 12), .int .u32 (st.r 13), .int .u32 (st.r 14), .int .u32 (st.r 15), .int .u32 (st.r 16), .int .u32 (st.r 17), .int .u32 (st.r 18), .int .u32 (st.r 19), .int .u32 (st.r 20), .int .u32 (st.r 21), .int .u32 (st.r 22), .int .u32 (st.r 23), .int .u32 (st.r 24), .int .u32 (st.r 25), .int .u32 (st.r 26), .int .u32 (st.r 27), .int .u32 (st.r 28), .int .u32 (st.r 29), .int .u32 (st.r 30), .int .u32 (st.r 31)] _ Rb.out Tryz.underlying41 rfl size41 ?_)
                      | (refine load_want (by rfl) 41 _ rfl w1.heap.size 1 rfl [.int .u32 (st.r 0), .int .u32 (st.r 1), .int .u32 (st.r 2), .int .u32 (st.r 3), .int .u32 (st.r 4), .int .u32 (st.r 5), .int .u32 (st.r 6), .int .u32 (st.r 7), .int .u32 (st.r 8), .int .u32 (st.r 9), .int .u32 (st.r 10), .int .u32 (st.r 11), .int .u32 (st.r 12), .int .u32 (st.r 13), .int .u32 (st.r 14), .int .u32 (st.r 15), .int .u32 (st.r 16), .int .u32 (st.r 17), .int .u32 (st.r 18), .int .u32 (st.r 19), .int .u32 (st.r 20), .int .u32 (st.r 21), .int .u32 (st.r 22), .int .u32 (st.r 23), .int .u32 (st.r 24), .int .u32 (st.r 25), .int .u32 (st.r 26), .int .u32 (st.r 27), .int .u32 (st.r 28), .int .u32 (st.r 29), .int .u32 (st.r 30), .int .u32 (st.r 31)] _ Ra.out Tryz.underlying41 rfl size41 ?_))
                    refine (trace_as B s' v4 LE.out _ (M6.out)).mono ?_; rintro e w7 ⟨vt, rfl, hO, hF⟩
                    rw [ht] at hO
                    obtain ⟨At, ct, rfl, _⟩ := own_rowIn hO
                    have F7 := hid (F6.out.trans hF)
                    have M7 := hid (M6.out.fr hF)
                    clear hO hF
                    go_wp2_with fail
                    exact ⟨⟨d + 1, by omega, by rw [Int.natCast_add]; rfl, v4, by rw [E1.out]; exact M7.out, F7.out, V4.out⟩, by simp [intOf]; omega⟩
                  · go_wp2_with fail
                    exact ⟨⟨d + 1, by omega, by rw [Int.natCast_add]; rfl, v4, by rw [E1.out]; exact M6.out, F6.out, V4.out⟩, by simp [intOf]; omega⟩
                · go_wp2_with fail
                  exact ⟨⟨d + 1, by omega, by rw [Int.natCast_add]; rfl, v4, by rw [E1.out]; exact M6.out, F6.out, V4.out⟩, by simp [intOf]; omega⟩
              · go_wp2_with fail
                exact ⟨⟨d + 1, by omega, by rw [Int.natCast_add]; rfl, v4, by rw [E1.out]; exact M6.out, F6.out, V4.out⟩, by simp [intOf]; omega⟩
            · cases q4
              · have ht : s'.t = st.t := SY.out.t rfl
                go_wp2_with fail
                refine (trace_as B s' v4 LE.out _ (M6.out)).mono ?_; rintro e w7 ⟨vt, rfl, hO, hF⟩
                rw [ht] at hO
                obtain ⟨At, ct, rfl, _⟩ := own_rowIn hO
                have F7 := hid (F6.out.trans hF)
                have M7 := hid (M6.out.fr hF)
                clear hO hF
                go_wp2_with fail
                exact ⟨⟨d + 1, by omega, by rw [Int.natCast_add]; rfl, v4, by rw [E1.out]; exact M7.out, F7.out, V4.out⟩, by simp [intOf]; omega⟩
              · go_wp2_with fail
                exact ⟨⟨d + 1, by omega, by rw [Int.natCast_add]; rfl, v4, by rw [E1.out]; exact M6.out, F6.out, V4.out⟩, by simp [intOf]; omega⟩
        · by_cases hd : q3 = 0
          · cases q4
            · have ht : s'.t = st.t := SY.out.t rfl
              have hr : s'.r = st.r := SY.out.r hd
              have Rb : Hid (W6.rangeAt w5.heap.size 1 [.int .u32 (st.r 0), .int .u32 (st.r 1), .int .u32 (st.r 2), .int .u32 (st.r 3), .int .u32 (st.r 4), .int .u32 (st.r 5), .int .u32 (st.r 6), .int .u32 (st.r 7), .int .u32 (st.r 8), .int .u32 (st.r 9), .int .u32 (st.r 10), .int .u32 (st.r 11), .int .u32 (st.r 12), .int .u32 (st.r 13), .int .u32 (st.r 14), .int .u32 (st.r 15), .int .u32 (st.r 16), .int .u32 (st.r 17), .int .u32 (st.r 18), .int .u32 (st.r 19), .int .u32 (st.r 20), .int .u32 (st.r 21), .int .u32 (st.r 22), .int .u32 (st.r 23), .int .u32 (st.r 24), .int .u32 (st.r 25), .int .u32 (st.r 26), .int .u32 (st.r 27), .int .u32 (st.r 28), .int .u32 (st.r 29), .int .u32 (st.r 30), .int .u32 (st.r 31)]) := by
                have := X6.out.r
                unfold rgL at this
                rw [hr] at this
                exact this
              have Ra : Hid (W6.rangeAt w1.heap.size 1 [.int .u32 (st.r 0), .int .u32 (st.r 1), .int .u32 (st.r 2), .int .u32 (st.r 3), .int .u32 (st.r 4), .int .u32 (st.r 5), .int .u32 (st.r 6), .int .u32 (st.r 7), .int .u32 (st.r 8), .int .u32 (st.r 9), .int .u32 (st.r 10), .int .u32 (st.r 11), .int .u32 (st.r 12), .int .u32 (st.r 13), .int .u32 (st.r 14), .int .u32 (st.r 15), .int .u32 (st.r 16), .int .u32 (st.r 17), .int .u32 (st.r 18), .int .u32 (st.r 19), .int .u32 (st.r 20), .int .u32 (st.r 21), .int .u32 (st.r 22), .int .u32 (st.r 23), .int .u32 (st.r 24), .int .u32 (st.r 25), .int .u32 (st.r 26), .int .u32 (st.r 27), .int .u32 (st.r 28), .int .u32 (st.r 29), .int .u32 (st.r 30), .int .u32 (st.r 31)]) := X8.out.r
              have e1 := rg_neq st
              by_cases h5 : s'.pc = st.c 0
              · by_cases h6 : s'.c 2 = st.pc
                · go_wp2_with (first
                    | (refine load_want (by rfl) 41 _ rfl w5.heap.size 1 rfl [.int .u32 (st.r 0), .int .u32 (st.r 1), .int .u32 (st.r 2), .int .u32 (st.r 3), .int .u32 (st.r 4), .int .u32 (st.r 5), .int .u32 (st.r 6), .int .u32 (st.r 7), .int .u32 (st.r 8), .int .u32 (st.r 9), .int .u32 (st.r 10), .int .u32 (st.r 11), .int .u32 (st.r 12), .int .u32 (st.r 13), .int .u32 (st.r 14), .int .u32 (st.r 15), .int .u32 (st.r 16), .int .u32 (st.r 17), .int .u32 (st.r 18), .int .u32 (st.r 19), .int .u32 (st.r 20), .int .u32 (st.r 21), .int .u32 (st.r 22), .int .u32 (st.r 23), .int .u32 (st.r 24), .int .u32 (st.r 25), .int .u32 (st.r 26), .int .u32 (st.r 27), .int .u32 (st.r 28), .int .u32 (st.r 29), .int .u32 (st.r 30), .int .u32 (st.r 31)] _ Rb.out Tryz.underlying41 rfl size41 ?_)
                    | (refine load_want (by rfl) 41 _ rfl w1.heap.size 1 rfl [.int .u32 (st.r 0), .int .u32 (st.r 1), .int .u32 (st.r 2), .int .u32 (st.r 3), .int .u32 (st.r 4), .int .u32 (st.r 5), .int .u32 (st.r 6), .int .u32 (st.r 7), .int .u32 (st.r 8), .int .u32 (st.r 9), .int .u32 (st.r 10), .int .u32 (st.r 11), .int .u32 (st.r 12), .int .u32 (st.r 13), .int .u32 (st.r 14), .int .u32 (st.r 15), .int .u32 (st.r 16), .int .u32 (st.r 17), .int .u32 (st.r 18), .int .u32 (st.r 19), .int .u32 (st.r 20), .int .u32 (st.r 21), .int .u32 (st.r 22), .int .u32 (st.r 23), .int .u32 (st.r 24), .int .u32 (st.r 25), .int .u32 (st.r 26), .int .u32 (st.r 27), .int .u32 (st.r 28), .int .u32 (st.r 29), .int .u32 (st.r 30), .int .u32 (st.r 31)] _ Ra.out Tryz.underlying41 rfl size41 ?_))
                  refine (trace_as B s' v4 LE.out _ (M6.out)).mono ?_; rintro e w7 ⟨vt, rfl, hO, hF⟩
                  rw [ht] at hO
                  obtain ⟨At, ct, rfl, _⟩ := own_rowIn hO
                  have F7 := hid (F6.out.trans hF)
                  have M7 := hid (M6.out.fr hF)
                  clear hO hF
                  go_wp2_with fail
                  exact ⟨⟨d + 1, by omega, by rw [Int.natCast_add]; rfl, v4, by rw [E1.out]; exact M7.out, F7.out, V4.out⟩, by simp [intOf]; omega⟩
                · go_wp2_with fail
                  exact ⟨⟨d + 1, by omega, by rw [Int.natCast_add]; rfl, v4, by rw [E1.out]; exact M6.out, F6.out, V4.out⟩, by simp [intOf]; omega⟩
              · go_wp2_with fail
                exact ⟨⟨d + 1, by omega, by rw [Int.natCast_add]; rfl, v4, by rw [E1.out]; exact M6.out, F6.out, V4.out⟩, by simp [intOf]; omega⟩
            · go_wp2_with fail
              exact ⟨⟨d + 1, by omega, by rw [Int.natCast_add]; rfl, v4, by rw [E1.out]; exact M6.out, F6.out, V4.out⟩, by simp [intOf]; omega⟩
          · cases q4
            · have ht : s'.t = st.t := SY.out.t rfl
              go_wp2_with fail
              refine (trace_as B s' v4 LE.out _ (M6.out)).mono ?_; rintro e w7 ⟨vt, rfl, hO, hF⟩
              rw [ht] at hO
              obtain ⟨At, ct, rfl, _⟩ := own_rowIn hO
              have F7 := hid (F6.out.trans hF)
              have M7 := hid (M6.out.fr hF)
              clear hO hF
              go_wp2_with fail
              exact ⟨⟨d + 1, by omega, by rw [Int.natCast_add]; rfl, v4, by rw [E1.out]; exact M7.out, F7.out, V4.out⟩, by simp [intOf]; omega⟩
            · go_wp2_with fail
              exact ⟨⟨d + 1, by omega, by rw [Int.natCast_add]; rfl, v4, by rw [E1.out]; exact M6.out, F6.out, V4.out⟩, by simp [intOf]; omega⟩
    · go_wp2_with fail
      refine (known_as _).mono ?_; rintro e w5 ⟨rfl, hF⟩
      have F5 := hid (F0.out.trans hF)
      clear hF
      go_wp2_with fail
      go_ret
      exact ⟨rfl, F5.out⟩
end Go.Proofs.YtpkbkbllhpdfiaaGreat.M
