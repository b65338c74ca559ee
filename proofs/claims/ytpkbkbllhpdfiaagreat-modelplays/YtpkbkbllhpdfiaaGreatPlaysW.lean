/- ModelPlays: its walk. -/
import Derived.Test.YtpkbkbllhpdfiaaGreatB32
namespace Go.Proofs.YtpkbkbllhpdfiaaGreat.M
open Go.ChangeShapes Go.WideShapes Go.ChangeAt Go.RowKit Go.Proofs.YtpkbkbllhpdfiaaGreat.Walks Go.Proofs.YtpkbkbllhpdfiaaGreat.Mod
set_option linter.unusedVariables false
set_option maxRecDepth 100000 in
set_option maxHeartbeats 1000000 in
theorem plays_short (L0 L2 : TL) (A1 : Option Addr) (len1 cap1 : Nat) (z1 : Nat → Int) (hs : (len1 : Int) ≤ 1100) (w : World) (h0 : Hid (NumsIn w L0)) (h2 : Hid (NumsIn w L2)) (h1 : Hid (WordsIn w A1 len1 z1)) (hA1 : A1 = none → len1 = 0 ∧ cap1 = 0) :
    Calls Tryz.prog 4 #[.slice L0.A L0.len L0.cap, .slice A1 len1 cap1, .slice L2.A L2.len L2.cap] w fun e w' => e = .returned (.bool true) ∧ Fr w w' := by
  go_enter Tryz.func4, Tryz.ntmps4
  go_wp2_with fail
  refine (Image_as L0 _ (by exact h0.out)).mono ?_; rintro e w1 ⟨b1, c1, t1, rfl, hR, hw, hF⟩
  have F1 := hid hF
  have W1 := hid (Row.words hR hw)
  clear hF hR hw
  go_wp2_with fail
  refine (play_as _ 776 c1 400 _ (by decide) _ W1.out).mono ?_; rintro e w2 ⟨rfl, hF⟩
  have F2 := hid (F1.out.trans hF)
  clear hF W1 F1
  go_wp2_with fail
  refine (Raw_as L2 80 (by decide) _ (h2.out.fr F2.out)).mono ?_; rintro e w3 ⟨v3, t3, rfl, hO, hl3, hF⟩
  have F3 := hid (F2.out.trans hF)
  obtain ⟨A3, c3, rfl, hW3, _⟩ := hO.words
  have W3 := hid hW3
  clear hF hO hW3 F2
  go_wp2_with fail
  refine (play_as A3 t3.length c3 80 _ (by decide) _ W3.out).mono ?_; rintro e w4 ⟨rfl, hF⟩
  have F4 := hid (F3.out.trans hF)
  clear hF W3 F3
  go_wp2_with fail
  refine (play_as A1 len1 cap1 40 z1 (by decide) _ (h1.out.fr F4.out)).mono ?_; rintro e w5 ⟨rfl, hF⟩
  have F5 := hid (F4.out.trans hF)
  clear hF F4
  go_wp2_with fail
  refine (Raw_as L2 40 (by decide) _ (by exact h2.out.fr (F5.out.alloc _))).mono ?_; rintro e w6 ⟨v6, t6, rfl, hO, hl6, hF⟩
  have F6 := hid ((F5.out.alloc (.cells #[] 36)).trans hF)
  have N6 : Hid (Own w.heap.size w6 (.slice (some ⟨w5.heap.size, 0, none⟩) 0 0) []) := ⟨(row_new w5 w.heap.size F5.out.size [] 0 rfl #[] rfl (by decide)).2 |> fun h => own_frN h hF, by simp⟩
  obtain ⟨A6, c6, rfl, hW6, hA6⟩ := hO.words
  have W6 := hid hW6
  have G6 := hid hA6
  have L6 := hid hl6
  clear hF hO hW6 hA6 F5 hl6
  go_wp2_with (first | (at_builtin; refine wpList_appW w _ (by rfl) _ _ rfl _ [] rfl (by exact N6.out) A6 t6.length c6 _ rfl (by exact W6.out) G6.out (by have := L6.out; simp; omega) (by exact F6.out) ?_))
  intro v7 t7 w7 O7 e7 F7
  have E7 := hid e7
  clear e7
  go_wp2_with (first | (at_builtin; refine wpList_appW w _ (by rfl) _ _ rfl v7 t7 rfl (by exact O7.out) A1 len1 cap1 z1 rfl (by exact h1.out.fr F7.out) hA1 (by have a1 := L6.out; have a2 := E7.out; (try simp at a2); omega) (by exact F7.out) ?_))
  intro v8 t8 w8 O8 e8 F8
  clear e8
  obtain ⟨A8, c8, rfl, hW8, _⟩ := O8.out.words
  have W8 := hid hW8
  clear hW8
  go_wp2_with fail
  refine (play_as A8 t8.length c8 60 _ (by decide) _ W8.out).mono ?_; rintro e w9 ⟨rfl, hF⟩
  have F9 := hid (F8.out.trans hF)
  clear hF
  go_wp2_with fail
  refine (known_as _).mono ?_; rintro e w10 ⟨rfl, hF⟩
  have F10 := hid (F9.out.trans hF)
  clear hF
  go_wp2_with fail
  go_ret
  exact ⟨rfl, F10.out⟩
set_option maxRecDepth 100000 in
set_option maxHeartbeats 1000000 in
theorem plays_long (L0 L2 : TL) (b o len1 cap1 : Nat) (z1 : Nat → Int) (hs : (1100 : Int) < len1) (hc : (len1 : Int) ≤ cap1) (hc2 : (1100 : Int) ≤ cap1) (w : World) (h0 : Hid (NumsIn w L0)) (h2 : Hid (NumsIn w L2)) (h1 : Hid (WordsIn w (some ⟨b, o, none⟩ : Option Addr) 1100 z1)) (hA1 : (some ⟨b, o, none⟩ : Option Addr) = none → 1100 = 0 ∧ cap1 = 0) :
    Calls Tryz.prog 4 #[.slice L0.A L0.len L0.cap, .slice (some ⟨b, o, none⟩) len1 cap1, .slice L2.A L2.len L2.cap] w fun e w' => e = .returned (.bool true) ∧ Fr w w' := by
  go_enter Tryz.func4, Tryz.ntmps4
  go_wp2_with fail
  refine (Image_as L0 _ (by exact h0.out)).mono ?_; rintro e w1 ⟨b1, c1, t1, rfl, hR, hw, hF⟩
  have F1 := hid hF
  have W1 := hid (Row.words hR hw)
  clear hF hR hw
  go_wp2_with fail
  refine (play_as _ 776 c1 400 _ (by decide) _ W1.out).mono ?_; rintro e w2 ⟨rfl, hF⟩
  have F2 := hid (F1.out.trans hF)
  clear hF W1 F1
  go_wp2_with fail
  refine (Raw_as L2 80 (by decide) _ (h2.out.fr F2.out)).mono ?_; rintro e w3 ⟨v3, t3, rfl, hO, hl3, hF⟩
  have F3 := hid (F2.out.trans hF)
  obtain ⟨A3, c3, rfl, hW3, _⟩ := hO.words
  have W3 := hid hW3
  clear hF hO hW3 F2
  go_wp2_with fail
  refine (play_as A3 t3.length c3 80 _ (by decide) _ W3.out).mono ?_; rintro e w4 ⟨rfl, hF⟩
  have F4 := hid (F3.out.trans hF)
  clear hF W3 F3
  go_wp2_with fail
  refine (play_as (some ⟨b, o, none⟩ : Option Addr) 1100 cap1 40 z1 (by decide) _ (h1.out.fr F4.out)).mono ?_; rintro e w5 ⟨rfl, hF⟩
  have F5 := hid (F4.out.trans hF)
  clear hF F4
  go_wp2_with fail
  refine (Raw_as L2 40 (by decide) _ (by exact h2.out.fr (F5.out.alloc _))).mono ?_; rintro e w6 ⟨v6, t6, rfl, hO, hl6, hF⟩
  have F6 := hid ((F5.out.alloc (.cells #[] 36)).trans hF)
  have N6 : Hid (Own w.heap.size w6 (.slice (some ⟨w5.heap.size, 0, none⟩) 0 0) []) := ⟨(row_new w5 w.heap.size F5.out.size [] 0 rfl #[] rfl (by decide)).2 |> fun h => own_frN h hF, by simp⟩
  obtain ⟨A6, c6, rfl, hW6, hA6⟩ := hO.words
  have W6 := hid hW6
  have G6 := hid hA6
  have L6 := hid hl6
  clear hF hO hW6 hA6 F5 hl6
  go_wp2_with (first | (at_builtin; refine wpList_appW w _ (by rfl) _ _ rfl _ [] rfl (by exact N6.out) A6 t6.length c6 _ rfl (by exact W6.out) G6.out (by have := L6.out; simp; omega) (by exact F6.out) ?_))
  intro v7 t7 w7 O7 e7 F7
  have E7 := hid e7
  clear e7
  go_wp2_with (first | (at_builtin; refine wpList_appW w _ (by rfl) _ _ rfl v7 t7 rfl (by exact O7.out) (some ⟨b, o, none⟩ : Option Addr) 1100 cap1 z1 rfl (by exact h1.out.fr F7.out) hA1 (by have a1 := L6.out; have a2 := E7.out; (try simp at a2); omega) (by exact F7.out) ?_))
  intro v8 t8 w8 O8 e8 F8
  clear e8
  obtain ⟨A8, c8, rfl, hW8, _⟩ := O8.out.words
  have W8 := hid hW8
  clear hW8
  go_wp2_with fail
  refine (play_as A8 t8.length c8 60 _ (by decide) _ W8.out).mono ?_; rintro e w9 ⟨rfl, hF⟩
  have F9 := hid (F8.out.trans hF)
  clear hF
  go_wp2_with fail
  refine (known_as _).mono ?_; rintro e w10 ⟨rfl, hF⟩
  have F10 := hid (F9.out.trans hF)
  clear hF
  go_wp2_with fail
  go_ret
  exact ⟨rfl, F10.out⟩
/-- ModelPlays, whatever its arguments -/
theorem plays (L0 L2 : TL) (A1 : Option Addr) (len1 cap1 : Nat) (z1 : Nat → Int) (hc : len1 ≤ cap1) (w : World) (h0 : NumsIn w L0) (h2 : NumsIn w L2) (h1 : WordsIn w A1 len1 z1) (hA1 : A1 = none → len1 = 0 ∧ cap1 = 0) :
    Calls Tryz.prog 4 #[.slice L0.A L0.len L0.cap, .slice A1 len1 cap1, .slice L2.A L2.len L2.cap] w fun e w' => e = .returned (.bool true) ∧ Fr w w' := by
  by_cases hs : len1 ≤ 1100
  · exact plays_short L0 L2 A1 len1 cap1 z1 (by omega) w h0 h2 h1 hA1
  · obtain ⟨b, o, rfl, _⟩ := h1 0 (by omega)
    exact plays_long L0 L2 b o len1 cap1 z1 (by omega) (by omega) (by omega) w h0 h2 (fun j hj => h1 j (by omega)) (fun e => by cases e)
end Go.Proofs.YtpkbkbllhpdfiaaGreat.M
