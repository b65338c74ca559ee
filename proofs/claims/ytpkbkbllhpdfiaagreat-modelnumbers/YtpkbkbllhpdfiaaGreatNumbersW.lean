/- ModelNumbers: its walk. -/
import Derived.Test.YtpkbkbllhpdfiaaGreatTapeN
namespace Go.Proofs.YtpkbkbllhpdfiaaGreat.M
open Go.ChangeShapes Go.WideShapes Go.ChangeAt Go.RowKit Go.Proofs.YtpkbkbllhpdfiaaGreat.Walks Go.Proofs.YtpkbkbllhpdfiaaGreat.Mod
set_option linter.unusedVariables false
theorem made_words (w : World) (N : Nat) (c : Array Value) (h : madeCells #[Value.int .u32 0] N = c) : WordsIn (w.alloc (.cells c 36)) (some ⟨w.heap.size, 0, none⟩) N (fun _ => 0) := fun j hj => by
  refine ⟨w.heap.size, 0, rfl, by simp, ?_, W32.zero⟩
  rw [Nat.zero_add, World.cell?_alloc_at _ _ _ _ rfl, ← h]
  exact made_u32 N j hj
set_option maxRecDepth 100000 in
set_option maxHeartbeats 1000000 in
theorem numbers (w : World) : Calls Tryz.prog 3 #[] w fun e w' => e = .returned (.bool true) ∧ Fr w w' := by
  obtain ⟨c, hc0⟩ : ∃ c : Array Value, madeCells #[Value.int .u32 0] 1025 = c := ⟨_, rfl⟩
  have MK := make1025
  rw [hc0] at MK
  have HC := hid hc0
  obtain ⟨d, hd0⟩ : ∃ c : Array Value, madeCells #[Value.int .u32 0] 1024 = c := ⟨_, rfl⟩
  have MK2 := make1024
  rw [hd0] at MK2
  have HD := hid hd0
  clear hc0 hd0
  go_enter Tryz.func3, Tryz.ntmps3
  go_wp2_with fail
  go_loopw [1] (fun t wr => ∃ i : Nat, (i : Int) ≤ 60 ∧ t = .int .i64 i ∧ Hid (Fr w wr)) (fun t _ => 60 - (intOf t).toNat)
  case atStart => exact ⟨0, by omega, rfl, Fr.refl _⟩
  case round =>
    obtain ⟨i, hi, rfl, F0⟩ := hrel
    rename_i wr
    by_cases hlt : (i : Int) < 60
    · go_wp2_with fail
      refine (tape_as i (by omega) (by omega) _).mono ?_; rintro e w1 ⟨A1, l1, c1, z1, rfl, hN, hF⟩
      have F1 := hid (F0.out.trans hF)
      have N1 := hid hN
      clear hF hN
      go_wp2_with fail
      refine (Image_as ⟨A1, l1, c1, z1⟩ _ N1).mono ?_; rintro e w2 ⟨b, cap, t, rfl, hR, hw, hF⟩
      have F2 := hid (F1.out.trans hF)
      have W2 := hid (Row.words hR hw)
      clear hF hR hw
      go_wp2_with fail
      refine (play_as _ 776 cap 300 _ (by decide) _ W2.out).mono ?_; rintro e w3 ⟨rfl, hF⟩
      have F3 := hid (F2.out.trans hF)
      clear hF W2
      go_wp2_with fail
      refine (tape_as i (by omega) (by omega) _).mono ?_; rintro e w4 ⟨A4, l4, c4, z4, rfl, hN, hF⟩
      have F4 := hid (F3.out.trans hF)
      have N4 := hid hN
      clear hF hN
      go_wp2_with fail
      refine (Raw_as ⟨A4, l4, c4, z4⟩ 60 (by decide) _ N4).mono ?_; rintro e w5 ⟨v5, t5, rfl, hO, hl5, hF⟩
      have F5 := hid (F4.out.trans hF)
      obtain ⟨A5, c5, rfl, hW5, _⟩ := hO.words
      have W5 := hid hW5
      clear hF hO hW5
      go_wp2_with fail
      refine (play_as A5 t5.length c5 60 _ (by decide) _ W5.out).mono ?_; rintro e w6 ⟨rfl, hF⟩
      have F6 := hid (F5.out.trans hF)
      clear hF W5
      go_wp2_with fail
      exact ⟨⟨i + 1, by omega, by rw [Int.natCast_add]; rfl, F6.out⟩, by simp [intOf]; omega⟩
    · go_wp2_with fail
      refine (play_as none 0 0 5 (fun _ => 0) (by decide) _ (fun j hj => by omega)).mono ?_; rintro e w1 ⟨rfl, hF⟩
      have F1 := hid (F0.out.trans hF)
      clear hF
      go_wp2_with fail
      refine (play_as _ 1025 _ 5 (fun _ => 0) (by decide) _ (by exact made_words w1 1025 c HC.out)).mono ?_; rintro e w2 ⟨rfl, hF⟩
      have F2 := hid ((F1.out.alloc _).trans hF)
      clear hF
      go_wp2_with fail
      refine (play_as _ 1024 _ 5 (fun _ => 0) (by decide) _ (by exact made_words w2 1024 d HD.out)).mono ?_; rintro e w3 ⟨rfl, hF⟩
      have F3 := hid ((F2.out.alloc _).trans hF)
      clear hF
      go_wp2_with fail
      refine (known_as _).mono ?_; rintro e w4 ⟨rfl, hF⟩
      have F4 := hid (F3.out.trans hF)
      clear hF
      go_wp2_with fail
      go_ret
      exact ⟨rfl, F4.out⟩
end Go.Proofs.YtpkbkbllhpdfiaaGreat.M
