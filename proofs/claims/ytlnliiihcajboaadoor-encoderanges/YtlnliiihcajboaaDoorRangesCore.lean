/- The walk of EncodeRanges. -/
import Derived.Test.YtlnliiihcajboaaDoorRangesWalk
namespace Go.Proofs.YtlnliiihcajboaaDoor.Walks
open Go.ChangeShapes Go.WideShapes Go.ChangeAt Go.RowKit
set_option linter.unusedVariables false
theorem tm_zero (n s : Int) (h : n % s = 0) : n.tmod s = 0 := Int.tmod_eq_zero_of_dvd (Int.dvd_of_emod_eq_zero h)
theorem tm_non (n s : Int) (h : n % s ≠ 0) : (n.tmod s == 0) = false := by
  have q : n.tmod s ≠ 0 := fun e => h (Int.emod_eq_zero_of_dvd (Int.dvd_of_tmod_eq_zero e))
  simpa using q
theorem en_yes {o d a b n v : Int} {g : Bool} (E : Num.En o d a b n v g) (k : Num.Ok (Num.fm o) d a b n) : g = true := E.hg.2 k
theorem en_no {o d a b n v : Int} {g : Bool} (E : Num.En o d a b n v g) (k : ¬ Num.Ok (Num.fm o) d a b n) : g = false ∧ v = 0 := by
  cases g
  · exact ⟨rfl, E.no rfl⟩
  · exact absurd (E.hg.1 rfl) k
set_option maxRecDepth 100000 in
set_option maxHeartbeats 40000000 in
theorem ranges_core (A : Option Addr) (len cap : Nat) (zs : Nat → Int) (n : Int) (n0 : -2147483648 ≤ n) (n1 : n ≤ 2147483647) (w : World) (IN : Hid (IntsIn .i64 w A len zs)) (PP : Hid (Pow w)) :
    Calls Tryd.prog 6 #[.slice A len cap, .int .i32 n] w fun e w' => e = .returned (.bool true) ∧ Fr w w' := by
  have TT := hideP (tape_at w A len cap zs (IN.out.past (Fr.refl w)))
  have z0 : Hid (0 ≤ 100) := hideP (by decide)
  go_enter Tryd.func6, Tryd.ntmps6
  go_wp2_with fail
  refine (inst_as w.heap.size A len cap 0 zs _ TT z0).mono ?_; rintro e w1 ⟨⟨o, d, a, b, m, rfl, hk⟩, hG⟩
  have K := hideP hk
  have F1 : Hid (Fr w w1) := hideP (FrG.fr ((Fr.refl w).alloc _) hG (Nat.le_refl _))
  clear hG hk TT
  obtain ⟨v, g, hE⟩ := Num.En.ex o d a b n
  have E := hideP hE
  clear hE
  go_wp2_with fail
  refine (encode_as o d a b n v g E _).mono ?_; rintro e w2 ⟨rfl, hF⟩
  have F2 : Hid (Fr (w1.alloc (.cells (cells o d a b n) 27)) w2) := hideP hF
  clear hF
  obtain ⟨c0, _, _, _, _⟩ := box5 w1 w2 o d a b n F2.out
  have R := hideP (Num.ok_imm K.out n)
  have fmt := hideP K.out.fmt
  clear K
  have P2 : Hid (Pow w2) := hideP (PP.out.fr ((F1.out.alloc _).trans F2.out))
  rcases fmt.out with hf | hf | hf | hf | hf | hf | hf | hf | hf | hf
  · have L : Hid (Num.lt (Num.fm o) = 78) := hideP (by rw [hf]; decide)
    have Q : Num.Ok (Num.fm o) d a b n ↔ (0 ≤ n ∧ n ≤ 0 ∧ n % 1 = 0) := by
      have := R.out; rw [hf] at this ⊢; exact this
    have QQ := hideP Q
    clear Q R hf fmt
    by_cases x0 : n < 0
    · obtain ⟨rfl, rfl⟩ := en_no E.out (fun k => by have := QQ.out.1 k; omega)
      clear QQ E
      go_wp2_with fail
      refine (rformat_as _ _ L _).mono ?_; rintro e w' ⟨rfl, rfl⟩
      go_wp2_with fail
      refine (known_as _ P2).mono ?_; rintro e w3 ⟨rfl, hF⟩
      have F3 := hideP hF
      clear hF
      go_wp2_with fail
      go_ret
      exact ⟨rfl, ((F1.out.alloc _).trans F2.out).trans F3.out⟩
    have y0 : 0 ≤ n := by omega
    clear x0
    by_cases x1 : 0 < n
    · obtain ⟨rfl, rfl⟩ := en_no E.out (fun k => by have := QQ.out.1 k; omega)
      clear QQ E
      go_wp2_with fail
      refine (rformat_as _ _ L _).mono ?_; rintro e w' ⟨rfl, rfl⟩
      go_wp2_with fail
      refine (known_as _ P2).mono ?_; rintro e w3 ⟨rfl, hF⟩
      have F3 := hideP hF
      clear hF
      go_wp2_with fail
      go_ret
      exact ⟨rfl, ((F1.out.alloc _).trans F2.out).trans F3.out⟩
    have y1 : n ≤ 0 := by omega
    clear x1
    · obtain rfl := en_yes E.out (QQ.out.2 ⟨y0, y1, by omega⟩)
      have t := tm_zero n 1 (by omega)
      clear QQ E
      go_wp2_with fail
      refine (rformat_as _ _ L _).mono ?_; rintro e w' ⟨rfl, rfl⟩
      go_wp2_with fail
      refine (known_as _ P2).mono ?_; rintro e w3 ⟨rfl, hF⟩
      have F3 := hideP hF
      clear hF
      go_wp2_with fail
      go_ret
      exact ⟨rfl, ((F1.out.alloc _).trans F2.out).trans F3.out⟩
  · have L : Hid (Num.lt (Num.fm o) = 82) := hideP (by rw [hf]; decide)
    have Q : Num.Ok (Num.fm o) d a b n ↔ (0 ≤ n ∧ n ≤ 0 ∧ n % 1 = 0) := by
      have := R.out; rw [hf] at this ⊢; exact this
    have QQ := hideP Q
    clear Q R hf fmt
    by_cases x0 : n < 0
    · obtain ⟨rfl, rfl⟩ := en_no E.out (fun k => by have := QQ.out.1 k; omega)
      clear QQ E
      go_wp2_with fail
      refine (rformat_as _ _ L _).mono ?_; rintro e w' ⟨rfl, rfl⟩
      go_wp2_with fail
      refine (known_as _ P2).mono ?_; rintro e w3 ⟨rfl, hF⟩
      have F3 := hideP hF
      clear hF
      go_wp2_with fail
      go_ret
      exact ⟨rfl, ((F1.out.alloc _).trans F2.out).trans F3.out⟩
    have y0 : 0 ≤ n := by omega
    clear x0
    by_cases x1 : 0 < n
    · obtain ⟨rfl, rfl⟩ := en_no E.out (fun k => by have := QQ.out.1 k; omega)
      clear QQ E
      go_wp2_with fail
      refine (rformat_as _ _ L _).mono ?_; rintro e w' ⟨rfl, rfl⟩
      go_wp2_with fail
      refine (known_as _ P2).mono ?_; rintro e w3 ⟨rfl, hF⟩
      have F3 := hideP hF
      clear hF
      go_wp2_with fail
      go_ret
      exact ⟨rfl, ((F1.out.alloc _).trans F2.out).trans F3.out⟩
    have y1 : n ≤ 0 := by omega
    clear x1
    · obtain rfl := en_yes E.out (QQ.out.2 ⟨y0, y1, by omega⟩)
      have t := tm_zero n 1 (by omega)
      clear QQ E
      go_wp2_with fail
      refine (rformat_as _ _ L _).mono ?_; rintro e w' ⟨rfl, rfl⟩
      go_wp2_with fail
      refine (known_as _ P2).mono ?_; rintro e w3 ⟨rfl, hF⟩
      have F3 := hideP hF
      clear hF
      go_wp2_with fail
      go_ret
      exact ⟨rfl, ((F1.out.alloc _).trans F2.out).trans F3.out⟩
  · have L : Hid (Num.lt (Num.fm o) = 73) := hideP (by rw [hf]; decide)
    have Q : Num.Ok (Num.fm o) d a b n ↔ (-2048 ≤ n ∧ n ≤ 2047 ∧ n % 1 = 0) := by
      have := R.out; rw [hf] at this ⊢; exact this
    have QQ := hideP Q
    clear Q R hf fmt
    by_cases x0 : n < -2048
    · obtain ⟨rfl, rfl⟩ := en_no E.out (fun k => by have := QQ.out.1 k; omega)
      clear QQ E
      go_wp2_with fail
      refine (rformat_as _ _ L _).mono ?_; rintro e w' ⟨rfl, rfl⟩
      go_wp2_with fail
      refine (known_as _ P2).mono ?_; rintro e w3 ⟨rfl, hF⟩
      have F3 := hideP hF
      clear hF
      go_wp2_with fail
      go_ret
      exact ⟨rfl, ((F1.out.alloc _).trans F2.out).trans F3.out⟩
    have y0 : -2048 ≤ n := by omega
    clear x0
    by_cases x1 : 2047 < n
    · obtain ⟨rfl, rfl⟩ := en_no E.out (fun k => by have := QQ.out.1 k; omega)
      clear QQ E
      go_wp2_with fail
      refine (rformat_as _ _ L _).mono ?_; rintro e w' ⟨rfl, rfl⟩
      go_wp2_with fail
      refine (known_as _ P2).mono ?_; rintro e w3 ⟨rfl, hF⟩
      have F3 := hideP hF
      clear hF
      go_wp2_with fail
      go_ret
      exact ⟨rfl, ((F1.out.alloc _).trans F2.out).trans F3.out⟩
    have y1 : n ≤ 2047 := by omega
    clear x1
    · obtain rfl := en_yes E.out (QQ.out.2 ⟨y0, y1, by omega⟩)
      have t := tm_zero n 1 (by omega)
      clear QQ E
      go_wp2_with fail
      refine (rformat_as _ _ L _).mono ?_; rintro e w' ⟨rfl, rfl⟩
      go_wp2_with fail
      refine (known_as _ P2).mono ?_; rintro e w3 ⟨rfl, hF⟩
      have F3 := hideP hF
      clear hF
      go_wp2_with fail
      go_ret
      exact ⟨rfl, ((F1.out.alloc _).trans F2.out).trans F3.out⟩
  · have L : Hid (Num.lt (Num.fm o) = 72) := hideP (by rw [hf]; decide)
    have Q : Num.Ok (Num.fm o) d a b n ↔ (0 ≤ n ∧ n ≤ 31 ∧ n % 1 = 0) := by
      have := R.out; rw [hf] at this ⊢; exact this
    have QQ := hideP Q
    clear Q R hf fmt
    by_cases x0 : n < 0
    · obtain ⟨rfl, rfl⟩ := en_no E.out (fun k => by have := QQ.out.1 k; omega)
      clear QQ E
      go_wp2_with fail
      refine (rformat_as _ _ L _).mono ?_; rintro e w' ⟨rfl, rfl⟩
      go_wp2_with fail
      refine (known_as _ P2).mono ?_; rintro e w3 ⟨rfl, hF⟩
      have F3 := hideP hF
      clear hF
      go_wp2_with fail
      go_ret
      exact ⟨rfl, ((F1.out.alloc _).trans F2.out).trans F3.out⟩
    have y0 : 0 ≤ n := by omega
    clear x0
    by_cases x1 : 31 < n
    · obtain ⟨rfl, rfl⟩ := en_no E.out (fun k => by have := QQ.out.1 k; omega)
      clear QQ E
      go_wp2_with fail
      refine (rformat_as _ _ L _).mono ?_; rintro e w' ⟨rfl, rfl⟩
      go_wp2_with fail
      refine (known_as _ P2).mono ?_; rintro e w3 ⟨rfl, hF⟩
      have F3 := hideP hF
      clear hF
      go_wp2_with fail
      go_ret
      exact ⟨rfl, ((F1.out.alloc _).trans F2.out).trans F3.out⟩
    have y1 : n ≤ 31 := by omega
    clear x1
    · obtain rfl := en_yes E.out (QQ.out.2 ⟨y0, y1, by omega⟩)
      have t := tm_zero n 1 (by omega)
      clear QQ E
      go_wp2_with fail
      refine (rformat_as _ _ L _).mono ?_; rintro e w' ⟨rfl, rfl⟩
      go_wp2_with fail
      refine (known_as _ P2).mono ?_; rintro e w3 ⟨rfl, hF⟩
      have F3 := hideP hF
      clear hF
      go_wp2_with fail
      go_ret
      exact ⟨rfl, ((F1.out.alloc _).trans F2.out).trans F3.out⟩
  · have L : Hid (Num.lt (Num.fm o) = 83) := hideP (by rw [hf]; decide)
    have Q : Num.Ok (Num.fm o) d a b n ↔ (-2048 ≤ n ∧ n ≤ 2047 ∧ n % 1 = 0) := by
      have := R.out; rw [hf] at this ⊢; exact this
    have QQ := hideP Q
    clear Q R hf fmt
    by_cases x0 : n < -2048
    · obtain ⟨rfl, rfl⟩ := en_no E.out (fun k => by have := QQ.out.1 k; omega)
      clear QQ E
      go_wp2_with fail
      refine (rformat_as _ _ L _).mono ?_; rintro e w' ⟨rfl, rfl⟩
      go_wp2_with fail
      refine (known_as _ P2).mono ?_; rintro e w3 ⟨rfl, hF⟩
      have F3 := hideP hF
      clear hF
      go_wp2_with fail
      go_ret
      exact ⟨rfl, ((F1.out.alloc _).trans F2.out).trans F3.out⟩
    have y0 : -2048 ≤ n := by omega
    clear x0
    by_cases x1 : 2047 < n
    · obtain ⟨rfl, rfl⟩ := en_no E.out (fun k => by have := QQ.out.1 k; omega)
      clear QQ E
      go_wp2_with fail
      refine (rformat_as _ _ L _).mono ?_; rintro e w' ⟨rfl, rfl⟩
      go_wp2_with fail
      refine (known_as _ P2).mono ?_; rintro e w3 ⟨rfl, hF⟩
      have F3 := hideP hF
      clear hF
      go_wp2_with fail
      go_ret
      exact ⟨rfl, ((F1.out.alloc _).trans F2.out).trans F3.out⟩
    have y1 : n ≤ 2047 := by omega
    clear x1
    · obtain rfl := en_yes E.out (QQ.out.2 ⟨y0, y1, by omega⟩)
      have t := tm_zero n 1 (by omega)
      clear QQ E
      go_wp2_with fail
      refine (rformat_as _ _ L _).mono ?_; rintro e w' ⟨rfl, rfl⟩
      go_wp2_with fail
      refine (known_as _ P2).mono ?_; rintro e w3 ⟨rfl, hF⟩
      have F3 := hideP hF
      clear hF
      go_wp2_with fail
      go_ret
      exact ⟨rfl, ((F1.out.alloc _).trans F2.out).trans F3.out⟩
  · have L : Hid (Num.lt (Num.fm o) = 66) := hideP (by rw [hf]; decide)
    have Q : Num.Ok (Num.fm o) d a b n ↔ (-4096 ≤ n ∧ n ≤ 4094 ∧ n % 2 = 0) := by
      have := R.out; rw [hf] at this ⊢; exact this
    have QQ := hideP Q
    clear Q R hf fmt
    by_cases x0 : n < -4096
    · obtain ⟨rfl, rfl⟩ := en_no E.out (fun k => by have := QQ.out.1 k; omega)
      clear QQ E
      go_wp2_with fail
      refine (rformat_as _ _ L _).mono ?_; rintro e w' ⟨rfl, rfl⟩
      go_wp2_with fail
      refine (known_as _ P2).mono ?_; rintro e w3 ⟨rfl, hF⟩
      have F3 := hideP hF
      clear hF
      go_wp2_with fail
      go_ret
      exact ⟨rfl, ((F1.out.alloc _).trans F2.out).trans F3.out⟩
    have y0 : -4096 ≤ n := by omega
    clear x0
    by_cases x1 : 4094 < n
    · obtain ⟨rfl, rfl⟩ := en_no E.out (fun k => by have := QQ.out.1 k; omega)
      clear QQ E
      go_wp2_with fail
      refine (rformat_as _ _ L _).mono ?_; rintro e w' ⟨rfl, rfl⟩
      go_wp2_with fail
      refine (known_as _ P2).mono ?_; rintro e w3 ⟨rfl, hF⟩
      have F3 := hideP hF
      clear hF
      go_wp2_with fail
      go_ret
      exact ⟨rfl, ((F1.out.alloc _).trans F2.out).trans F3.out⟩
    have y1 : n ≤ 4094 := by omega
    clear x1
    by_cases x2 : n % 2 = 0
    · obtain rfl := en_yes E.out (QQ.out.2 ⟨y0, y1, x2⟩)
      have t := tm_zero n 2 x2
      clear QQ E x2
      go_wp2_with fail
      refine (rformat_as _ _ L _).mono ?_; rintro e w' ⟨rfl, rfl⟩
      go_wp2_with fail
      refine (known_as _ P2).mono ?_; rintro e w3 ⟨rfl, hF⟩
      have F3 := hideP hF
      clear hF
      go_wp2_with fail
      go_ret
      exact ⟨rfl, ((F1.out.alloc _).trans F2.out).trans F3.out⟩
    · obtain ⟨rfl, rfl⟩ := en_no E.out (fun k => x2 (QQ.out.1 k).2.2)
      have t : (n.tmod 2 == 0) = false := tm_non n _ x2
      clear QQ E x2
      go_wp2_with fail
      refine (rformat_as _ _ L _).mono ?_; rintro e w' ⟨rfl, rfl⟩
      go_wp2_with fail
      refine (known_as _ P2).mono ?_; rintro e w3 ⟨rfl, hF⟩
      have F3 := hideP hF
      clear hF
      go_wp2_with fail
      go_ret
      exact ⟨rfl, ((F1.out.alloc _).trans F2.out).trans F3.out⟩
  · have L : Hid (Num.lt (Num.fm o) = 85) := hideP (by rw [hf]; decide)
    have Q : Num.Ok (Num.fm o) d a b n ↔ (-2147483648 ≤ n ∧ n ≤ 2147479552 ∧ n % 4096 = 0) := by
      have := R.out; rw [hf] at this ⊢; exact this
    have QQ := hideP Q
    clear Q R hf fmt
    have y0 : -2147483648 ≤ n := n0
    by_cases x1 : 2147479552 < n
    · obtain ⟨rfl, rfl⟩ := en_no E.out (fun k => by have := QQ.out.1 k; omega)
      clear QQ E
      go_wp2_with fail
      refine (rformat_as _ _ L _).mono ?_; rintro e w' ⟨rfl, rfl⟩
      go_wp2_with fail
      refine (known_as _ P2).mono ?_; rintro e w3 ⟨rfl, hF⟩
      have F3 := hideP hF
      clear hF
      go_wp2_with fail
      go_ret
      exact ⟨rfl, ((F1.out.alloc _).trans F2.out).trans F3.out⟩
    have y1 : n ≤ 2147479552 := by omega
    clear x1
    by_cases x2 : n % 4096 = 0
    · obtain rfl := en_yes E.out (QQ.out.2 ⟨y0, y1, x2⟩)
      have t := tm_zero n 4096 x2
      clear QQ E x2
      go_wp2_with fail
      refine (rformat_as _ _ L _).mono ?_; rintro e w' ⟨rfl, rfl⟩
      go_wp2_with fail
      refine (known_as _ P2).mono ?_; rintro e w3 ⟨rfl, hF⟩
      have F3 := hideP hF
      clear hF
      go_wp2_with fail
      go_ret
      exact ⟨rfl, ((F1.out.alloc _).trans F2.out).trans F3.out⟩
    · obtain ⟨rfl, rfl⟩ := en_no E.out (fun k => x2 (QQ.out.1 k).2.2)
      have t : (n.tmod 4096 == 0) = false := tm_non n _ x2
      clear QQ E x2
      go_wp2_with fail
      refine (rformat_as _ _ L _).mono ?_; rintro e w' ⟨rfl, rfl⟩
      go_wp2_with fail
      refine (known_as _ P2).mono ?_; rintro e w3 ⟨rfl, hF⟩
      have F3 := hideP hF
      clear hF
      go_wp2_with fail
      go_ret
      exact ⟨rfl, ((F1.out.alloc _).trans F2.out).trans F3.out⟩
  · have L : Hid (Num.lt (Num.fm o) = 74) := hideP (by rw [hf]; decide)
    have Q : Num.Ok (Num.fm o) d a b n ↔ (-1048576 ≤ n ∧ n ≤ 1048574 ∧ n % 2 = 0) := by
      have := R.out; rw [hf] at this ⊢; exact this
    have QQ := hideP Q
    clear Q R hf fmt
    by_cases x0 : n < -1048576
    · obtain ⟨rfl, rfl⟩ := en_no E.out (fun k => by have := QQ.out.1 k; omega)
      clear QQ E
      go_wp2_with fail
      refine (rformat_as _ _ L _).mono ?_; rintro e w' ⟨rfl, rfl⟩
      go_wp2_with fail
      refine (known_as _ P2).mono ?_; rintro e w3 ⟨rfl, hF⟩
      have F3 := hideP hF
      clear hF
      go_wp2_with fail
      go_ret
      exact ⟨rfl, ((F1.out.alloc _).trans F2.out).trans F3.out⟩
    have y0 : -1048576 ≤ n := by omega
    clear x0
    by_cases x1 : 1048574 < n
    · obtain ⟨rfl, rfl⟩ := en_no E.out (fun k => by have := QQ.out.1 k; omega)
      clear QQ E
      go_wp2_with fail
      refine (rformat_as _ _ L _).mono ?_; rintro e w' ⟨rfl, rfl⟩
      go_wp2_with fail
      refine (known_as _ P2).mono ?_; rintro e w3 ⟨rfl, hF⟩
      have F3 := hideP hF
      clear hF
      go_wp2_with fail
      go_ret
      exact ⟨rfl, ((F1.out.alloc _).trans F2.out).trans F3.out⟩
    have y1 : n ≤ 1048574 := by omega
    clear x1
    by_cases x2 : n % 2 = 0
    · obtain rfl := en_yes E.out (QQ.out.2 ⟨y0, y1, x2⟩)
      have t := tm_zero n 2 x2
      clear QQ E x2
      go_wp2_with fail
      refine (rformat_as _ _ L _).mono ?_; rintro e w' ⟨rfl, rfl⟩
      go_wp2_with fail
      refine (known_as _ P2).mono ?_; rintro e w3 ⟨rfl, hF⟩
      have F3 := hideP hF
      clear hF
      go_wp2_with fail
      go_ret
      exact ⟨rfl, ((F1.out.alloc _).trans F2.out).trans F3.out⟩
    · obtain ⟨rfl, rfl⟩ := en_no E.out (fun k => x2 (QQ.out.1 k).2.2)
      have t : (n.tmod 2 == 0) = false := tm_non n _ x2
      clear QQ E x2
      go_wp2_with fail
      refine (rformat_as _ _ L _).mono ?_; rintro e w' ⟨rfl, rfl⟩
      go_wp2_with fail
      refine (known_as _ P2).mono ?_; rintro e w3 ⟨rfl, hF⟩
      have F3 := hideP hF
      clear hF
      go_wp2_with fail
      go_ret
      exact ⟨rfl, ((F1.out.alloc _).trans F2.out).trans F3.out⟩
  · have L : Hid (Num.lt (Num.fm o) = 67) := hideP (by rw [hf]; decide)
    have Q : Num.Ok (Num.fm o) d a b n ↔ (0 ≤ n ∧ n ≤ 4095 ∧ n % 1 = 0) := by
      have := R.out; rw [hf] at this ⊢; exact this
    have QQ := hideP Q
    clear Q R hf fmt
    by_cases x0 : n < 0
    · obtain ⟨rfl, rfl⟩ := en_no E.out (fun k => by have := QQ.out.1 k; omega)
      clear QQ E
      go_wp2_with fail
      refine (rformat_as _ _ L _).mono ?_; rintro e w' ⟨rfl, rfl⟩
      go_wp2_with fail
      refine (known_as _ P2).mono ?_; rintro e w3 ⟨rfl, hF⟩
      have F3 := hideP hF
      clear hF
      go_wp2_with fail
      go_ret
      exact ⟨rfl, ((F1.out.alloc _).trans F2.out).trans F3.out⟩
    have y0 : 0 ≤ n := by omega
    clear x0
    by_cases x1 : 4095 < n
    · obtain ⟨rfl, rfl⟩ := en_no E.out (fun k => by have := QQ.out.1 k; omega)
      clear QQ E
      go_wp2_with fail
      refine (rformat_as _ _ L _).mono ?_; rintro e w' ⟨rfl, rfl⟩
      go_wp2_with fail
      refine (known_as _ P2).mono ?_; rintro e w3 ⟨rfl, hF⟩
      have F3 := hideP hF
      clear hF
      go_wp2_with fail
      go_ret
      exact ⟨rfl, ((F1.out.alloc _).trans F2.out).trans F3.out⟩
    have y1 : n ≤ 4095 := by omega
    clear x1
    · obtain rfl := en_yes E.out (QQ.out.2 ⟨y0, y1, by omega⟩)
      have t := tm_zero n 1 (by omega)
      clear QQ E
      go_wp2_with fail
      refine (rformat_as _ _ L _).mono ?_; rintro e w' ⟨rfl, rfl⟩
      go_wp2_with fail
      refine (known_as _ P2).mono ?_; rintro e w3 ⟨rfl, hF⟩
      have F3 := hideP hF
      clear hF
      go_wp2_with fail
      go_ret
      exact ⟨rfl, ((F1.out.alloc _).trans F2.out).trans F3.out⟩
  · have L : Hid (Num.lt (Num.fm o) = 67) := hideP (by rw [hf]; decide)
    have Q : Num.Ok (Num.fm o) d a b n ↔ (0 ≤ n ∧ n ≤ 4095 ∧ n % 1 = 0) := by
      have := R.out; rw [hf] at this ⊢; exact this
    have QQ := hideP Q
    clear Q R hf fmt
    by_cases x0 : n < 0
    · obtain ⟨rfl, rfl⟩ := en_no E.out (fun k => by have := QQ.out.1 k; omega)
      clear QQ E
      go_wp2_with fail
      refine (rformat_as _ _ L _).mono ?_; rintro e w' ⟨rfl, rfl⟩
      go_wp2_with fail
      refine (known_as _ P2).mono ?_; rintro e w3 ⟨rfl, hF⟩
      have F3 := hideP hF
      clear hF
      go_wp2_with fail
      go_ret
      exact ⟨rfl, ((F1.out.alloc _).trans F2.out).trans F3.out⟩
    have y0 : 0 ≤ n := by omega
    clear x0
    by_cases x1 : 4095 < n
    · obtain ⟨rfl, rfl⟩ := en_no E.out (fun k => by have := QQ.out.1 k; omega)
      clear QQ E
      go_wp2_with fail
      refine (rformat_as _ _ L _).mono ?_; rintro e w' ⟨rfl, rfl⟩
      go_wp2_with fail
      refine (known_as _ P2).mono ?_; rintro e w3 ⟨rfl, hF⟩
      have F3 := hideP hF
      clear hF
      go_wp2_with fail
      go_ret
      exact ⟨rfl, ((F1.out.alloc _).trans F2.out).trans F3.out⟩
    have y1 : n ≤ 4095 := by omega
    clear x1
    · obtain rfl := en_yes E.out (QQ.out.2 ⟨y0, y1, by omega⟩)
      have t := tm_zero n 1 (by omega)
      clear QQ E
      go_wp2_with fail
      refine (rformat_as _ _ L _).mono ?_; rintro e w' ⟨rfl, rfl⟩
      go_wp2_with fail
      refine (known_as _ P2).mono ?_; rintro e w3 ⟨rfl, hF⟩
      have F3 := hideP hF
      clear hF
      go_wp2_with fail
      go_ret
      exact ⟨rfl, ((F1.out.alloc _).trans F2.out).trans F3.out⟩
end Go.Proofs.YtlnliiihcajboaaDoor.Walks
