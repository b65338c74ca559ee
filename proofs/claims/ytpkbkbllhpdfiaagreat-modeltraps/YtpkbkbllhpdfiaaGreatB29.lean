/- EncG: The document's own Encode, where the op is one and the registers are: core. -/
import Derived.Test.YtpkbkbllhpdfiaaGreatB28
import Derived.Test.YtpkbkbllhpdfiaaGreatB02
namespace Go.Proofs.YtpkbkbllhpdfiaaGreat.Walks
open Go.ChangeShapes Go.WideShapes Go.ChangeAt Go.RowKit
set_option linter.unusedVariables false
attribute [local go_sem ↓] Go.wp_at_zero Go.wp_at_succ
set_option maxRecDepth 100000 in
set_option maxHeartbeats 16000000 in
theorem renc_good (d a b n t f V v o' d' a' b' n' : Int) (g g' : Bool) (k : Nat) (k0 : (0 : Int) ≤ (k : Int)) (k1 : (k : Int) < 55) (kk : 0 ≤ (k : Int) ∧ (k : Int) < 55) (KW : IntKind.i64.wrap (k : Int) = (k : Int)) (C : TabC[k]? = some (.int .u32 t)) (F : Hid (Num.lt (Num.fm ((k : Int) + 1)) = f)) (fz : (f == 0) = false)
    (fs : Hid (f = 85 ∨ f = 74 ∨ f = 73 ∨ f = 66 ∨ f = 83 ∨ f = 72 ∨ f = 82 ∨ f = 67 ∨ f = 78)) (d0 : 0 ≤ d) (d1 : d ≤ 31) (a0 : 0 ≤ a) (a1 : a ≤ 31) (b0 : 0 ≤ b) (b1 : b ≤ 31) (VV : Hid (bits .or .u32 (bits .or .u32 t (IntKind.u32.wrap (IntKind.u32.wrap d * 128))) (IntKind.u32.wrap (IntKind.u32.wrap a * 32768)) = V)) (V0 : Hid (0 ≤ V)) (V1 : Hid (V ≤ 4294967295))
    (D85 : Hid (f = 85 → Num.Dec (bits .or .u32 V (bits .andNot .u32 (n % 4294967296) 4095)) o' d' a' b' n' g')) (X85 : Hid (f = 85 → g = true → v = (bits .or .u32 V (bits .andNot .u32 (n % 4294967296) 4095))))
    (D74 : Hid (f = 74 → Num.Dec (bits .or .u32 V (bits .or .u32 (bits .or .u32 (bits .or .u32 (bits .and .u32 (n % 4294967296 / 1048576) 1 * 2147483648 % 4294967296) (bits .and .u32 (n % 4294967296 / 2) 1023 * 2097152 % 4294967296)) (bits .and .u32 (n % 4294967296 / 2048) 1 * 1048576 % 4294967296)) (bits .and .u32 (n % 4294967296 / 4096) 255 * 4096 % 4294967296))) o' d' a' b' n' g')) (X74 : Hid (f = 74 → g = true → v = (bits .or .u32 V (bits .or .u32 (bits .or .u32 (bits .or .u32 (bits .and .u32 (n % 4294967296 / 1048576) 1 * 2147483648 % 4294967296) (bits .and .u32 (n % 4294967296 / 2) 1023 * 2097152 % 4294967296)) (bits .and .u32 (n % 4294967296 / 2048) 1 * 1048576 % 4294967296)) (bits .and .u32 (n % 4294967296 / 4096) 255 * 4096 % 4294967296)))))
    (D73 : Hid (f = 73 → Num.Dec (bits .or .u32 V (bits .and .u32 (n % 4294967296) 4095 * 1048576 % 4294967296)) o' d' a' b' n' g')) (X73 : Hid (f = 73 → g = true → v = (bits .or .u32 V (bits .and .u32 (n % 4294967296) 4095 * 1048576 % 4294967296))))
    (D66 : Hid (f = 66 → Num.Dec (bits .or .u32 V (bits .or .u32 (bits .or .u32 (bits .or .u32 (bits .or .u32 (bits .and .u32 (n % 4294967296 / 4096) 1 * 2147483648 % 4294967296) (bits .and .u32 (n % 4294967296 / 32) 63 * 33554432 % 4294967296)) (bits .and .u32 (n % 4294967296 / 2) 15 * 256 % 4294967296)) (bits .and .u32 (n % 4294967296 / 2048) 1 * 128 % 4294967296)) (b * 1048576))) o' d' a' b' n' g')) (X66 : Hid (f = 66 → g = true → v = (bits .or .u32 V (bits .or .u32 (bits .or .u32 (bits .or .u32 (bits .or .u32 (bits .and .u32 (n % 4294967296 / 4096) 1 * 2147483648 % 4294967296) (bits .and .u32 (n % 4294967296 / 32) 63 * 33554432 % 4294967296)) (bits .and .u32 (n % 4294967296 / 2) 15 * 256 % 4294967296)) (bits .and .u32 (n % 4294967296 / 2048) 1 * 128 % 4294967296)) (b * 1048576)))))
    (D83 : Hid (f = 83 → Num.Dec (bits .or .u32 V (bits .or .u32 (bits .or .u32 (bits .and .u32 (n % 4294967296 / 32) 127 * 33554432 % 4294967296) (bits .and .u32 (n % 4294967296) 31 * 128 % 4294967296)) (b * 1048576))) o' d' a' b' n' g')) (X83 : Hid (f = 83 → g = true → v = (bits .or .u32 V (bits .or .u32 (bits .or .u32 (bits .and .u32 (n % 4294967296 / 32) 127 * 33554432 % 4294967296) (bits .and .u32 (n % 4294967296) 31 * 128 % 4294967296)) (b * 1048576)))))
    (D72 : Hid (f = 72 → Num.Dec (bits .or .u32 V (bits .and .u32 (n % 4294967296) 31 * 1048576 % 4294967296)) o' d' a' b' n' g')) (X72 : Hid (f = 72 → g = true → v = (bits .or .u32 V (bits .and .u32 (n % 4294967296) 31 * 1048576 % 4294967296))))
    (D82 : Hid (f = 82 → Num.Dec (bits .or .u32 V (b * 1048576)) o' d' a' b' n' g')) (X82 : Hid (f = 82 → g = true → v = (bits .or .u32 V (b * 1048576))))
    (D67 : Hid (f = 67 → Num.Dec (bits .or .u32 V (bits .and .u32 (n % 4294967296) 4095 * 1048576 % 4294967296)) o' d' a' b' n' g')) (X67 : Hid (f = 67 → g = true → v = (bits .or .u32 V (bits .and .u32 (n % 4294967296) 4095 * 1048576 % 4294967296))))
    (D78 : Hid (f = 78 → Num.Dec V o' d' a' b' n' g')) (X78 : Hid (f = 78 → g = true → v = V))
    (Y : Hid (g' = true ∧ o' = (k : Int) + 1 ∧ d' = d ∧ a' = a ∧ b' = b ∧ n' = n → g = true)) (X : Hid (¬ (g' = true ∧ o' = (k : Int) + 1 ∧ d' = d ∧ a' = a ∧ b' = b ∧ n' = n) → v = 0 ∧ g = false)) (w : World) :
    Calls Tryz.prog 27 #[.agg (cells ((k : Int) + 1) d a b n)] w fun e w' => e = .returned (.tuple #[.int .u32 v, .bool g]) ∧ Fr w w' := by
  go_enter Tryz.func27, Tryz.ntmps27
  go_wp2_with fail
  refine (rformat_as _ _ F _).mono ?_; rintro e w' ⟨rfl, rfl⟩
  go_upto_region 4 with fail
  go_cut [5] from 44 to 59 (fun s wx => s = .int .u32 V ∧ wx = ((w.alloc (.cells (cells ((k : Int) + 1) d a b n) 62)).alloc (.cells TabC 36)).drew)
  case first =>
    go_region_with (go_at_call 45; refine (codes_as _).mono ?_; rintro e w' ⟨rfl, rfl⟩)
    all_goals
      go_wp2_with fail
      go_meet
      exact ⟨by rw [VV.out], rfl⟩
  case rest =>
    obtain ⟨rfl, rfl⟩ := hcut
    rcases fs.out with rfl | rfl | rfl | rfl | rfl | rfl | rfl | rfl | rfl
    · have D := hideP (D85.out rfl)
      have X1 := hideP (X85.out rfl)
      clear D85 X85 D74 X74 D73 X73 D66 X66 D83 X83 D72 X72 D82 X82 D67 X67 D78 X78
      go_wp2_with fail
      refine (rdecode_as _ o' d' a' b' n' g' D (by first | exact bits_lo_u32 _ _ _ | exact V0.out) (by first | exact bits_hi_u32 _ _ _ | exact V1.out) _).mono ?_; rintro e w2 ⟨rfl, hF⟩
      have F2 := hideP hF
      clear hF
      obtain ⟨c0, c1, c2, c3, c4⟩ := box5 w (w2.alloc (.cells #[.int .i64 o', .int .i64 d', .int .i64 a', .int .i64 b', .int .i32 n'] 62)) ((k : Int) + 1) d a b n ((((Fr.refl _).alloc _).drew.trans F2.out).alloc _)
      cases g'
      · obtain ⟨rfl, rfl⟩ := X.out (fun x => absurd x.1 (by decide))
        go_wp2_with fail
        go_ret2
        exact ⟨rfl, ((((Fr.refl _).alloc _).alloc _).drew.trans F2.out).alloc _⟩
      · go_wp2_with fail
        all_goals first
          | (have q := Y.out ⟨(by trivial), by assumption, by assumption, by assumption, by assumption, by assumption⟩
             have q2 := X1.out q
             subst q q2
             go_ret2
             exact ⟨rfl, ((((Fr.refl _).alloc _).alloc _).drew.trans F2.out).alloc _⟩)
          | (obtain ⟨rfl, rfl⟩ := X.out (by rintro ⟨_, q0, q1, q2, q3, q4⟩; simp_all)
             go_ret2
             exact ⟨rfl, ((((Fr.refl _).alloc _).alloc _).drew.trans F2.out).alloc _⟩)
    · have D := hideP (D74.out rfl)
      have X1 := hideP (X74.out rfl)
      clear D85 X85 D74 X74 D73 X73 D66 X66 D83 X83 D72 X72 D82 X82 D67 X67 D78 X78
      go_wp2_with fail
      refine (rdecode_as _ o' d' a' b' n' g' D (by first | exact bits_lo_u32 _ _ _ | exact V0.out) (by first | exact bits_hi_u32 _ _ _ | exact V1.out) _).mono ?_; rintro e w2 ⟨rfl, hF⟩
      have F2 := hideP hF
      clear hF
      obtain ⟨c0, c1, c2, c3, c4⟩ := box5 w (w2.alloc (.cells #[.int .i64 o', .int .i64 d', .int .i64 a', .int .i64 b', .int .i32 n'] 62)) ((k : Int) + 1) d a b n ((((Fr.refl _).alloc _).drew.trans F2.out).alloc _)
      cases g'
      · obtain ⟨rfl, rfl⟩ := X.out (fun x => absurd x.1 (by decide))
        go_wp2_with fail
        go_ret2
        exact ⟨rfl, ((((Fr.refl _).alloc _).alloc _).drew.trans F2.out).alloc _⟩
      · go_wp2_with fail
        all_goals first
          | (have q := Y.out ⟨(by trivial), by assumption, by assumption, by assumption, by assumption, by assumption⟩
             have q2 := X1.out q
             subst q q2
             go_ret2
             exact ⟨rfl, ((((Fr.refl _).alloc _).alloc _).drew.trans F2.out).alloc _⟩)
          | (obtain ⟨rfl, rfl⟩ := X.out (by rintro ⟨_, q0, q1, q2, q3, q4⟩; simp_all)
             go_ret2
             exact ⟨rfl, ((((Fr.refl _).alloc _).alloc _).drew.trans F2.out).alloc _⟩)
    · have D := hideP (D73.out rfl)
      have X1 := hideP (X73.out rfl)
      clear D85 X85 D74 X74 D73 X73 D66 X66 D83 X83 D72 X72 D82 X82 D67 X67 D78 X78
      go_wp2_with fail
      refine (rdecode_as _ o' d' a' b' n' g' D (by first | exact bits_lo_u32 _ _ _ | exact V0.out) (by first | exact bits_hi_u32 _ _ _ | exact V1.out) _).mono ?_; rintro e w2 ⟨rfl, hF⟩
      have F2 := hideP hF
      clear hF
      obtain ⟨c0, c1, c2, c3, c4⟩ := box5 w (w2.alloc (.cells #[.int .i64 o', .int .i64 d', .int .i64 a', .int .i64 b', .int .i32 n'] 62)) ((k : Int) + 1) d a b n ((((Fr.refl _).alloc _).drew.trans F2.out).alloc _)
      cases g'
      · obtain ⟨rfl, rfl⟩ := X.out (fun x => absurd x.1 (by decide))
        go_wp2_with fail
        go_ret2
        exact ⟨rfl, ((((Fr.refl _).alloc _).alloc _).drew.trans F2.out).alloc _⟩
      · go_wp2_with fail
        all_goals first
          | (have q := Y.out ⟨(by trivial), by assumption, by assumption, by assumption, by assumption, by assumption⟩
             have q2 := X1.out q
             subst q q2
             go_ret2
             exact ⟨rfl, ((((Fr.refl _).alloc _).alloc _).drew.trans F2.out).alloc _⟩)
          | (obtain ⟨rfl, rfl⟩ := X.out (by rintro ⟨_, q0, q1, q2, q3, q4⟩; simp_all)
             go_ret2
             exact ⟨rfl, ((((Fr.refl _).alloc _).alloc _).drew.trans F2.out).alloc _⟩)
    · have D := hideP (D66.out rfl)
      have X1 := hideP (X66.out rfl)
      clear D85 X85 D74 X74 D73 X73 D66 X66 D83 X83 D72 X72 D82 X82 D67 X67 D78 X78
      go_wp2_with fail
      refine (rdecode_as _ o' d' a' b' n' g' D (by first | exact bits_lo_u32 _ _ _ | exact V0.out) (by first | exact bits_hi_u32 _ _ _ | exact V1.out) _).mono ?_; rintro e w2 ⟨rfl, hF⟩
      have F2 := hideP hF
      clear hF
      obtain ⟨c0, c1, c2, c3, c4⟩ := box5 w (w2.alloc (.cells #[.int .i64 o', .int .i64 d', .int .i64 a', .int .i64 b', .int .i32 n'] 62)) ((k : Int) + 1) d a b n ((((Fr.refl _).alloc _).drew.trans F2.out).alloc _)
      cases g'
      · obtain ⟨rfl, rfl⟩ := X.out (fun x => absurd x.1 (by decide))
        go_wp2_with fail
        go_ret2
        exact ⟨rfl, ((((Fr.refl _).alloc _).alloc _).drew.trans F2.out).alloc _⟩
      · go_wp2_with fail
        all_goals first
          | (have q := Y.out ⟨(by trivial), by assumption, by assumption, by assumption, by assumption, by assumption⟩
             have q2 := X1.out q
             subst q q2
             go_ret2
             exact ⟨rfl, ((((Fr.refl _).alloc _).alloc _).drew.trans F2.out).alloc _⟩)
          | (obtain ⟨rfl, rfl⟩ := X.out (by rintro ⟨_, q0, q1, q2, q3, q4⟩; simp_all)
             go_ret2
             exact ⟨rfl, ((((Fr.refl _).alloc _).alloc _).drew.trans F2.out).alloc _⟩)
    · have D := hideP (D83.out rfl)
      have X1 := hideP (X83.out rfl)
      clear D85 X85 D74 X74 D73 X73 D66 X66 D83 X83 D72 X72 D82 X82 D67 X67 D78 X78
      go_wp2_with fail
      refine (rdecode_as _ o' d' a' b' n' g' D (by first | exact bits_lo_u32 _ _ _ | exact V0.out) (by first | exact bits_hi_u32 _ _ _ | exact V1.out) _).mono ?_; rintro e w2 ⟨rfl, hF⟩
      have F2 := hideP hF
      clear hF
      obtain ⟨c0, c1, c2, c3, c4⟩ := box5 w (w2.alloc (.cells #[.int .i64 o', .int .i64 d', .int .i64 a', .int .i64 b', .int .i32 n'] 62)) ((k : Int) + 1) d a b n ((((Fr.refl _).alloc _).drew.trans F2.out).alloc _)
      cases g'
      · obtain ⟨rfl, rfl⟩ := X.out (fun x => absurd x.1 (by decide))
        go_wp2_with fail
        go_ret2
        exact ⟨rfl, ((((Fr.refl _).alloc _).alloc _).drew.trans F2.out).alloc _⟩
      · go_wp2_with fail
        all_goals first
          | (have q := Y.out ⟨(by trivial), by assumption, by assumption, by assumption, by assumption, by assumption⟩
             have q2 := X1.out q
             subst q q2
             go_ret2
             exact ⟨rfl, ((((Fr.refl _).alloc _).alloc _).drew.trans F2.out).alloc _⟩)
          | (obtain ⟨rfl, rfl⟩ := X.out (by rintro ⟨_, q0, q1, q2, q3, q4⟩; simp_all)
             go_ret2
             exact ⟨rfl, ((((Fr.refl _).alloc _).alloc _).drew.trans F2.out).alloc _⟩)
    · have D := hideP (D72.out rfl)
      have X1 := hideP (X72.out rfl)
      clear D85 X85 D74 X74 D73 X73 D66 X66 D83 X83 D72 X72 D82 X82 D67 X67 D78 X78
      go_wp2_with fail
      refine (rdecode_as _ o' d' a' b' n' g' D (by first | exact bits_lo_u32 _ _ _ | exact V0.out) (by first | exact bits_hi_u32 _ _ _ | exact V1.out) _).mono ?_; rintro e w2 ⟨rfl, hF⟩
      have F2 := hideP hF
      clear hF
      obtain ⟨c0, c1, c2, c3, c4⟩ := box5 w (w2.alloc (.cells #[.int .i64 o', .int .i64 d', .int .i64 a', .int .i64 b', .int .i32 n'] 62)) ((k : Int) + 1) d a b n ((((Fr.refl _).alloc _).drew.trans F2.out).alloc _)
      cases g'
      · obtain ⟨rfl, rfl⟩ := X.out (fun x => absurd x.1 (by decide))
        go_wp2_with fail
        go_ret2
        exact ⟨rfl, ((((Fr.refl _).alloc _).alloc _).drew.trans F2.out).alloc _⟩
      · go_wp2_with fail
        all_goals first
          | (have q := Y.out ⟨(by trivial), by assumption, by assumption, by assumption, by assumption, by assumption⟩
             have q2 := X1.out q
             subst q q2
             go_ret2
             exact ⟨rfl, ((((Fr.refl _).alloc _).alloc _).drew.trans F2.out).alloc _⟩)
          | (obtain ⟨rfl, rfl⟩ := X.out (by rintro ⟨_, q0, q1, q2, q3, q4⟩; simp_all)
             go_ret2
             exact ⟨rfl, ((((Fr.refl _).alloc _).alloc _).drew.trans F2.out).alloc _⟩)
    · have D := hideP (D82.out rfl)
      have X1 := hideP (X82.out rfl)
      clear D85 X85 D74 X74 D73 X73 D66 X66 D83 X83 D72 X72 D82 X82 D67 X67 D78 X78
      go_wp2_with fail
      refine (rdecode_as _ o' d' a' b' n' g' D (by first | exact bits_lo_u32 _ _ _ | exact V0.out) (by first | exact bits_hi_u32 _ _ _ | exact V1.out) _).mono ?_; rintro e w2 ⟨rfl, hF⟩
      have F2 := hideP hF
      clear hF
      obtain ⟨c0, c1, c2, c3, c4⟩ := box5 w (w2.alloc (.cells #[.int .i64 o', .int .i64 d', .int .i64 a', .int .i64 b', .int .i32 n'] 62)) ((k : Int) + 1) d a b n ((((Fr.refl _).alloc _).drew.trans F2.out).alloc _)
      cases g'
      · obtain ⟨rfl, rfl⟩ := X.out (fun x => absurd x.1 (by decide))
        go_wp2_with fail
        go_ret2
        exact ⟨rfl, ((((Fr.refl _).alloc _).alloc _).drew.trans F2.out).alloc _⟩
      · go_wp2_with fail
        all_goals first
          | (have q := Y.out ⟨(by trivial), by assumption, by assumption, by assumption, by assumption, by assumption⟩
             have q2 := X1.out q
             subst q q2
             go_ret2
             exact ⟨rfl, ((((Fr.refl _).alloc _).alloc _).drew.trans F2.out).alloc _⟩)
          | (obtain ⟨rfl, rfl⟩ := X.out (by rintro ⟨_, q0, q1, q2, q3, q4⟩; simp_all)
             go_ret2
             exact ⟨rfl, ((((Fr.refl _).alloc _).alloc _).drew.trans F2.out).alloc _⟩)
    · have D := hideP (D67.out rfl)
      have X1 := hideP (X67.out rfl)
      clear D85 X85 D74 X74 D73 X73 D66 X66 D83 X83 D72 X72 D82 X82 D67 X67 D78 X78
      go_wp2_with fail
      refine (rdecode_as _ o' d' a' b' n' g' D (by first | exact bits_lo_u32 _ _ _ | exact V0.out) (by first | exact bits_hi_u32 _ _ _ | exact V1.out) _).mono ?_; rintro e w2 ⟨rfl, hF⟩
      have F2 := hideP hF
      clear hF
      obtain ⟨c0, c1, c2, c3, c4⟩ := box5 w (w2.alloc (.cells #[.int .i64 o', .int .i64 d', .int .i64 a', .int .i64 b', .int .i32 n'] 62)) ((k : Int) + 1) d a b n ((((Fr.refl _).alloc _).drew.trans F2.out).alloc _)
      cases g'
      · obtain ⟨rfl, rfl⟩ := X.out (fun x => absurd x.1 (by decide))
        go_wp2_with fail
        go_ret2
        exact ⟨rfl, ((((Fr.refl _).alloc _).alloc _).drew.trans F2.out).alloc _⟩
      · go_wp2_with fail
        all_goals first
          | (have q := Y.out ⟨(by trivial), by assumption, by assumption, by assumption, by assumption, by assumption⟩
             have q2 := X1.out q
             subst q q2
             go_ret2
             exact ⟨rfl, ((((Fr.refl _).alloc _).alloc _).drew.trans F2.out).alloc _⟩)
          | (obtain ⟨rfl, rfl⟩ := X.out (by rintro ⟨_, q0, q1, q2, q3, q4⟩; simp_all)
             go_ret2
             exact ⟨rfl, ((((Fr.refl _).alloc _).alloc _).drew.trans F2.out).alloc _⟩)
    · have D := hideP (D78.out rfl)
      have X1 := hideP (X78.out rfl)
      clear D85 X85 D74 X74 D73 X73 D66 X66 D83 X83 D72 X72 D82 X82 D67 X67 D78 X78
      go_wp2_with fail
      refine (rdecode_as _ o' d' a' b' n' g' D (by first | exact bits_lo_u32 _ _ _ | exact V0.out) (by first | exact bits_hi_u32 _ _ _ | exact V1.out) _).mono ?_; rintro e w2 ⟨rfl, hF⟩
      have F2 := hideP hF
      clear hF
      obtain ⟨c0, c1, c2, c3, c4⟩ := box5 w (w2.alloc (.cells #[.int .i64 o', .int .i64 d', .int .i64 a', .int .i64 b', .int .i32 n'] 62)) ((k : Int) + 1) d a b n ((((Fr.refl _).alloc _).drew.trans F2.out).alloc _)
      cases g'
      · obtain ⟨rfl, rfl⟩ := X.out (fun x => absurd x.1 (by decide))
        go_wp2_with fail
        go_ret2
        exact ⟨rfl, ((((Fr.refl _).alloc _).alloc _).drew.trans F2.out).alloc _⟩
      · go_wp2_with fail
        all_goals first
          | (have q := Y.out ⟨(by trivial), by assumption, by assumption, by assumption, by assumption, by assumption⟩
             have q2 := X1.out q
             subst q q2
             go_ret2
             exact ⟨rfl, ((((Fr.refl _).alloc _).alloc _).drew.trans F2.out).alloc _⟩)
          | (obtain ⟨rfl, rfl⟩ := X.out (by rintro ⟨_, q0, q1, q2, q3, q4⟩; simp_all)
             go_ret2
             exact ⟨rfl, ((((Fr.refl _).alloc _).alloc _).drew.trans F2.out).alloc _⟩)
end Go.Proofs.YtpkbkbllhpdfiaaGreat.Walks
