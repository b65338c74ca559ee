/- Numbers: what a word is decoded as; contract of the program's Decode. -/
import Derived.Test.YtlnliiihcajboaaDoorOper
import Derived.Test.YtlnliiihcajboaaDoorOps
namespace Go.Proofs.YtlnliiihcajboaaDoor.Num
def op (v : Int) : Int := opc v (v % 128) (v / 4096 % 8) (v / 33554432 % 128)
/-- the word v is decoded as o d a b n; g: it is an instruction -/
structure Dec (v o d a b n : Int) (g : Bool) : Prop where
  ho : op v = o
  hd : dD (fm o) v = d
  ha : dA (fm o) v = a
  hb : dB (fm o) v = b
  hn : dN (fm o) v = n
  hg : (o != 0) = g
theorem Dec.ex (v : Int) : ∃ o d a b n g, Dec v o d a b n g := ⟨_, _, _, _, _, _, rfl, rfl, rfl, rfl, rfl, rfl⟩
end Go.Proofs.YtlnliiihcajboaaDoor.Num
namespace Go.Proofs.YtlnliiihcajboaaDoor.Walks
open Go.ChangeShapes Go.WideShapes Go.ChangeAt Go.RowKit
set_option linter.unusedVariables false
theorem bt_7_5 (v : Int) : Num.bt v 7 5 = v / 128 % 32 := Num.bt_lit v 7 5 128 32 (by decide) (by decide) (by decide) (by decide) (by decide) (by decide)
theorem bt_15_5 (v : Int) : Num.bt v 15 5 = v / 32768 % 32 := Num.bt_lit v 15 5 32768 32 (by decide) (by decide) (by decide) (by decide) (by decide) (by decide)
theorem bt_20_5 (v : Int) : Num.bt v 20 5 = v / 1048576 % 32 := Num.bt_lit v 20 5 1048576 32 (by decide) (by decide) (by decide) (by decide) (by decide) (by decide)
theorem bt_20_12 (v : Int) : Num.bt v 20 12 = v / 1048576 % 4096 := Num.bt_lit v 20 12 1048576 4096 (by decide) (by decide) (by decide) (by decide) (by decide) (by decide)
theorem bt_12_3 (v : Int) : Num.bt v 12 3 = v / 4096 % 8 := Num.bt_lit v 12 3 4096 8 (by decide) (by decide) (by decide) (by decide) (by decide) (by decide)
theorem bt_25_7 (v : Int) : Num.bt v 25 7 = v / 33554432 % 128 := Num.bt_lit v 25 7 33554432 128 (by decide) (by decide) (by decide) (by decide) (by decide) (by decide)
theorem bt_0_7 (v : Int) : Num.bt v 0 7 = v % 128 := by
  rw [Num.bt_lit v 0 7 1 128 (by decide) (by decide) (by decide) (by decide) (by decide) (by decide), Int.ediv_one]
theorem op_as (v o : Int) (H : Hid (Num.op v = o)) (w : World) : Calls Tryd.prog 49 #[.int .u32 v] w fun e w' => e = .returned (.int .i64 o) ∧ w' = w := by
  rw [← H.out]; exact op_core v _ _ _ (bt_0_7 v) (bt_12_3 v) (bt_25_7 v) w
theorem oper_all (o v : Int) (v0 : 0 ≤ v) (v1 : v ≤ 4294967295) (w : World) :
    Calls Tryd.prog 50 #[.int .i64 o, .int .u32 v] w fun e w' => e = .returned (.agg (cells o (Num.dD (Num.fm o) v) (Num.dA (Num.fm o) v) (Num.dB (Num.fm o) v) (Num.dN (Num.fm o) v))) ∧ w' = w.alloc (.cells (cells o (Num.dD (Num.fm o) v) (Num.dA (Num.fm o) v) (Num.dB (Num.fm o) v) (Num.dN (Num.fm o) v)) 27) := by
  have x0 : 0 ≤ v / 128 % 32 := by omega
  have x1 : v / 128 % 32 ≤ 31 := by omega
  have y0 : 0 ≤ v / 32768 % 32 := by omega
  have y1 : v / 32768 % 32 ≤ 31 := by omega
  have z0 : 0 ≤ v / 1048576 % 32 := by omega
  have z1 : v / 1048576 % 32 ≤ 31 := by omega
  rcases Num.fm_is o with h | h | h | h | h | h | h | h | h | ⟨h, hb⟩ | ⟨h, hb⟩
  all_goals (have F := hideP h; rw [h]; clear h)
  · exact oper0 o v _ _ _ v0 v1 x0 x1 y0 y1 z0 z1 F (bt_7_5 v) (bt_15_5 v) (bt_20_5 v) w
  · exact oper1 o v _ _ _ v0 v1 x0 x1 y0 y1 z0 z1 F (bt_7_5 v) (bt_15_5 v) (bt_20_5 v) w
  · exact oper2 o v _ _ _ v0 v1 x0 x1 y0 y1 z0 z1 F (bt_7_5 v) (bt_15_5 v) (bt_20_5 v) w
  · exact oper3 o v _ _ _ _ rfl v0 v1 x0 x1 y0 y1 z0 z1 F (bt_7_5 v) (bt_15_5 v) (bt_20_5 v) w
  · exact oper4 o v _ _ _ v0 v1 x0 x1 y0 y1 z0 z1 F (bt_7_5 v) (bt_15_5 v) (bt_20_5 v) w
  · exact oper5 o v _ _ _ _ rfl v0 v1 x0 x1 y0 y1 z0 z1 F (bt_7_5 v) (bt_15_5 v) (bt_20_5 v) w
  · exact oper6 o v _ _ _ _ rfl v0 v1 x0 x1 y0 y1 z0 z1 F (bt_7_5 v) (bt_15_5 v) (bt_20_5 v) w
  · exact oper7 o v _ _ _ _ rfl v0 v1 x0 x1 y0 y1 z0 z1 F (bt_7_5 v) (bt_15_5 v) (bt_20_5 v) w
  · exact oper8 o v _ _ _ _ rfl v0 v1 x0 x1 y0 y1 z0 z1 F (bt_7_5 v) (bt_15_5 v) (bt_20_5 v) w
  · exact oper9 o v _ _ _ _ (bt_20_12 v) (by omega) (by omega) v0 v1 x0 x1 y0 y1 z0 z1 F (bt_7_5 v) (bt_15_5 v) (bt_20_5 v) w
  · exact oper10 o v _ _ _ _ (bt_20_12 v) (by omega) (by omega) v0 v1 x0 x1 y0 y1 z0 z1 F (bt_7_5 v) (bt_15_5 v) (bt_20_5 v) w
theorem oper_as (v o d a b n : Int) (g : Bool) (D : Hid (Num.Dec v o d a b n g)) (v0 : 0 ≤ v) (v1 : v ≤ 4294967295) (w : World) :
    Calls Tryd.prog 50 #[.int .i64 o, .int .u32 v] w fun e w' => e = .returned (.agg (cells o d a b n)) ∧ w' = w.alloc (.cells (cells o d a b n) 27) := by
  have := oper_all o v v0 v1 w
  rw [D.out.hd, D.out.ha, D.out.hb, D.out.hn] at this
  exact this
set_option maxHeartbeats 2000000 in
theorem decode_no (v : Int) (O : Hid (Num.op v = 0)) (w : World) :
    Calls Tryd.prog 21 #[.int .u32 v] w fun e w' => e = .returned (.tuple #[.agg (cells 0 0 0 0 0), .bool false]) ∧ Fr w w' := by
  go_enter Tryd.func21, Tryd.ntmps21
  go_wp2_with fail
  refine (op_as _ _ O _).mono ?_; rintro e w' ⟨rfl, rfl⟩
  go_wp2_with fail
  refine bodyPost_ret (v := .tuple #[.agg (cells 0 0 0 0 0), .bool false]) (by simp [results, Tryd.results21, go_sem]) rfl ⟨rfl, ?_⟩
  exact (Fr.refl _).alloc _
set_option maxHeartbeats 2000000 in
theorem decode_yes (v o d a b n : Int) (D : Hid (Num.Dec v o d a b n true)) (hz : (o == 0) = false) (v0 : Hid (0 ≤ v)) (v1 : Hid (v ≤ 4294967295)) (w : World) :
    Calls Tryd.prog 21 #[.int .u32 v] w fun e w' => e = .returned (.tuple #[.agg (cells o d a b n), .bool true]) ∧ Fr w w' := by
  go_enter Tryd.func21, Tryd.ntmps21
  go_wp2_with fail
  refine (op_as _ _ D.out.ho _).mono ?_; rintro e w' ⟨rfl, rfl⟩
  go_wp2_with fail
  refine (oper_as v o d a b n true D v0.out v1.out _).mono ?_; rintro e w1 ⟨rfl, rfl⟩
  go_wp2_with fail
  refine bodyPost_ret (v := .tuple #[.agg (cells o d a b n), .bool true]) (by simp [results, Tryd.results21, go_sem]) rfl ⟨rfl, ?_⟩
  exact ((Fr.refl _).alloc _).alloc _
theorem decode_as (v o d a b n : Int) (g : Bool) (D : Hid (Num.Dec v o d a b n g)) (v0 : 0 ≤ v) (v1 : v ≤ 4294967295) (w : World) :
    Calls Tryd.prog 21 #[.int .u32 v] w fun e w' => e = .returned (.tuple #[.agg (cells o d a b n), .bool g]) ∧ Fr w w' := by
  cases g
  · obtain ⟨ho, hd, ha, hb, hn, hg⟩ := D.out
    have z : o = 0 := by simpa using hg
    subst z
    have x := decode_no v ho w
    rw [← hd, ← ha, ← hb, ← hn]
    exact x
  · exact decode_yes v o d a b n D (by have := D.out.hg; simpa using this) v0 v1 w
end Go.Proofs.YtlnliiihcajboaaDoor.Walks
