/- Numbers: operandBits as a function of the format; its contract, for any. -/
import Derived.Test.YtlnliiihcajboaaDoorObits
namespace Go.Proofs.YtlnliiihcajboaaDoor.Num
open Go.ChangeShapes Go.WideShapes Go.ChangeAt Go.RowKit
/-- what the program's operandBits lays together -/
def ob (f d a b n : Int) : Int :=
  if f = 2 then bits .or .u32 (bits .or .u32 (d % 4294967296 % 32 * 128) (a % 4294967296 % 32 * 32768)) (b % 4294967296 % 32 * 1048576)
  else if f = 3 ∨ f = 9 ∨ f = 10 then bits .or .u32 (bits .or .u32 (d % 4294967296 % 32 * 128) (a % 4294967296 % 32 * 32768)) (n % 4294967296 % 4096 * 1048576)
  else if f = 4 then bits .or .u32 (bits .or .u32 (d % 4294967296 % 32 * 128) (a % 4294967296 % 32 * 32768)) (n % 4294967296 % 32 * 1048576)
  else if f = 5 then bits .or .u32 (bits .or .u32 (bits .or .u32 (a % 4294967296 % 32 * 32768) (b % 4294967296 % 32 * 1048576)) (n % 4294967296 % 32 * 128)) (n % 4294967296 / 32 % 128 * 33554432)
  else if f = 6 then bits .or .u32 (bits .or .u32 (bits .or .u32 (bits .or .u32 (bits .or .u32 (a % 4294967296 % 32 * 32768) (b % 4294967296 % 32 * 1048576)) (n % 4294967296 / 2048 % 2 * 128)) (n % 4294967296 / 2 % 16 * 256)) (n % 4294967296 / 32 % 64 * 33554432)) (n % 4294967296 / 4096 % 2 * 2147483648)
  else if f = 7 then bits .or .u32 (d % 4294967296 % 32 * 128) (n % 4294967296 / 4096 % 1048576 * 4096)
  else if f = 8 then bits .or .u32 (bits .or .u32 (bits .or .u32 (bits .or .u32 (d % 4294967296 % 32 * 128) (n % 4294967296 / 4096 % 256 * 4096)) (n % 4294967296 / 2048 % 2 * 1048576)) (n % 4294967296 / 2 % 1024 * 2097152)) (n % 4294967296 / 1048576 % 2 * 2147483648)
  else 0
end Go.Proofs.YtlnliiihcajboaaDoor.Num
namespace Go.Proofs.YtlnliiihcajboaaDoor.Walks
open Go.ChangeShapes Go.WideShapes Go.ChangeAt Go.RowKit
set_option linter.unusedVariables false
theorem obits_as (o d a b n f p : Int) (F : Hid (Num.fm o = f)) (H : Hid (Num.ob f d a b n = p)) (w : World) :
    Calls Tryd.prog 20 #[.int .i64 f, .agg (cells o d a b n)] w fun e w' => e = .returned (.int .u32 p) ∧ ∃ m, w' = (w.alloc (.cells (cells o d a b n) 27)).drewN m := by
  rw [← H.out]; clear H
  rcases Num.fm_is o with h | h | h | h | h | h | h | h | h | ⟨h, _⟩ | ⟨h, _⟩
  all_goals (obtain rfl : f = _ := F.out.symm.trans h; clear h F)
  · exact obits0 o d a b n _ _ _ rfl rfl rfl w
  · exact obits1 o d a b n _ _ _ rfl rfl rfl w
  · exact obits2 o d a b n _ _ _ rfl rfl rfl w
  · exact obits3 o d a b n _ _ _ _ rfl rfl rfl rfl w
  · exact obits4 o d a b n _ _ _ _ rfl rfl rfl rfl w
  · exact obits5 o d a b n _ _ _ _ _ rfl rfl rfl rfl rfl w
  · exact obits6 o d a b n _ _ _ _ _ _ _ rfl rfl rfl rfl rfl rfl rfl w
  · exact obits7 o d a b n _ _ _ _ rfl rfl rfl rfl w
  · exact obits8 o d a b n _ _ _ _ _ _ _ rfl rfl rfl rfl rfl rfl rfl w
  · exact obits9 o d a b n _ _ _ _ rfl rfl rfl rfl w
  · exact obits10 o d a b n _ _ _ _ rfl rfl rfl rfl w
end Go.Proofs.YtlnliiihcajboaaDoor.Walks
