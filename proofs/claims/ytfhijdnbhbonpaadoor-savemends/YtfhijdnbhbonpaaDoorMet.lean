/- What the row's condition on the listed table gives the walks, and that the door's own heap meets it. -/
import Derived.Test.YtfhijdnbhbonpaaDoorRows
import Derived.Test.YtfhijdnbhbonpaaDoorSyn
import Derived.ProofKit
import Derived.LaidMore
import Derived.OpenShut
import Derived.Stop.Joined
import Derived.Lib.LaidTab
namespace Go.Proofs.YtfhijdnbhbonpaaDoor.Met
open Go.ChangeShapes Go.WideShapes Go.ChangeAt Go.WideMaps Go.WideElems Go.RowKit
def steps : Nat := 400
def lst : List (String × DataW Unit) := [("dioscuri/hsiao.rows", Rows.laid_dioscuri_hsiao_rows)]
theorem gRows : Tryd.prog.globalNamed "dioscuri/hsiao.rows" = some 0 := by kernel_rfl
theorem tRows : (Tryd.prog.globals[0]?).map (·.type) = some 84 := by kernel_rfl
theorem cells22 : Tryd.prog.cellsOf 74 = 1 := by kernel_rfl
theorem cells40 : Tryd.prog.cellsOf 84 = 7 := by kernel_rfl
theorem door_met (os : Os) (args : Array Value) : laidMetH Tryd.prog lst ((World.doorLaid Tryd.prog steps os).forCall (fun _ _ => 0) ⟨#[], args, []⟩).memory :=
  laidMetH_of_parts3 (fuel := 8) (laidMet_of_run' 8 (by kernel_rfl) (by kernel_rfl)) (by kernel_rfl) (by kernel_rfl)
theorem of_laid {W : World} (h : laidMetH Tryd.prog lst W) : Walks.Laid W := by
  rw [MakeChecks.laidMetH_plain _ _ _ (by kernel_rfl)] at h
  have h' : laidMet Tryd.prog (("dioscuri/hsiao.rows", Lib.tabData .u64 [5447429303, 10893808987, 17488452205, 34955912078, 69727093744, 140661226496, 279171825664]) :: []) W := h
  have hT := Lib.tabIs_of_head gRows tRows Tryd.underlying84 Tryd.underlying74 cells22 cells40 h'
  unfold Lib.TabIs World.var? at hT
  rw [gRows] at hT
  simp only [Option.bind_some] at hT
  split at hT
  · rename_i cs t fr hg
    refine ⟨t, fr, ?_⟩
    rw [hg]
    have := Option.some.inj hT
    rw [this]
    rfl
  · cases hT
end Go.Proofs.YtfhijdnbhbonpaaDoor.Met
