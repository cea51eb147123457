/- The table of the sums. -/
import Derived.Test.YtbgkmppngnedlabDoorCards
import Derived.Test.YtbgkmppngnedlabDoorTie
import Derived.Test.YtbgkmppngnedlabDoorOCrc
import Derived.Deep.DeepHandedRow
import Derived.Lib.LaidTab
namespace Go.Proofs.YtbgkmppngnedlabDoor
open Go.ChangeShapes Go.WideShapes Go.ChangeAt Go.RowKit Crc
theorem laidOut : laidOutB Tryd.prog = true := by kernel_rfl
theorem gTab : Tryd.prog.globalNamed "corbel/crc.steps" = some 0 := by kernel_rfl
theorem gTabType : (Tryd.prog.globals[0]?).map (·.type) = some 101 := by kernel_rfl
theorem cellsTab : Tryd.prog.cellsOf 101 = 16 := by kernel_rfl
theorem cellsTabE : Tryd.prog.cellsOf 81 = 1 := by kernel_rfl
def tblI : List Int := [0, 274646895, 549293790, 820201905, 1098587580, 1361435347, 1640403810, 1905808397, 2197175160, 2460548119, 2722870694, 2987750089, 3280807620, 3553878443, 3811616794, 4084100981]
theorem tblI_eq : ∀ i : Fin 16, tblI.getD i.1 0 = ((tbl.getD i.1 0 : Nat) : Int) := by decide
theorem table {W : World} (h : laidMetH Tryd.prog [("corbel/crc.steps", Rows.laid_corbel_crc_steps)] W) : Tab W := by
  have ht : Lib.TabIs Tryd.prog W "corbel/crc.steps" .u32 tblI :=
    Lib.tabIs_of_head (rest := []) gTab gTabType Tryd.underlying101 Tryd.underlying81 cellsTabE cellsTab h
  intro i hi
  have := ht.cell gTab i hi
  rw [tblI_eq ⟨i, hi⟩] at this
  exact this
/-- A world for the witness: the settled one, the table holding what its initialiser lays. -/
noncomputable def laidWorld (os : Os) : World :=
  { World.holding Tryd.prog os ⟨#[], #[], []⟩ with heap := (World.holding Tryd.prog os ⟨#[], #[], []⟩).heap.modify 0 fun
      | .cells _ t frozen => .cells (tblI.map fun z => Value.int .u32 z).toArray t frozen
      | o => o }
end Go.Proofs.YtbgkmppngnedlabDoor
