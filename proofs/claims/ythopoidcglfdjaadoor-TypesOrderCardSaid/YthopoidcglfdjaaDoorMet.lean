/-
  The door's own heap holds the tables that the row lists.
-/
import Derived.Test.YthopoidcglfdjaaDoorRows
import Derived.Test.YthopoidcglfdjaaDoorX24
import Derived.ProofKit
import Derived.LaidMore
import Derived.OpenShut
import Derived.Stop.Joined
namespace Go.Proofs.YthopoidcglfdjaaDoor
open Go.ChangeShapes Go.WideShapes Go.ChangeAt Go.RowKit

theorem own : ownKnob Tryd.prog.godebug = none := by kernel_rfl
theorem laidOut : laidOutB Tryd.prog = true := by kernel_rfl

theorem tyTable : TyTable Tryd.prog 25 3 9 22 23 { name := "Op", type := 3, offset := 0, embedded := false, tag := "", pkgPath := "", byteOffset := 0 } { name := "Name", type := 9, offset := 1, embedded := false, tag := "", pkgPath := "", byteOffset := 8 }
    { name := "Index", type := 3, offset := 2, embedded := false, tag := "", pkgPath := "", byteOffset := 24 } { name := "Sort", type := 22, offset := 3, embedded := false, tag := "", pkgPath := "", byteOffset := 32 } { name := "Args", type := 23, offset := 4, embedded := false, tag := "", pkgPath := "", byteOffset := 56 } :=
  { ty := Tryd.underlying25, cells := by kernel_rfl, t0 := ⟨rfl, rfl⟩, t1 := ⟨rfl, rfl⟩, t2 := ⟨rfl, rfl⟩, t3 := ⟨rfl, rfl⟩, t4 := ⟨rfl, rfl⟩, int := Tryd.underlying3, str := Tryd.underlying9, strs := Tryd.underlying22, tys := Tryd.underlying23,
    ci := by kernel_rfl, cs := by kernel_rfl, css := by kernel_rfl, cts := by kernel_rfl }

set_option maxRecDepth 100000 in
/-- The tables that the rows list: the door's own heap holds them. -/
theorem door_met (os : Os) (args : Array Value) : laidMetH Tryd.prog Rows.typesOrderRow.laid ((World.doorLaid Tryd.prog 400 os).forCall (fun _ _ => 0) ⟨#[], args, []⟩).memory :=
  laidMetH_of_parts3 (fuel := 8) (laidMet_of_run' 8 (by kernel_rfl) (by kernel_rfl)) (by kernel_rfl) (by kernel_rfl)
end Go.Proofs.YthopoidcglfdjaaDoor
