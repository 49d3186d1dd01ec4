/- Nested texts parsed, part 3 -/
import Derived.Test.YtljgggohjigaoaaGreatDoorSd01
namespace Go.Proofs.YtljgggohjigaoaaGreatDoor
theorem deepN_2 : (List.range 6).all (deepB 2) = true := by kernel_rfl
theorem blkN_2 : blkB 2 = true := by kernel_rfl
theorem deepN_6 : (List.range 6).all (deepB 6) = true := by kernel_rfl
theorem blkN_6 : blkB 6 = true := by kernel_rfl
theorem deepN_10 : (List.range 6).all (deepB 10) = true := by kernel_rfl
theorem blkN_10 : blkB 10 = true := by kernel_rfl
theorem deepN_14 : (List.range 6).all (deepB 14) = true := by kernel_rfl
theorem blkN_14 : blkB 14 = true := by kernel_rfl
theorem deepN_18 : (List.range 6).all (deepB 18) = true := by kernel_rfl
theorem blkN_18 : blkB 18 = true := by kernel_rfl
theorem deepN_22 : (List.range 6).all (deepB 22) = true := by kernel_rfl
theorem blkN_22 : blkB 22 = true := by kernel_rfl
theorem deepN_26 : (List.range 6).all (deepB 26) = true := by kernel_rfl
theorem blkN_26 : blkB 26 = true := by kernel_rfl
theorem deepN_30 : (List.range 6).all (deepB 30) = true := by kernel_rfl
theorem blkN_30 : blkB 30 = true := by kernel_rfl
theorem deepN_34 : (List.range 6).all (deepB 34) = true := by kernel_rfl
theorem blkN_34 : blkB 34 = true := by kernel_rfl
theorem deepN_38 : (List.range 6).all (deepB 38) = true := by kernel_rfl
theorem blkN_38 : blkB 38 = true := by kernel_rfl
end Go.Proofs.YtljgggohjigaoaaGreatDoor
