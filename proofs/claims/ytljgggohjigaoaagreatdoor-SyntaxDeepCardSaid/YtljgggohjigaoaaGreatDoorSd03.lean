/- Nested texts parsed, part 2 -/
import Derived.Test.YtljgggohjigaoaaGreatDoorSd01
namespace Go.Proofs.YtljgggohjigaoaaGreatDoor
theorem deepN_1 : (List.range 6).all (deepB 1) = true := by kernel_rfl
theorem blkN_1 : blkB 1 = true := by kernel_rfl
theorem deepN_5 : (List.range 6).all (deepB 5) = true := by kernel_rfl
theorem blkN_5 : blkB 5 = true := by kernel_rfl
theorem deepN_9 : (List.range 6).all (deepB 9) = true := by kernel_rfl
theorem blkN_9 : blkB 9 = true := by kernel_rfl
theorem deepN_13 : (List.range 6).all (deepB 13) = true := by kernel_rfl
theorem blkN_13 : blkB 13 = true := by kernel_rfl
theorem deepN_17 : (List.range 6).all (deepB 17) = true := by kernel_rfl
theorem blkN_17 : blkB 17 = true := by kernel_rfl
theorem deepN_21 : (List.range 6).all (deepB 21) = true := by kernel_rfl
theorem blkN_21 : blkB 21 = true := by kernel_rfl
theorem deepN_25 : (List.range 6).all (deepB 25) = true := by kernel_rfl
theorem blkN_25 : blkB 25 = true := by kernel_rfl
theorem deepN_29 : (List.range 6).all (deepB 29) = true := by kernel_rfl
theorem blkN_29 : blkB 29 = true := by kernel_rfl
theorem deepN_33 : (List.range 6).all (deepB 33) = true := by kernel_rfl
theorem blkN_33 : blkB 33 = true := by kernel_rfl
theorem deepN_37 : (List.range 6).all (deepB 37) = true := by kernel_rfl
theorem blkN_37 : blkB 37 = true := by kernel_rfl
end Go.Proofs.YtljgggohjigaoaaGreatDoor
