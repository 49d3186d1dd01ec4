/- Nested texts parsed, part 1 -/
import Derived.Test.YtljgggohjigaoaaGreatDoorSd01
namespace Go.Proofs.YtljgggohjigaoaaGreatDoor
theorem deepN_0 : (List.range 6).all (deepB 0) = true := by kernel_rfl
theorem blkN_0 : blkB 0 = true := by kernel_rfl
theorem deepN_4 : (List.range 6).all (deepB 4) = true := by kernel_rfl
theorem blkN_4 : blkB 4 = true := by kernel_rfl
theorem deepN_8 : (List.range 6).all (deepB 8) = true := by kernel_rfl
theorem blkN_8 : blkB 8 = true := by kernel_rfl
theorem deepN_12 : (List.range 6).all (deepB 12) = true := by kernel_rfl
theorem blkN_12 : blkB 12 = true := by kernel_rfl
theorem deepN_16 : (List.range 6).all (deepB 16) = true := by kernel_rfl
theorem blkN_16 : blkB 16 = true := by kernel_rfl
theorem deepN_20 : (List.range 6).all (deepB 20) = true := by kernel_rfl
theorem blkN_20 : blkB 20 = true := by kernel_rfl
theorem deepN_24 : (List.range 6).all (deepB 24) = true := by kernel_rfl
theorem blkN_24 : blkB 24 = true := by kernel_rfl
theorem deepN_28 : (List.range 6).all (deepB 28) = true := by kernel_rfl
theorem blkN_28 : blkB 28 = true := by kernel_rfl
theorem deepN_32 : (List.range 6).all (deepB 32) = true := by kernel_rfl
theorem blkN_32 : blkB 32 = true := by kernel_rfl
theorem deepN_36 : (List.range 6).all (deepB 36) = true := by kernel_rfl
theorem blkN_36 : blkB 36 = true := by kernel_rfl
end Go.Proofs.YtljgggohjigaoaaGreatDoor
