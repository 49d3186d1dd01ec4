/- Nested texts parsed, part 4 -/
import Derived.Test.YtljgggohjigaoaaGreatDoorSd01
namespace Go.Proofs.YtljgggohjigaoaaGreatDoor
theorem deepN_3 : (List.range 6).all (deepB 3) = true := by kernel_rfl
theorem blkN_3 : blkB 3 = true := by kernel_rfl
theorem deepN_7 : (List.range 6).all (deepB 7) = true := by kernel_rfl
theorem blkN_7 : blkB 7 = true := by kernel_rfl
theorem deepN_11 : (List.range 6).all (deepB 11) = true := by kernel_rfl
theorem blkN_11 : blkB 11 = true := by kernel_rfl
theorem deepN_15 : (List.range 6).all (deepB 15) = true := by kernel_rfl
theorem blkN_15 : blkB 15 = true := by kernel_rfl
theorem deepN_19 : (List.range 6).all (deepB 19) = true := by kernel_rfl
theorem blkN_19 : blkB 19 = true := by kernel_rfl
theorem deepN_23 : (List.range 6).all (deepB 23) = true := by kernel_rfl
theorem blkN_23 : blkB 23 = true := by kernel_rfl
theorem deepN_27 : (List.range 6).all (deepB 27) = true := by kernel_rfl
theorem blkN_27 : blkB 27 = true := by kernel_rfl
theorem deepN_31 : (List.range 6).all (deepB 31) = true := by kernel_rfl
theorem blkN_31 : blkB 31 = true := by kernel_rfl
theorem deepN_35 : (List.range 6).all (deepB 35) = true := by kernel_rfl
theorem blkN_35 : blkB 35 = true := by kernel_rfl
theorem deepN_39 : (List.range 6).all (deepB 39) = true := by kernel_rfl
theorem blkN_39 : blkB 39 = true := by kernel_rfl
end Go.Proofs.YtljgggohjigaoaaGreatDoor
