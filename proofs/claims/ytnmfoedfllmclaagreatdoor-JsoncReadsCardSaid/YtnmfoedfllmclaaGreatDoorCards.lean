/-
  DERIVED. GIVEN WITH THE SEED: THE CARDS: each row of YtnmfoedfllmclaaGreatDoorRows.lean that lists a variable, with what it lists TIED to the program's text (the seventh form; the later family's looks); each row that meets fmt, with fmt's text TOLD by the authors' own Lean function (tested against real Go, not proved from fmt's source: count such statements apart). THE CARD IS WHAT COUNTS. Prove the row's statement (the work); the ties are given (YtnmfoedfllmclaaGreatDoorTie.lean); close each card by the builder's one call (the guide's Derived/Test/ToyasCard.lean, 'card_holds'). Laid BY PROGRAM, IN A SANDBOX (cutbox-door.mjs). By AI agents, Wed Nov 11 2026. No macro, syntax, notation, axiom, sorry.
-/
import Derived.Test.YtnmfoedfllmclaaGreatDoorRows
import GoSem.ClaimSeven
namespace Go.Proofs.YtnmfoedfllmclaaGreatDoor
namespace Rows

/-- THE TIED CARD OF 'purlinlaw03.JsoncWrites'. -/
def jsoncWritesCard : Claim7 := { stood := { row := jsoncWritesRow, standIns := [], harness := (true, "cf3b7274eaf5270765a3c7938d70ddc5a0b74894f149046d031ff9af93e0bde6"), looks := true }, kinds := [], alts := [], laidByText := true, laidKinds := [.data, .data, .data, .data, .sentinel, .sentinel, .pinned], laidTests := true, laidLooks := .later }
def JsoncWritesCardSaid : Prop := Claim7.holds Tryz.pinned (.plain (OpenSpec.ofChange jsoncWritesSpec)) jsoncWritesCard

/-- THE TIED CARD OF 'purlinlaw03.JsoncReads'. -/
def jsoncReadsCard : Claim7 := { stood := { row := jsoncReadsRow, standIns := [], harness := (true, "cf3b7274eaf5270765a3c7938d70ddc5a0b74894f149046d031ff9af93e0bde6"), looks := true }, kinds := [], alts := [], laidByText := true, laidKinds := [.data, .data, .data, .data, .sentinel, .sentinel, .pinned], laidTests := true, laidLooks := .later }
def JsoncReadsCardSaid : Prop := Claim7.holds Tryz.pinned (.plain (OpenSpec.ofChange jsoncReadsSpec)) jsoncReadsCard

/-- THE TIED CARD OF 'purlinlaw03.JsoncBack'. -/
def jsoncBackCard : Claim7 := { stood := { row := jsoncBackRow, standIns := [], harness := (true, "cf3b7274eaf5270765a3c7938d70ddc5a0b74894f149046d031ff9af93e0bde6"), looks := true }, kinds := [], alts := [], laidByText := true, laidKinds := [.data, .data, .data, .data, .sentinel, .sentinel, .pinned], laidTests := true, laidLooks := .later }
def JsoncBackCardSaid : Prop := Claim7.holds Tryz.pinned (.plain (OpenSpec.ofChange jsoncBackSpec)) jsoncBackCard

/-- THE TIED CARD OF 'purlinlaw03.JsoncBlanks'. -/
def jsoncBlanksCard : Claim7 := { stood := { row := jsoncBlanksRow, standIns := [], harness := (true, "cf3b7274eaf5270765a3c7938d70ddc5a0b74894f149046d031ff9af93e0bde6"), looks := true }, kinds := [], alts := [], laidByText := true, laidKinds := [.data, .data, .data, .data, .sentinel, .sentinel, .pinned], laidTests := true, laidLooks := .later }
def JsoncBlanksCardSaid : Prop := Claim7.holds Tryz.pinned (.plain (OpenSpec.ofChange jsoncBlanksSpec)) jsoncBlanksCard

/-- THE SECOND FORM's CARD OF 'purlinlaw03.JsoncWrites'. -/
def jsoncWritesUptoCard : Claim7 := { stood := { row := jsoncWritesUptoRow, standIns := [], harness := (true, "cf3b7274eaf5270765a3c7938d70ddc5a0b74894f149046d031ff9af93e0bde6"), looks := true }, kinds := [], alts := [], laidByText := true, laidKinds := [.data, .data, .data, .data, .sentinel, .sentinel, .pinned], laidTests := true, laidLooks := .later }
def JsoncWritesUptoCardSaid : Prop := Claim7.holds Tryz.pinned (.plain (OpenSpec.upto jsoncWritesSpec)) jsoncWritesUptoCard

/-- THE SECOND FORM's CARD OF 'purlinlaw03.JsoncReads'. -/
def jsoncReadsUptoCard : Claim7 := { stood := { row := jsoncReadsUptoRow, standIns := [], harness := (true, "cf3b7274eaf5270765a3c7938d70ddc5a0b74894f149046d031ff9af93e0bde6"), looks := true }, kinds := [], alts := [], laidByText := true, laidKinds := [.data, .data, .data, .data, .sentinel, .sentinel, .pinned], laidTests := true, laidLooks := .later }
def JsoncReadsUptoCardSaid : Prop := Claim7.holds Tryz.pinned (.plain (OpenSpec.upto jsoncReadsSpec)) jsoncReadsUptoCard

/-- THE SECOND FORM's CARD OF 'purlinlaw03.JsoncBack'. -/
def jsoncBackUptoCard : Claim7 := { stood := { row := jsoncBackUptoRow, standIns := [], harness := (true, "cf3b7274eaf5270765a3c7938d70ddc5a0b74894f149046d031ff9af93e0bde6"), looks := true }, kinds := [], alts := [], laidByText := true, laidKinds := [.data, .data, .data, .data, .sentinel, .sentinel, .pinned], laidTests := true, laidLooks := .later }
def JsoncBackUptoCardSaid : Prop := Claim7.holds Tryz.pinned (.plain (OpenSpec.upto jsoncBackSpec)) jsoncBackUptoCard

/-- THE SECOND FORM's CARD OF 'purlinlaw03.JsoncBlanks'. -/
def jsoncBlanksUptoCard : Claim7 := { stood := { row := jsoncBlanksUptoRow, standIns := [], harness := (true, "cf3b7274eaf5270765a3c7938d70ddc5a0b74894f149046d031ff9af93e0bde6"), looks := true }, kinds := [], alts := [], laidByText := true, laidKinds := [.data, .data, .data, .data, .sentinel, .sentinel, .pinned], laidTests := true, laidLooks := .later }
def JsoncBlanksUptoCardSaid : Prop := Claim7.holds Tryz.pinned (.plain (OpenSpec.upto jsoncBlanksSpec)) jsoncBlanksUptoCard
end Rows
end Go.Proofs.YtnmfoedfllmclaaGreatDoor
