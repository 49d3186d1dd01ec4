/-
  DERIVED. GIVEN WITH THE SEED: THE CARDS: each row of YtjgbhnbfojkhoaaGreatDoorRows.lean that lists a variable, with what it lists TIED to the program's text (the seventh form; the later family's looks); each row that meets fmt, with fmt's text TOLD by the authors' own Lean function (tested against real Go, not proved from fmt's source: count such statements apart). THE CARD IS WHAT COUNTS. Prove the row's statement (the work); the ties are given (YtjgbhnbfojkhoaaGreatDoorTie.lean); close each card by the builder's one call (the guide's Derived/Test/ToyasCard.lean, 'card_holds'). Laid BY PROGRAM, IN A SANDBOX (cutbox-door.mjs). By AI agents, Wed Nov 11 2026. No macro, syntax, notation, axiom, sorry.
-/
import Derived.Test.YtjgbhnbfojkhoaaGreatDoorRows
import GoSem.ClaimSeven
namespace Go.Proofs.YtjgbhnbfojkhoaaGreatDoor
namespace Rows

/-- THE TIED CARD OF 'purlinlaw02.ValueOrder'. -/
def valueOrderCard : Claim7 := { stood := { row := valueOrderRow, standIns := [], harness := (true, "6550ca59d137c50246e547d192472990573ec6cf3d255f97d64dfb21c62952e3"), looks := true }, kinds := [], alts := [], laidByText := true, laidKinds := [.data, .data, .data], laidTests := true, laidLooks := .later }
def ValueOrderCardSaid : Prop := Claim7.holds Tryz.pinned (.plain (OpenSpec.ofChange valueOrderSpec)) valueOrderCard

/-- THE TIED CARD OF 'purlinlaw02.ValueKeys'. -/
def valueKeysCard : Claim7 := { stood := { row := valueKeysRow, standIns := [], harness := (true, "6550ca59d137c50246e547d192472990573ec6cf3d255f97d64dfb21c62952e3"), looks := true }, kinds := [], alts := [], laidByText := true, laidKinds := [.data, .data, .data], laidTests := true, laidLooks := .later }
def ValueKeysCardSaid : Prop := Claim7.holds Tryz.pinned (.plain (OpenSpec.ofChange valueKeysSpec)) valueKeysCard

/-- THE TIED CARD OF 'purlinlaw02.ValueOwn'. -/
def valueOwnCard : Claim7 := { stood := { row := valueOwnRow, standIns := [], harness := (true, "6550ca59d137c50246e547d192472990573ec6cf3d255f97d64dfb21c62952e3"), looks := true }, kinds := [], alts := [], laidByText := true, laidKinds := [.data, .data, .data], laidTests := true, laidLooks := .later }
def ValueOwnCardSaid : Prop := Claim7.holds Tryz.pinned (.plain (OpenSpec.ofChange valueOwnSpec)) valueOwnCard

/-- THE TIED CARD OF 'purlinlaw03.JsoncWrites'. -/
def jsoncWritesCard : Claim7 := { stood := { row := jsoncWritesRow, standIns := [], harness := (true, "6550ca59d137c50246e547d192472990573ec6cf3d255f97d64dfb21c62952e3"), looks := true }, kinds := [], alts := [], laidByText := true, laidKinds := [.data, .data, .data, .data, .sentinel, .sentinel, .pinned], laidTests := true, laidLooks := .later }
def JsoncWritesCardSaid : Prop := Claim7.holds Tryz.pinned (.plain (OpenSpec.ofChange jsoncWritesSpec)) jsoncWritesCard

/-- THE TIED CARD OF 'purlinlaw03.JsoncReads'. -/
def jsoncReadsCard : Claim7 := { stood := { row := jsoncReadsRow, standIns := [], harness := (true, "6550ca59d137c50246e547d192472990573ec6cf3d255f97d64dfb21c62952e3"), looks := true }, kinds := [], alts := [], laidByText := true, laidKinds := [.data, .data, .data, .data, .sentinel, .sentinel, .pinned], laidTests := true, laidLooks := .later }
def JsoncReadsCardSaid : Prop := Claim7.holds Tryz.pinned (.plain (OpenSpec.ofChange jsoncReadsSpec)) jsoncReadsCard

/-- THE TIED CARD OF 'purlinlaw03.JsoncBack'. -/
def jsoncBackCard : Claim7 := { stood := { row := jsoncBackRow, standIns := [], harness := (true, "6550ca59d137c50246e547d192472990573ec6cf3d255f97d64dfb21c62952e3"), looks := true }, kinds := [], alts := [], laidByText := true, laidKinds := [.data, .data, .data, .data, .sentinel, .sentinel, .pinned], laidTests := true, laidLooks := .later }
def JsoncBackCardSaid : Prop := Claim7.holds Tryz.pinned (.plain (OpenSpec.ofChange jsoncBackSpec)) jsoncBackCard

/-- THE TIED CARD OF 'purlinlaw03.JsoncLimits'. -/
def jsoncLimitsCard : Claim7 := { stood := { row := jsoncLimitsRow, standIns := [], harness := (true, "6550ca59d137c50246e547d192472990573ec6cf3d255f97d64dfb21c62952e3"), looks := true }, kinds := [], alts := [], laidByText := true, laidKinds := [.data, .data, .data, .data, .sentinel, .sentinel, .pinned], laidTests := true, laidLooks := .later }
def JsoncLimitsCardSaid : Prop := Claim7.holds Tryz.pinned (.plain (OpenSpec.ofChange jsoncLimitsSpec)) jsoncLimitsCard

/-- THE TIED CARD OF 'purlinlaw03.JsoncBlanks'. -/
def jsoncBlanksCard : Claim7 := { stood := { row := jsoncBlanksRow, standIns := [], harness := (true, "6550ca59d137c50246e547d192472990573ec6cf3d255f97d64dfb21c62952e3"), looks := true }, kinds := [], alts := [], laidByText := true, laidKinds := [.data, .data, .data, .data, .sentinel, .sentinel, .pinned], laidTests := true, laidLooks := .later }
def JsoncBlanksCardSaid : Prop := Claim7.holds Tryz.pinned (.plain (OpenSpec.ofChange jsoncBlanksSpec)) jsoncBlanksCard

/-- THE SECOND FORM's CARD OF 'purlinlaw02.ValueOrder'. -/
def valueOrderUptoCard : Claim7 := { stood := { row := valueOrderUptoRow, standIns := [], harness := (true, "6550ca59d137c50246e547d192472990573ec6cf3d255f97d64dfb21c62952e3"), looks := true }, kinds := [], alts := [], laidByText := true, laidKinds := [.data, .data, .data], laidTests := true, laidLooks := .later }
def ValueOrderUptoCardSaid : Prop := Claim7.holds Tryz.pinned (.plain (OpenSpec.upto valueOrderSpec)) valueOrderUptoCard

/-- THE SECOND FORM's CARD OF 'purlinlaw02.ValueKeys'. -/
def valueKeysUptoCard : Claim7 := { stood := { row := valueKeysUptoRow, standIns := [], harness := (true, "6550ca59d137c50246e547d192472990573ec6cf3d255f97d64dfb21c62952e3"), looks := true }, kinds := [], alts := [], laidByText := true, laidKinds := [.data, .data, .data], laidTests := true, laidLooks := .later }
def ValueKeysUptoCardSaid : Prop := Claim7.holds Tryz.pinned (.plain (OpenSpec.upto valueKeysSpec)) valueKeysUptoCard

/-- THE SECOND FORM's CARD OF 'purlinlaw02.ValueOwn'. -/
def valueOwnUptoCard : Claim7 := { stood := { row := valueOwnUptoRow, standIns := [], harness := (true, "6550ca59d137c50246e547d192472990573ec6cf3d255f97d64dfb21c62952e3"), looks := true }, kinds := [], alts := [], laidByText := true, laidKinds := [.data, .data, .data], laidTests := true, laidLooks := .later }
def ValueOwnUptoCardSaid : Prop := Claim7.holds Tryz.pinned (.plain (OpenSpec.upto valueOwnSpec)) valueOwnUptoCard

/-- THE SECOND FORM's CARD OF 'purlinlaw03.JsoncWrites'. -/
def jsoncWritesUptoCard : Claim7 := { stood := { row := jsoncWritesUptoRow, standIns := [], harness := (true, "6550ca59d137c50246e547d192472990573ec6cf3d255f97d64dfb21c62952e3"), looks := true }, kinds := [], alts := [], laidByText := true, laidKinds := [.data, .data, .data, .data, .sentinel, .sentinel, .pinned], laidTests := true, laidLooks := .later }
def JsoncWritesUptoCardSaid : Prop := Claim7.holds Tryz.pinned (.plain (OpenSpec.upto jsoncWritesSpec)) jsoncWritesUptoCard

/-- THE SECOND FORM's CARD OF 'purlinlaw03.JsoncReads'. -/
def jsoncReadsUptoCard : Claim7 := { stood := { row := jsoncReadsUptoRow, standIns := [], harness := (true, "6550ca59d137c50246e547d192472990573ec6cf3d255f97d64dfb21c62952e3"), looks := true }, kinds := [], alts := [], laidByText := true, laidKinds := [.data, .data, .data, .data, .sentinel, .sentinel, .pinned], laidTests := true, laidLooks := .later }
def JsoncReadsUptoCardSaid : Prop := Claim7.holds Tryz.pinned (.plain (OpenSpec.upto jsoncReadsSpec)) jsoncReadsUptoCard

/-- THE SECOND FORM's CARD OF 'purlinlaw03.JsoncBack'. -/
def jsoncBackUptoCard : Claim7 := { stood := { row := jsoncBackUptoRow, standIns := [], harness := (true, "6550ca59d137c50246e547d192472990573ec6cf3d255f97d64dfb21c62952e3"), looks := true }, kinds := [], alts := [], laidByText := true, laidKinds := [.data, .data, .data, .data, .sentinel, .sentinel, .pinned], laidTests := true, laidLooks := .later }
def JsoncBackUptoCardSaid : Prop := Claim7.holds Tryz.pinned (.plain (OpenSpec.upto jsoncBackSpec)) jsoncBackUptoCard

/-- THE SECOND FORM's CARD OF 'purlinlaw03.JsoncLimits'. -/
def jsoncLimitsUptoCard : Claim7 := { stood := { row := jsoncLimitsUptoRow, standIns := [], harness := (true, "6550ca59d137c50246e547d192472990573ec6cf3d255f97d64dfb21c62952e3"), looks := true }, kinds := [], alts := [], laidByText := true, laidKinds := [.data, .data, .data, .data, .sentinel, .sentinel, .pinned], laidTests := true, laidLooks := .later }
def JsoncLimitsUptoCardSaid : Prop := Claim7.holds Tryz.pinned (.plain (OpenSpec.upto jsoncLimitsSpec)) jsoncLimitsUptoCard

/-- THE SECOND FORM's CARD OF 'purlinlaw03.JsoncBlanks'. -/
def jsoncBlanksUptoCard : Claim7 := { stood := { row := jsoncBlanksUptoRow, standIns := [], harness := (true, "6550ca59d137c50246e547d192472990573ec6cf3d255f97d64dfb21c62952e3"), looks := true }, kinds := [], alts := [], laidByText := true, laidKinds := [.data, .data, .data, .data, .sentinel, .sentinel, .pinned], laidTests := true, laidLooks := .later }
def JsoncBlanksUptoCardSaid : Prop := Claim7.holds Tryz.pinned (.plain (OpenSpec.upto jsoncBlanksSpec)) jsoncBlanksUptoCard
end Rows
end Go.Proofs.YtjgbhnbfojkhoaaGreatDoor
