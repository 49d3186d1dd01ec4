/-
  DERIVED. GIVEN WITH THE SEED: THE CARDS: each row of YtblldoniagiboaaGreatDoorRows.lean that lists a variable, with what it lists TIED to the program's text (the seventh form; the later family's looks); each row that meets fmt, with fmt's text TOLD by the authors' own Lean function (tested against real Go, not proved from fmt's source: count such statements apart). THE CARD IS WHAT COUNTS. Prove the row's statement (the work); the ties are given (YtblldoniagiboaaGreatDoorTie.lean); close each card by the builder's one call (the guide's Derived/Test/ToyasCard.lean, 'card_holds'). Laid BY PROGRAM, IN A SANDBOX (cutbox-door.mjs). By AI agents, Wed Nov 11 2026. No macro, syntax, notation, axiom, sorry.
-/
import Derived.Test.YtblldoniagiboaaGreatDoorRows
import GoSem.ClaimSeven
namespace Go.Proofs.YtblldoniagiboaaGreatDoor
namespace Rows

/-- THE TIED CARD OF 'purlinlaw03.JsoncWrites'. -/
def jsoncWritesCard : Claim7 := { stood := { row := jsoncWritesRow, standIns := [], harness := (true, "4880bdb2de1457be67b4f961abbd4202e1af59dc40163c454cf5733de483be98"), looks := true }, kinds := [], alts := [], laidByText := true, laidKinds := [.data, .data, .data, .data, .sentinel, .sentinel, .pinned], laidTests := true, laidLooks := .later }
def JsoncWritesCardSaid : Prop := Claim7.holds Tryz.pinned (.plain (OpenSpec.ofChange jsoncWritesSpec)) jsoncWritesCard

/-- THE TIED CARD OF 'purlinlaw03.JsoncReads'. -/
def jsoncReadsCard : Claim7 := { stood := { row := jsoncReadsRow, standIns := [], harness := (true, "4880bdb2de1457be67b4f961abbd4202e1af59dc40163c454cf5733de483be98"), looks := true }, kinds := [], alts := [], laidByText := true, laidKinds := [.data, .data, .data, .data, .sentinel, .sentinel, .pinned], laidTests := true, laidLooks := .later }
def JsoncReadsCardSaid : Prop := Claim7.holds Tryz.pinned (.plain (OpenSpec.ofChange jsoncReadsSpec)) jsoncReadsCard

/-- THE TIED CARD OF 'purlinlaw03.JsoncBack'. -/
def jsoncBackCard : Claim7 := { stood := { row := jsoncBackRow, standIns := [], harness := (true, "4880bdb2de1457be67b4f961abbd4202e1af59dc40163c454cf5733de483be98"), looks := true }, kinds := [], alts := [], laidByText := true, laidKinds := [.data, .data, .data, .data, .sentinel, .sentinel, .pinned], laidTests := true, laidLooks := .later }
def JsoncBackCardSaid : Prop := Claim7.holds Tryz.pinned (.plain (OpenSpec.ofChange jsoncBackSpec)) jsoncBackCard

/-- THE TIED CARD OF 'purlinlaw03.JsoncLimits'. -/
def jsoncLimitsCard : Claim7 := { stood := { row := jsoncLimitsRow, standIns := [], harness := (true, "4880bdb2de1457be67b4f961abbd4202e1af59dc40163c454cf5733de483be98"), looks := true }, kinds := [], alts := [], laidByText := true, laidKinds := [.data, .data, .data, .data, .sentinel, .sentinel, .pinned], laidTests := true, laidLooks := .later }
def JsoncLimitsCardSaid : Prop := Claim7.holds Tryz.pinned (.plain (OpenSpec.ofChange jsoncLimitsSpec)) jsoncLimitsCard

/-- THE TIED CARD OF 'purlinlaw03.JsoncBlanks'. -/
def jsoncBlanksCard : Claim7 := { stood := { row := jsoncBlanksRow, standIns := [], harness := (true, "4880bdb2de1457be67b4f961abbd4202e1af59dc40163c454cf5733de483be98"), looks := true }, kinds := [], alts := [], laidByText := true, laidKinds := [.data, .data, .data, .data, .sentinel, .sentinel, .pinned], laidTests := true, laidLooks := .later }
def JsoncBlanksCardSaid : Prop := Claim7.holds Tryz.pinned (.plain (OpenSpec.ofChange jsoncBlanksSpec)) jsoncBlanksCard

/-- THE TIED CARD OF 'purlinlaw05.SyntaxForms'. -/
def syntaxFormsCard : Claim7 := { stood := { row := syntaxFormsRow, standIns := [], harness := (true, "4880bdb2de1457be67b4f961abbd4202e1af59dc40163c454cf5733de483be98"), looks := true }, kinds := [], alts := [], laidByText := true, laidKinds := [.data, .data, .data, .pinned], laidTests := true, laidLooks := .later }
def SyntaxFormsCardSaid : Prop := Claim7.holds Tryz.pinned (.plain (OpenSpec.ofChange syntaxFormsSpec)) syntaxFormsCard

/-- THE TIED CARD OF 'purlinlaw05.SyntaxDeep'. -/
def syntaxDeepCard : Claim7 := { stood := { row := syntaxDeepRow, standIns := [], harness := (true, "4880bdb2de1457be67b4f961abbd4202e1af59dc40163c454cf5733de483be98"), looks := true }, kinds := [], alts := [], laidByText := true, laidKinds := [.data, .data, .data, .pinned], laidTests := true, laidLooks := .later }
def SyntaxDeepCardSaid : Prop := Claim7.holds Tryz.pinned (.plain (OpenSpec.ofChange syntaxDeepSpec)) syntaxDeepCard

/-- THE TIED CARD OF 'purlinlaw05.SyntaxJoined'. -/
def syntaxJoinedCard : Claim7 := { stood := { row := syntaxJoinedRow, standIns := [], harness := (true, "4880bdb2de1457be67b4f961abbd4202e1af59dc40163c454cf5733de483be98"), looks := true }, kinds := [], alts := [], laidByText := true, laidKinds := [.data, .data, .data, .pinned], laidTests := true, laidLooks := .later }
def SyntaxJoinedCardSaid : Prop := Claim7.holds Tryz.pinned (.plain (OpenSpec.ofChange syntaxJoinedSpec)) syntaxJoinedCard

/-- THE TIED CARD OF 'purlinlaw05.SyntaxOwn'. -/
def syntaxOwnCard : Claim7 := { stood := { row := syntaxOwnRow, standIns := [], harness := (true, "4880bdb2de1457be67b4f961abbd4202e1af59dc40163c454cf5733de483be98"), looks := true }, kinds := [], alts := [], laidByText := true, laidKinds := [.data, .data, .data, .pinned], laidTests := true, laidLooks := .later }
def SyntaxOwnCardSaid : Prop := Claim7.holds Tryz.pinned (.plain (OpenSpec.ofChange syntaxOwnSpec)) syntaxOwnCard

/-- THE TIED CARD OF 'purlinlaw05.SyntaxBinds'. -/
def syntaxBindsCard : Claim7 := { stood := { row := syntaxBindsRow, standIns := [], harness := (true, "4880bdb2de1457be67b4f961abbd4202e1af59dc40163c454cf5733de483be98"), looks := true }, kinds := [], alts := [], laidByText := true, laidKinds := [.data, .data, .data, .pinned], laidTests := true, laidLooks := .later }
def SyntaxBindsCardSaid : Prop := Claim7.holds Tryz.pinned (.plain (OpenSpec.ofChange syntaxBindsSpec)) syntaxBindsCard

/-- THE TIED CARD OF 'purlinlaw05.SyntaxBroken'. -/
def syntaxBrokenCard : Claim7 := { stood := { row := syntaxBrokenRow, standIns := [], harness := (true, "4880bdb2de1457be67b4f961abbd4202e1af59dc40163c454cf5733de483be98"), looks := true }, kinds := [], alts := [], laidByText := true, laidKinds := [.data, .data, .data, .pinned], laidTests := true, laidLooks := .later }
def SyntaxBrokenCardSaid : Prop := Claim7.holds Tryz.pinned (.plain (OpenSpec.ofChange syntaxBrokenSpec)) syntaxBrokenCard

/-- THE SECOND FORM's CARD OF 'purlinlaw03.JsoncWrites'. -/
def jsoncWritesUptoCard : Claim7 := { stood := { row := jsoncWritesUptoRow, standIns := [], harness := (true, "4880bdb2de1457be67b4f961abbd4202e1af59dc40163c454cf5733de483be98"), looks := true }, kinds := [], alts := [], laidByText := true, laidKinds := [.data, .data, .data, .data, .sentinel, .sentinel, .pinned], laidTests := true, laidLooks := .later }
def JsoncWritesUptoCardSaid : Prop := Claim7.holds Tryz.pinned (.plain (OpenSpec.upto jsoncWritesSpec)) jsoncWritesUptoCard

/-- THE SECOND FORM's CARD OF 'purlinlaw03.JsoncReads'. -/
def jsoncReadsUptoCard : Claim7 := { stood := { row := jsoncReadsUptoRow, standIns := [], harness := (true, "4880bdb2de1457be67b4f961abbd4202e1af59dc40163c454cf5733de483be98"), looks := true }, kinds := [], alts := [], laidByText := true, laidKinds := [.data, .data, .data, .data, .sentinel, .sentinel, .pinned], laidTests := true, laidLooks := .later }
def JsoncReadsUptoCardSaid : Prop := Claim7.holds Tryz.pinned (.plain (OpenSpec.upto jsoncReadsSpec)) jsoncReadsUptoCard

/-- THE SECOND FORM's CARD OF 'purlinlaw03.JsoncBack'. -/
def jsoncBackUptoCard : Claim7 := { stood := { row := jsoncBackUptoRow, standIns := [], harness := (true, "4880bdb2de1457be67b4f961abbd4202e1af59dc40163c454cf5733de483be98"), looks := true }, kinds := [], alts := [], laidByText := true, laidKinds := [.data, .data, .data, .data, .sentinel, .sentinel, .pinned], laidTests := true, laidLooks := .later }
def JsoncBackUptoCardSaid : Prop := Claim7.holds Tryz.pinned (.plain (OpenSpec.upto jsoncBackSpec)) jsoncBackUptoCard

/-- THE SECOND FORM's CARD OF 'purlinlaw03.JsoncLimits'. -/
def jsoncLimitsUptoCard : Claim7 := { stood := { row := jsoncLimitsUptoRow, standIns := [], harness := (true, "4880bdb2de1457be67b4f961abbd4202e1af59dc40163c454cf5733de483be98"), looks := true }, kinds := [], alts := [], laidByText := true, laidKinds := [.data, .data, .data, .data, .sentinel, .sentinel, .pinned], laidTests := true, laidLooks := .later }
def JsoncLimitsUptoCardSaid : Prop := Claim7.holds Tryz.pinned (.plain (OpenSpec.upto jsoncLimitsSpec)) jsoncLimitsUptoCard

/-- THE SECOND FORM's CARD OF 'purlinlaw03.JsoncBlanks'. -/
def jsoncBlanksUptoCard : Claim7 := { stood := { row := jsoncBlanksUptoRow, standIns := [], harness := (true, "4880bdb2de1457be67b4f961abbd4202e1af59dc40163c454cf5733de483be98"), looks := true }, kinds := [], alts := [], laidByText := true, laidKinds := [.data, .data, .data, .data, .sentinel, .sentinel, .pinned], laidTests := true, laidLooks := .later }
def JsoncBlanksUptoCardSaid : Prop := Claim7.holds Tryz.pinned (.plain (OpenSpec.upto jsoncBlanksSpec)) jsoncBlanksUptoCard

/-- THE SECOND FORM's CARD OF 'purlinlaw05.SyntaxForms'. -/
def syntaxFormsUptoCard : Claim7 := { stood := { row := syntaxFormsUptoRow, standIns := [], harness := (true, "4880bdb2de1457be67b4f961abbd4202e1af59dc40163c454cf5733de483be98"), looks := true }, kinds := [], alts := [], laidByText := true, laidKinds := [.data, .data, .data, .pinned], laidTests := true, laidLooks := .later }
def SyntaxFormsUptoCardSaid : Prop := Claim7.holds Tryz.pinned (.plain (OpenSpec.upto syntaxFormsSpec)) syntaxFormsUptoCard

/-- THE SECOND FORM's CARD OF 'purlinlaw05.SyntaxDeep'. -/
def syntaxDeepUptoCard : Claim7 := { stood := { row := syntaxDeepUptoRow, standIns := [], harness := (true, "4880bdb2de1457be67b4f961abbd4202e1af59dc40163c454cf5733de483be98"), looks := true }, kinds := [], alts := [], laidByText := true, laidKinds := [.data, .data, .data, .pinned], laidTests := true, laidLooks := .later }
def SyntaxDeepUptoCardSaid : Prop := Claim7.holds Tryz.pinned (.plain (OpenSpec.upto syntaxDeepSpec)) syntaxDeepUptoCard

/-- THE SECOND FORM's CARD OF 'purlinlaw05.SyntaxJoined'. -/
def syntaxJoinedUptoCard : Claim7 := { stood := { row := syntaxJoinedUptoRow, standIns := [], harness := (true, "4880bdb2de1457be67b4f961abbd4202e1af59dc40163c454cf5733de483be98"), looks := true }, kinds := [], alts := [], laidByText := true, laidKinds := [.data, .data, .data, .pinned], laidTests := true, laidLooks := .later }
def SyntaxJoinedUptoCardSaid : Prop := Claim7.holds Tryz.pinned (.plain (OpenSpec.upto syntaxJoinedSpec)) syntaxJoinedUptoCard

/-- THE SECOND FORM's CARD OF 'purlinlaw05.SyntaxOwn'. -/
def syntaxOwnUptoCard : Claim7 := { stood := { row := syntaxOwnUptoRow, standIns := [], harness := (true, "4880bdb2de1457be67b4f961abbd4202e1af59dc40163c454cf5733de483be98"), looks := true }, kinds := [], alts := [], laidByText := true, laidKinds := [.data, .data, .data, .pinned], laidTests := true, laidLooks := .later }
def SyntaxOwnUptoCardSaid : Prop := Claim7.holds Tryz.pinned (.plain (OpenSpec.upto syntaxOwnSpec)) syntaxOwnUptoCard

/-- THE SECOND FORM's CARD OF 'purlinlaw05.SyntaxBinds'. -/
def syntaxBindsUptoCard : Claim7 := { stood := { row := syntaxBindsUptoRow, standIns := [], harness := (true, "4880bdb2de1457be67b4f961abbd4202e1af59dc40163c454cf5733de483be98"), looks := true }, kinds := [], alts := [], laidByText := true, laidKinds := [.data, .data, .data, .pinned], laidTests := true, laidLooks := .later }
def SyntaxBindsUptoCardSaid : Prop := Claim7.holds Tryz.pinned (.plain (OpenSpec.upto syntaxBindsSpec)) syntaxBindsUptoCard

/-- THE SECOND FORM's CARD OF 'purlinlaw05.SyntaxBroken'. -/
def syntaxBrokenUptoCard : Claim7 := { stood := { row := syntaxBrokenUptoRow, standIns := [], harness := (true, "4880bdb2de1457be67b4f961abbd4202e1af59dc40163c454cf5733de483be98"), looks := true }, kinds := [], alts := [], laidByText := true, laidKinds := [.data, .data, .data, .pinned], laidTests := true, laidLooks := .later }
def SyntaxBrokenUptoCardSaid : Prop := Claim7.holds Tryz.pinned (.plain (OpenSpec.upto syntaxBrokenSpec)) syntaxBrokenUptoCard
end Rows
end Go.Proofs.YtblldoniagiboaaGreatDoor
