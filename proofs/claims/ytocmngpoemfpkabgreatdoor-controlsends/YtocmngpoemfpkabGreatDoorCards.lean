/-
  DERIVED. GIVEN WITH THE SEED: THE CARDS: each row of YtocmngpoemfpkabGreatDoorRows.lean that lists a variable, with what it lists TIED to the program's text (the seventh form; the later family's looks); each row that meets fmt, with fmt's text TOLD by the authors' own Lean function (tested against real Go, not proved from fmt's source: count such statements apart). THE CARD IS WHAT COUNTS. Prove the row's statement (the work); the ties are given (YtocmngpoemfpkabGreatDoorTie.lean); close each card by the builder's one call (the guide's Derived/Test/ToyasCard.lean, 'card_holds'). Laid BY PROGRAM, IN A SANDBOX (cutbox-door.mjs). By AI agents, Wed Nov 11 2026. No macro, syntax, notation, axiom, sorry.
-/
import Derived.Test.YtocmngpoemfpkabGreatDoorRows
import GoSem.ClaimSeven
namespace Go.Proofs.YtocmngpoemfpkabGreatDoor
namespace Rows

/-- THE TIED CARD OF 'stillagelaw21.ControlAgain'. -/
def controlAgainCard : Claim7 := { stood := { row := controlAgainRow, standIns := [], harness := (true, "193ad8c0f30c94d1d3dd8179cdc77ca17a267b462666f113401e4f661bc69beb"), looks := false }, kinds := [], alts := [], laidByText := true, laidKinds := [.data, .data, .pinned], laidTests := true, laidLooks := .later }
def ControlAgainCardSaid : Prop := Claim7.holds Tryz.pinned (.plain (OpenSpec.ofChange controlAgainSpec)) controlAgainCard

/-- THE TIED CARD OF 'stillagelaw21.ControlSends'. -/
def controlSendsCard : Claim7 := { stood := { row := controlSendsRow, standIns := [], harness := (true, "193ad8c0f30c94d1d3dd8179cdc77ca17a267b462666f113401e4f661bc69beb"), looks := false }, kinds := [], alts := [], laidByText := true, laidKinds := [.data, .data, .pinned], laidTests := true, laidLooks := .later }
def ControlSendsCardSaid : Prop := Claim7.holds Tryz.pinned (.plain (OpenSpec.ofChange controlSendsSpec)) controlSendsCard

/-- THE SECOND FORM's CARD OF 'stillagelaw21.ControlAgain'. -/
def controlAgainUptoCard : Claim7 := { stood := { row := controlAgainUptoRow, standIns := [], harness := (true, "193ad8c0f30c94d1d3dd8179cdc77ca17a267b462666f113401e4f661bc69beb"), looks := false }, kinds := [], alts := [], laidByText := true, laidKinds := [.data, .data, .pinned], laidTests := true, laidLooks := .later }
def ControlAgainUptoCardSaid : Prop := Claim7.holds Tryz.pinned (.plain (OpenSpec.upto controlAgainSpec)) controlAgainUptoCard

/-- THE SECOND FORM's CARD OF 'stillagelaw21.ControlSends'. -/
def controlSendsUptoCard : Claim7 := { stood := { row := controlSendsUptoRow, standIns := [], harness := (true, "193ad8c0f30c94d1d3dd8179cdc77ca17a267b462666f113401e4f661bc69beb"), looks := false }, kinds := [], alts := [], laidByText := true, laidKinds := [.data, .data, .pinned], laidTests := true, laidLooks := .later }
def ControlSendsUptoCardSaid : Prop := Claim7.holds Tryz.pinned (.plain (OpenSpec.upto controlSendsSpec)) controlSendsUptoCard
end Rows
end Go.Proofs.YtocmngpoemfpkabGreatDoor
