/-
  DERIVED. GIVEN WITH THE SEED: THE CARDS: each row of YtocmngpoemfpkaaGreatDoorRows.lean that lists a variable, with what it lists TIED to the program's text (the seventh form; the later family's looks); each row that meets fmt, with fmt's text TOLD by the authors' own Lean function (tested against real Go, not proved from fmt's source: count such statements apart). THE CARD IS WHAT COUNTS. Prove the row's statement (the work); the ties are given (YtocmngpoemfpkaaGreatDoorTie.lean); close each card by the builder's one call (the guide's Derived/Test/ToyasCard.lean, 'card_holds'). Laid BY PROGRAM, IN A SANDBOX (cutbox-door.mjs). By AI agents, Wed Nov 11 2026. No macro, syntax, notation, axiom, sorry.
-/
import Derived.Test.YtocmngpoemfpkaaGreatDoorRows
import GoSem.ClaimSeven
namespace Go.Proofs.YtocmngpoemfpkaaGreatDoor
namespace Rows

/-- THE TIED CARD OF 'stillagelaw21.ControlPlays'. -/
def controlPlaysCard : Claim7 := { stood := { row := controlPlaysRow, standIns := [], harness := (true, "7081cc3b5490b82a9056f0ef4ada4e53736ba49787a4036f08f8747dc272e81f"), looks := false }, kinds := [], alts := [], laidByText := true, laidKinds := [.data, .data, .pinned], laidTests := true, laidLooks := .later }
def ControlPlaysCardSaid : Prop := Claim7.holds Tryz.pinned (.plain (OpenSpec.ofChange controlPlaysSpec)) controlPlaysCard

/-- THE TIED CARD OF 'stillagelaw21.ControlOpens'. -/
def controlOpensCard : Claim7 := { stood := { row := controlOpensRow, standIns := [], harness := (true, "7081cc3b5490b82a9056f0ef4ada4e53736ba49787a4036f08f8747dc272e81f"), looks := false }, kinds := [], alts := [], laidByText := true, laidKinds := [.data, .data, .pinned], laidTests := true, laidLooks := .later }
def ControlOpensCardSaid : Prop := Claim7.holds Tryz.pinned (.plain (OpenSpec.ofChange controlOpensSpec)) controlOpensCard

/-- THE TIED CARD OF 'stillagelaw21.ControlSafe'. -/
def controlSafeCard : Claim7 := { stood := { row := controlSafeRow, standIns := [], harness := (true, "7081cc3b5490b82a9056f0ef4ada4e53736ba49787a4036f08f8747dc272e81f"), looks := false }, kinds := [], alts := [], laidByText := true, laidKinds := [.data, .data, .pinned], laidTests := true, laidLooks := .later }
def ControlSafeCardSaid : Prop := Claim7.holds Tryz.pinned (.plain (OpenSpec.ofChange controlSafeSpec)) controlSafeCard

/-- THE TIED CARD OF 'stillagelaw21.ControlKept'. -/
def controlKeptCard : Claim7 := { stood := { row := controlKeptRow, standIns := [], harness := (true, "7081cc3b5490b82a9056f0ef4ada4e53736ba49787a4036f08f8747dc272e81f"), looks := false }, kinds := [], alts := [], laidByText := true, laidKinds := [.data, .data, .pinned], laidTests := true, laidLooks := .later }
def ControlKeptCardSaid : Prop := Claim7.holds Tryz.pinned (.plain (OpenSpec.ofChange controlKeptSpec)) controlKeptCard

/-- THE TIED CARD OF 'stillagelaw21.ControlStale'. -/
def controlStaleCard : Claim7 := { stood := { row := controlStaleRow, standIns := [], harness := (true, "7081cc3b5490b82a9056f0ef4ada4e53736ba49787a4036f08f8747dc272e81f"), looks := false }, kinds := [], alts := [], laidByText := true, laidKinds := [.data, .data, .pinned], laidTests := true, laidLooks := .later }
def ControlStaleCardSaid : Prop := Claim7.holds Tryz.pinned (.plain (OpenSpec.ofChange controlStaleSpec)) controlStaleCard

/-- THE TIED CARD OF 'stillagelaw21.ControlOrders'. -/
def controlOrdersCard : Claim7 := { stood := { row := controlOrdersRow, standIns := [], harness := (true, "7081cc3b5490b82a9056f0ef4ada4e53736ba49787a4036f08f8747dc272e81f"), looks := false }, kinds := [], alts := [], laidByText := true, laidKinds := [.data, .data, .pinned], laidTests := true, laidLooks := .later }
def ControlOrdersCardSaid : Prop := Claim7.holds Tryz.pinned (.plain (OpenSpec.ofChange controlOrdersSpec)) controlOrdersCard

/-- THE SECOND FORM's CARD OF 'stillagelaw21.ControlPlays'. -/
def controlPlaysUptoCard : Claim7 := { stood := { row := controlPlaysUptoRow, standIns := [], harness := (true, "7081cc3b5490b82a9056f0ef4ada4e53736ba49787a4036f08f8747dc272e81f"), looks := false }, kinds := [], alts := [], laidByText := true, laidKinds := [.data, .data, .pinned], laidTests := true, laidLooks := .later }
def ControlPlaysUptoCardSaid : Prop := Claim7.holds Tryz.pinned (.plain (OpenSpec.upto controlPlaysSpec)) controlPlaysUptoCard

/-- THE SECOND FORM's CARD OF 'stillagelaw21.ControlOpens'. -/
def controlOpensUptoCard : Claim7 := { stood := { row := controlOpensUptoRow, standIns := [], harness := (true, "7081cc3b5490b82a9056f0ef4ada4e53736ba49787a4036f08f8747dc272e81f"), looks := false }, kinds := [], alts := [], laidByText := true, laidKinds := [.data, .data, .pinned], laidTests := true, laidLooks := .later }
def ControlOpensUptoCardSaid : Prop := Claim7.holds Tryz.pinned (.plain (OpenSpec.upto controlOpensSpec)) controlOpensUptoCard

/-- THE SECOND FORM's CARD OF 'stillagelaw21.ControlSafe'. -/
def controlSafeUptoCard : Claim7 := { stood := { row := controlSafeUptoRow, standIns := [], harness := (true, "7081cc3b5490b82a9056f0ef4ada4e53736ba49787a4036f08f8747dc272e81f"), looks := false }, kinds := [], alts := [], laidByText := true, laidKinds := [.data, .data, .pinned], laidTests := true, laidLooks := .later }
def ControlSafeUptoCardSaid : Prop := Claim7.holds Tryz.pinned (.plain (OpenSpec.upto controlSafeSpec)) controlSafeUptoCard

/-- THE SECOND FORM's CARD OF 'stillagelaw21.ControlKept'. -/
def controlKeptUptoCard : Claim7 := { stood := { row := controlKeptUptoRow, standIns := [], harness := (true, "7081cc3b5490b82a9056f0ef4ada4e53736ba49787a4036f08f8747dc272e81f"), looks := false }, kinds := [], alts := [], laidByText := true, laidKinds := [.data, .data, .pinned], laidTests := true, laidLooks := .later }
def ControlKeptUptoCardSaid : Prop := Claim7.holds Tryz.pinned (.plain (OpenSpec.upto controlKeptSpec)) controlKeptUptoCard

/-- THE SECOND FORM's CARD OF 'stillagelaw21.ControlStale'. -/
def controlStaleUptoCard : Claim7 := { stood := { row := controlStaleUptoRow, standIns := [], harness := (true, "7081cc3b5490b82a9056f0ef4ada4e53736ba49787a4036f08f8747dc272e81f"), looks := false }, kinds := [], alts := [], laidByText := true, laidKinds := [.data, .data, .pinned], laidTests := true, laidLooks := .later }
def ControlStaleUptoCardSaid : Prop := Claim7.holds Tryz.pinned (.plain (OpenSpec.upto controlStaleSpec)) controlStaleUptoCard

/-- THE SECOND FORM's CARD OF 'stillagelaw21.ControlOrders'. -/
def controlOrdersUptoCard : Claim7 := { stood := { row := controlOrdersUptoRow, standIns := [], harness := (true, "7081cc3b5490b82a9056f0ef4ada4e53736ba49787a4036f08f8747dc272e81f"), looks := false }, kinds := [], alts := [], laidByText := true, laidKinds := [.data, .data, .pinned], laidTests := true, laidLooks := .later }
def ControlOrdersUptoCardSaid : Prop := Claim7.holds Tryz.pinned (.plain (OpenSpec.upto controlOrdersSpec)) controlOrdersUptoCard
end Rows
end Go.Proofs.YtocmngpoemfpkaaGreatDoor
