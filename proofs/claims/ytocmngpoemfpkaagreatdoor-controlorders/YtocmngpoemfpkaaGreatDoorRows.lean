/-
  NARROWER THAN 'FOR EVERY INPUT', by the rows' own cells (each row's printed sentence says how): ControlPlays: laid · ControlOpens: laid · ControlSafe: laid · ControlKept: laid · ControlStale: laid · ControlOrders: laid.
  DERIVED. THE GIVEN ROWS OF THIS SEAT. 6 by the template 'for every input the law returns true; each argument reads behind the call as it read before'; 0 by the template 'total and deterministic' (their statements: YtocmngpoemfpkaaGreatDoorTotals.lean).
  GIVEN WITH THE SEED: the statements are not yours to turn. If you find one false, say at which input.
  Laid BY PROGRAM, IN A SANDBOX (cutbox-rows.mjs): the forced cells as the released guide's own fill.sh prints them over the translation 26c9e8dd29132ffc… (all of the seat's roots in one cut). By AI agents, Wed Nov 11 2026. No macro, syntax, notation, axiom, sorry.
-/
import Derived.Test.YtocmngpoemfpkaaGreatDoorChecked
import GoSem.PinnedTables
import GoSem.Claim
import GoSem.ClaimJoined
import GoSem.ClaimMapViews
import Derived.JoinedTies
import Derived.KernelRfl
namespace Go.Proofs.YtocmngpoemfpkaaGreatDoor
/- THE CELL 'sum', in the pinned program and in every row, IS THE sha256 OF THE DUMP (.gsa) THAT YtocmngpoemfpkaaGreatDoorProg.lean LOADS. Nothing in Lean hashes anything: it is a label: what it is worth is what the hold of that sum in a sandbox is worth. -/
noncomputable def Tryz.pinned : Pinned := { name := "ytocmngpoemfpkaagreatdoor", sum := "26c9e8dd29132ffc0d2c7ccf4c1cb8fb1db3c1b61c96d3ae180306b054b89e6c", checked := Tryz.checked }
namespace Rows
def none {H : Type} : Left H := { results := [], args := [] }

/- WHAT THE LISTED PACKAGE-LEVEL VARIABLES READ AS WHEN THE CALL BEGINS. Each datum BY PROGRAM (the guide's laid-datum.mjs) off the statement by which the dump's own 'gosem.cut.vars' lays the variable. In a bare row this is a premise. The card (YtocmngpoemfpkaaGreatDoorCards.lean) ties it to the program's text. -/
def laid_unicode_utf8_acceptRanges {H : Type} : DataW H := .agg [.agg [.lit (.int .u8 128), .lit (.int .u8 191)], .agg [.lit (.int .u8 160), .lit (.int .u8 191)], .agg [.lit (.int .u8 128), .lit (.int .u8 159)], .agg [.lit (.int .u8 144), .lit (.int .u8 191)], .agg [.lit (.int .u8 128), .lit (.int .u8 143)], .agg [.lit (.int .u8 0), .lit (.int .u8 0)], .agg [.lit (.int .u8 0), .lit (.int .u8 0)], .agg [.lit (.int .u8 0), .lit (.int .u8 0)], .agg [.lit (.int .u8 0), .lit (.int .u8 0)], .agg [.lit (.int .u8 0), .lit (.int .u8 0)], .agg [.lit (.int .u8 0), .lit (.int .u8 0)], .agg [.lit (.int .u8 0), .lit (.int .u8 0)], .agg [.lit (.int .u8 0), .lit (.int .u8 0)], .agg [.lit (.int .u8 0), .lit (.int .u8 0)], .agg [.lit (.int .u8 0), .lit (.int .u8 0)], .agg [.lit (.int .u8 0), .lit (.int .u8 0)]]
def laid_stillage_layout_kindWords {H : Type} : DataW H := .agg [.lit (.string [116, 114, 97, 99, 107]), .lit (.string [115, 108, 111, 116]), .lit (.string [115, 116, 97, 116, 105, 111, 110]), .lit (.string [103, 97, 116, 101])]
/-- One of Go's own tables, pinned by name: the form's constant. -/
def laid_unicode_utf8_first : DataW Unit := Go.Pinned.utf8First

/-- 'stillagelaw21.ControlPlays': WHATEVER THE INPUT: true; the input reads as it did. -/
def controlPlaysSpec : ChangeSpec := { name := "controlPlays", fn := fun _ => fun
  | [d1, d2, d3] => { results := [.lit (.bool true)], args := [d1, d2, d3] }
  | _ => none }
def controlPlaysRow : OpenClaim := { program := "ytocmngpoemfpkaagreatdoor", sum := "26c9e8dd29132ffc0d2c7ccf4c1cb8fb1db3c1b61c96d3ae180306b054b89e6c", func := "stillage/stillagelaw21.ControlPlays", spec := "controlPlays", inPlace := ["internal/bytealg.CountString", "internal/bytealg.IndexByteString", "internal/bytealg.IndexString"], unfollowed := true, recurses := true, named := ["unicode/utf8.first", "unicode/utf8.acceptRanges", "internal/bytealg.MaxLen", "stillage/layout.kindWords"], apart := false, laid := [("unicode/utf8.acceptRanges", laid_unicode_utf8_acceptRanges), ("stillage/layout.kindWords", laid_stillage_layout_kindWords), ("unicode/utf8.first", laid_unicode_utf8_first)] }
def ControlPlaysSaid : Prop := controlPlaysRow.holds Tryz.pinned (OpenSpec.ofChange controlPlaysSpec)

/-- ITS FALSE NEIGHBOUR: 'it returns false'. Refute it at one input. -/
def controlPlaysWrong : ChangeSpec := { name := "controlPlays", fn := fun _ => fun
  | [d1, d2, d3] => { results := [.lit (.bool false)], args := [d1, d2, d3] }
  | _ => none }
def ControlPlaysWrongFalsely : Prop := controlPlaysRow.holds Tryz.pinned (OpenSpec.ofChange controlPlaysWrong)

/-- 'stillagelaw21.ControlOpens': WHATEVER THE INPUT: true; the input reads as it did. -/
def controlOpensSpec : ChangeSpec := { name := "controlOpens", fn := fun _ => fun
  | [d1, d2, d3] => { results := [.lit (.bool true)], args := [d1, d2, d3] }
  | _ => none }
def controlOpensRow : OpenClaim := { program := "ytocmngpoemfpkaagreatdoor", sum := "26c9e8dd29132ffc0d2c7ccf4c1cb8fb1db3c1b61c96d3ae180306b054b89e6c", func := "stillage/stillagelaw21.ControlOpens", spec := "controlOpens", inPlace := ["internal/bytealg.CountString", "internal/bytealg.IndexByteString", "internal/bytealg.IndexString"], unfollowed := true, recurses := true, named := ["unicode/utf8.first", "unicode/utf8.acceptRanges", "internal/bytealg.MaxLen", "stillage/layout.kindWords"], apart := false, laid := [("unicode/utf8.acceptRanges", laid_unicode_utf8_acceptRanges), ("stillage/layout.kindWords", laid_stillage_layout_kindWords), ("unicode/utf8.first", laid_unicode_utf8_first)] }
def ControlOpensSaid : Prop := controlOpensRow.holds Tryz.pinned (OpenSpec.ofChange controlOpensSpec)

/-- ITS FALSE NEIGHBOUR: 'it returns false'. Refute it at one input. -/
def controlOpensWrong : ChangeSpec := { name := "controlOpens", fn := fun _ => fun
  | [d1, d2, d3] => { results := [.lit (.bool false)], args := [d1, d2, d3] }
  | _ => none }
def ControlOpensWrongFalsely : Prop := controlOpensRow.holds Tryz.pinned (OpenSpec.ofChange controlOpensWrong)

/-- 'stillagelaw21.ControlSafe': WHATEVER THE INPUT: true; the input reads as it did. -/
def controlSafeSpec : ChangeSpec := { name := "controlSafe", fn := fun _ => fun
  | [d1, d2] => { results := [.lit (.bool true)], args := [d1, d2] }
  | _ => none }
def controlSafeRow : OpenClaim := { program := "ytocmngpoemfpkaagreatdoor", sum := "26c9e8dd29132ffc0d2c7ccf4c1cb8fb1db3c1b61c96d3ae180306b054b89e6c", func := "stillage/stillagelaw21.ControlSafe", spec := "controlSafe", inPlace := ["internal/bytealg.CountString", "internal/bytealg.IndexByteString", "internal/bytealg.IndexString"], unfollowed := true, recurses := true, named := ["unicode/utf8.first", "unicode/utf8.acceptRanges", "internal/bytealg.MaxLen", "stillage/layout.kindWords"], apart := false, laid := [("unicode/utf8.acceptRanges", laid_unicode_utf8_acceptRanges), ("stillage/layout.kindWords", laid_stillage_layout_kindWords), ("unicode/utf8.first", laid_unicode_utf8_first)] }
def ControlSafeSaid : Prop := controlSafeRow.holds Tryz.pinned (OpenSpec.ofChange controlSafeSpec)

/-- ITS FALSE NEIGHBOUR: 'it returns false'. Refute it at one input. -/
def controlSafeWrong : ChangeSpec := { name := "controlSafe", fn := fun _ => fun
  | [d1, d2] => { results := [.lit (.bool false)], args := [d1, d2] }
  | _ => none }
def ControlSafeWrongFalsely : Prop := controlSafeRow.holds Tryz.pinned (OpenSpec.ofChange controlSafeWrong)

/-- 'stillagelaw21.ControlKept': WHATEVER THE INPUT: true; the input reads as it did. -/
def controlKeptSpec : ChangeSpec := { name := "controlKept", fn := fun _ => fun
  | [d1, d2, d3] => { results := [.lit (.bool true)], args := [d1, d2, d3] }
  | _ => none }
def controlKeptRow : OpenClaim := { program := "ytocmngpoemfpkaagreatdoor", sum := "26c9e8dd29132ffc0d2c7ccf4c1cb8fb1db3c1b61c96d3ae180306b054b89e6c", func := "stillage/stillagelaw21.ControlKept", spec := "controlKept", inPlace := ["internal/bytealg.CountString", "internal/bytealg.IndexByteString", "internal/bytealg.IndexString"], unfollowed := true, recurses := true, named := ["unicode/utf8.first", "unicode/utf8.acceptRanges", "internal/bytealg.MaxLen", "stillage/layout.kindWords"], apart := false, laid := [("unicode/utf8.acceptRanges", laid_unicode_utf8_acceptRanges), ("stillage/layout.kindWords", laid_stillage_layout_kindWords), ("unicode/utf8.first", laid_unicode_utf8_first)] }
def ControlKeptSaid : Prop := controlKeptRow.holds Tryz.pinned (OpenSpec.ofChange controlKeptSpec)

/-- ITS FALSE NEIGHBOUR: 'it returns false'. Refute it at one input. -/
def controlKeptWrong : ChangeSpec := { name := "controlKept", fn := fun _ => fun
  | [d1, d2, d3] => { results := [.lit (.bool false)], args := [d1, d2, d3] }
  | _ => none }
def ControlKeptWrongFalsely : Prop := controlKeptRow.holds Tryz.pinned (OpenSpec.ofChange controlKeptWrong)

/-- 'stillagelaw21.ControlStale': WHATEVER THE INPUT: true; the input reads as it did. -/
def controlStaleSpec : ChangeSpec := { name := "controlStale", fn := fun _ => fun
  | [d1, d2, d3] => { results := [.lit (.bool true)], args := [d1, d2, d3] }
  | _ => none }
def controlStaleRow : OpenClaim := { program := "ytocmngpoemfpkaagreatdoor", sum := "26c9e8dd29132ffc0d2c7ccf4c1cb8fb1db3c1b61c96d3ae180306b054b89e6c", func := "stillage/stillagelaw21.ControlStale", spec := "controlStale", inPlace := ["internal/bytealg.CountString", "internal/bytealg.IndexByteString", "internal/bytealg.IndexString"], unfollowed := true, recurses := true, named := ["unicode/utf8.first", "unicode/utf8.acceptRanges", "internal/bytealg.MaxLen", "stillage/layout.kindWords"], apart := false, laid := [("unicode/utf8.acceptRanges", laid_unicode_utf8_acceptRanges), ("stillage/layout.kindWords", laid_stillage_layout_kindWords), ("unicode/utf8.first", laid_unicode_utf8_first)] }
def ControlStaleSaid : Prop := controlStaleRow.holds Tryz.pinned (OpenSpec.ofChange controlStaleSpec)

/-- ITS FALSE NEIGHBOUR: 'it returns false'. Refute it at one input. -/
def controlStaleWrong : ChangeSpec := { name := "controlStale", fn := fun _ => fun
  | [d1, d2, d3] => { results := [.lit (.bool false)], args := [d1, d2, d3] }
  | _ => none }
def ControlStaleWrongFalsely : Prop := controlStaleRow.holds Tryz.pinned (OpenSpec.ofChange controlStaleWrong)

/-- 'stillagelaw21.ControlOrders': WHATEVER THE INPUT: true; the input reads as it did. -/
def controlOrdersSpec : ChangeSpec := { name := "controlOrders", fn := fun _ => fun
  | [d1, d2, d3] => { results := [.lit (.bool true)], args := [d1, d2, d3] }
  | _ => none }
def controlOrdersRow : OpenClaim := { program := "ytocmngpoemfpkaagreatdoor", sum := "26c9e8dd29132ffc0d2c7ccf4c1cb8fb1db3c1b61c96d3ae180306b054b89e6c", func := "stillage/stillagelaw21.ControlOrders", spec := "controlOrders", inPlace := ["internal/bytealg.CountString", "internal/bytealg.IndexByteString", "internal/bytealg.IndexString"], unfollowed := true, recurses := true, named := ["unicode/utf8.first", "unicode/utf8.acceptRanges", "internal/bytealg.MaxLen", "stillage/layout.kindWords"], apart := false, laid := [("unicode/utf8.acceptRanges", laid_unicode_utf8_acceptRanges), ("stillage/layout.kindWords", laid_stillage_layout_kindWords), ("unicode/utf8.first", laid_unicode_utf8_first)] }
def ControlOrdersSaid : Prop := controlOrdersRow.holds Tryz.pinned (OpenSpec.ofChange controlOrdersSpec)

/-- ITS FALSE NEIGHBOUR: 'it returns false'. Refute it at one input. -/
def controlOrdersWrong : ChangeSpec := { name := "controlOrders", fn := fun _ => fun
  | [d1, d2, d3] => { results := [.lit (.bool false)], args := [d1, d2, d3] }
  | _ => none }
def ControlOrdersWrongFalsely : Prop := controlOrdersRow.holds Tryz.pinned (OpenSpec.ofChange controlOrdersWrong)

/- THE SECOND FORM. 'bulk': how many values and letters a reading holds, each counted each time it is reached (what is shared counts as often as it is met; a slice's spare places count too). A statement '..UptoSaid' is the law's where the arguments, and the package variables that the reading takes, are together of bulk at most 1048576: NARROWER than '..Said'. Prove '..Said' where nothing that the law and all that it calls make is longer than what came in: it says more and counts as full. Else prove '..UptoSaid'. A law counts once. -/
mutual
def uptoBulk {H : Type} : DataW H → Nat
  | .lit (.string bytes) => bytes.length + 1
  | .lit _ => 1
  | .nil => 1
  | .ptr d => uptoBulk d + 1
  | .slice elems spare => uptoBulkAll elems + uptoBulkAll spare + 1
  | .agg parts => uptoBulkAll parts + 1
  | .iface _ d => uptoBulk d + 1
  | .map entries => uptoBulkEntries entries + 1
  | .held _ => 1
def uptoBulkAll {H : Type} : List (DataW H) → Nat
  | [] => 0
  | d :: r => uptoBulk d + uptoBulkAll r
def uptoBulkEntries {H : Type} : List (Lit × DataW H) → Nat
  | [] => 0
  | x :: r => uptoBulkEntry x + uptoBulkEntries r
def uptoBulkEntry {H : Type} : Lit × DataW H → Nat
  | (.string bytes, d) => bytes.length + uptoBulk d + 1
  | (_, d) => uptoBulk d + 1
 end
def uptoSmall : (H : Type) → List (DataW H) → Bool := fun _ ds => decide (uptoBulkAll ds ≤ 1048576)
def OpenSpec.upto (s : _root_.Go.ChangeSpec) : _root_.Go.OpenSpec := { _root_.Go.OpenSpec.ofChange s with cond := some uptoSmall }

/-- 'stillagelaw21.ControlPlays', WHERE WHAT IT READS IS OF BULK AT MOST 1048576: true; the input reads as it did. -/
def controlPlaysUptoRow : OpenClaim := { program := "ytocmngpoemfpkaagreatdoor", sum := "26c9e8dd29132ffc0d2c7ccf4c1cb8fb1db3c1b61c96d3ae180306b054b89e6c", func := "stillage/stillagelaw21.ControlPlays", spec := "controlPlays", inPlace := ["internal/bytealg.CountString", "internal/bytealg.IndexByteString", "internal/bytealg.IndexString"], unfollowed := true, recurses := true, named := ["unicode/utf8.first", "unicode/utf8.acceptRanges", "internal/bytealg.MaxLen", "stillage/layout.kindWords"], apart := false, laid := [("unicode/utf8.acceptRanges", laid_unicode_utf8_acceptRanges), ("stillage/layout.kindWords", laid_stillage_layout_kindWords), ("unicode/utf8.first", laid_unicode_utf8_first)], narrowed := true }
def ControlPlaysUptoSaid : Prop := controlPlaysUptoRow.holds Tryz.pinned (OpenSpec.upto controlPlaysSpec)

/-- 'stillagelaw21.ControlOpens', WHERE WHAT IT READS IS OF BULK AT MOST 1048576: true; the input reads as it did. -/
def controlOpensUptoRow : OpenClaim := { program := "ytocmngpoemfpkaagreatdoor", sum := "26c9e8dd29132ffc0d2c7ccf4c1cb8fb1db3c1b61c96d3ae180306b054b89e6c", func := "stillage/stillagelaw21.ControlOpens", spec := "controlOpens", inPlace := ["internal/bytealg.CountString", "internal/bytealg.IndexByteString", "internal/bytealg.IndexString"], unfollowed := true, recurses := true, named := ["unicode/utf8.first", "unicode/utf8.acceptRanges", "internal/bytealg.MaxLen", "stillage/layout.kindWords"], apart := false, laid := [("unicode/utf8.acceptRanges", laid_unicode_utf8_acceptRanges), ("stillage/layout.kindWords", laid_stillage_layout_kindWords), ("unicode/utf8.first", laid_unicode_utf8_first)], narrowed := true }
def ControlOpensUptoSaid : Prop := controlOpensUptoRow.holds Tryz.pinned (OpenSpec.upto controlOpensSpec)

/-- 'stillagelaw21.ControlSafe', WHERE WHAT IT READS IS OF BULK AT MOST 1048576: true; the input reads as it did. -/
def controlSafeUptoRow : OpenClaim := { program := "ytocmngpoemfpkaagreatdoor", sum := "26c9e8dd29132ffc0d2c7ccf4c1cb8fb1db3c1b61c96d3ae180306b054b89e6c", func := "stillage/stillagelaw21.ControlSafe", spec := "controlSafe", inPlace := ["internal/bytealg.CountString", "internal/bytealg.IndexByteString", "internal/bytealg.IndexString"], unfollowed := true, recurses := true, named := ["unicode/utf8.first", "unicode/utf8.acceptRanges", "internal/bytealg.MaxLen", "stillage/layout.kindWords"], apart := false, laid := [("unicode/utf8.acceptRanges", laid_unicode_utf8_acceptRanges), ("stillage/layout.kindWords", laid_stillage_layout_kindWords), ("unicode/utf8.first", laid_unicode_utf8_first)], narrowed := true }
def ControlSafeUptoSaid : Prop := controlSafeUptoRow.holds Tryz.pinned (OpenSpec.upto controlSafeSpec)

/-- 'stillagelaw21.ControlKept', WHERE WHAT IT READS IS OF BULK AT MOST 1048576: true; the input reads as it did. -/
def controlKeptUptoRow : OpenClaim := { program := "ytocmngpoemfpkaagreatdoor", sum := "26c9e8dd29132ffc0d2c7ccf4c1cb8fb1db3c1b61c96d3ae180306b054b89e6c", func := "stillage/stillagelaw21.ControlKept", spec := "controlKept", inPlace := ["internal/bytealg.CountString", "internal/bytealg.IndexByteString", "internal/bytealg.IndexString"], unfollowed := true, recurses := true, named := ["unicode/utf8.first", "unicode/utf8.acceptRanges", "internal/bytealg.MaxLen", "stillage/layout.kindWords"], apart := false, laid := [("unicode/utf8.acceptRanges", laid_unicode_utf8_acceptRanges), ("stillage/layout.kindWords", laid_stillage_layout_kindWords), ("unicode/utf8.first", laid_unicode_utf8_first)], narrowed := true }
def ControlKeptUptoSaid : Prop := controlKeptUptoRow.holds Tryz.pinned (OpenSpec.upto controlKeptSpec)

/-- 'stillagelaw21.ControlStale', WHERE WHAT IT READS IS OF BULK AT MOST 1048576: true; the input reads as it did. -/
def controlStaleUptoRow : OpenClaim := { program := "ytocmngpoemfpkaagreatdoor", sum := "26c9e8dd29132ffc0d2c7ccf4c1cb8fb1db3c1b61c96d3ae180306b054b89e6c", func := "stillage/stillagelaw21.ControlStale", spec := "controlStale", inPlace := ["internal/bytealg.CountString", "internal/bytealg.IndexByteString", "internal/bytealg.IndexString"], unfollowed := true, recurses := true, named := ["unicode/utf8.first", "unicode/utf8.acceptRanges", "internal/bytealg.MaxLen", "stillage/layout.kindWords"], apart := false, laid := [("unicode/utf8.acceptRanges", laid_unicode_utf8_acceptRanges), ("stillage/layout.kindWords", laid_stillage_layout_kindWords), ("unicode/utf8.first", laid_unicode_utf8_first)], narrowed := true }
def ControlStaleUptoSaid : Prop := controlStaleUptoRow.holds Tryz.pinned (OpenSpec.upto controlStaleSpec)

/-- 'stillagelaw21.ControlOrders', WHERE WHAT IT READS IS OF BULK AT MOST 1048576: true; the input reads as it did. -/
def controlOrdersUptoRow : OpenClaim := { program := "ytocmngpoemfpkaagreatdoor", sum := "26c9e8dd29132ffc0d2c7ccf4c1cb8fb1db3c1b61c96d3ae180306b054b89e6c", func := "stillage/stillagelaw21.ControlOrders", spec := "controlOrders", inPlace := ["internal/bytealg.CountString", "internal/bytealg.IndexByteString", "internal/bytealg.IndexString"], unfollowed := true, recurses := true, named := ["unicode/utf8.first", "unicode/utf8.acceptRanges", "internal/bytealg.MaxLen", "stillage/layout.kindWords"], apart := false, laid := [("unicode/utf8.acceptRanges", laid_unicode_utf8_acceptRanges), ("stillage/layout.kindWords", laid_stillage_layout_kindWords), ("unicode/utf8.first", laid_unicode_utf8_first)], narrowed := true }
def ControlOrdersUptoSaid : Prop := controlOrdersUptoRow.holds Tryz.pinned (OpenSpec.upto controlOrdersSpec)

end Rows
end Go.Proofs.YtocmngpoemfpkaaGreatDoor
