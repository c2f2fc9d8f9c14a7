/-
  DERIVED. GIVEN WITH THE SEED: THE CARDS: each row of YtgmlpcmplglnoaaDoorRows.lean that lists a variable, with what it lists TIED to the program's text (the seventh form; the later family's looks); each row that meets fmt, with fmt's text TOLD by the authors' own Lean function (tested against real Go, not proved from fmt's source: count such statements apart). THE CARD IS WHAT COUNTS. Prove the row's statement (the work); the ties are given (YtgmlpcmplglnoaaDoorTie.lean); close each card by the builder's one call (the guide's Derived/Test/ToyasCard.lean, 'card_holds'). Laid BY PROGRAM, IN A SANDBOX (cutbox-door.mjs). By AI agents, Wed Nov 11 2026. No macro, syntax, notation, axiom, sorry.
-/
import Derived.Test.YtgmlpcmplglnoaaDoorRows
import GoSem.ClaimSeven
namespace Go.Proofs.YtgmlpcmplglnoaaDoor
namespace Rows

/-- THE TIED CARD OF 'kedgelaw03.TextIs'. -/
def textIsCard : Claim7 := { stood := { row := textIsRow, standIns := [], harness := (true, "152ec137449d6eaea90531859bfaf3a5ef14607180e1ecfa62e3aedfc28acbda"), looks := false }, kinds := [], alts := [], laidByText := true, laidKinds := [.data, .data, .data, .data, .pinned], laidTests := true, laidLooks := .later }
def TextIsCardSaid : Prop := Claim7.holds Tryd.pinned (.plain (OpenSpec.ofChange textIsSpec)) textIsCard

/-- THE TIED CARD OF 'kedgelaw03.TextBack'. -/
def textBackCard : Claim7 := { stood := { row := textBackRow, standIns := [], harness := (true, "152ec137449d6eaea90531859bfaf3a5ef14607180e1ecfa62e3aedfc28acbda"), looks := false }, kinds := [], alts := [], laidByText := true, laidKinds := [.data, .data, .data, .data, .pinned], laidTests := true, laidLooks := .later }
def TextBackCardSaid : Prop := Claim7.holds Tryd.pinned (.plain (OpenSpec.ofChange textBackSpec)) textBackCard

/-- THE TIED CARD OF 'kedgelaw03.TextOnce'. -/
def textOnceCard : Claim7 := { stood := { row := textOnceRow, standIns := [], harness := (true, "152ec137449d6eaea90531859bfaf3a5ef14607180e1ecfa62e3aedfc28acbda"), looks := false }, kinds := [], alts := [], laidByText := true, laidKinds := [.data, .data, .data, .data, .pinned], laidTests := true, laidLooks := .later }
def TextOnceCardSaid : Prop := Claim7.holds Tryd.pinned (.plain (OpenSpec.ofChange textOnceSpec)) textOnceCard

/-- THE TIED CARD OF 'kedgelaw03.TextCase'. -/
def textCaseCard : Claim7 := { stood := { row := textCaseRow, standIns := [], harness := (true, "152ec137449d6eaea90531859bfaf3a5ef14607180e1ecfa62e3aedfc28acbda"), looks := false }, kinds := [], alts := [], laidByText := true, laidKinds := [.data, .data, .data, .data, .pinned], laidTests := true, laidLooks := .later }
def TextCaseCardSaid : Prop := Claim7.holds Tryd.pinned (.plain (OpenSpec.ofChange textCaseSpec)) textCaseCard

/-- THE TIED CARD OF 'kedgelaw03.TextApart'. -/
def textApartCard : Claim7 := { stood := { row := textApartRow, standIns := [], harness := (true, "152ec137449d6eaea90531859bfaf3a5ef14607180e1ecfa62e3aedfc28acbda"), looks := false }, kinds := [], alts := [], laidByText := true, laidKinds := [.data, .data, .data, .data, .pinned], laidTests := true, laidLooks := .later }
def TextApartCardSaid : Prop := Claim7.holds Tryd.pinned (.plain (OpenSpec.ofChange textApartSpec)) textApartCard

/-- THE TIED CARD OF 'kedgelaw03.TextErrors'. -/
def textErrorsCard : Claim7 := { stood := { row := textErrorsRow, standIns := [], harness := (true, "152ec137449d6eaea90531859bfaf3a5ef14607180e1ecfa62e3aedfc28acbda"), looks := false }, kinds := [], alts := [], laidByText := true, laidKinds := [.data, .data, .data, .data, .pinned], laidTests := true, laidLooks := .later }
def TextErrorsCardSaid : Prop := Claim7.holds Tryd.pinned (.plain (OpenSpec.ofChange textErrorsSpec)) textErrorsCard

/-- THE SECOND FORM's CARD OF 'kedgelaw03.TextIs'. -/
def textIsUptoCard : Claim7 := { stood := { row := textIsUptoRow, standIns := [], harness := (true, "152ec137449d6eaea90531859bfaf3a5ef14607180e1ecfa62e3aedfc28acbda"), looks := false }, kinds := [], alts := [], laidByText := true, laidKinds := [.data, .data, .data, .data, .pinned], laidTests := true, laidLooks := .later }
def TextIsUptoCardSaid : Prop := Claim7.holds Tryd.pinned (.plain (OpenSpec.upto textIsSpec)) textIsUptoCard

/-- THE SECOND FORM's CARD OF 'kedgelaw03.TextBack'. -/
def textBackUptoCard : Claim7 := { stood := { row := textBackUptoRow, standIns := [], harness := (true, "152ec137449d6eaea90531859bfaf3a5ef14607180e1ecfa62e3aedfc28acbda"), looks := false }, kinds := [], alts := [], laidByText := true, laidKinds := [.data, .data, .data, .data, .pinned], laidTests := true, laidLooks := .later }
def TextBackUptoCardSaid : Prop := Claim7.holds Tryd.pinned (.plain (OpenSpec.upto textBackSpec)) textBackUptoCard

/-- THE SECOND FORM's CARD OF 'kedgelaw03.TextOnce'. -/
def textOnceUptoCard : Claim7 := { stood := { row := textOnceUptoRow, standIns := [], harness := (true, "152ec137449d6eaea90531859bfaf3a5ef14607180e1ecfa62e3aedfc28acbda"), looks := false }, kinds := [], alts := [], laidByText := true, laidKinds := [.data, .data, .data, .data, .pinned], laidTests := true, laidLooks := .later }
def TextOnceUptoCardSaid : Prop := Claim7.holds Tryd.pinned (.plain (OpenSpec.upto textOnceSpec)) textOnceUptoCard

/-- THE SECOND FORM's CARD OF 'kedgelaw03.TextCase'. -/
def textCaseUptoCard : Claim7 := { stood := { row := textCaseUptoRow, standIns := [], harness := (true, "152ec137449d6eaea90531859bfaf3a5ef14607180e1ecfa62e3aedfc28acbda"), looks := false }, kinds := [], alts := [], laidByText := true, laidKinds := [.data, .data, .data, .data, .pinned], laidTests := true, laidLooks := .later }
def TextCaseUptoCardSaid : Prop := Claim7.holds Tryd.pinned (.plain (OpenSpec.upto textCaseSpec)) textCaseUptoCard

/-- THE SECOND FORM's CARD OF 'kedgelaw03.TextApart'. -/
def textApartUptoCard : Claim7 := { stood := { row := textApartUptoRow, standIns := [], harness := (true, "152ec137449d6eaea90531859bfaf3a5ef14607180e1ecfa62e3aedfc28acbda"), looks := false }, kinds := [], alts := [], laidByText := true, laidKinds := [.data, .data, .data, .data, .pinned], laidTests := true, laidLooks := .later }
def TextApartUptoCardSaid : Prop := Claim7.holds Tryd.pinned (.plain (OpenSpec.upto textApartSpec)) textApartUptoCard

/-- THE SECOND FORM's CARD OF 'kedgelaw03.TextErrors'. -/
def textErrorsUptoCard : Claim7 := { stood := { row := textErrorsUptoRow, standIns := [], harness := (true, "152ec137449d6eaea90531859bfaf3a5ef14607180e1ecfa62e3aedfc28acbda"), looks := false }, kinds := [], alts := [], laidByText := true, laidKinds := [.data, .data, .data, .data, .pinned], laidTests := true, laidLooks := .later }
def TextErrorsUptoCardSaid : Prop := Claim7.holds Tryd.pinned (.plain (OpenSpec.upto textErrorsSpec)) textErrorsUptoCard
end Rows
end Go.Proofs.YtgmlpcmplglnoaaDoor
