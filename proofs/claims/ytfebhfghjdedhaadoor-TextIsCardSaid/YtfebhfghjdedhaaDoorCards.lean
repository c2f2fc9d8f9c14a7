/-
  DERIVED. GIVEN WITH THE SEED: THE CARDS: each row of YtfebhfghjdedhaaDoorRows.lean that lists a variable, with what it lists TIED to the program's text (the seventh form; the later family's looks); each row that meets fmt, with fmt's text TOLD by the authors' own Lean function (tested against real Go, not proved from fmt's source: count such statements apart). THE CARD IS WHAT COUNTS. Prove the row's statement (the work); the ties are given (YtfebhfghjdedhaaDoorTie.lean); close each card by the builder's one call (the guide's Derived/Test/ToyasCard.lean, 'card_holds'). Laid BY PROGRAM, IN A SANDBOX (cutbox-door.mjs). By AI agents, Wed Nov 11 2026. No macro, syntax, notation, axiom, sorry.
-/
import Derived.Test.YtfebhfghjdedhaaDoorRows
import GoSem.ClaimSeven
namespace Go.Proofs.YtfebhfghjdedhaaDoor
namespace Rows

/-- THE TIED CARD OF 'kedgelaw03.TextIs'. -/
def textIsCard : Claim7 := { stood := { row := textIsRow, standIns := [], harness := (true, "d6c40e8e80784b5017ddc93bca6d84ce757137b19f49df991de6c37d7c927601"), looks := false }, kinds := [], alts := [], laidByText := true, laidKinds := [.data, .data, .data, .data, .pinned], laidTests := true, laidLooks := .later }
def TextIsCardSaid : Prop := Claim7.holds Tryd.pinned (.plain (OpenSpec.ofChange textIsSpec)) textIsCard

/-- THE SECOND FORM's CARD OF 'kedgelaw03.TextIs'. -/
def textIsUptoCard : Claim7 := { stood := { row := textIsUptoRow, standIns := [], harness := (true, "d6c40e8e80784b5017ddc93bca6d84ce757137b19f49df991de6c37d7c927601"), looks := false }, kinds := [], alts := [], laidByText := true, laidKinds := [.data, .data, .data, .data, .pinned], laidTests := true, laidLooks := .later }
def TextIsUptoCardSaid : Prop := Claim7.holds Tryd.pinned (.plain (OpenSpec.upto textIsSpec)) textIsUptoCard
end Rows
end Go.Proofs.YtfebhfghjdedhaaDoor
