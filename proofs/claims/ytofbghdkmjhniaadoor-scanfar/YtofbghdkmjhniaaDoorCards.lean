/-
  DERIVED. GIVEN WITH THE SEED: THE CARDS: each row of YtofbghdkmjhniaaDoorRows.lean that lists a variable, with what it lists TIED to the program's text (the seventh form; the later family's looks); each row that meets fmt, with fmt's text TOLD by the authors' own Lean function (tested against real Go, not proved from fmt's source: count such statements apart). THE CARD IS WHAT COUNTS. Prove the row's statement (the work); the ties are given (YtofbghdkmjhniaaDoorTie.lean); close each card by the builder's one call (the guide's Derived/Test/ToyasCard.lean, 'card_holds'). Laid BY PROGRAM, IN A SANDBOX (cutbox-door.mjs). By AI agents, Wed Nov 11 2026. No macro, syntax, notation, axiom, sorry.
-/
import Derived.Test.YtofbghdkmjhniaaDoorRows
import GoSem.ClaimSeven
namespace Go.Proofs.YtofbghdkmjhniaaDoor
namespace Rows

/-- THE TIED CARD OF 'cartouchelaw.ScanFar'. -/
def scanFarCard : Claim7 := { stood := { row := scanFarRow, standIns := [], harness := (true, "b18ea1aea248a312fbb1176cac7fc833e1609e31420f0a4243a7c0be20a33f0c"), looks := false }, kinds := [], alts := [], laidByText := true, laidKinds := [.data, .pinned], laidTests := true, laidLooks := .later }
def ScanFarCardSaid : Prop := Claim7.holds Tryd.pinned (.plain (OpenSpec.ofChange scanFarSpec)) scanFarCard

/-- THE TIED CARD OF 'cartouchelaw.ScanPlain'. -/
def scanPlainCard : Claim7 := { stood := { row := scanPlainRow, standIns := [], harness := (true, "b18ea1aea248a312fbb1176cac7fc833e1609e31420f0a4243a7c0be20a33f0c"), looks := false }, kinds := [], alts := [], laidByText := true, laidKinds := [.data, .pinned], laidTests := true, laidLooks := .later }
def ScanPlainCardSaid : Prop := Claim7.holds Tryd.pinned (.plain (OpenSpec.ofChange scanPlainSpec)) scanPlainCard

/-- THE SECOND FORM's CARD OF 'cartouchelaw.ScanFar'. -/
def scanFarUptoCard : Claim7 := { stood := { row := scanFarUptoRow, standIns := [], harness := (true, "b18ea1aea248a312fbb1176cac7fc833e1609e31420f0a4243a7c0be20a33f0c"), looks := false }, kinds := [], alts := [], laidByText := true, laidKinds := [.data, .pinned], laidTests := true, laidLooks := .later }
def ScanFarUptoCardSaid : Prop := Claim7.holds Tryd.pinned (.plain (OpenSpec.upto scanFarSpec)) scanFarUptoCard

/-- THE SECOND FORM's CARD OF 'cartouchelaw.ScanPlain'. -/
def scanPlainUptoCard : Claim7 := { stood := { row := scanPlainUptoRow, standIns := [], harness := (true, "b18ea1aea248a312fbb1176cac7fc833e1609e31420f0a4243a7c0be20a33f0c"), looks := false }, kinds := [], alts := [], laidByText := true, laidKinds := [.data, .pinned], laidTests := true, laidLooks := .later }
def ScanPlainUptoCardSaid : Prop := Claim7.holds Tryd.pinned (.plain (OpenSpec.upto scanPlainSpec)) scanPlainUptoCard
end Rows
end Go.Proofs.YtofbghdkmjhniaaDoor
