/-
  DERIVED. GIVEN WITH THE SEED: THE CARDS: each row of YthhjfedegbldfaeDoorRows.lean that lists a variable, with what it lists TIED to the program's text (the seventh form; the later family's looks); each row that meets fmt, with fmt's text TOLD by the authors' own Lean function (tested against real Go, not proved from fmt's source: count such statements apart). THE CARD IS WHAT COUNTS. Prove the row's statement (the work); the ties are given (YthhjfedegbldfaeDoorTie.lean); close each card by the builder's one call (the guide's Derived/Test/ToyasCard.lean, 'card_holds'). Laid BY PROGRAM, IN A SANDBOX (cutbox-door.mjs). By AI agents, Wed Nov 11 2026. No macro, syntax, notation, axiom, sorry.
-/
import Derived.Test.YthhjfedegbldfaeDoorRows
import GoSem.ClaimSeven
namespace Go.Proofs.YthhjfedegbldfaeDoor
namespace Rows

/-- THE TIED CARD OF 'cartouchelaw.AttrTells'. -/
def attrTellsCard : Claim7 := { stood := { row := attrTellsRow, standIns := [], harness := (true, "e8a5dba309f79d24047b93b7d982c5dd74fc4dba68103e25faee82ae30a62e70"), looks := false }, kinds := [], alts := [], laidByText := true, laidKinds := [.data, .pinned], laidTests := true, laidLooks := .later }
def AttrTellsCardSaid : Prop := Claim7.holds Tryd.pinned (.plain (OpenSpec.ofChange attrTellsSpec)) attrTellsCard

/-- THE TIED CARD OF 'cartouchelaw.AttrPlain'. -/
def attrPlainCard : Claim7 := { stood := { row := attrPlainRow, standIns := [], harness := (true, "e8a5dba309f79d24047b93b7d982c5dd74fc4dba68103e25faee82ae30a62e70"), looks := false }, kinds := [], alts := [], laidByText := true, laidKinds := [.data, .pinned], laidTests := true, laidLooks := .later }
def AttrPlainCardSaid : Prop := Claim7.holds Tryd.pinned (.plain (OpenSpec.ofChange attrPlainSpec)) attrPlainCard

/-- THE TIED CARD OF 'cartouchelaw.AttrEach'. -/
def attrEachCard : Claim7 := { stood := { row := attrEachRow, standIns := [], harness := (true, "e8a5dba309f79d24047b93b7d982c5dd74fc4dba68103e25faee82ae30a62e70"), looks := false }, kinds := [], alts := [], laidByText := true, laidKinds := [.data, .pinned], laidTests := true, laidLooks := .later }
def AttrEachCardSaid : Prop := Claim7.holds Tryd.pinned (.plain (OpenSpec.ofChange attrEachSpec)) attrEachCard

/-- THE TIED CARD OF 'cartouchelaw.AttrCharset'. -/
def attrCharsetCard : Claim7 := { stood := { row := attrCharsetRow, standIns := [], harness := (true, "e8a5dba309f79d24047b93b7d982c5dd74fc4dba68103e25faee82ae30a62e70"), looks := false }, kinds := [], alts := [], laidByText := true, laidKinds := [.data, .pinned], laidTests := true, laidLooks := .later }
def AttrCharsetCardSaid : Prop := Claim7.holds Tryd.pinned (.plain (OpenSpec.ofChange attrCharsetSpec)) attrCharsetCard

/-- THE TIED CARD OF 'cartouchelaw.ScanTells'. -/
def scanTellsCard : Claim7 := { stood := { row := scanTellsRow, standIns := [], harness := (true, "e8a5dba309f79d24047b93b7d982c5dd74fc4dba68103e25faee82ae30a62e70"), looks := false }, kinds := [], alts := [], laidByText := true, laidKinds := [.data, .pinned], laidTests := true, laidLooks := .later }
def ScanTellsCardSaid : Prop := Claim7.holds Tryd.pinned (.plain (OpenSpec.ofChange scanTellsSpec)) scanTellsCard

/-- THE SECOND FORM's CARD OF 'cartouchelaw.AttrTells'. -/
def attrTellsUptoCard : Claim7 := { stood := { row := attrTellsUptoRow, standIns := [], harness := (true, "e8a5dba309f79d24047b93b7d982c5dd74fc4dba68103e25faee82ae30a62e70"), looks := false }, kinds := [], alts := [], laidByText := true, laidKinds := [.data, .pinned], laidTests := true, laidLooks := .later }
def AttrTellsUptoCardSaid : Prop := Claim7.holds Tryd.pinned (.plain (OpenSpec.upto attrTellsSpec)) attrTellsUptoCard

/-- THE SECOND FORM's CARD OF 'cartouchelaw.AttrPlain'. -/
def attrPlainUptoCard : Claim7 := { stood := { row := attrPlainUptoRow, standIns := [], harness := (true, "e8a5dba309f79d24047b93b7d982c5dd74fc4dba68103e25faee82ae30a62e70"), looks := false }, kinds := [], alts := [], laidByText := true, laidKinds := [.data, .pinned], laidTests := true, laidLooks := .later }
def AttrPlainUptoCardSaid : Prop := Claim7.holds Tryd.pinned (.plain (OpenSpec.upto attrPlainSpec)) attrPlainUptoCard

/-- THE SECOND FORM's CARD OF 'cartouchelaw.AttrEach'. -/
def attrEachUptoCard : Claim7 := { stood := { row := attrEachUptoRow, standIns := [], harness := (true, "e8a5dba309f79d24047b93b7d982c5dd74fc4dba68103e25faee82ae30a62e70"), looks := false }, kinds := [], alts := [], laidByText := true, laidKinds := [.data, .pinned], laidTests := true, laidLooks := .later }
def AttrEachUptoCardSaid : Prop := Claim7.holds Tryd.pinned (.plain (OpenSpec.upto attrEachSpec)) attrEachUptoCard

/-- THE SECOND FORM's CARD OF 'cartouchelaw.AttrCharset'. -/
def attrCharsetUptoCard : Claim7 := { stood := { row := attrCharsetUptoRow, standIns := [], harness := (true, "e8a5dba309f79d24047b93b7d982c5dd74fc4dba68103e25faee82ae30a62e70"), looks := false }, kinds := [], alts := [], laidByText := true, laidKinds := [.data, .pinned], laidTests := true, laidLooks := .later }
def AttrCharsetUptoCardSaid : Prop := Claim7.holds Tryd.pinned (.plain (OpenSpec.upto attrCharsetSpec)) attrCharsetUptoCard

/-- THE SECOND FORM's CARD OF 'cartouchelaw.ScanTells'. -/
def scanTellsUptoCard : Claim7 := { stood := { row := scanTellsUptoRow, standIns := [], harness := (true, "e8a5dba309f79d24047b93b7d982c5dd74fc4dba68103e25faee82ae30a62e70"), looks := false }, kinds := [], alts := [], laidByText := true, laidKinds := [.data, .pinned], laidTests := true, laidLooks := .later }
def ScanTellsUptoCardSaid : Prop := Claim7.holds Tryd.pinned (.plain (OpenSpec.upto scanTellsSpec)) scanTellsUptoCard
end Rows
end Go.Proofs.YthhjfedegbldfaeDoor
