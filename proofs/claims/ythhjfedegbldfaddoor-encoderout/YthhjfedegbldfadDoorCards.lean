/-
  DERIVED. GIVEN WITH THE SEED: THE CARDS: each row of YthhjfedegbldfadDoorRows.lean that lists a variable, with what it lists TIED to the program's text (the seventh form; the later family's looks); each row that meets fmt, with fmt's text TOLD by the authors' own Lean function (tested against real Go, not proved from fmt's source: count such statements apart). THE CARD IS WHAT COUNTS. Prove the row's statement (the work); the ties are given (YthhjfedegbldfadDoorTie.lean); close each card by the builder's one call (the guide's Derived/Test/ToyasCard.lean, 'card_holds'). Laid BY PROGRAM, IN A SANDBOX (cutbox-door.mjs). By AI agents, Wed Nov 11 2026. No macro, syntax, notation, axiom, sorry.
-/
import Derived.Test.YthhjfedegbldfadDoorRows
import GoSem.ClaimSeven
namespace Go.Proofs.YthhjfedegbldfadDoor
namespace Rows

/-- THE TIED CARD OF 'cartouchelaw.EncoderTells'. -/
def encoderTellsCard : Claim7 := { stood := { row := encoderTellsRow, standIns := [], harness := (true, "7fb63f9acaad88cd01b185e78f3f56f9730cffbff3944fd8b0be19a0900c2861"), looks := false }, kinds := [], alts := [], laidByText := true, laidKinds := [.data, .data, .data], laidTests := true, laidLooks := .later }
def EncoderTellsCardSaid : Prop := Claim7.holds Tryd.pinned (.plain (OpenSpec.ofChange encoderTellsSpec)) encoderTellsCard

/-- THE TIED CARD OF 'cartouchelaw.EncoderStrict'. -/
def encoderStrictCard : Claim7 := { stood := { row := encoderStrictRow, standIns := [], harness := (true, "7fb63f9acaad88cd01b185e78f3f56f9730cffbff3944fd8b0be19a0900c2861"), looks := false }, kinds := [], alts := [], laidByText := true, laidKinds := [.data, .data, .data], laidTests := true, laidLooks := .later }
def EncoderStrictCardSaid : Prop := Claim7.holds Tryd.pinned (.plain (OpenSpec.ofChange encoderStrictSpec)) encoderStrictCard

/-- THE TIED CARD OF 'cartouchelaw.EncoderTold'. -/
def encoderToldCard : Claim7 := { stood := { row := encoderToldRow, standIns := [], harness := (true, "7fb63f9acaad88cd01b185e78f3f56f9730cffbff3944fd8b0be19a0900c2861"), looks := false }, kinds := [], alts := [], laidByText := true, laidKinds := [.data, .data, .data], laidTests := true, laidLooks := .later }
def EncoderToldCardSaid : Prop := Claim7.holds Tryd.pinned (.plain (OpenSpec.ofChange encoderToldSpec)) encoderToldCard

/-- THE TIED CARD OF 'cartouchelaw.EncoderOut'. -/
def encoderOutCard : Claim7 := { stood := { row := encoderOutRow, standIns := [], harness := (true, "7fb63f9acaad88cd01b185e78f3f56f9730cffbff3944fd8b0be19a0900c2861"), looks := false }, kinds := [], alts := [], laidByText := true, laidKinds := [.data, .data, .data], laidTests := true, laidLooks := .later }
def EncoderOutCardSaid : Prop := Claim7.holds Tryd.pinned (.plain (OpenSpec.ofChange encoderOutSpec)) encoderOutCard

/-- THE SECOND FORM's CARD OF 'cartouchelaw.EncoderTells'. -/
def encoderTellsUptoCard : Claim7 := { stood := { row := encoderTellsUptoRow, standIns := [], harness := (true, "7fb63f9acaad88cd01b185e78f3f56f9730cffbff3944fd8b0be19a0900c2861"), looks := false }, kinds := [], alts := [], laidByText := true, laidKinds := [.data, .data, .data], laidTests := true, laidLooks := .later }
def EncoderTellsUptoCardSaid : Prop := Claim7.holds Tryd.pinned (.plain (OpenSpec.upto encoderTellsSpec)) encoderTellsUptoCard

/-- THE SECOND FORM's CARD OF 'cartouchelaw.EncoderStrict'. -/
def encoderStrictUptoCard : Claim7 := { stood := { row := encoderStrictUptoRow, standIns := [], harness := (true, "7fb63f9acaad88cd01b185e78f3f56f9730cffbff3944fd8b0be19a0900c2861"), looks := false }, kinds := [], alts := [], laidByText := true, laidKinds := [.data, .data, .data], laidTests := true, laidLooks := .later }
def EncoderStrictUptoCardSaid : Prop := Claim7.holds Tryd.pinned (.plain (OpenSpec.upto encoderStrictSpec)) encoderStrictUptoCard

/-- THE SECOND FORM's CARD OF 'cartouchelaw.EncoderTold'. -/
def encoderToldUptoCard : Claim7 := { stood := { row := encoderToldUptoRow, standIns := [], harness := (true, "7fb63f9acaad88cd01b185e78f3f56f9730cffbff3944fd8b0be19a0900c2861"), looks := false }, kinds := [], alts := [], laidByText := true, laidKinds := [.data, .data, .data], laidTests := true, laidLooks := .later }
def EncoderToldUptoCardSaid : Prop := Claim7.holds Tryd.pinned (.plain (OpenSpec.upto encoderToldSpec)) encoderToldUptoCard

/-- THE SECOND FORM's CARD OF 'cartouchelaw.EncoderOut'. -/
def encoderOutUptoCard : Claim7 := { stood := { row := encoderOutUptoRow, standIns := [], harness := (true, "7fb63f9acaad88cd01b185e78f3f56f9730cffbff3944fd8b0be19a0900c2861"), looks := false }, kinds := [], alts := [], laidByText := true, laidKinds := [.data, .data, .data], laidTests := true, laidLooks := .later }
def EncoderOutUptoCardSaid : Prop := Claim7.holds Tryd.pinned (.plain (OpenSpec.upto encoderOutSpec)) encoderOutUptoCard
end Rows
end Go.Proofs.YthhjfedegbldfadDoor
