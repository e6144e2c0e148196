/-
  No cell of these rows narrows 'for every input' (looked for: loops, veiled, ifaces, maps, wideKeys, modest, calm, conditions, laid).
  DERIVED. THE GIVEN ROWS OF THIS SEAT. 6 by the template 'for every input the law returns true; each argument reads behind the call as it read before'; 0 by the template 'total and deterministic' (their statements: YthhjfedegbldfabTotals.lean).
  GIVEN WITH THE SEED: the statements are not yours to turn. If you find one false, say at which input.
  Laid BY PROGRAM, IN A SANDBOX (cutbox-rows.mjs): the forced cells as the released guide's own fill.sh prints them over the translation 2b9091dc9fc993e3… (all of the seat's roots in one cut). By AI agents, Wed Nov 11 2026. No macro, syntax, notation, axiom, sorry.
-/
import Derived.Test.YthhjfedegbldfabChecked
import GoSem.Claim
import GoSem.ClaimJoined
import GoSem.ClaimMapViews
import Derived.JoinedTies
import Derived.KernelRfl
namespace Go.Proofs.Ythhjfedegbldfab
/- THE CELL 'sum', in the pinned program and in every row, IS THE sha256 OF THE DUMP (.gsa) THAT YthhjfedegbldfabProg.lean LOADS. Nothing in Lean hashes anything: it is a label: what it is worth is what the hold of that sum in a sandbox is worth. -/
noncomputable def Try.pinned : Pinned := { name := "ythhjfedegbldfab", sum := "2b9091dc9fc993e3e0ad9b131c26d95f95936e20232e0250ac68d2e19348393d", checked := Try.checked }
namespace Rows
def none {H : Type} : Left H := { results := [], args := [] }

/-- 'cartouchelaw.Utf16Tells': WHATEVER THE INPUT: true; the input reads as it did. -/
def utf16TellsSpec : ChangeSpec := { name := "utf16Tells", fn := fun _ => fun
  | [d1, d2, d3] => { results := [.lit (.bool true)], args := [d1, d2, d3] }
  | _ => none }
def utf16TellsRow : OpenClaim := { program := "ythhjfedegbldfab", sum := "2b9091dc9fc993e3e0ad9b131c26d95f95936e20232e0250ac68d2e19348393d", func := "cartouche/cartouchelaw.Utf16Tells", spec := "utf16Tells", unfollowed := true, recurses := true, apart := false }
def Utf16TellsSaid : Prop := utf16TellsRow.holds Try.pinned (OpenSpec.ofChange utf16TellsSpec)

/-- ITS FALSE NEIGHBOUR: 'it returns false'. Refute it at one input. -/
def utf16TellsWrong : ChangeSpec := { name := "utf16Tells", fn := fun _ => fun
  | [d1, d2, d3] => { results := [.lit (.bool false)], args := [d1, d2, d3] }
  | _ => none }
def Utf16TellsWrongFalsely : Prop := utf16TellsRow.holds Try.pinned (OpenSpec.ofChange utf16TellsWrong)

/-- 'cartouchelaw.Utf16Back': WHATEVER THE INPUT: true; the input reads as it did. -/
def utf16BackSpec : ChangeSpec := { name := "utf16Back", fn := fun _ => fun
  | [d1, d2] => { results := [.lit (.bool true)], args := [d1, d2] }
  | _ => none }
def utf16BackRow : OpenClaim := { program := "ythhjfedegbldfab", sum := "2b9091dc9fc993e3e0ad9b131c26d95f95936e20232e0250ac68d2e19348393d", func := "cartouche/cartouchelaw.Utf16Back", spec := "utf16Back", unfollowed := true, recurses := true, apart := false }
def Utf16BackSaid : Prop := utf16BackRow.holds Try.pinned (OpenSpec.ofChange utf16BackSpec)

/-- ITS FALSE NEIGHBOUR: 'it returns false'. Refute it at one input. -/
def utf16BackWrong : ChangeSpec := { name := "utf16Back", fn := fun _ => fun
  | [d1, d2] => { results := [.lit (.bool false)], args := [d1, d2] }
  | _ => none }
def Utf16BackWrongFalsely : Prop := utf16BackRow.holds Try.pinned (OpenSpec.ofChange utf16BackWrong)

/-- 'cartouchelaw.Utf16Parts': WHATEVER THE INPUT: true; the input reads as it did. -/
def utf16PartsSpec : ChangeSpec := { name := "utf16Parts", fn := fun _ => fun
  | [d1, d2, d3] => { results := [.lit (.bool true)], args := [d1, d2, d3] }
  | _ => none }
def utf16PartsRow : OpenClaim := { program := "ythhjfedegbldfab", sum := "2b9091dc9fc993e3e0ad9b131c26d95f95936e20232e0250ac68d2e19348393d", func := "cartouche/cartouchelaw.Utf16Parts", spec := "utf16Parts", unfollowed := true, recurses := true, apart := false }
def Utf16PartsSaid : Prop := utf16PartsRow.holds Try.pinned (OpenSpec.ofChange utf16PartsSpec)

/-- ITS FALSE NEIGHBOUR: 'it returns false'. Refute it at one input. -/
def utf16PartsWrong : ChangeSpec := { name := "utf16Parts", fn := fun _ => fun
  | [d1, d2, d3] => { results := [.lit (.bool false)], args := [d1, d2, d3] }
  | _ => none }
def Utf16PartsWrongFalsely : Prop := utf16PartsRow.holds Try.pinned (OpenSpec.ofChange utf16PartsWrong)

/-- 'cartouchelaw.SingleTells': WHATEVER THE INPUT: true; the input reads as it did. -/
def singleTellsSpec : ChangeSpec := { name := "singleTells", fn := fun _ => fun
  | [d1, d2, d3, d4] => { results := [.lit (.bool true)], args := [d1, d2, d3, d4] }
  | _ => none }
def singleTellsRow : OpenClaim := { program := "ythhjfedegbldfab", sum := "2b9091dc9fc993e3e0ad9b131c26d95f95936e20232e0250ac68d2e19348393d", func := "cartouche/cartouchelaw.SingleTells", spec := "singleTells", unfollowed := true, recurses := true, apart := false }
def SingleTellsSaid : Prop := singleTellsRow.holds Try.pinned (OpenSpec.ofChange singleTellsSpec)

/-- ITS FALSE NEIGHBOUR: 'it returns false'. Refute it at one input. -/
def singleTellsWrong : ChangeSpec := { name := "singleTells", fn := fun _ => fun
  | [d1, d2, d3, d4] => { results := [.lit (.bool false)], args := [d1, d2, d3, d4] }
  | _ => none }
def SingleTellsWrongFalsely : Prop := singleTellsRow.holds Try.pinned (OpenSpec.ofChange singleTellsWrong)

/-- 'cartouchelaw.SingleBack': WHATEVER THE INPUT: true; the input reads as it did. -/
def singleBackSpec : ChangeSpec := { name := "singleBack", fn := fun _ => fun
  | [d1, d2, d3] => { results := [.lit (.bool true)], args := [d1, d2, d3] }
  | _ => none }
def singleBackRow : OpenClaim := { program := "ythhjfedegbldfab", sum := "2b9091dc9fc993e3e0ad9b131c26d95f95936e20232e0250ac68d2e19348393d", func := "cartouche/cartouchelaw.SingleBack", spec := "singleBack", unfollowed := true, recurses := true, apart := false }
def SingleBackSaid : Prop := singleBackRow.holds Try.pinned (OpenSpec.ofChange singleBackSpec)

/-- ITS FALSE NEIGHBOUR: 'it returns false'. Refute it at one input. -/
def singleBackWrong : ChangeSpec := { name := "singleBack", fn := fun _ => fun
  | [d1, d2, d3] => { results := [.lit (.bool false)], args := [d1, d2, d3] }
  | _ => none }
def SingleBackWrongFalsely : Prop := singleBackRow.holds Try.pinned (OpenSpec.ofChange singleBackWrong)

/-- 'cartouchelaw.SingleParts': WHATEVER THE INPUT: true; the input reads as it did. -/
def singlePartsSpec : ChangeSpec := { name := "singleParts", fn := fun _ => fun
  | [d1, d2, d3] => { results := [.lit (.bool true)], args := [d1, d2, d3] }
  | _ => none }
def singlePartsRow : OpenClaim := { program := "ythhjfedegbldfab", sum := "2b9091dc9fc993e3e0ad9b131c26d95f95936e20232e0250ac68d2e19348393d", func := "cartouche/cartouchelaw.SingleParts", spec := "singleParts", unfollowed := true, recurses := true, apart := false }
def SinglePartsSaid : Prop := singlePartsRow.holds Try.pinned (OpenSpec.ofChange singlePartsSpec)

/-- ITS FALSE NEIGHBOUR: 'it returns false'. Refute it at one input. -/
def singlePartsWrong : ChangeSpec := { name := "singleParts", fn := fun _ => fun
  | [d1, d2, d3] => { results := [.lit (.bool false)], args := [d1, d2, d3] }
  | _ => none }
def SinglePartsWrongFalsely : Prop := singlePartsRow.holds Try.pinned (OpenSpec.ofChange singlePartsWrong)

/- THE SECOND FORM. 'bulk': how many values and letters a reading holds, each counted each time it is reached (what is shared counts as often as it is met; a slice's spare places count too). A statement '..UptoSaid' is the law's where the arguments, and the package variables that the reading takes, are together of bulk at most 1048576: NARROWER than '..Said'. Prove '..Said' where nothing that the law and all that it calls make is longer than what came in: it says more and counts as full. Else prove '..UptoSaid'. A law counts once. -/
mutual
def uptoBulk {H : Type} : DataW H → Nat
  | .lit (.string bytes) => bytes.length + 1
  | .lit _ => 1
  | .nil => 1
  | .ptr d => uptoBulk d + 1
  | .slice elems spare => uptoBulkAll elems + uptoBulkAll spare + 1
  | .agg parts => uptoBulkAll parts + 1
  | .iface _ d => uptoBulk d + 1
  | .map entries => uptoBulkEntries entries + 1
  | .held _ => 1
def uptoBulkAll {H : Type} : List (DataW H) → Nat
  | [] => 0
  | d :: r => uptoBulk d + uptoBulkAll r
def uptoBulkEntries {H : Type} : List (Lit × DataW H) → Nat
  | [] => 0
  | x :: r => uptoBulkEntry x + uptoBulkEntries r
def uptoBulkEntry {H : Type} : Lit × DataW H → Nat
  | (.string bytes, d) => bytes.length + uptoBulk d + 1
  | (_, d) => uptoBulk d + 1
 end
def uptoSmall : (H : Type) → List (DataW H) → Bool := fun _ ds => decide (uptoBulkAll ds ≤ 1048576)
def OpenSpec.upto (s : _root_.Go.ChangeSpec) : _root_.Go.OpenSpec := { _root_.Go.OpenSpec.ofChange s with cond := some uptoSmall }

/-- 'cartouchelaw.Utf16Tells', WHERE WHAT IT READS IS OF BULK AT MOST 1048576: true; the input reads as it did. -/
def utf16TellsUptoRow : OpenClaim := { program := "ythhjfedegbldfab", sum := "2b9091dc9fc993e3e0ad9b131c26d95f95936e20232e0250ac68d2e19348393d", func := "cartouche/cartouchelaw.Utf16Tells", spec := "utf16Tells", unfollowed := true, recurses := true, apart := false, narrowed := true }
def Utf16TellsUptoSaid : Prop := utf16TellsUptoRow.holds Try.pinned (OpenSpec.upto utf16TellsSpec)

/-- 'cartouchelaw.Utf16Back', WHERE WHAT IT READS IS OF BULK AT MOST 1048576: true; the input reads as it did. -/
def utf16BackUptoRow : OpenClaim := { program := "ythhjfedegbldfab", sum := "2b9091dc9fc993e3e0ad9b131c26d95f95936e20232e0250ac68d2e19348393d", func := "cartouche/cartouchelaw.Utf16Back", spec := "utf16Back", unfollowed := true, recurses := true, apart := false, narrowed := true }
def Utf16BackUptoSaid : Prop := utf16BackUptoRow.holds Try.pinned (OpenSpec.upto utf16BackSpec)

/-- 'cartouchelaw.Utf16Parts', WHERE WHAT IT READS IS OF BULK AT MOST 1048576: true; the input reads as it did. -/
def utf16PartsUptoRow : OpenClaim := { program := "ythhjfedegbldfab", sum := "2b9091dc9fc993e3e0ad9b131c26d95f95936e20232e0250ac68d2e19348393d", func := "cartouche/cartouchelaw.Utf16Parts", spec := "utf16Parts", unfollowed := true, recurses := true, apart := false, narrowed := true }
def Utf16PartsUptoSaid : Prop := utf16PartsUptoRow.holds Try.pinned (OpenSpec.upto utf16PartsSpec)

/-- 'cartouchelaw.SingleTells', WHERE WHAT IT READS IS OF BULK AT MOST 1048576: true; the input reads as it did. -/
def singleTellsUptoRow : OpenClaim := { program := "ythhjfedegbldfab", sum := "2b9091dc9fc993e3e0ad9b131c26d95f95936e20232e0250ac68d2e19348393d", func := "cartouche/cartouchelaw.SingleTells", spec := "singleTells", unfollowed := true, recurses := true, apart := false, narrowed := true }
def SingleTellsUptoSaid : Prop := singleTellsUptoRow.holds Try.pinned (OpenSpec.upto singleTellsSpec)

/-- 'cartouchelaw.SingleBack', WHERE WHAT IT READS IS OF BULK AT MOST 1048576: true; the input reads as it did. -/
def singleBackUptoRow : OpenClaim := { program := "ythhjfedegbldfab", sum := "2b9091dc9fc993e3e0ad9b131c26d95f95936e20232e0250ac68d2e19348393d", func := "cartouche/cartouchelaw.SingleBack", spec := "singleBack", unfollowed := true, recurses := true, apart := false, narrowed := true }
def SingleBackUptoSaid : Prop := singleBackUptoRow.holds Try.pinned (OpenSpec.upto singleBackSpec)

/-- 'cartouchelaw.SingleParts', WHERE WHAT IT READS IS OF BULK AT MOST 1048576: true; the input reads as it did. -/
def singlePartsUptoRow : OpenClaim := { program := "ythhjfedegbldfab", sum := "2b9091dc9fc993e3e0ad9b131c26d95f95936e20232e0250ac68d2e19348393d", func := "cartouche/cartouchelaw.SingleParts", spec := "singleParts", unfollowed := true, recurses := true, apart := false, narrowed := true }
def SinglePartsUptoSaid : Prop := singlePartsUptoRow.holds Try.pinned (OpenSpec.upto singlePartsSpec)

end Rows
end Go.Proofs.Ythhjfedegbldfab
