/- What attr's calls have to answer, as propositions; the contract of cartouchelaw.attrBegun over them: true; nothing that was there is written. What this seat's program lacks is left out. -/
import Derived.Test.YtofbghdkmjhniaaDoorPW
import Derived.Test.YtofbghdkmjhniaaDoorPD
namespace Go.Proofs.YtofbghdkmjhniaaDoor
open Go.RowKit
set_option linter.unusedVariables false

def AllSays : Prop := ∀ (s : ByteArray) (k : Nat) (w : World), k ≤ s.size → s.size ≤ 3000 → Calls Tryd.prog 36 #[.string s, .int .i64 (k : Int)] w fun e w' => ∃ v, e = .returned (.tuple #[v, .int .i64 ((attrsI (bl s) k).2 : Int), .int .i64 0]) ∧ Ats w' v (txts (attrsI (bl s) k).1) ∧ Below w.heap.size w w'
def ChsSays : Prop := ∀ (s : ByteArray) (w : World), s.size ≤ 3000 → Mx w → Calls Tryd.prog 44 #[.string s] w fun e w' => e = .returned (.tuple #[.int .i64 (chsI (bl s)), .int .i64 0]) ∧ Below w.heap.size w w'
def AllErrs : Prop := ∀ (s : ByteArray) (k : Int) (w : World), s.size ≤ maxLen → -9223372036854775808 ≤ k → k < 9223372036854775808 → badE s k ≠ 0 → Calls Tryd.prog 36 #[.string s, .int .i64 k] w fun e w' => ∃ v, e = .returned (.tuple #[v, .int .i64 0, .int .i64 (badE s k)]) ∧ Ats w' v [] ∧ Below w.heap.size w w'
def ChsErrs : Prop := ∀ (s : ByteArray) (w : World), s.size ≤ maxLen → 3000 < s.size → Mx w → Calls Tryd.prog 44 #[.string s] w fun e w' => e = .returned (.tuple #[.int .i64 0, .int .i64 2]) ∧ Below w.heap.size w w'

theorem ats_two {w : World} {b cap : Nat} {x1 y1 x2 y2 : ByteArray} (h0 : w.cell? ⟨b, 0, none⟩ = some (.string x1)) (h1 : w.cell? ⟨b, 1, none⟩ = some (.string y1)) (h2 : w.cell? ⟨b, 2, none⟩ = some (.string x2)) (h3 : w.cell? ⟨b, 3, none⟩ = some (.string y2)) :
    Ats w (.slice (some ⟨b, 0, none⟩) 2 cap) [(x1, y1), (x2, y2)] := by
  refine ⟨_, _, rfl, by simp [maxLen], .inr ⟨b, 0, rfl, fun i hi => ?_⟩⟩
  match i, hi with
  | 0, _ => exact ⟨h0, h1⟩
  | 1, _ => exact ⟨h2, h3⟩
end Go.Proofs.YtofbghdkmjhniaaDoor
