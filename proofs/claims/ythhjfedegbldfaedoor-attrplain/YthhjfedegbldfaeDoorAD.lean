/- What attr's calls have to answer, as propositions; the contract of cartouchelaw.attrBegun over them: true; nothing that was there is written. -/
import Derived.Test.YthhjfedegbldfaeDoorPW
import Derived.Test.YthhjfedegbldfaeDoorPD
namespace Go.Proofs.YthhjfedegbldfaeDoor
open Go.RowKit
set_option linter.unusedVariables false

def NextSays : Prop := ∀ (s : ByteArray) (k : Nat) (w : World), k ≤ s.size → s.size ≤ 3000 → Calls Tryd.prog 8 #[.string s, .int .i64 (k : Int)] w fun e w' => e = .returned (.tuple #[.agg #[.string (strOfNums (attrI (bl s) k).1.1), .string (strOfNums (attrI (bl s) k).1.2)], .int .i64 ((attrI (bl s) k).2.1 : Int), .bool (attrI (bl s) k).2.2, .int .i64 0]) ∧ Below w.heap.size w w'
def AllSays : Prop := ∀ (s : ByteArray) (k : Nat) (w : World), k ≤ s.size → s.size ≤ 3000 → Calls Tryd.prog 9 #[.string s, .int .i64 (k : Int)] w fun e w' => ∃ v, e = .returned (.tuple #[v, .int .i64 ((attrsI (bl s) k).2 : Int), .int .i64 0]) ∧ Ats w' v (txts (attrsI (bl s) k).1) ∧ Below w.heap.size w w'
def ChsSays : Prop := ∀ (s : ByteArray) (w : World), s.size ≤ 3000 → Mx w → Calls Tryd.prog 10 #[.string s] w fun e w' => e = .returned (.tuple #[.int .i64 (chsI (bl s)), .int .i64 0]) ∧ Below w.heap.size w w'
def NextErrs : Prop := ∀ (s : ByteArray) (k : Int) (w : World), s.size ≤ maxLen → -9223372036854775808 ≤ k → k < 9223372036854775808 → badE s k ≠ 0 → Calls Tryd.prog 8 #[.string s, .int .i64 k] w fun e w' => e = .returned (.tuple #[.agg #[.string ⟨#[]⟩, .string ⟨#[]⟩], .int .i64 0, .bool false, .int .i64 (badE s k)]) ∧ Below w.heap.size w w'
def AllErrs : Prop := ∀ (s : ByteArray) (k : Int) (w : World), s.size ≤ maxLen → -9223372036854775808 ≤ k → k < 9223372036854775808 → badE s k ≠ 0 → Calls Tryd.prog 9 #[.string s, .int .i64 k] w fun e w' => ∃ v, e = .returned (.tuple #[v, .int .i64 0, .int .i64 (badE s k)]) ∧ Ats w' v [] ∧ Below w.heap.size w w'
def ChsErrs : Prop := ∀ (s : ByteArray) (w : World), s.size ≤ maxLen → 3000 < s.size → Mx w → Calls Tryd.prog 10 #[.string s] w fun e w' => e = .returned (.tuple #[.int .i64 0, .int .i64 2]) ∧ Below w.heap.size w w'

theorem ats_two {w : World} {b cap : Nat} {x1 y1 x2 y2 : ByteArray} (h0 : w.cell? ⟨b, 0, none⟩ = some (.string x1)) (h1 : w.cell? ⟨b, 1, none⟩ = some (.string y1)) (h2 : w.cell? ⟨b, 2, none⟩ = some (.string x2)) (h3 : w.cell? ⟨b, 3, none⟩ = some (.string y2)) :
    Ats w (.slice (some ⟨b, 0, none⟩) 2 cap) [(x1, y1), (x2, y2)] := by
  refine ⟨_, _, rfl, by simp [maxLen], .inr ⟨b, 0, rfl, fun i hi => ?_⟩⟩
  match i, hi with
  | 0, _ => exact ⟨h0, h1⟩
  | 1, _ => exact ⟨h2, h3⟩
set_option maxHeartbeats 1600000 in
set_option maxRecDepth 100000 in
theorem attrBegun_any (hN : NextSays) (hA : AllSays) (hC : ChsSays) (w : World) (hMx : Mx w) : Calls Tryd.prog 15 #[] w fun e w' => e = .returned (.bool true) ∧ Below w.heap.size w w' := by
  have HMx := hide hMx
  clear hMx
  have s1 := fun w => hN ⟨#[47, 32, 65, 32, 61, 32, 39, 66, 32, 99, 39, 32, 100, 62]⟩ 0 w (by decide) (by decide)
  rw [show bl ⟨#[47, 32, 65, 32, 61, 32, 39, 66, 32, 99, 39, 32, 100, 62]⟩ = [47, 32, 65, 32, 61, 32, 39, 66, 32, 99, 39, 32, 100, 62] from by decide, begun_next] at s1
  rw [show strOfNums ((([97], [98, 32, 99]), 11, true) : (List Int × List Int) × Nat × Bool).1.1 = ⟨#[97]⟩ from by decide, show strOfNums ((([97], [98, 32, 99]), 11, true) : (List Int × List Int) × Nat × Bool).1.2 = ⟨#[98, 32, 99]⟩ from by decide] at s1
  have s2 := fun w => hA ⟨#[97, 61, 49, 32, 98, 62]⟩ 0 w (by decide) (by decide)
  rw [show bl ⟨#[97, 61, 49, 32, 98, 62]⟩ = [97, 61, 49, 32, 98, 62] from by decide, begun_all] at s2
  rw [show txts (([([97], [49]), ([98], [])], 5) : List (List Int × List Int) × Nat).1 = [(⟨#[97]⟩, ⟨#[49]⟩), (⟨#[98]⟩, ⟨#[]⟩)] from by decide] at s2
  have s3 := fun w => hC ⟨#[116, 101, 120, 116, 47, 104, 116, 109, 108, 59, 32, 67, 104, 97, 114, 115, 101, 116, 32, 61, 32, 34, 108, 97, 116, 105, 110, 49, 34]⟩ w (by decide)
  rw [show bl ⟨#[116, 101, 120, 116, 47, 104, 116, 109, 108, 59, 32, 67, 104, 97, 114, 115, 101, 116, 32, 61, 32, 34, 108, 97, 116, 105, 110, 49, 34]⟩ = [116, 101, 120, 116, 47, 104, 116, 109, 108, 59, 32, 67, 104, 97, 114, 115, 101, 116, 32, 61, 32, 34, 108, 97, 116, 105, 110, 49, 34] from by decide, begun_charset] at s3
  simp only [show ((0 : Nat) : Int) = 0 from rfl, show ((5 : Nat) : Int) = 5 from rfl, show ((11 : Nat) : Int) = 11 from rfl] at s1 s2
  clear hN hA hC
  go_enter Tryd.func15, Tryd.ntmps15
  go_wp2_with fail
  refine (s1 _).mono ?_
  rintro e w1 ⟨rfl, hb1⟩
  have HB1 := hide hb1
  clear hb1 s1
  go_wp2_with fail
  refine (s2 _).mono ?_
  rintro e w2 ⟨v, rfl, ha2, hb2⟩
  have hs2 := hb2.size
  simp at hs2
  have c0 : w2.cell? ⟨w1.heap.size, 0, none⟩ = some (.string ⟨#[97]⟩) := by rw [hb2.cell (p := ⟨w1.heap.size, 0, none⟩) (by simp)]; simp
  have c1 : w2.cell? ⟨w1.heap.size, 1, none⟩ = some (.string ⟨#[98, 32, 99]⟩) := by rw [hb2.cell (p := ⟨w1.heap.size, 1, none⟩) (by simp)]; simp
  have HB2 := hide (bstep (bstep (unhide HB1) (balloc _ _)) hb2)
  have HA2 := hide ha2
  clear hb2 s2 HB1 ha2
  go_wp2_with fail
  refine (s3 _ (by first | exact unhide HMx | exact (unhide HMx).below (unhide (by assumption)) | exact (unhide HMx).below (bstep (unhide (by assumption)) (balloc _ _)))).mono ?_
  rintro e w3 ⟨rfl, hb3⟩
  have hs3 := hb3.size
  have d0 : w3.cell? ⟨w1.heap.size, 0, none⟩ = some (.string ⟨#[97]⟩) := (hb3.cell (p := ⟨w1.heap.size, 0, none⟩) (by simp; omega)).trans c0
  have d1 : w3.cell? ⟨w1.heap.size, 1, none⟩ = some (.string ⟨#[98, 32, 99]⟩) := (hb3.cell (p := ⟨w1.heap.size, 1, none⟩) (by simp; omega)).trans c1
  have HB3 := hide (bstep (unhide HB2) hb3)
  have HA3 := hide ((unhide HA2).below hb3)
  clear hb3 s3 HB2 HA2 c0 c1
  go_wp2_with fail
  refine (sameAttrs_any _ ((unhide HA3).below (balloc _ _)) (ats_two (x1 := ⟨#[97]⟩) (y1 := ⟨#[49]⟩) (x2 := ⟨#[98]⟩) (y2 := ⟨#[]⟩) (by simp) (by simp) (by simp) (by simp))).mono ?_
  rintro e w4 ⟨rfl, hb4⟩
  have HB4 := hide (bstep (bstep (unhide HB3) (balloc _ _)) hb4)
  clear hb4 HB3 HA3
  rw [decide_eq_true rfl]
  go_wp2_with fail
  go_ret
  exact ⟨rfl, unhide HB4⟩
end Go.Proofs.YthhjfedegbldfaeDoor
