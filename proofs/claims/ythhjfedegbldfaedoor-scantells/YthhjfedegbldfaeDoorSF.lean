/- What scan's calls have to answer, as propositions; cartouchelaw.scanBegun and the walk of ScanFar over them: true; nothing that was there is written. What this seat's program lacks is left out. -/
import Derived.Test.YthhjfedegbldfaeDoorPW
import Derived.Test.YthhjfedegbldfaeDoorPB
namespace Go.Proofs.YthhjfedegbldfaeDoor
open Go.RowKit
set_option linter.unusedVariables false

def MetaSays : Prop := ∀ (v : Value) (L : List (ByteArray × ByteArray)) (w : World), Ats w v L → L.length ≤ 3000 → (∀ x ∈ L, x.1.size ≤ 3000 ∧ x.2.size ≤ 3000) → Mx w → Calls Tryd.prog 20 #[v] w fun e w' => e = .returned (.tuple #[.int .i64 (metaI L), .int .i64 0]) ∧ Below w.heap.size w w'
def ScanSays : Prop := ∀ (s : ByteArray) (w : World), s.size ≤ 3000 → Mx w → Calls Tryd.prog 21 #[.string s] w fun e w' => e = .returned (.tuple #[.int .i64 (scnI (bl s)), .int .i64 0]) ∧ Below w.heap.size w w'
def ScanErrs : Prop := ∀ (s : ByteArray) (w : World), s.size ≤ maxLen → 3000 < s.size → Mx w → Calls Tryd.prog 21 #[.string s] w fun e w' => e = .returned (.tuple #[.int .i64 0, .int .i64 2]) ∧ Below w.heap.size w w'
theorem ats_one {w : World} {b cap : Nat} {x1 y1 : ByteArray} (h0 : w.cell? ⟨b, 0, none⟩ = some (.string x1)) (h1 : w.cell? ⟨b, 1, none⟩ = some (.string y1)) : Ats w (.slice (some ⟨b, 0, none⟩) 1 cap) [(x1, y1)] := by
  refine ⟨_, _, rfl, by simp [maxLen], .inr ⟨b, 0, rfl, fun i hi => ?_⟩⟩
  match i, hi with
  | 0, _ => exact ⟨h0, h1⟩
set_option maxHeartbeats 1600000 in
set_option maxRecDepth 100000 in
theorem scanBegun_any (hM : MetaSays) (hS : ScanSays) (w : World) (hMx : Mx w) : Calls Tryd.prog 24 #[] w fun e w' => e = .returned (.bool true) ∧ Below w.heap.size w w' := by
  have HMx := hide hMx
  clear hMx
  have s1 := fun w => hS ⟨#[60, 33, 45, 45, 32, 60, 109, 101, 116, 97, 32, 99, 104, 97, 114, 115, 101, 116, 61, 117, 116, 102, 45, 56, 62, 32, 45, 45, 62, 60, 112, 32, 97, 61, 39, 62, 39, 62, 60, 77, 69, 84, 65, 32, 99, 111, 110, 116, 101, 110, 116, 61, 39, 116, 101, 120, 116, 47, 104, 116, 109, 108, 59, 99, 104, 97, 114, 115, 101, 116, 61, 108, 97, 116, 105, 110, 49, 39, 32, 104, 116, 116, 112, 45, 101, 113, 117, 105, 118, 61, 67, 111, 110, 116, 101, 110, 116, 45, 84, 121, 112, 101, 62]⟩ w (by decide)
  rw [show bl ⟨#[60, 33, 45, 45, 32, 60, 109, 101, 116, 97, 32, 99, 104, 97, 114, 115, 101, 116, 61, 117, 116, 102, 45, 56, 62, 32, 45, 45, 62, 60, 112, 32, 97, 61, 39, 62, 39, 62, 60, 77, 69, 84, 65, 32, 99, 111, 110, 116, 101, 110, 116, 61, 39, 116, 101, 120, 116, 47, 104, 116, 109, 108, 59, 99, 104, 97, 114, 115, 101, 116, 61, 108, 97, 116, 105, 110, 49, 39, 32, 104, 116, 116, 112, 45, 101, 113, 117, 105, 118, 61, 67, 111, 110, 116, 101, 110, 116, 45, 84, 121, 112, 101, 62]⟩ = [60, 33, 45, 45, 32, 60, 109, 101, 116, 97, 32, 99, 104, 97, 114, 115, 101, 116, 61, 117, 116, 102, 45, 56, 62, 32, 45, 45, 62, 60, 112, 32, 97, 61, 39, 62, 39, 62, 60, 77, 69, 84, 65, 32, 99, 111, 110, 116, 101, 110, 116, 61, 39, 116, 101, 120, 116, 47, 104, 116, 109, 108, 59, 99, 104, 97, 114, 115, 101, 116, 61, 108, 97, 116, 105, 110, 49, 39, 32, 104, 116, 116, 112, 45, 101, 113, 117, 105, 118, 61, 67, 111, 110, 116, 101, 110, 116, 45, 84, 121, 112, 101, 62] from by decide, begun_scan] at s1
  have s2 := fun w => hS ⟨#[60, 33, 45, 45, 62, 60, 109, 101, 116, 97, 32, 99, 104, 97, 114, 115, 101, 116, 61, 120, 45, 117, 115, 101, 114, 45, 100, 101, 102, 105, 110, 101, 100, 62]⟩ w (by decide)
  rw [show bl ⟨#[60, 33, 45, 45, 62, 60, 109, 101, 116, 97, 32, 99, 104, 97, 114, 115, 101, 116, 61, 120, 45, 117, 115, 101, 114, 45, 100, 101, 102, 105, 110, 101, 100, 62]⟩ = [60, 33, 45, 45, 62, 60, 109, 101, 116, 97, 32, 99, 104, 97, 114, 115, 101, 116, 61, 120, 45, 117, 115, 101, 114, 45, 100, 101, 102, 105, 110, 101, 100, 62] from by decide, begun_user] at s2
  have s3 : ∀ (v : Value) (w : World), Ats w v [(csB, ⟨#[117, 116, 102, 45, 49, 54]⟩)] → Mx w → Calls Tryd.prog 20 #[v] w fun e w' => e = .returned (.tuple #[.int .i64 1, .int .i64 0]) ∧ Below w.heap.size w w' := fun v w h hx => by
    have := hM v [(csB, ⟨#[117, 116, 102, 45, 49, 54]⟩)] w h (by decide) (by decide) hx
    rw [begun_meta] at this
    exact this
  unfold csB at s3
  have HS3 := hide s3
  clear hM hS s3
  go_enter Tryd.func24, Tryd.ntmps24
  go_wp2_with fail
  refine (s1 _ (by first | exact unhide HMx | exact (unhide HMx).below (unhide (by assumption)) | exact (unhide HMx).below (bstep (unhide (by assumption)) (balloc _ _)))).mono ?_
  rintro e w1 ⟨rfl, hb1⟩
  have HB1 := hide hb1
  clear hb1 s1
  go_wp2_with fail
  refine (unhide HS3 _ _ (ats_one (by simp) (by simp)) (by first | exact unhide HMx | exact (unhide HMx).below (unhide (by assumption)) | exact (unhide HMx).below (bstep (unhide (by assumption)) (balloc _ _)))).mono ?_
  rintro e w2 ⟨rfl, hb2⟩
  have HB2 := hide (bstep (bstep (unhide HB1) (balloc _ _)) hb2)
  clear hb2 HB1 HS3
  go_wp2_with fail
  refine (s2 _ (by first | exact unhide HMx | exact (unhide HMx).below (unhide (by assumption)) | exact (unhide HMx).below (bstep (unhide (by assumption)) (balloc _ _)))).mono ?_
  rintro e w3 ⟨rfl, hb3⟩
  have HB3 := hide (bstep (unhide HB2) hb3)
  clear hb3 s2 HB2
  go_wp2_with fail
  go_ret
  exact ⟨rfl, unhide HB3⟩
end Go.Proofs.YthhjfedegbldfaeDoor
