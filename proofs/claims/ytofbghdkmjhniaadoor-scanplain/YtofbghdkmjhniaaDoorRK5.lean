/- The contract of the reference's MetaOf: the encoding that a meta's attributes tell; nothing that was there is written. Condition: each value has at most 3000 bytes. What this seat's program lacks is left out. -/
import Derived.Test.YtofbghdkmjhniaaDoorRJ
namespace Go.Proofs.YtofbghdkmjhniaaDoor
open Go.RowKit
set_option linter.unusedVariables false

def csB : ByteArray := ⟨#[99, 104, 97, 114, 115, 101, 116]⟩
def heB : ByteArray := ⟨#[104, 116, 116, 112, 45, 101, 113, 117, 105, 118]⟩
def coB : ByteArray := ⟨#[99, 111, 110, 116, 101, 110, 116]⟩
def ctB : ByteArray := ⟨#[99, 111, 110, 116, 101, 110, 116, 45, 116, 121, 112, 101]⟩
/-- The first place from k on where the name is m, or -1. -/
def sfI (m : ByteArray) (L : List (ByteArray × ByteArray)) (k : Nat) : Int := match (L.drop k).findIdx? (fun x => decide (x.1 = m)) with | some j => ((k + j : Nat) : Int) | none => -1
theorem sfI_end (m : ByteArray) (L : List (ByteArray × ByteArray)) : sfI m L L.length = -1 := by unfold sfI; rw [List.drop_length]; rfl
theorem sfI_hit {m : ByteArray} {L : List (ByteArray × ByteArray)} {j : Nat} (hj : j < L.length) (h : L[j].1 = m) : sfI m L j = j := by
  unfold sfI
  rw [List.drop_eq_getElem_cons hj, List.findIdx?_cons]
  simp [h]
theorem sfI_miss {m : ByteArray} {L : List (ByteArray × ByteArray)} {j : Nat} (hj : j < L.length) (h : L[j].1 ≠ m) : sfI m L j = sfI m L (j + 1) := by
  unfold sfI
  rw [List.drop_eq_getElem_cons hj, List.findIdx?_cons]
  simp only [h, decide_false]
  cases (L.drop (j + 1)).findIdx? (fun x => decide (x.1 = m)) with
  | none => rfl
  | some q => simp; omega
theorem sfI_bd (m : ByteArray) (L : List (ByteArray × ByteArray)) (k : Nat) : sfI m L k = -1 ∨ ∃ j : Nat, sfI m L k = j ∧ j < L.length := by
  unfold sfI
  cases h : (L.drop k).findIdx? (fun x => decide (x.1 = m)) with
  | none => exact .inl rfl
  | some q =>
    refine .inr ⟨k + q, rfl, ?_⟩
    rw [List.findIdx?_eq_some_iff_getElem] at h
    obtain ⟨hq, _⟩ := h
    rw [List.length_drop] at hq; omega
/-- Which encodings are told for which. -/
def fixE (n : Int) : Int := if n = 2 ∨ n = 3 then 1 else if n = 5 then 4 else n
def valAt (L : List (ByteArray × ByteArray)) (i : Int) : ByteArray := (L.getD i.toNat (⟨#[]⟩, ⟨#[]⟩)).2
def metaI (L : List (ByteArray × ByteArray)) : Int :=
  fixE (if 0 ≤ sfI csB L 0 then findI (valAt L (sfI csB L 0)) else if 0 ≤ sfI heB L 0 ∧ 0 ≤ sfI coB L 0 ∧ valAt L (sfI heB L 0) = ctB then chsI (bl (valAt L (sfI coB L 0))) else 0)
theorem valAt_nat {L : List (ByteArray × ByteArray)} {j : Nat} (h : j < L.length) : valAt L (j : Int) = L[j].2 := by
  unfold valAt; simp [h]
theorem eq_lit (x : ByteArray) (m : ByteArray) (cs : List UInt8) (h : m.toList = cs) : (x.toList == cs) = decide (x = m) := by rw [← h, text_eq]

end Go.Proofs.YtofbghdkmjhniaaDoor
