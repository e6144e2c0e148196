/- The contracts of the reference's beginsAt and SameAttrs; nothing that was there is written. Condition: at most 3000 bytes, the place within them. What this seat's program lacks is left out. -/
import Derived.Test.YtofbghdkmjhniaaDoorRB
import Derived.Lib.Strings
namespace Go.Proofs.YtofbghdkmjhniaaDoor
open Go.RowKit
set_option linter.unusedVariables false

/-- Does a text of small letters stand at a place? -/
def bgn (l : List Int) (k : Nat) (m : List Int) : Bool := decide (k + m.length ≤ l.length ∧ fdI (cut l k (k + m.length)) = m)
theorem bgn_no {l : List Int} {k : Nat} {m : List Int} (h : l.length < k + m.length) : bgn l k m = false := by unfold bgn; exact decide_eq_false (by omega)
theorem bgn_at {s m : ByteArray} {k : Nat} (h : k + m.size ≤ s.size) : decide (strOfNums (fdI (cut (bl s) k (k + m.size))) = m) = bgn (bl s) k (bl m) := by
  unfold bgn
  rw [Bool.eq_iff_iff, decide_eq_true_eq, decide_eq_true_eq, bl_len, bl_len]
  have hb : ∀ x ∈ fdI (cut (bl s) k (k + m.size)), 0 ≤ x ∧ x ≤ 255 := by
    have := fd_byt (l := cut (bl s) k (k + m.size)) (by
      intro x hx
      unfold cut at hx
      exact bl_byt s x (List.mem_of_mem_drop (List.mem_of_mem_take hx)))
    exact this
  constructor
  · intro e
    refine ⟨h, ?_⟩
    rw [← bl_str _ hb, e]
  · rintro ⟨_, e⟩
    rw [e, str_bl]
theorem text_eq (f m : ByteArray) : (f.toList == m.toList) = decide (f = m) := by
  rw [Bool.eq_iff_iff, beq_iff_eq, decide_eq_true_eq]
  constructor
  · intro h
    apply ByteArray.ext
    apply Array.ext'
    rw [← Lib.toList_data, ← Lib.toList_data, h]
  · intro h; rw [h]
/-- A slice of attributes. -/
def Ats (w : World) (v : Value) (L : List (ByteArray × ByteArray)) : Prop :=
  ∃ ao cap, v = .slice ao L.length cap ∧ L.length ≤ maxLen ∧ (L = [] ∨ ∃ b off, ao = some ⟨b, off, none⟩ ∧ ∀ i (h : i < L.length), w.cell? ⟨b, off + i * 2, none⟩ = some (.string L[i].1) ∧ w.cell? ⟨b, off + i * 2 + 1, none⟩ = some (.string L[i].2))
theorem Ats.below {w w' : World} {v : Value} {L : List (ByteArray × ByteArray)} (h : Ats w v L) (hb : Below w.heap.size w w') : Ats w' v L := by
  obtain ⟨ao, cap, h1, h2, h3⟩ := h
  refine ⟨ao, cap, h1, h2, ?_⟩
  rcases h3 with h3 | ⟨b, off, h4, h5⟩
  · exact .inl h3
  · refine .inr ⟨b, off, h4, fun i hi => ⟨?_, ?_⟩⟩
    · exact (hb.cell (p := ⟨b, off + i * 2, none⟩) (World.block_lt_of_cell? w _ (h5 i hi).1)).trans (h5 i hi).1
    · exact (hb.cell (p := ⟨b, off + i * 2 + 1, none⟩) (World.block_lt_of_cell? w _ (h5 i hi).2)).trans (h5 i hi).2
/-- Attributes as texts. -/
def txts (L : List (List Int × List Int)) : List (ByteArray × ByteArray) := L.map fun x => (strOfNums x.1, strOfNums x.2)
theorem atCells_at (L : List (List Int × List Int)) : ∀ i (h : i < (txts L).length), (atCells L)[i * 2]? = some (.string (txts L)[i].1) ∧ (atCells L)[i * 2 + 1]? = some (.string (txts L)[i].2) := by
  induction L with
  | nil => intro i h; simp [txts] at h
  | cons x t ih =>
    intro i h
    cases i with
    | zero => simp [atCells, txts]
    | succ i =>
      have := ih i (by simpa [txts] using h)
      have e1 : (i + 1) * 2 = i * 2 + 2 := by omega
      rw [e1]
      simpa [atCells, txts, List.flatMap_cons] using this
theorem Ats.of_owns {w : World} {base : Nat} {v : Value} {L : List (List Int × List Int)} (h : w.ownsRow base 33 2 v L.length (atCells L)) : Ats w v (txts L) := by
  have hl : (txts L).length = L.length := by simp [txts]
  rcases h.2 with ⟨hv, hn⟩ | ⟨g, cap, cur, hv, _, hg, hnc, hcm, hcs, htk⟩
  · have : L = [] := List.length_eq_zero_iff.1 hn
    subst this
    exact ⟨none, 0, by rw [hv]; rfl, by simp [txts], .inl rfl⟩
  · refine ⟨some ⟨g, 0, none⟩, cap, by rw [hv, hl], by rw [hl]; omega, .inr ⟨g, 0, rfl, fun i hi => ?_⟩⟩
    have hc := atCells_at L i hi
    rw [← htk] at hc
    have hi' : i < L.length := by rw [← hl]; exact hi
    rw [List.getElem?_take, if_pos (by omega), List.getElem?_take, if_pos (by omega)] at hc
    simp only [World.cell?, hg, Nat.zero_add]
    simpa using hc

end Go.Proofs.YtofbghdkmjhniaaDoor
