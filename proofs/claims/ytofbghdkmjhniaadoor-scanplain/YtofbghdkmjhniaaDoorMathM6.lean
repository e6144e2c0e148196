/- What the program's look through a text computes is what the reference's does. Conditions stand at each law. -/
import Derived.Test.YtofbghdkmjhniaaDoorMathJ
import Derived.Test.YtofbghdkmjhniaaDoorRL5
namespace Go.Proofs.YtofbghdkmjhniaaDoor
open Go.RowKit

theorem bgn_drop (l : List Int) (k j : Nat) (m : List Int) (hk : k ≤ l.length) : bgn (l.drop k) j m = bgn l (k + j) m := by
  unfold bgn cut
  rw [List.length_drop, List.drop_drop, Bool.eq_iff_iff, decide_eq_true_eq, decide_eq_true_eq, show j + m.length - j = k + j + m.length - (k + j) from by omega]
  constructor
  · rintro ⟨h1, h2⟩
    by_cases h : m.length = 0
    · have : m = [] := List.eq_nil_of_length_eq_zero h
      subst this
      simp at h1 ⊢
      by_cases hz : k + j ≤ l.length
      · exact ⟨hz, by simpa using h2⟩
      · omega
    · exact ⟨by omega, h2⟩
  · rintro ⟨h1, h2⟩; exact ⟨by omega, h2⟩
theorem getD_drop (l : List Int) (k j : Nat) : (l.drop k).getD j 0 = l.getD (k + j) 0 := by
  rw [List.getD_eq_getElem?_getD, List.getElem?_drop, List.getD_eq_getElem?_getD]
theorem stn_drop (l : List Int) (k j : Nat) (m : List Int) : stn (l.drop k) j m = stn l (k + j) m := by
  unfold stn
  rw [getD_drop, List.length_drop]
  congr 1
  rw [Bool.eq_iff_iff, decide_eq_true_eq, decide_eq_true_eq]; omega
theorem stn_ahead (l : List Int) (k : Nat) : stn l k [9, 10, 12, 13, 32, 47] = (decide (k < l.length) && pAhead (l.getD k 0)) := by
  unfold stn pAhead wh
  congr 1
  rw [Bool.eq_iff_iff]
  simp
  omega
/-- Does a tag begin at a place? -/
def isTg (l : List Int) (k : Nat) : Bool :=
  if stn l k [60] = false then false else if stn l (k + 1) [47] = true then decide (k + 2 < l.length) && isLet (l.getD (k + 2) 0) else decide (k + 1 < l.length) && isLet (l.getD (k + 1) 0)
theorem isTg_nm {l : List Int} {k : Nat} (hk : k < l.length) : isTg l k = decide (0 < nmAt l k) := by
  unfold isTg nmAt
  by_cases h0 : l.getD k 0 = 60
  · rw [if_neg (by rw [(stn_one l k 60).2 ⟨hk, h0⟩]; simp), if_pos h0]
    by_cases h1 : k + 1 < l.length ∧ l.getD (k + 1) 0 = 47
    · rw [if_pos ((stn_one l (k + 1) 47).2 h1)]
      by_cases h2 : k + 2 < l.length ∧ isLet (l.getD (k + 2) 0) = true
      · rw [if_pos ⟨h2.1, h1.2, h2.2⟩, decide_eq_true h2.1, h2.2]; simp
      · have hn : ¬ (k + 2 < l.length ∧ l.getD (k + 1) 0 = 47 ∧ isLet (l.getD (k + 2) 0) = true) := fun h => h2 ⟨h.1, h.2.2⟩
        have hm : ¬ (k + 1 < l.length ∧ isLet (l.getD (k + 1) 0) = true) := fun h => by rw [h1.2] at h; exact absurd h.2 (by decide)
        rw [if_neg hn, if_neg hm, Bool.eq_iff_iff]
        simp only [Bool.and_eq_true, decide_eq_true_eq]
        exact ⟨fun h => absurd h h2, fun h => absurd h (by omega)⟩
    · have hs : ¬ stn l (k + 1) [47] = true := fun e => h1 ((stn_one l (k + 1) 47).1 e)
      have hn : ¬ (k + 2 < l.length ∧ l.getD (k + 1) 0 = 47 ∧ isLet (l.getD (k + 2) 0) = true) := fun h => h1 ⟨by omega, h.2.1⟩
      rw [if_neg hs, if_neg hn]
      by_cases h2 : k + 1 < l.length ∧ isLet (l.getD (k + 1) 0) = true
      · rw [if_pos h2, decide_eq_true h2.1, h2.2]; simp
      · rw [if_neg h2, Bool.eq_iff_iff]
        simp only [Bool.and_eq_true, decide_eq_true_eq]
        exact ⟨fun h => absurd h h2, fun h => absurd h (by omega)⟩
  · have hs : stn l k [60] = false := by
      cases hq : stn l k [60]
      · rfl
      · exact absurd ((stn_one l k 60).1 hq).2 h0
    rw [if_pos hs, if_neg h0]; rfl
theorem run_nm {l : List Int} {k : Nat} (hk : k < l.length) (h : 0 < nmAt l k) : run pVal l k = run pVal l (nmAt l k) := by
  have h' := h
  unfold nmAt at h' ⊢
  split at h'
  · rename_i c0
    rw [if_pos c0]
    have e1 : run pVal l k = run pVal l (k + 1) := run_step hk (by rw [c0]; decide)
    split at h'
    · rename_i c
      rw [if_pos c, e1, run_step (by omega) (by rw [c.2.1]; decide)]
    · rename_i c
      rw [if_neg c]
      split at h'
      · rename_i c'
        rw [if_pos c', e1]
      · omega
  · omega
theorem isMeta_stn (l : List Int) (k : Nat) : isMeta l k = (stn l (k + 5) [9, 10, 12, 13, 32, 47] && bgn l k b5) := by
  unfold isMeta; rw [stn_ahead, Bool.and_comm]
theorem isMeta_drop {l : List Int} {k : Nat} (hk : k ≤ l.length) : isMeta (l.drop k) 0 = isMeta l k := by
  rw [isMeta_stn, isMeta_stn, stn_drop, bgn_drop l k 0 b5 hk]; rfl
theorem isTg_drop {l : List Int} {k : Nat} : isTg (l.drop k) 0 = isTg l k := by
  unfold isTg
  rw [stn_drop, stn_drop, getD_drop, getD_drop, List.length_drop]
  have e1 : decide (0 + 2 < l.length - k) = decide (k + 2 < l.length) := by rw [Bool.eq_iff_iff, decide_eq_true_eq, decide_eq_true_eq]; omega
  have e2 : decide (0 + 1 < l.length - k) = decide (k + 1 < l.length) := by rw [Bool.eq_iff_iff, decide_eq_true_eq, decide_eq_true_eq]; omega
  rw [e1, e2]
  rfl
theorem bgn_two {l : List Int} {k : Nat} {x y : Int} (hx : x < 97 ∧ (x < 65 ∨ 90 < x)) (hy : y < 97 ∧ (y < 65 ∨ 90 < y)) : bgn l k [x, y] = (stn l k [x] && stn l (k + 1) [y]) := by
  rw [← bg0_low (by simp) (fun z hz => by simp at hz; rcases hz with rfl | rfl <;> assumption), bg0_cut (by simp), Bool.eq_iff_iff]
  simp only [Bool.and_eq_true, decide_eq_true_eq, stn_one, List.length_cons, List.length_nil]
  constructor
  · rintro ⟨h1, h2⟩
    rw [show k + (0 + 1 + 1) = k + 1 + 1 from by omega, cut_snoc (by omega) (by omega), cut_snoc (by omega) (by omega), cut_self] at h2
    simp at h2
    exact ⟨⟨by omega, by simpa using h2.1⟩, ⟨by omega, by simpa using h2.2⟩⟩
  · rintro ⟨⟨h1, h2⟩, h3, h4⟩
    refine ⟨by omega, ?_⟩
    rw [show k + (0 + 1 + 1) = k + 1 + 1 from by omega, cut_snoc (by omega) (by omega), cut_snoc (by omega) (by omega), cut_self, h2, h4]
    rfl
theorem isDecl_stn (l : List Int) (k : Nat) : isDecl l k = (stn l k [60] && stn l (k + 1) [33, 47, 63]) := by
  unfold isDecl bE bS bQ
  rw [bgn_two (by decide) (by decide), bgn_two (by decide) (by decide), bgn_two (by decide) (by decide)]
  have e : stn l (k + 1) [33, 47, 63] = (stn l (k + 1) [33] || (stn l (k + 1) [47] || stn l (k + 1) [63])) := by
    unfold stn
    cases decide (k + 1 < l.length) <;> simp
  rw [e]
  cases stn l k [60] <;> simp
theorem fbI_skip {l : List Int} {k : Nat} : ∀ i : Nat, k + i ≤ l.length → (∀ j, j < i → bgn l (k + j) b3 = false) → fbI l k = fbI l (k + i)
  | 0, _, _ => rfl
  | i + 1, h, hj => by
    rw [fbI_skip i (by omega) (fun j h' => hj j (by omega)), fbI_miss (by omega) (hj i (by omega))]
    rfl
theorem b3N : b3 ≠ [] := by decide
theorem b3low : ∀ y ∈ b3, y < 97 ∧ (y < 65 ∨ 90 < y) := by decide
theorem b4N : b4 ≠ [] := by decide
theorem b4low : ∀ y ∈ b4, y < 97 ∧ (y < 65 ∨ 90 < y) := by decide
theorem txts_both {l : List Int} {k n : Nat} (h : l.length ≤ n) : ∀ x ∈ txts (attrsI l k).1, x.1.size ≤ n ∧ x.2.size ≤ n := by
  intro x hx
  unfold txts at hx
  rw [List.mem_map] at hx
  obtain ⟨y, hy, rfl⟩ := hx
  have := attrsN_few l _ k y hy
  rw [strOfNums_size, strOfNums_size]; omega
/-- Two places from which a look goes on alike. -/
def Alike (l : List Int) (a b : Nat) : Prop := a = b ∨ (l.length ≤ a ∧ l.length ≤ b)
theorem scnF_alike {l : List Int} {a b : Nat} (h : Alike l a b) : scnF l a = scnF l b := by
  rcases h with rfl | ⟨h1, h2⟩
  · rfl
  · rw [scnF_end h1, scnF_end h2]
end Go.Proofs.YtofbghdkmjhniaaDoor
