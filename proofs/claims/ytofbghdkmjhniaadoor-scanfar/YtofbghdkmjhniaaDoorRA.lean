/- The contract of the reference's AttrAt: the attribute from a place on; nothing that was there is written. Condition: at most 3000 bytes, the place within them. What this seat's program lacks is left out. -/
import Derived.Test.YtofbghdkmjhniaaDoorRG
import Derived.Test.YtofbghdkmjhniaaDoorMathN
import Derived.Deep.CutBlock
import Derived.Deep.DeepCutAuto
namespace Go.Proofs.YtofbghdkmjhniaaDoor
open Go.RowKit
set_option linter.unusedVariables false

theorem bl_at {s : ByteArray} {k : Nat} (h : k < s.size) : (bl s).getD k 0 = (s[k].toNat : Int) := by
  rw [List.getD_eq_getElem?_getD, bl_get s k h]; rfl
theorem bl_cut (s : ByteArray) (i j : Nat) : bl (s.extract i j) = cut (bl s) i j := by
  unfold cut bl
  simp [ByteArray.data_extract, List.map_take, List.map_drop]
theorem pAhead_w {c : Int} (h : wh c = true) : pAhead c = true := by unfold pAhead; rw [h]; rfl
theorem pAhead_n {c : Int} (h : wh c = false) (h' : (c == 47) = false) : pAhead c = false := by unfold pAhead; rw [h, h']; rfl
theorem pName_n {c : Int} (h : (c == 61) = false) (h1 : (c == 47) = false) (h2 : (c == 62) = false) (h3 : wh c = false) : pName c = true := by unfold pName; rw [h, h1, h2, h3]; rfl
theorem pName_w {c : Int} (h3 : wh c = true) : pName c = false := by unfold pName; rw [h3]; simp
theorem pVal_n {c : Int} (h2 : (c == 62) = false) (h3 : wh c = false) : pVal c = true := by unfold pVal; rw [h2, h3]; rfl
theorem pVal_w {c : Int} (h3 : wh c = true) : pVal c = false := by unfold pVal; rw [h3]; simp
theorem pNot_n {q c : Int} (h : (c == q) = false) : pNot q c = true := by unfold pNot; rw [h]; rfl
theorem pNot_y (q : Int) : pNot q q = false := by simp [pNot]
theorem u8_lt (s : ByteArray) {k : Nat} (h : k < s.size) : (0 : Int) ≤ (s[k].toNat : Int) ∧ (s[k].toNat : Int) < 256 := by
  have := s[k].toNat_lt; omega
theorem ne_eq {c d : Int} (h : c ≠ d) : (c == d) = false := by simpa using h
theorem ne_ne {c d : Int} (h : c ≠ d) : (c != d) = true := by simpa using h
theorem cut_one {l : List Int} {k : Nat} (h : k < l.length) : cut l k (k + 1) = [l.getD k 0] := by rw [cut_snoc (Nat.le_refl _) h, cut_self]; rfl
theorem cut_step {s t : ByteArray} {i k : Nat} (h : bl t = cut (bl s) i k) (hik : i ≤ k) (hk : k < s.size) : bl (t ++ s.extract k (k + 1)) = cut (bl s) i (k + 1) := by
  rw [bl_app, h, bl_cut, cut_one (by rw [bl_len]; exact hk), cut_snoc hik (by rw [bl_len]; exact hk)]
theorem ext_one {s : ByteArray} {k : Nat} (h : k < s.size) : (s.extract k (k + 1)).size = 1 := by
  rw [← bl_len, bl_cut, cut_one (by rw [bl_len]; exact h)]; rfl

/-- The ways that AttrAt goes. -/
theorem attrI_1 {l : List Int} {k a0 : Nat} (h0 : run pAhead l k = a0) (h : l.length ≤ a0 ∨ l.getD a0 0 = 62) : attrI l k = (([], []), a0, false) := by
  subst h0; unfold attrI; simp only; rw [if_pos h]
theorem attrI_2 {l : List Int} {k a0 a1 a2 : Nat} (h0 : run pAhead l k = a0) (h : ¬ (l.length ≤ a0 ∨ l.getD a0 0 = 62)) (h1 : run pName l (a0 + 1) = a1) (h2 : run wh l a1 = a2) (h' : l.length ≤ a2 ∨ l.getD a2 0 ≠ 61) : attrI l k = ((fdI (cut l a0 a1), []), a2, true) := by
  subst h0; subst h1; subst h2; unfold attrI; simp only; rw [if_neg h, if_pos h']
theorem attrI_3 {l : List Int} {k a0 a1 a2 a3 a4 : Nat} (h0 : run pAhead l k = a0) (h : ¬ (l.length ≤ a0 ∨ l.getD a0 0 = 62)) (h1 : run pName l (a0 + 1) = a1) (h2 : run wh l a1 = a2) (h' : ¬ (l.length ≤ a2 ∨ l.getD a2 0 ≠ 61)) (h3 : run wh l (a2 + 1) = a3) (hq : a3 < l.length ∧ (l.getD a3 0 = 34 ∨ l.getD a3 0 = 39)) (h4 : run (pNot (l.getD a3 0)) l (a3 + 1) = a4) :
    attrI l k = if l.length ≤ a4 then (([], []), a4, false) else ((fdI (cut l a0 a1), fdI (cut l (a3 + 1) a4)), a4 + 1, true) := by
  subst h0; subst h1; subst h2; subst h3; subst h4; unfold attrI; simp only; rw [if_neg h, if_neg h', if_pos hq]
theorem attrI_4 {l : List Int} {k a0 a1 a2 a3 a4 : Nat} (h0 : run pAhead l k = a0) (h : ¬ (l.length ≤ a0 ∨ l.getD a0 0 = 62)) (h1 : run pName l (a0 + 1) = a1) (h2 : run wh l a1 = a2) (h' : ¬ (l.length ≤ a2 ∨ l.getD a2 0 ≠ 61)) (h3 : run wh l (a2 + 1) = a3) (hq : ¬ (a3 < l.length ∧ (l.getD a3 0 = 34 ∨ l.getD a3 0 = 39))) (h4 : run pVal l a3 = a4) :
    attrI l k = ((fdI (cut l a0 a1), fdI (cut l a3 a4)), a4, true) := by
  subst h0; subst h1; subst h2; subst h3; subst h4; unfold attrI; simp only; rw [if_neg h, if_neg h', if_neg hq]

end Go.Proofs.YtofbghdkmjhniaaDoor
