/- Plain functions on lists of bytes that say what the program's calls on attributes and charsets compute, and that they are those of the reference. Conditions stand at each law. -/
import Derived.Test.YthhjfedegbldfaeDoorMathO
import Derived.Lib.IndexMore
import Derived.Lib.Strings
namespace Go.Proofs.YthhjfedegbldfaeDoor
open Go.RowKit

/-- Does one of some bytes stand at a place? -/
def stn (l : List Int) (k : Nat) (m : List Int) : Bool := decide (k < l.length) && m.contains (l.getD k 0)
theorem stn_one (l : List Int) (k : Nat) (x : Int) : stn l k [x] = true ↔ k < l.length ∧ l.getD k 0 = x := by
  unfold stn; simp
theorem stn_two (l : List Int) (k : Nat) (x y : Int) : stn l k [x, y] = true ↔ k < l.length ∧ (l.getD k 0 = x ∨ l.getD k 0 = y) := by
  unfold stn; simp
/-- What stands from a quote up to the next same one. -/
def qtI (l : List Int) (a : Nat) : List Int × Nat × Bool :=
  if l.length ≤ run (pNot (l.getD a 0)) l (a + 1) then ([], run (pNot (l.getD a 0)) l (a + 1), false) else (cut l (a + 1) (run (pNot (l.getD a 0)) l (a + 1)), run (pNot (l.getD a 0)) l (a + 1) + 1, true)
/-- A value behind a name. -/
def valI (l : List Int) (a : Nat) : List Int × Nat × Bool :=
  if stn l (run wh l a) [61] = false then ([], run wh l a, true)
  else if stn l (run wh l (run wh l a + 1)) [34, 39] = true then qtI l (run wh l (run wh l a + 1))
  else (cut l (run wh l (run wh l a + 1)) (run pVal l (run wh l (run wh l a + 1))), run pVal l (run wh l (run wh l a + 1)), true)
theorem valI_le {l : List Int} {a : Nat} (h : a ≤ l.length) : (valI l a).2.1 ≤ l.length ∧ (valI l a).1.length ≤ l.length := by
  have h1 := run_le wh l h
  unfold valI
  split
  · exact ⟨h1, by simp⟩
  · rename_i c
    have c' := (stn_one l _ 61).1 (by simpa using c)
    have h2 := run_le wh l (i := run wh l a + 1) (by omega)
    split
    · rename_i q
      have q' := (stn_two l _ 34 39).1 q
      have h3 := run_le (pNot (l.getD (run wh l (run wh l a + 1)) 0)) l (i := run wh l (run wh l a + 1) + 1) (by omega)
      unfold qtI
      split
      · exact ⟨h3, by simp⟩
      · exact ⟨by simp only; omega, by simp only; rw [cut_len h3]; omega⟩
    · have h3 := run_le pVal l h2
      exact ⟨h3, by simp only; rw [cut_len h3]; omega⟩
theorem attrI_val {l : List Int} {k a0 a1 : Nat} (h0 : run pAhead l k = a0) (h : ¬ (l.length ≤ a0 ∨ l.getD a0 0 = 62)) (h1 : run pName l (a0 + 1) = a1) :
    attrI l k = if (valI l a1).2.2 = true then ((fdI (cut l a0 a1), fdI (valI l a1).1), (valI l a1).2.1, true) else (([], []), (valI l a1).2.1, false) := by
  by_cases c2 : stn l (run wh l a1) [61] = true
  · have c2' := (stn_one l _ 61).1 c2
    by_cases c3 : stn l (run wh l (run wh l a1 + 1)) [34, 39] = true
    · have c3' := (stn_two l _ 34 39).1 c3
      have hv : valI l a1 = qtI l (run wh l (run wh l a1 + 1)) := by unfold valI; rw [if_neg (by simp [c2]), if_pos c3]
      rw [hv, attrI_3 h0 h h1 rfl (by omega) rfl c3' rfl]
      unfold qtI
      split
      · rfl
      · rfl
    · have c3' : ¬ (run wh l (run wh l a1 + 1) < l.length ∧ (l.getD (run wh l (run wh l a1 + 1)) 0 = 34 ∨ l.getD (run wh l (run wh l a1 + 1)) 0 = 39)) := fun e => c3 ((stn_two l _ 34 39).2 e)
      have hv : valI l a1 = (cut l (run wh l (run wh l a1 + 1)) (run pVal l (run wh l (run wh l a1 + 1))), run pVal l (run wh l (run wh l a1 + 1)), true) := by unfold valI; rw [if_neg (by simp [c2]), if_neg c3]
      rw [hv, attrI_4 h0 h h1 rfl (by omega) rfl c3' rfl]
      rfl
  · have c2' : ¬ (run wh l a1 < l.length ∧ l.getD (run wh l a1) 0 = 61) := fun e => c2 ((stn_one l _ 61).2 e)
    have hv : valI l a1 = ([], run wh l a1, true) := by unfold valI; rw [if_pos (by simpa using c2)]
    rw [hv, attrI_2 h0 h h1 rfl (by omega)]
    rfl

theorem run_fd {p : Int → Bool} (hp : ∀ c, p (fI c) = p c) (l : List Int) (k : Nat) : run p (fdI l) k = run p l k := by
  unfold run fdI
  rw [← List.map_drop, List.takeWhile_map, List.length_map]
  congr 2
  have : p ∘ fI = p := by funext c; exact hp c
  rw [this]
theorem getD_fd (l : List Int) (k : Nat) : (fdI l).getD k 0 = fI (l.getD k 0) := by
  unfold fdI
  rw [List.getD_eq_getElem?_getD, List.getElem?_map, List.getD_eq_getElem?_getD]
  cases l[k]? with
  | none => rfl
  | some x => rfl
theorem cut_fd (l : List Int) (i j : Nat) : cut (fdI l) i j = fdI (cut l i j) := by
  unfold cut fdI; rw [← List.map_drop, ← List.map_take]
theorem bgn_fd (l : List Int) (k : Nat) (m : List Int) : bgn (fdI l) k m = bgn l k m := by
  unfold bgn
  rw [fd_len, cut_fd, fd_fd]
theorem fI_low (c x : Int) (h : x < 97) (h' : x < 65 ∨ 90 < x) : (fI c = x) = (c = x) := by
  apply propext; unfold fI; split <;> omega
theorem cut_byt {l : List Int} (h : Byt l) (i j : Nat) : Byt (cut l i j) := by
  intro x hx
  unfold cut at hx
  exact h x (List.mem_of_mem_drop (List.mem_of_mem_take hx))
theorem fnd_fd {x : List Int} (h : Byt x) : fnd (fdI x) = fnd x := by
  unfold fnd findI
  rw [bl_str _ (fd_byt h), bl_str _ h, fd_tr, fd_fd]
theorem pSemi_fI (c : Int) : pSemi (fI c) = pSemi c := by
  unfold pSemi
  rw [wh_fI]
  congr 2
  rw [Bool.eq_iff_iff, beq_iff_eq, beq_iff_eq, fI_low c 59 (by decide) (.inl (by decide))]
theorem pNot_fI {q : Int} (hq : q = 34 ∨ q = 39) (c : Int) : pNot q (fI c) = pNot q c := by
  unfold pNot
  congr 1
  rw [Bool.eq_iff_iff, beq_iff_eq, beq_iff_eq, fI_low c q (by omega) (.inl (by omega))]
theorem chs_fd {l : List Int} (hl : Byt l) : ∀ n k, chs n (fdI l) k = chs n l k
  | 0, k => rfl
  | n + 1, k => by
    unfold chs
    rw [fd_len, bgn_fd]
    have q61 : ∀ c, (fI c ≠ 61) = (c ≠ 61) := fun c => by show (¬ fI c = 61) = ¬ (c = 61); rw [fI_low c 61 (by decide) (.inl (by decide))]
    simp only [run_fd wh_fI, getD_fd, q61, fI_low _ 34 (by decide) (.inl (by decide)), fI_low _ 39 (by decide) (.inl (by decide))]
    split
    · rfl
    · split
      · exact chs_fd hl n _
      · split
        · exact chs_fd hl n _
        · split
          · rename_i hq
            have e : fI (l.getD (run wh l (run wh l (k + 7) + 1)) 0) = l.getD (run wh l (run wh l (k + 7) + 1)) 0 := by
              unfold fI; rw [if_neg (by omega)]
            rw [e, run_fd (pNot_fI hq.2), cut_fd, fnd_fd (cut_byt hl _ _)]
          · rw [run_fd pSemi_fI, cut_fd, fnd_fd (cut_byt hl _ _)]
theorem chsI_fd {l : List Int} (hl : Byt l) : chsI (fdI l) = chsI l := by
  unfold chsI chsF; rw [fd_len, chs_fd hl]

/-- Does a text stand at a place, letter by letter? -/
def bg0 (l : List Int) (k : Nat) (m : List Int) : Bool := decide (m <+: l.drop k)
theorem pre_map : ∀ (a b : List UInt8), a.isPrefixOf b = decide ((a.map (fun u => (u.toNat : Int))) <+: (b.map (fun u => (u.toNat : Int))))
  | [], b => by simp
  | x :: a, [] => by simp
  | x :: a, y :: b => by
    rw [List.isPrefixOf_cons_cons, pre_map a b, Bool.eq_iff_iff]
    simp only [Bool.and_eq_true, beq_iff_eq, decide_eq_true_eq, List.map_cons, List.cons_prefix_cons]
    constructor
    · rintro ⟨rfl, h⟩; exact ⟨rfl, h⟩
    · rintro ⟨h1, h⟩; exact ⟨UInt8.toNat_inj.1 (by omega), h⟩
theorem occ_bl (s m : ByteArray) (k j : Nat) : Lib.occAt (s.extract k s.size).data.toList m.data.toList j = bg0 (bl s) (k + j) (bl m) := by
  unfold Lib.occAt bg0
  rw [pre_map]
  congr 1
  have : (s.extract k s.size).data.toList.map (fun u => (u.toNat : Int)) = (bl s).drop k := bl_extract s k
  rw [List.map_drop, this, List.drop_drop]
  rfl
theorem has_bl (s m : ByteArray) : Lib.hasPrefix s.data.toList m.data.toList = bg0 (bl s) 0 (bl m) := by
  unfold Lib.hasPrefix bg0
  rw [pre_map]; rfl
theorem bg0_drop (l : List Int) (k j : Nat) (m : List Int) : bg0 (l.drop k) j m = bg0 l (k + j) m := by unfold bg0; rw [List.drop_drop]
theorem bg0_cut {l m : List Int} {k : Nat} (hm : m ≠ []) : bg0 l k m = decide (k + m.length ≤ l.length ∧ cut l k (k + m.length) = m) := by
  unfold bg0 cut
  rw [Bool.eq_iff_iff, decide_eq_true_eq, decide_eq_true_eq, List.prefix_iff_eq_take, show k + m.length - k = m.length from by omega]
  constructor
  · intro h
    have hl : m.length = (List.take m.length (List.drop k l)).length := by rw [← h]
    rw [List.length_take, List.length_drop] at hl
    have : 0 < m.length := List.length_pos_iff.2 hm
    exact ⟨by omega, h.symm⟩
  · rintro ⟨_, h⟩; exact h.symm
theorem bg0_fold {l m : List Int} {k : Nat} (hm : m ≠ []) (hl : fdI l = l) : bg0 l k m = bgn l k m := by
  rw [bg0_cut hm]
  unfold bgn
  rw [← cut_fd, hl]
theorem fd_low : ∀ (x m : List Int), (∀ y ∈ m, y < 97 ∧ (y < 65 ∨ 90 < y)) → ((fdI x = m) ↔ (x = m))
  | [], [], _ => by simp [fdI]
  | [], y :: m, _ => by simp [fdI]
  | c :: x, [], _ => by simp [fdI]
  | c :: x, y :: m, h => by
    have ih := fd_low x m (fun z hz => h z (List.mem_cons_of_mem _ hz))
    have h1 := h y (List.mem_cons_self ..)
    unfold fdI at ih ⊢
    rw [List.map_cons, List.cons.injEq, List.cons.injEq, fI_low c y h1.1 h1.2, ih]
theorem bg0_low {l m : List Int} {k : Nat} (hm : m ≠ []) (h : ∀ y ∈ m, y < 97 ∧ (y < 65 ∨ 90 < y)) : bg0 l k m = bgn l k m := by
  rw [bg0_cut hm]
  unfold bgn
  rw [Bool.eq_iff_iff, decide_eq_true_eq, decide_eq_true_eq, fd_low _ _ h]
theorem valI_byt {l : List Int} (h : Byt l) (a : Nat) : Byt (valI l a).1 := by
  unfold valI
  split
  · intro x hx; simp at hx
  · split
    · unfold qtI
      split
      · intro x hx; simp at hx
      · exact cut_byt h _ _
    · exact cut_byt h _ _
/-- What strings.Index says of what stands from a place on. -/
theorem idx_bl (s m : ByteArray) (k : Nat) (hk : k ≤ s.size) :
    (Lib.index (s.extract k s.size).data.toList m.data.toList = -1 ∧ ∀ j, k ≤ j → j ≤ s.size → bg0 (bl s) j (bl m) = false) ∨
    (∃ i : Nat, Lib.index (s.extract k s.size).data.toList m.data.toList = i ∧ k + i ≤ s.size ∧ bg0 (bl s) (k + i) (bl m) = true ∧ ∀ j, j < i → bg0 (bl s) (k + j) (bl m) = false) := by
  have hlen : (s.extract k s.size).data.toList.length = s.size - k := by
    have := congrArg List.length (bl_extract s k)
    rw [bl_len, List.length_drop, bl_len] at this
    simp
  rcases Lib.index_spec (s.extract k s.size).data.toList m.data.toList with ⟨h1, h2⟩ | ⟨i, h1, h2, h3, h4⟩
  · refine .inl ⟨h1, fun j hj hj' => ?_⟩
    have := h2 (j - k) (by omega)
    rw [occ_bl, show k + (j - k) = j from by omega] at this
    exact this
  · refine .inr ⟨i, h1, by omega, by rw [← occ_bl]; exact h3, fun j hj => ?_⟩
    rw [← occ_bl]; exact h4 j hj

/-- The label behind the = at a place: its encoding. -/
def tailI (l : List Int) (a : Nat) : Int :=
  if stn l (run wh l (a + 1)) [34, 39] = true then fnd (qtI l (run wh l (a + 1))).1 else fnd (cut l (run wh l (a + 1)) (run pSemi l (run wh l (a + 1))))
theorem fnd_nil : fnd [] = 0 := by decide +kernel
theorem chsJ_skip {l : List Int} {k : Nat} : ∀ i : Nat, k + i ≤ l.length → (∀ j, j < i → bgn l (k + j) csL = false) → chsF l k = chsF l (k + i)
  | 0, _, _ => rfl
  | i + 1, h, hj => by
    rw [chsJ_skip i (by omega) (fun j h' => hj j (by omega)), chsF_no (by omega) (hj i (by omega))]
    rfl
theorem chsF_zero {l : List Int} {k : Nat} (hk : k ≤ l.length) (hj : ∀ j, k ≤ j → j ≤ l.length → bgn l j csL = false) : chsF l k = 0 := by
  rw [chsJ_skip (l.length - k) (by omega) (fun j h => hj _ (by omega) (by omega))]
  exact chsF_end (by omega)
theorem chsF_tail {l : List Int} {k a : Nat} (hk : k < l.length) (h : bgn l k csL = true) (h1 : run wh l (k + 7) = a) (h' : stn l a [61] = true) : chsF l k = tailI l a := by
  have h'' := (stn_one l a 61).1 h'
  unfold tailI
  by_cases c : stn l (run wh l (a + 1)) [34, 39] = true
  · rw [if_pos c, chsF_quote hk h h1 (by omega) rfl ((stn_two l _ 34 39).1 c) rfl]
    unfold qtI
    split
    · exact fnd_nil.symm
    · rfl
  · rw [if_neg c, chsF_bare hk h h1 (by omega) rfl (fun e => c ((stn_two l _ 34 39).2 e)) rfl]
theorem chsF_pass {l : List Int} {k a : Nat} (hk : k < l.length) (h : bgn l k csL = true) (h1 : run wh l (k + 7) = a) (h' : stn l a [61] = false) : chsF l k = chsF l a := by
  refine chsF_none hk h h1 ?_
  have : ¬ (a < l.length ∧ l.getD a 0 = 61) := fun e => by rw [(stn_one l a 61).2 e] at h'; cases h'
  omega
end Go.Proofs.YthhjfedegbldfaeDoor
