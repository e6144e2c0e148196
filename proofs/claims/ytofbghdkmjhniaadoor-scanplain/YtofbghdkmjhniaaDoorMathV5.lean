/- Plain facts on attributes that are written plainly, and on labels behind charset. Conditions stand at each law. -/
import Derived.Test.YtofbghdkmjhniaaDoorMathO
namespace Go.Proofs.YtofbghdkmjhniaaDoor

theorem run_to {p : Int → Bool} {l : List Int} : ∀ (n i j : Nat), j - i ≤ n → i ≤ j → j ≤ l.length → (∀ k, i ≤ k → k < j → p (l.getD k 0) = true) → (j = l.length ∨ p (l.getD j 0) = false) → run p l i = j
  | 0, i, j, hn, hij, hj, _, hs => by
    obtain rfl : i = j := by omega
    rcases hs with h | h
    · exact run_end (by omega)
    · by_cases hl : i < l.length
      · exact run_stop hl h
      · exact run_end (by omega)
  | n + 1, i, j, hn, hij, hj, ha, hs => by
    by_cases h : i = j
    · subst h
      rcases hs with h | h
      · exact run_end (by omega)
      · by_cases hl : i < l.length
        · exact run_stop hl h
        · exact run_end (by omega)
    · rw [run_step (by omega) (ha i (Nat.le_refl _) (by omega))]
      exact run_to n (i + 1) j (by omega) (by omega) hj (fun k h1 h2 => ha k (by omega) h2) hs
theorem run_is {p : Int → Bool} {l : List Int} {i j : Nat} (hij : i ≤ j) (hj : j ≤ l.length) (ha : ∀ k, i ≤ k → k < j → p (l.getD k 0) = true) (hs : j = l.length ∨ p (l.getD j 0) = false) : run p l i = j := run_to _ i j (Nat.le_refl _) hij hj ha hs
theorem getD_l {a b : List Int} {k : Nat} (h : k < a.length) : (a ++ b).getD k 0 = a.getD k 0 := by
  simp [List.getElem?_append_left h]
theorem getD_r {a b : List Int} {k : Nat} (h : a.length ≤ k) : (a ++ b).getD k 0 = b.getD (k - a.length) 0 := by
  simp [List.getElem?_append_right h]
theorem getD_mem {a : List Int} {k : Nat} (h : k < a.length) : a.getD k 0 ∈ a := by
  simp [h]
theorem cut_mid (a b c : List Int) : cut (a ++ b ++ c) a.length (a.length + b.length) = b := by
  unfold cut
  rw [List.append_assoc, List.drop_left, show a.length + b.length - a.length = b.length from by omega, List.take_left]
/-- Letters and digits of plain names and values. -/
def pl (c : Int) : Bool := decide ((97 ≤ c ∧ c ≤ 122) ∨ (48 ≤ c ∧ c ≤ 57) ∨ c = 45)
theorem pl_bd {c : Int} (h : pl c = true) : (97 ≤ c ∧ c ≤ 122) ∨ (48 ≤ c ∧ c ≤ 57) ∨ c = 45 := of_decide_eq_true h
theorem pl_wh {c : Int} (h : pl c = true) : wh c = false := by have := pl_bd h; unfold wh; exact decide_eq_false (by omega)
theorem pl_name {c : Int} (h : pl c = true) : pName c = true := by
  have := pl_bd h
  unfold pName; rw [pl_wh h]
  have e1 : (c == 61) = false := by simp; omega
  have e2 : (c == 47) = false := by simp; omega
  have e3 : (c == 62) = false := by simp; omega
  rw [e1, e2, e3]; rfl
theorem pl_val {c : Int} (h : pl c = true) : pVal c = true := by
  have := pl_bd h
  unfold pVal; rw [pl_wh h]
  have e3 : (c == 62) = false := by simp; omega
  rw [e3]; rfl
theorem pl_ahead {c : Int} (h : pl c = true) : pAhead c = false := by
  have := pl_bd h
  unfold pAhead; rw [pl_wh h]
  have e3 : (c == 47) = false := by simp; omega
  rw [e3]; rfl
theorem pl_fd {l : List Int} (h : l.all pl = true) : fdI l = l := by
  unfold fdI
  induction l with
  | nil => rfl
  | cons c t ih =>
    rw [List.all_cons, Bool.and_eq_true] at h
    have hb := pl_bd h.1
    rw [List.map_cons, ih h.2]
    congr 1
    unfold fI; rw [if_neg (by omega)]
theorem all_at {l : List Int} {f : Int → Bool} (h : l.all f = true) {k : Nat} (hk : k < l.length) : f (l.getD k 0) = true := List.all_eq_true.1 h _ (getD_mem hk)
/-- An attribute that is written plainly behind pre (bytes that are passed): its name, a gap of white bytes, =, a gap, and the rest. -/
theorem attr_name {pre nm g rest : List Int} (hp : pre.all pAhead = true) (hn : nm.all pl = true) (h0 : nm ≠ []) (hg : g.all wh = true) :
    run pAhead (pre ++ nm ++ (g ++ 61 :: rest)) 0 = pre.length ∧ run pName (pre ++ nm ++ (g ++ 61 :: rest)) (pre.length + 1) = pre.length + nm.length ∧ run wh (pre ++ nm ++ (g ++ 61 :: rest)) (pre.length + nm.length) = pre.length + nm.length + g.length ∧ (pre ++ nm ++ (g ++ 61 :: rest)).getD (pre.length + nm.length + g.length) 0 = 61 ∧ cut (pre ++ nm ++ (g ++ 61 :: rest)) pre.length (pre.length + nm.length) = nm ∧ pl ((pre ++ nm ++ (g ++ 61 :: rest)).getD pre.length 0) = true := by
  have hl : 0 < nm.length := List.length_pos_iff.2 h0
  have hat : (pre ++ nm ++ (g ++ 61 :: rest)).getD pre.length 0 = nm.getD 0 0 := by
    rw [getD_l (by rw [List.length_append]; omega), getD_r (Nat.le_refl _)]; simp
  have hlen : (pre ++ nm ++ (g ++ 61 :: rest)).length = pre.length + nm.length + g.length + 1 + rest.length := by simp; omega
  have hq : (pre ++ nm ++ (g ++ 61 :: rest)).getD (pre.length + nm.length + g.length) 0 = 61 := by
    rw [getD_r (by rw [List.length_append]; omega), List.length_append, show pre.length + nm.length + g.length - (pre.length + nm.length) = g.length from by omega, getD_r (Nat.le_refl _)]
    simp
  refine ⟨run_is (by omega) (by omega) (fun k _ hk => ?_) (.inr ?_), run_is (by omega) (by omega) (fun k hk1 hk => ?_) (.inr ?_), run_is (by omega) (by omega) (fun k hk1 hk => ?_) (.inr ?_), hq, cut_mid pre nm _, ?_⟩
  · rw [getD_l (by rw [List.length_append]; omega), getD_l hk]; exact all_at hp hk
  · rw [hat]; exact pl_ahead (all_at hn hl)
  · rw [getD_l (by rw [List.length_append]; omega), getD_r (by omega)]
    exact pl_name (all_at hn (by omega))
  · rw [getD_r (by rw [List.length_append]; omega), List.length_append, show pre.length + nm.length - (pre.length + nm.length) = 0 from by omega]
    cases g with
    | nil => simp [pName]
    | cons c t =>
      rw [List.all_cons, Bool.and_eq_true] at hg
      simp [pName, hg.1]
  · rw [getD_r (by rw [List.length_append]; omega), List.length_append, getD_l (by omega)]
    exact all_at hg (by omega)
  · rw [hq]; decide
  · rw [hat]; exact all_at hn hl

theorem split_eq (pre nm g r : List Int) : pre ++ nm ++ (g ++ 61 :: r) = (pre ++ nm ++ g ++ [61]) ++ r := by simp
/-- With a value without quotes. -/
theorem attr_bare {pre nm g g2 val behind : List Int} {c : Int} (hp : pre.all pAhead = true) (hn : nm.all pl = true) (h0 : nm ≠ []) (hg : g.all wh = true) (hg2 : g2.all wh = true) (hv : val.all pl = true) (hv0 : val ≠ []) (hc : pVal c = false) :
    attrI (pre ++ nm ++ (g ++ 61 :: (g2 ++ (val ++ c :: behind)))) 0 = ((nm, val), pre.length + nm.length + g.length + 1 + g2.length + val.length, true) := by
  obtain ⟨e0, e1, e2, e3, e4, e5⟩ := attr_name (pre := pre) (nm := nm) (g := g) (rest := g2 ++ (val ++ c :: behind)) hp hn h0 hg
  have hvl : 0 < val.length := List.length_pos_iff.2 hv0
  have hlen : (pre ++ nm ++ (g ++ 61 :: (g2 ++ (val ++ c :: behind)))).length = pre.length + nm.length + g.length + 1 + g2.length + val.length + 1 + behind.length := by simp; omega
  have hA : (pre ++ nm ++ g ++ [61]).length = pre.length + nm.length + g.length + 1 := by simp; omega
  have hat : ∀ k, pre.length + nm.length + g.length + 1 ≤ k → (pre ++ nm ++ (g ++ 61 :: (g2 ++ (val ++ c :: behind)))).getD k 0 = (g2 ++ (val ++ c :: behind)).getD (k - (pre.length + nm.length + g.length + 1)) 0 := fun k hk => by
    rw [split_eq, getD_r (by rw [hA]; exact hk), hA]
  have hv1 : ∀ k, pre.length + nm.length + g.length + 1 + g2.length ≤ k → k < pre.length + nm.length + g.length + 1 + g2.length + val.length → pl ((pre ++ nm ++ (g ++ 61 :: (g2 ++ (val ++ c :: behind)))).getD k 0) = true := fun k h1 h2 => by
    rw [hat k (by omega), getD_r (by omega), getD_l (by omega)]
    exact all_at hv (by omega)
  have hcE : (pre ++ nm ++ (g ++ 61 :: (g2 ++ (val ++ c :: behind)))).getD (pre.length + nm.length + g.length + 1 + g2.length + val.length) 0 = c := by
    rw [hat _ (by omega), getD_r (by omega), getD_r (by omega)]
    rw [show pre.length + nm.length + g.length + 1 + g2.length + val.length - (pre.length + nm.length + g.length + 1) - g2.length - val.length = 0 from by omega]
    simp
  have hw3 := hv1 _ (Nat.le_refl _) (by omega)
  have e6 : run wh (pre ++ nm ++ (g ++ 61 :: (g2 ++ (val ++ c :: behind)))) (pre.length + nm.length + g.length + 1) = pre.length + nm.length + g.length + 1 + g2.length := run_is (by omega) (by omega) (fun k h1 h2 => by
    rw [hat k h1, getD_l (by omega)]; exact all_at hg2 (by omega)) (.inr (pl_wh hw3))
  have e7 : run pVal (pre ++ nm ++ (g ++ 61 :: (g2 ++ (val ++ c :: behind)))) (pre.length + nm.length + g.length + 1 + g2.length) = pre.length + nm.length + g.length + 1 + g2.length + val.length := run_is (by omega) (by omega) (fun k h1 h2 => pl_val (hv1 k h1 h2)) (.inr (by rw [hcE]; exact hc))
  have hb5 := pl_bd e5
  have hb3 := pl_bd hw3
  rw [attrI_4 e0 (by rw [not_or]; exact ⟨by omega, by omega⟩) e1 e2 (by rw [not_or]; exact ⟨by omega, by rw [e3]; simp⟩) e6 (by intro h; omega) e7, e4, pl_fd hn]
  have e8 : cut (pre ++ nm ++ (g ++ 61 :: (g2 ++ (val ++ c :: behind)))) (pre.length + nm.length + g.length + 1 + g2.length) (pre.length + nm.length + g.length + 1 + g2.length + val.length) = val := by
    have := cut_mid (pre ++ nm ++ g ++ [61] ++ g2) val (c :: behind)
    have e : pre ++ nm ++ g ++ [61] ++ g2 ++ val ++ c :: behind = pre ++ nm ++ (g ++ 61 :: (g2 ++ (val ++ c :: behind))) := by simp
    have hl2 : (pre ++ nm ++ g ++ [61] ++ g2).length = pre.length + nm.length + g.length + 1 + g2.length := by simp; omega
    rw [e, hl2] at this
    exact this
  rw [e8, pl_fd hv]
/-- With a value in quotes. -/
theorem attr_quote {pre nm g g2 val behind : List Int} {q : Int} (hp : pre.all pAhead = true) (hn : nm.all pl = true) (h0 : nm ≠ []) (hg : g.all wh = true) (hg2 : g2.all wh = true) (hv : val.all pl = true) (hq : q = 34 ∨ q = 39) :
    attrI (pre ++ nm ++ (g ++ 61 :: (g2 ++ q :: (val ++ q :: behind)))) 0 = ((nm, val), pre.length + nm.length + g.length + 1 + g2.length + 1 + val.length + 1, true) := by
  obtain ⟨e0, e1, e2, e3, e4, e5⟩ := attr_name (pre := pre) (nm := nm) (g := g) (rest := g2 ++ q :: (val ++ q :: behind)) hp hn h0 hg
  have hlen : (pre ++ nm ++ (g ++ 61 :: (g2 ++ q :: (val ++ q :: behind)))).length = pre.length + nm.length + g.length + 1 + g2.length + 1 + val.length + 1 + behind.length := by simp; omega
  have hA : (pre ++ nm ++ g ++ [61]).length = pre.length + nm.length + g.length + 1 := by simp; omega
  have hat : ∀ k, pre.length + nm.length + g.length + 1 ≤ k → (pre ++ nm ++ (g ++ 61 :: (g2 ++ q :: (val ++ q :: behind)))).getD k 0 = (g2 ++ q :: (val ++ q :: behind)).getD (k - (pre.length + nm.length + g.length + 1)) 0 := fun k hk => by
    rw [split_eq, getD_r (by rw [hA]; exact hk), hA]
  have hq3 : (pre ++ nm ++ (g ++ 61 :: (g2 ++ q :: (val ++ q :: behind)))).getD (pre.length + nm.length + g.length + 1 + g2.length) 0 = q := by
    rw [hat _ (by omega), getD_r (by omega), show pre.length + nm.length + g.length + 1 + g2.length - (pre.length + nm.length + g.length + 1) - g2.length = 0 from by omega]
    simp
  have hin : ∀ k, pre.length + nm.length + g.length + 1 + g2.length + 1 ≤ k → (pre ++ nm ++ (g ++ 61 :: (g2 ++ q :: (val ++ q :: behind)))).getD k 0 = (val ++ q :: behind).getD (k - (pre.length + nm.length + g.length + 1 + g2.length + 1)) 0 := fun k hk => by
    rw [hat k (by omega), getD_r (by omega)]
    rw [show q :: (val ++ q :: behind) = [q] ++ (val ++ q :: behind) from rfl, getD_r (by simp; omega)]
    congr 1
    simp; omega
  have hq4 : (pre ++ nm ++ (g ++ 61 :: (g2 ++ q :: (val ++ q :: behind)))).getD (pre.length + nm.length + g.length + 1 + g2.length + 1 + val.length) 0 = q := by
    rw [hin _ (by omega), getD_r (by omega), show pre.length + nm.length + g.length + 1 + g2.length + 1 + val.length - (pre.length + nm.length + g.length + 1 + g2.length + 1) - val.length = 0 from by omega]
    simp
  have hwq : wh q = false := by rcases hq with rfl | rfl <;> decide
  have e6 : run wh (pre ++ nm ++ (g ++ 61 :: (g2 ++ q :: (val ++ q :: behind)))) (pre.length + nm.length + g.length + 1) = pre.length + nm.length + g.length + 1 + g2.length := run_is (by omega) (by omega) (fun k h1 h2 => by
    rw [hat k h1, getD_l (by omega)]; exact all_at hg2 (by omega)) (.inr (by rw [hq3]; exact hwq))
  have e7 : run (pNot q) (pre ++ nm ++ (g ++ 61 :: (g2 ++ q :: (val ++ q :: behind)))) (pre.length + nm.length + g.length + 1 + g2.length + 1) = pre.length + nm.length + g.length + 1 + g2.length + 1 + val.length := run_is (by omega) (by omega) (fun k h1 h2 => by
    rw [hin k h1, getD_l (by omega)]
    have := pl_bd (all_at hv (k := k - (pre.length + nm.length + g.length + 1 + g2.length + 1)) (by omega))
    exact pNot_n (ne_eq (by omega))) (.inr (by rw [hq4]; exact pNot_y q))
  have hb5 := pl_bd e5
  rw [attrI_3 (a4 := pre.length + nm.length + g.length + 1 + g2.length + 1 + val.length) e0 (by rw [not_or]; exact ⟨by omega, by omega⟩) e1 e2 (by rw [not_or]; exact ⟨by omega, by rw [e3]; simp⟩) e6 ⟨by omega, by rw [hq3]; exact hq⟩ (by rw [hq3]; exact e7), if_neg (by omega), e4, pl_fd hn]
  have e8 : cut (pre ++ nm ++ (g ++ 61 :: (g2 ++ q :: (val ++ q :: behind)))) (pre.length + nm.length + g.length + 1 + g2.length + 1) (pre.length + nm.length + g.length + 1 + g2.length + 1 + val.length) = val := by
    have := cut_mid (pre ++ nm ++ g ++ [61] ++ g2 ++ [q]) val (q :: behind)
    have e : pre ++ nm ++ g ++ [61] ++ g2 ++ [q] ++ val ++ q :: behind = pre ++ nm ++ (g ++ 61 :: (g2 ++ q :: (val ++ q :: behind))) := by simp
    have hl2 : (pre ++ nm ++ g ++ [61] ++ g2 ++ [q]).length = pre.length + nm.length + g.length + 1 + g2.length + 1 := by simp; omega
    rw [e, hl2] at this
    exact this
  rw [e8, pl_fd hv]
end Go.Proofs.YtofbghdkmjhniaaDoor
