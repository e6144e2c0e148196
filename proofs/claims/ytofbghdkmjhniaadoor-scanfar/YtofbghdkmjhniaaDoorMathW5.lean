/- Plain facts on labels behind charset: where no c stands ahead, the label is found. Conditions stand at each law. -/
import Derived.Test.YtofbghdkmjhniaaDoorMathV5
namespace Go.Proofs.YtofbghdkmjhniaaDoor

theorem bgn_first {l : List Int} {k : Nat} {c : Int} {m : List Int} (h : bgn l k (c :: m) = true) : k < l.length ∧ fI (l.getD k 0) = c := by
  obtain ⟨h1, h2⟩ := of_decide_eq_true h
  have hk : k < l.length := by simp at h1; omega
  refine ⟨hk, ?_⟩
  have e : cut l k (k + (c :: m).length) = l.getD k 0 :: cut l (k + 1) (k + (c :: m).length) := by
    unfold cut
    rw [List.drop_eq_getElem_cons hk, List.length_cons, show k + (m.length + 1) - k = m.length + 1 from by omega, List.take_succ_cons, show k + (m.length + 1) - (k + 1) = m.length from by omega]
    simp [hk]
  rw [e] at h2
  unfold fdI at h2
  rw [List.map_cons] at h2
  exact (List.cons.inj h2).1
theorem fI_eq {c d : Int} (h : fI c = d) : c = d ∨ c = d - 32 := by
  unfold fI at h; split at h <;> omega
theorem chsF_skip {l : List Int} : ∀ (n i j : Nat), j - i ≤ n → i ≤ j → j ≤ l.length → (∀ k, i ≤ k → k < j → l.getD k 0 ≠ 99 ∧ l.getD k 0 ≠ 67) → chsF l i = chsF l j
  | 0, i, j, hn, hij, _, _ => by rw [show i = j from by omega]
  | n + 1, i, j, hn, hij, hj, ha => by
    by_cases h : i = j
    · rw [h]
    · have hi := ha i (Nat.le_refl _) (by omega)
      have hb : bgn l i csL = false := by
        cases hq : bgn l i csL with
        | false => rfl
        | true =>
          have := (bgn_first hq).2
          have := fI_eq this
          omega
      rw [chsF_no (by omega) hb]
      exact chsF_skip n (i + 1) j (by omega) (by omega) hj (fun k h1 h2 => ha k (by omega) h2)
theorem bgn_here {ahead W rest m : List Int} (h : fdI W = m) : bgn (ahead ++ W ++ rest) ahead.length m = true := by
  unfold bgn
  have hl : W.length = m.length := by rw [← h, fd_len]
  refine decide_eq_true ⟨by simp; omega, ?_⟩
  rw [← hl, cut_mid, h]
/-- What is needed of a text whose charset stands behind ahead. -/
theorem chs_here {ahead W g r : List Int} (ha : ∀ x ∈ ahead, x ≠ 99 ∧ x ≠ 67) (hW : fdI W = csL) (hg : g.all wh = true) :
    chsI (ahead ++ W ++ (g ++ 61 :: r)) = chsF (ahead ++ W ++ (g ++ 61 :: r)) ahead.length ∧ bgn (ahead ++ W ++ (g ++ 61 :: r)) ahead.length csL = true ∧ run wh (ahead ++ W ++ (g ++ 61 :: r)) (ahead.length + 7) = ahead.length + 7 + g.length ∧ (ahead ++ W ++ (g ++ 61 :: r)).getD (ahead.length + 7 + g.length) 0 = 61 ∧ (ahead ++ W ++ (g ++ 61 :: r)).length = ahead.length + 7 + g.length + 1 + r.length ∧ (∀ k, ahead.length + 7 + g.length + 1 ≤ k → (ahead ++ W ++ (g ++ 61 :: r)).getD k 0 = r.getD (k - (ahead.length + 7 + g.length + 1)) 0) := by
  have hW7 : W.length = 7 := by rw [← fd_len, hW]; rfl
  have hlen : (ahead ++ W ++ (g ++ 61 :: r)).length = ahead.length + 7 + g.length + 1 + r.length := by simp; omega
  have hq : (ahead ++ W ++ (g ++ 61 :: r)).getD (ahead.length + 7 + g.length) 0 = 61 := by
    rw [getD_r (by rw [List.length_append]; omega), List.length_append, hW7, show ahead.length + 7 + g.length - (ahead.length + 7) = g.length from by omega, getD_r (Nat.le_refl _)]
    simp
  refine ⟨?_, bgn_here hW, run_is (by omega) (by omega) (fun k h1 h2 => ?_) (.inr (by rw [hq]; decide)), hq, hlen, fun k hk => ?_⟩
  · refine chsF_skip _ 0 ahead.length (Nat.le_refl _) (by omega) (by omega) (fun k _ h2 => ?_)
    rw [getD_l (by rw [List.length_append]; omega), getD_l h2]
    exact ha _ (getD_mem h2)
  · rw [getD_r (by rw [List.length_append]; omega), List.length_append, hW7, getD_l (by omega)]
    exact all_at hg (by omega)
  · rw [getD_r (by rw [List.length_append]; omega), List.length_append, hW7, getD_r (by omega), show 61 :: r = [61] ++ r from rfl, getD_r (by simp; omega)]
    congr 1
    simp; omega
theorem cut_tail {a b c : List Int} {i j : Nat} (hi : i = a.length) (hj : j = a.length + b.length) : cut (a ++ b ++ c) i j = b := by subst hi; subst hj; exact cut_mid a b c
theorem chs_bare {ahead W g g2 nm behind : List Int} (ha : ∀ x ∈ ahead, x ≠ 99 ∧ x ≠ 67) (hW : fdI W = csL) (hg : g.all wh = true) (hg2 : g2.all wh = true) (hn : nm.all pl = true) (h0 : nm ≠ []) :
    chsI (ahead ++ W ++ (g ++ 61 :: (g2 ++ (nm ++ 59 :: behind)))) = fnd nm := by
  obtain ⟨e0, e1, e2, e3, e4, e5⟩ := chs_here (r := g2 ++ (nm ++ 59 :: behind)) ha hW hg
  have hW7 : W.length = 7 := by rw [← fd_len, hW]; rfl
  have hl : 0 < nm.length := List.length_pos_iff.2 h0
  have hr : (g2 ++ (nm ++ 59 :: behind)).length = g2.length + nm.length + 1 + behind.length := by simp; omega
  rw [hr] at e4
  have hnm : ∀ k, ahead.length + 7 + g.length + 1 + g2.length ≤ k → k < ahead.length + 7 + g.length + 1 + g2.length + nm.length → pl ((ahead ++ W ++ (g ++ 61 :: (g2 ++ (nm ++ 59 :: behind)))).getD k 0) = true := fun k h1 h2 => by
    rw [e5 k (by omega), getD_r (by omega), getD_l (by omega)]
    exact all_at hn (by omega)
  have hend : (ahead ++ W ++ (g ++ 61 :: (g2 ++ (nm ++ 59 :: behind)))).getD (ahead.length + 7 + g.length + 1 + g2.length + nm.length) 0 = 59 := by
    rw [e5 _ (by omega), getD_r (by omega), getD_r (by omega), show ahead.length + 7 + g.length + 1 + g2.length + nm.length - (ahead.length + 7 + g.length + 1) - g2.length - nm.length = 0 from by omega]
    simp
  have hp3 := hnm _ (Nat.le_refl _) (by omega)
  have hb3 := pl_bd hp3
  have e6 : run wh (ahead ++ W ++ (g ++ 61 :: (g2 ++ (nm ++ 59 :: behind)))) (ahead.length + 7 + g.length + 1) = ahead.length + 7 + g.length + 1 + g2.length := run_is (by omega) (by omega) (fun k h1 h2 => by
    rw [e5 k h1, getD_l (by omega)]; exact all_at hg2 (by omega)) (.inr (pl_wh hp3))
  have e7 : run pSemi (ahead ++ W ++ (g ++ 61 :: (g2 ++ (nm ++ 59 :: behind)))) (ahead.length + 7 + g.length + 1 + g2.length) = ahead.length + 7 + g.length + 1 + g2.length + nm.length := run_is (by omega) (by omega) (fun k h1 h2 => by
    have hp := hnm k h1 h2
    have := pl_bd hp
    exact pSemi_n (pl_wh hp) (ne_eq (by omega))) (.inr (by rw [hend]; decide))
  rw [e0, chsF_bare (by omega) e1 e2 (by rw [not_or]; exact ⟨by omega, by rw [e3]; simp⟩) e6 (by intro h; omega) e7]
  congr 1
  have e : ahead ++ W ++ (g ++ 61 :: (g2 ++ (nm ++ 59 :: behind))) = (ahead ++ W ++ g ++ [61] ++ g2) ++ nm ++ 59 :: behind := by simp
  rw [e]
  exact cut_tail (by simp; omega) (by simp; omega)
theorem chs_quote {ahead W g g2 nm behind : List Int} {q : Int} (ha : ∀ x ∈ ahead, x ≠ 99 ∧ x ≠ 67) (hW : fdI W = csL) (hg : g.all wh = true) (hg2 : g2.all wh = true) (hn : nm.all pl = true) (hq : q = 34 ∨ q = 39) :
    chsI (ahead ++ W ++ (g ++ 61 :: (g2 ++ q :: (nm ++ q :: behind)))) = fnd nm := by
  obtain ⟨e0, e1, e2, e3, e4, e5⟩ := chs_here (r := g2 ++ q :: (nm ++ q :: behind)) ha hW hg
  have hW7 : W.length = 7 := by rw [← fd_len, hW]; rfl
  have hr : (g2 ++ q :: (nm ++ q :: behind)).length = g2.length + 1 + nm.length + 1 + behind.length := by simp; omega
  rw [hr] at e4
  have hq3 : (ahead ++ W ++ (g ++ 61 :: (g2 ++ q :: (nm ++ q :: behind)))).getD (ahead.length + 7 + g.length + 1 + g2.length) 0 = q := by
    rw [e5 _ (by omega), getD_r (by omega), show ahead.length + 7 + g.length + 1 + g2.length - (ahead.length + 7 + g.length + 1) - g2.length = 0 from by omega]
    simp
  have hin : ∀ k, ahead.length + 7 + g.length + 1 + g2.length + 1 ≤ k → (ahead ++ W ++ (g ++ 61 :: (g2 ++ q :: (nm ++ q :: behind)))).getD k 0 = (nm ++ q :: behind).getD (k - (ahead.length + 7 + g.length + 1 + g2.length + 1)) 0 := fun k hk => by
    rw [e5 k (by omega), getD_r (by omega), show q :: (nm ++ q :: behind) = [q] ++ (nm ++ q :: behind) from rfl, getD_r (by simp; omega)]
    congr 1
    simp; omega
  have hq4 : (ahead ++ W ++ (g ++ 61 :: (g2 ++ q :: (nm ++ q :: behind)))).getD (ahead.length + 7 + g.length + 1 + g2.length + 1 + nm.length) 0 = q := by
    rw [hin _ (by omega), getD_r (by omega), show ahead.length + 7 + g.length + 1 + g2.length + 1 + nm.length - (ahead.length + 7 + g.length + 1 + g2.length + 1) - nm.length = 0 from by omega]
    simp
  have hwq : wh q = false := by rcases hq with rfl | rfl <;> decide
  have e6 : run wh (ahead ++ W ++ (g ++ 61 :: (g2 ++ q :: (nm ++ q :: behind)))) (ahead.length + 7 + g.length + 1) = ahead.length + 7 + g.length + 1 + g2.length := run_is (by omega) (by omega) (fun k h1 h2 => by
    rw [e5 k h1, getD_l (by omega)]; exact all_at hg2 (by omega)) (.inr (by rw [hq3]; exact hwq))
  have e7 : run (pNot q) (ahead ++ W ++ (g ++ 61 :: (g2 ++ q :: (nm ++ q :: behind)))) (ahead.length + 7 + g.length + 1 + g2.length + 1) = ahead.length + 7 + g.length + 1 + g2.length + 1 + nm.length := run_is (by omega) (by omega) (fun k h1 h2 => by
    rw [hin k h1, getD_l (by omega)]
    have := pl_bd (all_at hn (k := k - (ahead.length + 7 + g.length + 1 + g2.length + 1)) (by omega))
    exact pNot_n (ne_eq (by omega))) (.inr (by rw [hq4]; exact pNot_y q))
  rw [e0, chsF_quote (a3 := ahead.length + 7 + g.length + 1 + g2.length + 1 + nm.length) (by omega) e1 e2 (by rw [not_or]; exact ⟨by omega, by rw [e3]; simp⟩) e6 ⟨by omega, by rw [hq3]; exact hq⟩ (by rw [hq3]; exact e7), if_neg (by omega)]
  congr 1
  have e : ahead ++ W ++ (g ++ 61 :: (g2 ++ q :: (nm ++ q :: behind))) = (ahead ++ W ++ g ++ [61] ++ g2 ++ [q]) ++ nm ++ q :: behind := by simp
  rw [e]
  exact cut_tail (by simp; omega) (by simp; omega)
theorem chs_open {ahead W g g2 nm : List Int} {q : Int} (ha : ∀ x ∈ ahead, x ≠ 99 ∧ x ≠ 67) (hW : fdI W = csL) (hg : g.all wh = true) (hg2 : g2.all wh = true) (hn : nm.all pl = true) (hq : q = 34 ∨ q = 39) :
    chsI (ahead ++ W ++ (g ++ 61 :: (g2 ++ q :: nm))) = 0 := by
  obtain ⟨e0, e1, e2, e3, e4, e5⟩ := chs_here (r := g2 ++ q :: nm) ha hW hg
  have hr : (g2 ++ q :: nm).length = g2.length + 1 + nm.length := by simp; omega
  rw [hr] at e4
  have hq3 : (ahead ++ W ++ (g ++ 61 :: (g2 ++ q :: nm))).getD (ahead.length + 7 + g.length + 1 + g2.length) 0 = q := by
    rw [e5 _ (by omega), getD_r (by omega), show ahead.length + 7 + g.length + 1 + g2.length - (ahead.length + 7 + g.length + 1) - g2.length = 0 from by omega]
    simp
  have hwq : wh q = false := by rcases hq with rfl | rfl <;> decide
  have e6 : run wh (ahead ++ W ++ (g ++ 61 :: (g2 ++ q :: nm))) (ahead.length + 7 + g.length + 1) = ahead.length + 7 + g.length + 1 + g2.length := run_is (by omega) (by omega) (fun k h1 h2 => by
    rw [e5 k h1, getD_l (by omega)]; exact all_at hg2 (by omega)) (.inr (by rw [hq3]; exact hwq))
  have e7 : run (pNot q) (ahead ++ W ++ (g ++ 61 :: (g2 ++ q :: nm))) (ahead.length + 7 + g.length + 1 + g2.length + 1) = ahead.length + 7 + g.length + 1 + g2.length + 1 + nm.length := run_is (by omega) (by omega) (fun k h1 h2 => by
    rw [e5 k (by omega), getD_r (by omega), show q :: nm = [q] ++ nm from rfl, getD_r (by simp; omega)]
    have := pl_bd (all_at hn (k := k - (ahead.length + 7 + g.length + 1) - g2.length - [q].length) (by simp; omega))
    exact pNot_n (ne_eq (by omega))) (.inl (by omega))
  rw [e0, chsF_quote (a3 := ahead.length + 7 + g.length + 1 + g2.length + 1 + nm.length) (by omega) e1 e2 (by rw [not_or]; exact ⟨by omega, by rw [e3]; simp⟩) e6 ⟨by omega, by rw [hq3]; exact hq⟩ (by rw [hq3]; exact e7), if_pos (by omega)]
end Go.Proofs.YtofbghdkmjhniaaDoor
