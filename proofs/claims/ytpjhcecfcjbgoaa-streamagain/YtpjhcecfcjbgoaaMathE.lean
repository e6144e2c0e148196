/- Plain mathematics of UTF-8: where nothing is left a text may be cut; what is left is at most three bytes, and a Bad by itself. No condition. -/
import Derived.Test.YtpjhcecfcjbgoaaMathD
namespace Go.Proofs.Ytpjhcecfcjbgoaa.M

theorem go_open : ∀ (r : Nat) (i p lo hi : Int) (l : List Int) (q j : Int), go r i p lo hi l = (q, j, true) → q = 65533 ∧ j = i + l.length ∧ l.length < r := by
  intro r
  induction r with
  | zero => intro i p lo hi l q j h; simp [go] at h
  | succ r ih =>
    intro i p lo hi l q j h
    cases l with
    | nil => simp [go] at h; simp; omega
    | cons c t =>
      simp only [go] at h
      split at h
      · simp at h
      · have := ih _ _ _ _ _ _ _ h
        simp only [List.length_cons]
        omega

theorem go_local : ∀ (r : Nat) (i p lo hi : Int) (l t : List Int) (q j : Int), go r i p lo hi l = (q, j, false) → go r i p lo hi (l ++ t) = (q, j, false) := by
  intro r
  induction r with
  | zero => intro i p lo hi l t q j h; simpa [go] using h
  | succ r ih =>
    intro i p lo hi l t q j h
    cases l with
    | nil => simp [go] at h
    | cons c l' =>
      simp only [go, List.cons_append] at h ⊢
      split at h
      · rename_i g; rw [if_pos g]; exact h
      · rename_i g; rw [if_neg g]; exact ih _ _ _ _ _ _ _ _ h

theorem go_prefix : ∀ (r : Nat) (i p lo hi : Int) (m v : List Int) (q j : Int), go r i p lo hi (m ++ v) = (q, j, false) → j ≤ i + m.length →
    (go r i p lo hi m).1 = q ∧ (go r i p lo hi m).2.1 = j := by
  intro r
  induction r with
  | zero => intro i p lo hi m v q j h _; simp [go] at h; simp [go, h]
  | succ r ih =>
    intro i p lo hi m v q j h hj
    cases m with
    | nil =>
      simp only [List.nil_append] at h
      cases v with
      | nil => simp [go] at h
      | cons c v' =>
        simp only [go] at h
        split at h
        · simp at h; simp [go]; omega
        · have := go_size r (i + 1) (p * 64 + c % 64) 128 191 v'
          rw [h] at this
          simp at hj this
          omega
    | cons c m' =>
      simp only [go, List.cons_append] at h ⊢
      split at h
      · rename_i g; rw [if_pos g]; simp at h; simp; omega
      · rename_i g; rw [if_neg g]
        refine ih _ _ _ _ _ _ _ _ h ?_
        simp at hj
        omega

theorem nxt_open {l : List Int} {q j : Int} (h : nxt l = (q, j, true)) : q = 65533 ∧ j = l.length ∧ j ≤ 3 ∧ 1 ≤ j := by
  cases l with
  | nil => simp [nxt] at h
  | cons c t =>
    simp only [nxt] at h
    have hb := bSize_bd c
    split at h
    · simp at h
    · have := go_open _ _ _ _ _ _ _ _ h
      simp only [List.length_cons]
      omega

theorem nxt_local {l : List Int} (t : List Int) {q j : Int} (hl : l ≠ []) (h : nxt l = (q, j, false)) : nxt (l ++ t) = (q, j, false) := by
  cases l with
  | nil => exact absurd rfl hl
  | cons c l' =>
    simp only [nxt, List.cons_append] at h ⊢
    split at h
    · rename_i g; rw [if_pos g]; exact h
    · rename_i g; rw [if_neg g]; exact go_local _ _ _ _ _ _ _ _ _ h

theorem nxt_prefix {m v : List Int} {q j : Int} (hm : m ≠ []) (h : nxt (m ++ v) = (q, j, false)) (hj : j ≤ m.length) : (nxt m).1 = q ∧ (nxt m).2.1 = j := by
  cases m with
  | nil => exact absurd rfl hm
  | cons c m' =>
    simp only [nxt, List.cons_append] at h ⊢
    split at h
    · rename_i g; rw [if_pos g]; simp at h; simp; omega
    · rename_i g; rw [if_neg g]
      exact go_prefix _ _ _ _ _ _ _ _ _ h (by simp at hj; omega)

theorem spl_nil : spl [] = 0 := rfl
theorem spl_ne {l : List Int} (h : l ≠ []) (ho : (nxt l).2.2 = false) : spl l = spl (l.drop (nxt l).2.1.toNat) := by
  unfold spl lft
  rw [pieces_ne h, List.foldl_cons, ho]
  simp

/-- Where a text may be cut. -/
theorem cut_ex (l : List Int) : ∃ l1 l2, l = l1 ++ l2 ∧ (l2.length : Int) = spl l ∧ l2.length ≤ 3 ∧ (l2 = [] ∨ nxt l2 = (65533, (l2.length : Int), true)) ∧ ∀ t, dec (l ++ t) = dec l1 ++ dec (l2 ++ t) := by
  refine piece_ind (C := fun l => ∃ l1 l2, l = l1 ++ l2 ∧ (l2.length : Int) = spl l ∧ l2.length ≤ 3 ∧ (l2 = [] ∨ nxt l2 = (65533, (l2.length : Int), true)) ∧ ∀ t, dec (l ++ t) = dec l1 ++ dec (l2 ++ t)) ?_ ?_ l
  · exact ⟨[], [], rfl, rfl, by simp, .inl rfl, fun t => rfl⟩
  · intro l hl ih
    obtain ⟨q, j, o, hn⟩ : ∃ q j o, nxt l = (q, j, o) := ⟨_, _, _, rfl⟩
    have hs := nxt_size' l (List.length_pos_iff.2 hl)
    rw [hn] at hs ih
    simp only [] at hs ih
    cases o
    · obtain ⟨r1, r2, e1, e2, e3, e4, e5⟩ := ih
      have hsp : spl l = spl (l.drop j.toNat) := by have := spl_ne hl (by rw [hn]); rw [hn] at this; exact this
      have ht : (l.take j.toNat).length = j.toNat := by rw [List.length_take]; omega
      have hne : l.take j.toNat ++ r1 ≠ [] := fun e => by
        have := congrArg List.length e
        rw [List.length_append, ht] at this
        simp at this
        omega
      have el : l = (l.take j.toNat ++ r1) ++ r2 := by
        rw [List.append_assoc, ← e1, List.take_append_drop]
      have hp := nxt_prefix (m := l.take j.toNat ++ r1) (v := r2) hne (by rw [← el]; exact hn) (by rw [List.length_append, ht]; omega)
      refine ⟨l.take j.toNat ++ r1, r2, el, by rw [hsp]; exact e2, e3, e4, fun t => ?_⟩
      have hlt : l ++ t ≠ [] := by simp [hl]
      rw [dec_ne hlt, nxt_local t hl hn, dec_ne hne, hp.1, hp.2]
      simp only [List.cons_append]
      congr 1
      rw [List.drop_append_of_le_length (by omega), e5 t]
      congr 2
      rw [List.drop_append_of_le_length (by rw [ht]; exact Nat.le_refl _), List.drop_of_length_le (by rw [ht]; exact Nat.le_refl _)]
      rfl
    · have ho := nxt_open hn
      refine ⟨[], l, rfl, ?_, by omega, .inr ?_, fun t => rfl⟩
      · unfold spl lft
        rw [pieces_ne hl, hn, List.foldl_cons]
        simp only [if_true]
        rw [List.drop_of_length_le (by omega), pieces_nil]
        simp; omega
      · rw [hn, ho.1, ho.2.1]

/-- What the law on parts asks of what is left. -/
theorem cut_at (l : List Int) : ∃ n : Nat, spl l = n ∧ n ≤ 3 ∧ n ≤ l.length ∧ (n ≠ 0 → dec (l.drop (l.length - n)) = [65533]) ∧ ∀ t, dec (l ++ t) = dec (l.take (l.length - n)) ++ dec (l.drop (l.length - n) ++ t) := by
  obtain ⟨l1, l2, e1, e2, e3, e4, e5⟩ := cut_ex l
  have hlen : l.length - l2.length = l1.length := by rw [e1, List.length_append]; omega
  refine ⟨l2.length, e2.symm, e3, by rw [e1, List.length_append]; omega, fun h => ?_, fun t => ?_⟩
  · rw [hlen, show l.drop l1.length = l2 from by rw [e1]; exact List.drop_left]
    rcases e4 with e4 | e4
    · rw [e4] at h; simp at h
    · have hne : l2 ≠ [] := fun e => h (by rw [e]; rfl)
      rw [dec_ne hne, e4]
      simp only [Int.toNat_natCast]
      rw [List.drop_of_length_le (Nat.le_refl _)]; rfl
  · rw [hlen, show l.drop l1.length = l2 from by rw [e1]; exact List.drop_left, show l.take l1.length = l1 from by rw [e1]; exact List.take_left]
    exact e5 t
end Go.Proofs.Ytpjhcecfcjbgoaa.M
