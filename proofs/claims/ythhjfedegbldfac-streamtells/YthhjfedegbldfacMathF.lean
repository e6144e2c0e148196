/- Plain mathematics of UTF-8: bytes that begin a scalar, as the document tells them, against the pieces of a text. No condition. -/
import Derived.Test.YthhjfedegbldfacMathE
namespace Go.Proofs.Ythhjfedegbldfac.M

/-- Are bytes within their bounds: the first one of them within lo and hi, all further ones within 128 and 191? -/
def chk : Int → Int → List Int → Bool
  | _, _, [] => true
  | lo, hi, c :: t => decide (lo ≤ c ∧ c ≤ hi) && chk 128 191 t
/-- The number that bytes tell behind others. -/
def val : Int → List Int → Int
  | p, [] => p
  | p, c :: t => val (p * 64 + c % 64) t
/-- Do bytes begin a scalar? -/
def begOk : List Int → Bool
  | [] => true
  | c :: t => decide (bSize c ≠ 0 ∧ (t.length : Int) < bSize c) && chk (bLow c) (bHigh c) t

theorem go_chk : ∀ (j r : Nat) (i p lo hi : Int) (t : List Int), j ≤ r → j ≤ t.length → chk lo hi (t.take j) = true →
    go r i p lo hi t = go (r - j) (i + j) (val p (t.take j)) (if j = 0 then lo else 128) (if j = 0 then hi else 191) (t.drop j) := by
  intro j
  induction j with
  | zero => intro r i p lo hi t _ _ _; simp [val]
  | succ j ih =>
    intro r i p lo hi t hr ht hc
    cases t with
    | nil => simp at ht
    | cons c t =>
      cases r with
      | zero => omega
      | succ r =>
        simp only [List.take_succ_cons, chk, Bool.and_eq_true, decide_eq_true_eq] at hc
        simp only [go]
        rw [if_neg (by omega)]
        rw [ih r (i + 1) (p * 64 + c % 64) 128 191 t (by omega) (by simp at ht; omega) hc.2]
        simp only [List.take_succ_cons, val, List.drop_succ_cons, Nat.add_sub_add_right]
        have e : i + 1 + (j : Int) = i + ((j + 1 : Nat) : Int) := by omega
        rw [e]
        split <;> simp

theorem chk_snoc : ∀ (t : List Int) (lo hi x : Int), chk lo hi (t ++ [x]) = (chk lo hi t && decide ((if t = [] then lo else 128) ≤ x ∧ x ≤ (if t = [] then hi else 191))) := by
  intro t
  induction t with
  | nil => intro lo hi x; simp [chk]
  | cons c t ih =>
    intro lo hi x
    simp only [List.cons_append, chk]
    rw [ih, Bool.and_assoc]
    by_cases h : t = [] <;> simp [h]

theorem take_one {l : List Int} (h : l ≠ []) : ∃ c t, l = c :: t := by
  cases l with
  | nil => exact absurd rfl h
  | cons c t => exact ⟨c, t, rfl⟩

/-- All of a scalar's bytes are there. -/
theorem nxt_done {c : Int} {t : List Int} {k : Nat} (hk : k ≤ t.length) (hb : begOk (c :: t.take k) = true) (he : ((k + 1 : Nat) : Int) = bSize c) :
    nxt (c :: t) = (val (bBits c) (t.take k), ((k + 1 : Nat) : Int), false) := by
  simp only [begOk, Bool.and_eq_true, decide_eq_true_eq] at hb
  simp only [nxt]
  rw [if_neg hb.1.1, go_chk k _ 1 _ _ _ t (by omega) hk hb.2, show (bSize c - 1).toNat - k = 0 from by omega]
  simp only [go]
  congr 2
  omega

/-- The text ends ahead of a scalar's end. -/
theorem nxt_left {c : Int} {t : List Int} (hb : begOk (c :: t) = true) (he : ((t.length + 1 : Nat) : Int) ≠ bSize c) :
    nxt (c :: t) = (65533, ((t.length + 1 : Nat) : Int), true) := by
  simp only [begOk, Bool.and_eq_true, decide_eq_true_eq] at hb
  simp only [nxt]
  rw [if_neg hb.1.1, go_chk t.length _ 1 _ _ _ t (by omega) (Nat.le_refl _) (by rw [List.take_length]; exact hb.2)]
  obtain ⟨m, hm⟩ : ∃ m, (bSize c - 1).toNat - t.length = m + 1 := ⟨(bSize c - 1).toNat - t.length - 1, by omega⟩
  rw [hm, List.drop_length]
  simp only [go]
  congr 2
  omega

/-- A byte that may not stand there. -/
theorem nxt_bad {c : Int} {t : List Int} {k : Nat} (hk : k < t.length) (hb : begOk (c :: t.take k) = true) (he : ((k + 1 : Nat) : Int) ≠ bSize c) (hn : begOk (c :: t.take (k + 1)) = false) :
    nxt (c :: t) = (65533, ((k + 1 : Nat) : Int), false) := by
  have ht : t.take (k + 1) = t.take k ++ [t[k]] := List.take_succ_eq_append_getElem hk
  have hl : (t.take k).length = k := by rw [List.length_take]; omega
  simp only [begOk, Bool.and_eq_true, decide_eq_true_eq] at hb
  rw [hl] at hb
  simp only [begOk, Bool.and_eq_false_iff, decide_eq_false_iff_not] at hn
  rw [ht, chk_snoc, hb.2, List.length_append, hl] at hn
  simp only [List.length_cons, List.length_nil, Bool.true_and, decide_eq_false_iff_not] at hn
  simp only [nxt]
  rw [if_neg hb.1.1, go_chk k _ 1 _ _ _ t (by omega) (by omega) hb.2]
  obtain ⟨m, hm⟩ : ∃ m, (bSize c - 1).toNat - k = m + 1 := ⟨(bSize c - 1).toNat - k - 1, by omega⟩
  rw [hm, List.drop_eq_getElem_cons hk]
  simp only [go]
  have hz : (t.take k = []) ↔ k = 0 := by
    constructor
    · intro e; rw [e] at hl; simpa using hl.symm
    · intro e; rw [e]; rfl
  have hcond : t[k] < (if k = 0 then bLow c else 128) ∨ (if k = 0 then bHigh c else 191) < t[k] := by
    rcases hn with hn | hn
    · exfalso; apply hn; refine ⟨hb.1.1, ?_⟩; omega
    · simp only [hz] at hn
      omega
  rw [if_pos hcond]
  congr 2
  omega

theorem nxt_first {c : Int} (t : List Int) (hb : begOk [c] = false) : nxt (c :: t) = (65533, 1, false) := by
  have hs := bSize_bd c
  have h0 : bSize c = 0 := by
    simp only [begOk, chk, Bool.and_true, decide_eq_false_iff_not, List.length_nil] at hb
    omega
  simp only [nxt]
  rw [if_pos h0]
end Go.Proofs.Ythhjfedegbldfac.M
