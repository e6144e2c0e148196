/- Plain mathematics of decoders to which nothing more comes: a step tells something of whatever stands there; up to where something would wait it is what the decoder that is fed in pieces tells. Conditions: a step takes at least one integer and no more than there are, and agrees with the other's steps. -/
import Derived.Test.YtpjhcecfcjbgoaaMathQ
import Derived.Test.YtpjhcecfcjbgoaaMathK
namespace Go.Proofs.Ytpjhcecfcjbgoaa.M

def tot {σ : Type} (g : σ → List Int → List Int × Nat × σ) : Nat → σ → List Int → List Int × σ
  | 0, s, _ => ([], s)
  | n + 1, s, l => if l = [] then ([], s) else ((g s l).1 ++ (tot g n (g s l).2.2 (l.drop (g s l).2.1)).1, (tot g n (g s l).2.2 (l.drop (g s l).2.1)).2)

structure Whole {σ : Type} (f : σ → List Int → Option (List Int × Nat × σ)) (g : σ → List Int → List Int × Nat × σ) : Prop where
  size : ∀ s l, l ≠ [] → 1 ≤ (g s l).2.1 ∧ (g s l).2.1 ≤ l.length
  take : ∀ s l o k s' n, f s l = some (o, k, s') → k ≤ n → n ≤ l.length → (n = k ∨ ∃ o2 k2 s2, f s' (l.drop k) = some (o2, k2, s2) ∧ k + k2 ≤ n) → g s (l.take n) = (o, k, s')
  all : ∀ s l o k s', f s l = some (o, k, s') → g s l = (o, k, s')

def Tot {σ : Type} (g : σ → List Int → List Int × Nat × σ) (s : σ) (l : List Int) : List Int × σ := tot g l.length s l

section
variable {σ : Type} {f : σ → List Int → Option (List Int × Nat × σ)} {g : σ → List Int → List Int × Nat × σ}
theorem tot_nil (n : Nat) (s : σ) : tot g n s [] = ([], s) := by cases n <;> simp [tot]
theorem Tot_nil (s : σ) : Tot g s [] = ([], s) := tot_nil _ s
theorem tot_fuel (hs : ∀ s l, l ≠ [] → 1 ≤ (g s l).2.1 ∧ (g s l).2.1 ≤ l.length) : ∀ (n m : Nat) (s : σ) (l : List Int), l.length ≤ n → l.length ≤ m → tot g n s l = tot g m s l := by
  intro n
  induction n with
  | zero =>
    intro m s l h1 h2
    have : l = [] := List.eq_nil_of_length_eq_zero (by omega)
    subst this
    rw [tot_nil, tot_nil]
  | succ n ih =>
    intro m s l h1 h2
    by_cases hl : l = []
    · subst hl; rw [tot_nil, tot_nil]
    · have h3 := hs s l hl
      cases m with
      | zero => exact absurd (List.eq_nil_of_length_eq_zero (by omega)) hl
      | succ m =>
        simp only [tot, if_neg hl]
        rw [ih m (g s l).2.2 (l.drop (g s l).2.1) (by simp; omega) (by simp; omega)]
theorem Tot_step (hs : ∀ s l, l ≠ [] → 1 ≤ (g s l).2.1 ∧ (g s l).2.1 ≤ l.length) {s s' : σ} {l o : List Int} {k : Nat} (hl : l ≠ []) (h : g s l = (o, k, s')) : Tot g s l = (o ++ (Tot g s' (l.drop k)).1, (Tot g s' (l.drop k)).2) := by
  have h3 := hs s l hl
  rw [h] at h3
  unfold Tot
  obtain ⟨n, hn⟩ : ∃ n, l.length = n + 1 := ⟨l.length - 1, by simp at h3; omega⟩
  rw [hn]
  simp only [tot, if_neg hl, h]
  rw [tot_fuel hs n (l.drop k).length s' (l.drop k) (by simp at h3; simp; omega) (Nat.le_refl _)]
/-- Up to where something waits. -/
theorem Tot_take (hf : Steps f) (hg : Whole f g) (s : σ) (l : List Int) : ∀ n, n ≤ l.length → (Run f s l).2.2 = l.drop n → Tot g s (l.take n) = ((Run f s l).1, (Run f s l).2.1) := by
  refine Run_ind (C := fun s l => ∀ n, n ≤ l.length → (Run f s l).2.2 = l.drop n → Tot g s (l.take n) = ((Run f s l).1, (Run f s l).2.1)) hf ?_ ?_ s l
  · intro s l h n hn e
    rw [Run_wait h] at e ⊢
    have hl := congrArg List.length e
    simp at hl
    have e0 : l.take n = [] := List.eq_nil_of_length_eq_zero (by simp; omega)
    rw [e0, Tot_nil]
  · intro s l o k s' h ih n hn e
    have hk := hf.size s l o k s' h
    rw [Run_step hf h] at e ⊢
    obtain ⟨m, em, hm⟩ := Run_end hf s' (l.drop k)
    have e' : (Run f s' (l.drop k)).2.2 = l.drop n := e
    have hl := congrArg List.length e'
    rw [em] at hl
    simp at hl hm
    have hkn : k ≤ n := by omega
    have ht := hg.take s l o k s' n h hkn hn (by
      by_cases hq : n = k
      · exact .inl hq
      · refine .inr ?_
        cases hr : f s' (l.drop k) with
        | none => rw [Run_wait hr] at e'; have := congrArg List.length e'; simp at this; omega
        | some r =>
          obtain ⟨o2, k2, s2⟩ := r
          have h2 := hf.size _ _ _ _ _ hr
          rw [Run_step hf hr] at e'
          obtain ⟨m2, em2, hm2⟩ := Run_end hf s2 ((l.drop k).drop k2)
          have e2 : (Run f s2 ((l.drop k).drop k2)).2.2 = l.drop n := e'
          have hl2 := congrArg List.length e2
          rw [em2] at hl2
          simp at hl2 hm2 h2
          exact ⟨o2, k2, s2, rfl, by omega⟩)
    have hne : l.take n ≠ [] := fun h0 => by have := congrArg List.length h0; rw [List.length_take, List.length_nil] at this; omega
    rw [Tot_step hg.size hne ht, List.drop_take, ih (n - k) (by simp; omega) (by rw [e', List.drop_drop]; congr 1; omega)]
theorem Tot_run (hf : Steps f) (hg : Whole f g) (s : σ) (l : List Int) : Tot g s l = ((Run f s l).1 ++ (Tot g (Run f s l).2.1 (Run f s l).2.2).1, (Tot g (Run f s l).2.1 (Run f s l).2.2).2) := by
  refine Run_ind (C := fun s l => Tot g s l = ((Run f s l).1 ++ (Tot g (Run f s l).2.1 (Run f s l).2.2).1, (Tot g (Run f s l).2.1 (Run f s l).2.2).2)) hf ?_ ?_ s l
  · intro s l h; rw [Run_wait h]; simp
  · intro s l o k s' h ih
    have hk := hf.size s l o k s' h
    have ht := hg.all s l o k s' h
    have hne : l ≠ [] := fun h0 => by subst h0; simp at hk; omega
    rw [Run_step hf h, Tot_step hg.size hne ht, ih]
    simp [List.append_assoc]
end

/-! ### the encodings -/
def g8 (_ : Unit) (l : List Int) : List Int × Nat × Unit := ([(nxt l).1], (nxt l).2.1.toNat, ())
theorem g8_size (s : Unit) (l : List Int) (hl : l ≠ []) : 1 ≤ (g8 s l).2.1 ∧ (g8 s l).2.1 ≤ l.length := by
  have := nxt_size' l (List.length_pos_iff.2 hl)
  simp only [g8]; omega
theorem g8_whole : Whole f8 g8 where
  size := g8_size
  take := by
    intro s l o k s' n h hk hn _
    unfold f8 at h
    split at h
    · cases h
    · rename_i hl
      split at h
      · cases h
      · rename_i ho
        have hs := nxt_size' l (List.length_pos_iff.2 hl)
        simp only [Option.some.injEq, Prod.mk.injEq] at h
        obtain ⟨rfl, rfl, _⟩ := h
        have hne : l.take n ≠ [] := fun h0 => by have := congrArg List.length h0; rw [List.length_take, List.length_nil] at this; omega
        have e := nxt_prefix (m := l.take n) (v := l.drop n) (q := (nxt l).1) (j := (nxt l).2.1) hne (by rw [List.take_append_drop, ← Bool.eq_false_iff.2 ho]) (by simp; omega)
        simp only [g8, e.1, e.2]
  all := by
    intro s l o k s' h
    unfold f8 at h
    split at h
    · cases h
    · split at h
      · cases h
      · simp only [Option.some.injEq] at h; exact h
theorem g8_dec (l : List Int) : (Tot g8 () l).1 = dec l := by
  refine piece_ind (C := fun l => (Tot g8 () l).1 = dec l) rfl ?_ l
  intro l hl ih
  rw [Tot_step g8_size (s' := ()) hl rfl, dec_ne hl, ← ih]
  rfl

def g16 (big : Bool) (_ : Unit) (l : List Int) : List Int × Nat × Unit := ([(nx16 big l).1], (nx16 big l).2, ())
theorem g16_size (big : Bool) (s : Unit) (l : List Int) (hl : l ≠ []) : 1 ≤ (g16 big s l).2.1 ∧ (g16 big s l).2.1 ≤ l.length := by
  have := nx16_size big l hl
  simp only [g16]; omega
theorem f16_two {big : Bool} {s s' : Unit} {l o : List Int} {k : Nat} (h : f16 big s l = some (o, k, s')) : 2 ≤ k := by
  match l, h with
  | [a, b], h => simp only [f16] at h; split at h <;> simp at h; omega
  | [a, b, c], h => simp only [f16] at h; split at h <;> simp at h; omega
  | a :: b :: c :: d :: t, h => simp only [f16] at h; split at h <;> (try split at h) <;> simp at h <;> omega
theorem g16_whole (big : Bool) : Whole (f16 big) (g16 big) where
  size := g16_size big
  take := by
    intro s l o k s' n h hk hn hnx
    match l, h with
    | [a, b], h =>
      simp only [f16] at h
      split at h
      · cases h
      · rename_i hq
        simp only [Option.some.injEq, Prod.mk.injEq] at h
        obtain ⟨rfl, rfl, _⟩ := h
        have : n = 2 := by simp at hn; omega
        subst this
        simp [g16, nx16, hq]
    | [a, b, c], h =>
      simp only [f16] at h
      split at h
      · cases h
      · rename_i hq
        simp only [Option.some.injEq, Prod.mk.injEq] at h
        obtain ⟨rfl, rfl, _⟩ := h
        simp at hn
        obtain rfl | rfl : n = 2 ∨ n = 3 := by omega
        · simp [g16, nx16, hq]
        · simp [g16, nx16, hq]
    | a :: b :: c :: d :: t, h =>
      simp only [f16] at h
      split at h
      · rename_i hq
        split at h
        · rename_i hs
          simp only [Option.some.injEq, Prod.mk.injEq] at h
          obtain ⟨rfl, rfl, _⟩ := h
          obtain ⟨m, rfl⟩ : ∃ m, n = m + 4 := ⟨n - 4, by omega⟩
          simp [g16, nx16, hq, hs]
        · rename_i hs
          simp only [Option.some.injEq, Prod.mk.injEq] at h
          obtain ⟨rfl, rfl, _⟩ := h
          obtain rfl | ⟨m, rfl⟩ : n = 2 ∨ ∃ m, n = m + 4 := by
            rcases hnx with h | ⟨o2, k2, s2, h2, h3⟩
            · exact .inl h
            · have := f16_two h2
              exact .inr ⟨n - 4, by omega⟩
          · simp [g16, nx16, hq]
          · simp [g16, nx16, hq, hs]
      · rename_i hq
        simp only [Option.some.injEq, Prod.mk.injEq] at h
        obtain ⟨rfl, rfl, _⟩ := h
        obtain rfl | rfl | ⟨m, rfl⟩ : n = 2 ∨ n = 3 ∨ ∃ m, n = m + 4 := by
          rcases Nat.lt_or_ge n 4 with h | h
          · omega
          · exact .inr (.inr ⟨n - 4, by omega⟩)
        · simp [g16, nx16, hq]
        · simp [g16, nx16, hq]
        · simp [g16, nx16, hq]
  all := by
    intro s l o k s' h
    match l, h with
    | [a, b], h => simp only [f16] at h; split at h <;> simp at h; rename_i hq; simp [g16, nx16, hq, ← h.1, ← h.2]
    | [a, b, c], h => simp only [f16] at h; split at h <;> simp at h; rename_i hq; simp [g16, nx16, hq, ← h.1, ← h.2]
    | a :: b :: c :: d :: t, h =>
      simp only [f16] at h
      split at h
      · rename_i hq
        split at h
        · rename_i hs; simp at h; simp [g16, nx16, hq, hs, ← h.1, ← h.2]
        · rename_i hs; simp at h; simp [g16, nx16, hq, hs, ← h.1, ← h.2]
      · rename_i hq; simp at h; simp [g16, nx16, hq, ← h.1, ← h.2]
theorem g16_dec (big : Bool) : ∀ (n : Nat) (l : List Int), l.length ≤ n → (Tot (g16 big) () l).1 = dec16 big l
  | 0, l, h => by
    have : l = [] := List.eq_nil_of_length_eq_zero (by omega)
    subst this; rfl
  | n + 1, l, h => by
    by_cases hl : l = []
    · subst hl; rfl
    · have hs := nx16_size big l hl
      rw [Tot_step (g16_size big) (s' := ()) hl rfl, dec16_step big hl]
      show (nx16 big l).1 :: (Tot (g16 big) () (l.drop (nx16 big l).2)).1 = _
      rw [g16_dec big n (l.drop (nx16 big l).2) (by simp; omega)]

def gS (user : Bool) (_ : Unit) (l : List Int) : List Int × Nat × Unit := ([pt user (l.headD 0)], 1, ())
theorem one_size {l : List Int} (hl : l ≠ []) : 1 ≤ 1 ∧ 1 ≤ l.length := ⟨Nat.le_refl _, List.length_pos_iff.2 hl⟩
theorem gS_whole (user : Bool) : Whole (fS user) (gS user) where
  size := fun s l hl => one_size hl
  take := by
    intro s l o k s' n h hk hn _
    match l, h with
    | c :: t, h =>
      simp only [fS, Option.some.injEq, Prod.mk.injEq] at h
      obtain ⟨rfl, rfl, _⟩ := h
      obtain ⟨m, rfl⟩ : ∃ m, n = m + 1 := ⟨n - 1, by omega⟩
      rfl
  all := by
    intro s l o k s' h
    match l, h with
    | c :: t, h => simp only [fS, Option.some.injEq] at h; exact h
theorem gS_dec (user : Bool) : ∀ l : List Int, (Tot (gS user) () l).1 = decS user l
  | [] => rfl
  | c :: t => by
    rw [Tot_step (gS_whole user).size (s' := ()) (by simp) rfl]
    show pt user c :: (Tot (gS user) () t).1 = _
    rw [gS_dec user t]; rfl

def gX (b : Bool) (_ : List Int) : List Int × Nat × Bool := (if b then [] else [65533], 1, true)
theorem gX_whole : Whole fX gX where
  size := fun s l hl => one_size hl
  take := by
    intro s l o k s' n h hk hn _
    match l, h with
    | c :: t, h => simp only [fX, Option.some.injEq] at h; exact h
  all := by
    intro s l o k s' h
    match l, h with
    | c :: t, h => simp only [fX, Option.some.injEq] at h; exact h
theorem gX_tot : ∀ (b : Bool) (l : List Int), Tot gX b l = (if b || l.isEmpty then [] else [65533], b || !l.isEmpty)
  | b, [] => by cases b <;> rfl
  | b, c :: t => by
    rw [Tot_step gX_whole.size (s' := true) (o := if b then [] else [65533]) (k := 1) (by simp) rfl]
    show ((if b then [] else [65533]) ++ (Tot gX true t).1, (Tot gX true t).2) = _
    rw [gX_tot true t]
    cases b <;> simp

/-- The escape at the beginning: to which signs it shifts. -/
def kesc : List Int → Option Int
  | a :: b :: c :: _ => if a = 27 ∧ b = 40 then (if c = 66 then some 0 else if c = 74 then some 1 else if c = 73 then some 2 else none) else none
  | _ => none
def kpt (g c : Int) : Int := if c = 27 then 65533 else ksn g c
def gk (h : Int × Bool) (l : List Int) : List Int × Nat × (Int × Bool) := match kesc l with
  | some g => (bads h.2, 3, (g, true))
  | none => ([kpt h.1 (l.headD 0)], 1, (h.1, false))
theorem kesc_len {l : List Int} {g : Int} (h : kesc l = some g) : 3 ≤ l.length ∧ (g = 0 ∨ g = 1 ∨ g = 2) := by
  match l, h with
  | a :: b :: c :: t, h =>
    simp only [kesc] at h
    refine ⟨by simp, ?_⟩
    split at h
    · split at h
      · cases h; simp
      · split at h
        · cases h; simp
        · split at h
          · cases h; simp
          · cases h
    · cases h
theorem gk_size (h : Int × Bool) (l : List Int) (hl : l ≠ []) : 1 ≤ (gk h l).2.1 ∧ (gk h l).2.1 ≤ l.length := by
  unfold gk
  cases he : kesc l with
  | some g => have := kesc_len he; simp; omega
  | none => exact one_size hl
theorem gk_all (s : Int × Bool) (l : List Int) (o : List Int) (k : Nat) (s' : Int × Bool) (h : fk s l = some (o, k, s')) : gk s l = (o, k, s') ∧ (k = 1 ∨ k = 3) ∧ (kesc l = none ↔ k = 1) := by
  match l, h with
  | [c], h =>
    simp only [fk] at h
    split at h
    · rename_i hc; simp only [Option.some.injEq, Prod.mk.injEq] at h; obtain ⟨rfl, rfl, rfl⟩ := h; simp [gk, kesc, kpt, hc]
    · cases h
  | [c, d], h =>
    simp only [fk] at h
    split at h
    · rename_i hc; simp only [Option.some.injEq, Prod.mk.injEq] at h; obtain ⟨rfl, rfl, rfl⟩ := h; simp [gk, kesc, kpt, hc]
    · rename_i hc
      split at h
      · rename_i hd; simp at hc; simp only [Option.some.injEq, Prod.mk.injEq] at h; obtain ⟨rfl, rfl, rfl⟩ := h; simp [gk, kesc, kpt, hc]
      · cases h
  | c :: d :: e :: t, h =>
    simp only [fk] at h
    split at h
    · rename_i hc; simp only [Option.some.injEq, Prod.mk.injEq] at h; obtain ⟨rfl, rfl, rfl⟩ := h; simp [gk, kesc, kpt, hc]
    · rename_i hc
      simp at hc
      split at h
      · rename_i hd; simp only [Option.some.injEq, Prod.mk.injEq] at h; obtain ⟨rfl, rfl, rfl⟩ := h; simp [gk, kesc, kpt, hc, hd]
      · rename_i hd
        simp at hd
        split at h
        · rename_i he; simp only [Option.some.injEq, Prod.mk.injEq] at h; obtain ⟨rfl, rfl, rfl⟩ := h; simp [gk, kesc, hc, hd, he]
        · rename_i he
          split at h
          · rename_i he2; simp only [Option.some.injEq, Prod.mk.injEq] at h; obtain ⟨rfl, rfl, rfl⟩ := h; simp [gk, kesc, hc, hd, he2]
          · rename_i he2
            split at h
            · rename_i he3; simp only [Option.some.injEq, Prod.mk.injEq] at h; obtain ⟨rfl, rfl, rfl⟩ := h; simp [gk, kesc, hc, hd, he3]
            · rename_i he3; simp only [Option.some.injEq, Prod.mk.injEq] at h; obtain ⟨rfl, rfl, rfl⟩ := h; simp [gk, kesc, kpt, hc, hd, he, he2, he3]
theorem kesc_take {l : List Int} {n : Nat} (h : kesc l = none) : kesc (l.take n) = none := by
  match l, n with
  | [], _ => simp [kesc]
  | _, 0 => simp [kesc]
  | [a], n + 1 => simp [kesc]
  | [a, b], n + 1 => cases n <;> simp [kesc]
  | a :: b :: c :: t, 1 => simp [kesc]
  | a :: b :: c :: t, 2 => simp [kesc]
  | a :: b :: c :: t, n + 3 => exact h
theorem gk_whole : Whole fk gk where
  size := gk_size
  take := by
    intro s l o k s' n h hk hn _
    obtain ⟨e, hk2, he⟩ := gk_all s l o k s' h
    rcases hk2 with rfl | rfl
    · have hz := he.2 rfl
      have hz2 := kesc_take (n := n) hz
      rw [← e]
      unfold gk
      rw [hz, hz2]
      match l, n, hk with
      | [], n + 1, _ => rfl
      | c :: t, n + 1, _ => rfl
    · rw [← e]
      match l, n, hk with
      | [], n + 3, _ => rfl
      | [_], n + 3, _ => rfl
      | [_, _], n + 3, _ => rfl
      | a :: b :: c :: t, n + 3, _ => rfl
  all := fun s l o k s' h => (gk_all s l o k s' h).1
/-- All that a text of shifted signs tells. -/
theorem gk_dec (l : List Int) : (Tot gk (0, false) l).1 = kdec l := by
  rw [Tot_run fk_steps gk_whole]
  unfold kdec
  rcases fk_waits (Run_left fk_steps (0, false) l) with h | h | h
  · rw [h, Tot_nil]; rfl
  · rw [h, Tot_step gk_size (s' := ((Run fk (0, false) l).2.1.1, false)) (o := [65533]) (k := 1) (by simp) rfl]; simp [Tot_nil, kfin]
  · rw [h, Tot_step gk_size (s' := ((Run fk (0, false) l).2.1.1, false)) (o := [65533]) (k := 1) (by simp) rfl]
    rw [show ([27, 40] : List Int).drop 1 = [40] from rfl, Tot_step gk_size (s' := ((Run fk (0, false) l).2.1.1, false)) (o := [ksn (Run fk (0, false) l).2.1.1 40]) (k := 1) (by simp) rfl]
    simp [Tot_nil, kfin]
end Go.Proofs.Ytpjhcecfcjbgoaa.M
