/- Plain mathematics: the steps of UTF-8, UTF-16, a byte a sign and 'replacement' as decoders that are fed in pieces, and what they tell at last. No condition. -/
import Derived.Test.YtpjhcecfcjbgoaaMathR
import Derived.Test.YtpjhcecfcjbgoaaMathE
import Derived.Test.YtpjhcecfcjbgoaaMathS
namespace Go.Proofs.Ytpjhcecfcjbgoaa.M

/-- What is told of bytes that are left at last, of UTF-8 and UTF-16. -/
def fin (r : List Int) : List Int := if r = [] then [] else [65533]

def f8 (_ : Unit) (l : List Int) : Option (List Int × Nat × Unit) := if l = [] then none else if (nxt l).2.2 then none else some ([(nxt l).1], (nxt l).2.1.toNat, ())
theorem f8_steps : Steps f8 where
  size := by
    intro s l o k s' h
    unfold f8 at h
    split at h
    · cases h
    · rename_i hl
      split at h
      · cases h
      · have := nxt_size' l (List.length_pos_iff.2 hl)
        simp only [Option.some.injEq, Prod.mk.injEq] at h
        omega
  stay := by
    intro s l t r h
    unfold f8 at h ⊢
    split at h
    · cases h
    · rename_i hl
      split at h
      · cases h
      · rename_i ho
        have e := nxt_local (l := l) t (q := (nxt l).1) (j := (nxt l).2.1) hl (by rw [← Bool.eq_false_iff.2 ho])
        rw [if_neg (by simp [hl]), e]
        exact h
theorem f8_dec (l : List Int) : (Run f8 () l).1 ++ fin (Run f8 () l).2.2 = dec l := by
  refine Run_ind (C := fun s l => (Run f8 s l).1 ++ fin (Run f8 s l).2.2 = dec l) f8_steps ?_ ?_ () l
  · intro s l h
    rw [Run_wait h]
    by_cases hl : l = []
    · subst hl; rfl
    · unfold f8 at h
      rw [if_neg hl] at h
      have ho : (nxt l).2.2 = true := by
        cases hq : (nxt l).2.2 with
        | true => rfl
        | false => rw [hq] at h; cases h
      have e := nxt_open (l := l) (q := (nxt l).1) (j := (nxt l).2.1) (by rw [← ho])
      rw [dec_ne hl, e.1, e.2.1]
      simp [fin, hl, dec_nil]
  · intro s l o k s' h ih
    rw [Run_step f8_steps h]
    unfold f8 at h
    split at h
    · cases h
    · rename_i hl
      split at h
      · cases h
      · simp only [Option.some.injEq, Prod.mk.injEq] at h
        obtain ⟨rfl, rfl, _⟩ := h
        rw [dec_ne hl, ← ih]
        rfl

def f16 (big : Bool) (_ : Unit) : List Int → Option (List Int × Nat × Unit)
  | a :: b :: t => if fst16 (ut big a b) then (match t with
      | c :: d :: _ => if snd16 (ut big c d) then some ([65536 + (ut big a b - 55296) * 1024 + (ut big c d - 56320)], 4, ()) else some ([65533], 2, ())
      | _ => none) else some ([aln (ut big a b)], 2, ())
  | _ => none
theorem f16_steps (big : Bool) : Steps (f16 big) where
  size := by
    intro s l o k s' h
    match l, h with
    | a :: b :: [], h => simp only [f16] at h; split at h <;> simp at h; obtain ⟨_, rfl⟩ := h; simp
    | a :: b :: [c], h => simp only [f16] at h; split at h <;> simp at h; obtain ⟨_, rfl⟩ := h; simp
    | a :: b :: c :: d :: t, h => simp only [f16] at h; split at h <;> (try split at h) <;> simp at h <;> (obtain ⟨_, rfl⟩ := h; simp <;> omega)
  stay := by
    intro s l t r h
    match l, h with
    | a :: b :: [], h =>
      simp only [f16] at h
      split at h
      · cases h
      · rename_i hq; show f16 big s (a :: b :: t) = _; simp only [f16, if_neg hq]; exact h
    | a :: b :: [c], h =>
      simp only [f16] at h
      split at h
      · cases h
      · rename_i hq; show f16 big s (a :: b :: c :: t) = _; simp only [f16, if_neg hq]; exact h
    | a :: b :: c :: d :: u, h => exact h
theorem f16_dec (big : Bool) (l : List Int) : (Run (f16 big) () l).1 ++ fin (Run (f16 big) () l).2.2 = dec16 big l := by
  refine Run_ind (C := fun s l => (Run (f16 big) s l).1 ++ fin (Run (f16 big) s l).2.2 = dec16 big l) (f16_steps big) ?_ ?_ () l
  · intro s l h
    rw [Run_wait h]
    match l, h with
    | [], _ => rfl
    | [a], _ => rw [d_one]; rfl
    | [a, b], h =>
      cases hq : fst16 (ut big a b) with
      | true => rw [d_f0 big hq]; rfl
      | false => simp [f16, hq] at h
    | [a, b, c], h =>
      cases hq : fst16 (ut big a b) with
      | true => rw [d_f1 big c hq]; rfl
      | false => simp [f16, hq] at h
    | a :: b :: c :: d :: t, h =>
      simp only [f16] at h
      split at h
      · split at h <;> cases h
      · cases h
  · intro s l o k s' h ih
    rw [Run_step (f16_steps big) h]
    match l, h, ih with
    | [a, b], h, ih =>
      cases hq : fst16 (ut big a b) with
      | true => simp [f16, hq] at h
      | false =>
        simp only [f16, hq] at h
        obtain ⟨rfl, rfl, _⟩ := h
        rw [d_unit big _ hq]; exact congrArg (List.cons _) ih
    | [a, b, c], h, ih =>
      cases hq : fst16 (ut big a b) with
      | true => simp [f16, hq] at h
      | false =>
        simp only [f16, hq] at h
        obtain ⟨rfl, rfl, _⟩ := h
        rw [d_unit big _ hq]; exact congrArg (List.cons _) ih
    | a :: b :: c :: d :: t, h, ih =>
      cases hq : fst16 (ut big a b) with
      | false =>
        simp only [f16, hq] at h
        obtain ⟨rfl, rfl, _⟩ := h
        rw [d_unit big _ hq]; exact congrArg (List.cons _) ih
      | true =>
        cases hs : snd16 (ut big c d) with
        | true =>
          simp only [f16, hq, hs, if_true, Option.some.injEq, Prod.mk.injEq] at h
          obtain ⟨rfl, rfl, _⟩ := h
          rw [d_pair big _ hq hs]; exact congrArg (List.cons _) ih
        | false =>
          simp only [f16, hq, hs, if_true] at h
          obtain ⟨rfl, rfl, _⟩ := h
          rw [d_bad big _ hq hs]; exact congrArg (List.cons _) ih

def fS (user : Bool) (_ : Unit) : List Int → Option (List Int × Nat × Unit)
  | c :: _ => some ([pt user c], 1, ())
  | [] => none
theorem fS_steps (user : Bool) : Steps (fS user) where
  size := by
    intro s l o k s' h
    match l, h with
    | c :: t, h => simp [fS] at h; simp [← h.2]
  stay := by
    intro s l t r h
    match l, h with
    | c :: u, h => exact h
theorem fS_run (user : Bool) (s : Unit) : ∀ l : List Int, Run (fS user) s l = (decS user l, (), [])
  | [] => rfl
  | c :: t => by
    rw [Run_step (fS_steps user) (s' := ()) (o := [pt user c]) (k := 1) rfl]
    show ([pt user c] ++ (Run (fS user) () t).1, (Run (fS user) () t).2) = _
    rw [fS_run user () t]; rfl

def fX (b : Bool) : List Int → Option (List Int × Nat × Bool)
  | _ :: _ => some (if b then [] else [65533], 1, true)
  | [] => none
theorem fX_steps : Steps fX where
  size := by
    intro s l o k s' h
    match l, h with
    | c :: t, h => simp [fX] at h; simp [← h.2.1]
  stay := by
    intro s l t r h
    match l, h with
    | c :: u, h => exact h
theorem fX_run : ∀ (b : Bool) (l : List Int), Run fX b l = (if b || l.isEmpty then [] else [65533], b || !l.isEmpty, [])
  | b, [] => by cases b <;> rfl
  | b, c :: t => by
    rw [Run_step fX_steps (s' := true) (o := if b then [] else [65533]) (k := 1) rfl]
    show ((if b then [] else [65533]) ++ (Run fX true t).1, (Run fX true t).2) = _
    rw [fX_run true t]
    cases b <;> simp
end Go.Proofs.Ytpjhcecfcjbgoaa.M
