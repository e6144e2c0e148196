/- Plain mathematics of the seven encodings as decoders that are fed in pieces, over one state: which signs, whether an escape stood just ahead, whether it has stopped; and how many integers wait at the end. Conditions stand at each law. -/
import Derived.Test.YtpjhcecfcjbgoaaMathT
namespace Go.Proofs.Ytpjhcecfcjbgoaa.M

section
variable {σ τ : Type} (get : τ → σ) (put : τ → σ → τ)
def liftF (f : σ → List Int → Option (List Int × Nat × σ)) : τ → List Int → Option (List Int × Nat × τ) := fun t l => (f (get t) l).map (fun r => (r.1, r.2.1, put t r.2.2))
def liftG (g : σ → List Int → List Int × Nat × σ) : τ → List Int → List Int × Nat × τ := fun t l => ((g (get t) l).1, (g (get t) l).2.1, put t (g (get t) l).2.2)
variable {get put} {f : σ → List Int → Option (List Int × Nat × σ)} {g : σ → List Int → List Int × Nat × σ}
theorem liftF_some {t t' : τ} {l o : List Int} {k : Nat} (h : liftF get put f t l = some (o, k, t')) : ∃ s', f (get t) l = some (o, k, s') ∧ put t s' = t' := by
  unfold liftF at h
  cases hq : f (get t) l with
  | none => rw [hq] at h; cases h
  | some r =>
    obtain ⟨o2, k2, s2⟩ := r
    rw [hq] at h
    simp only [Option.map_some, Option.some.injEq, Prod.mk.injEq] at h
    obtain ⟨rfl, rfl, rfl⟩ := h
    exact ⟨s2, rfl, rfl⟩
theorem liftF_none {t : τ} {l : List Int} : liftF get put f t l = none ↔ f (get t) l = none := by
  unfold liftF
  cases f (get t) l <;> simp
theorem lift_steps (hf : Steps f) : Steps (liftF get put f) where
  size := by
    intro t l o k t' h
    obtain ⟨s', h1, _⟩ := liftF_some h
    exact hf.size _ _ _ _ _ h1
  stay := by
    intro t l u r h
    obtain ⟨o, k, t'⟩ := r
    obtain ⟨s', h1, h2⟩ := liftF_some h
    unfold liftF
    rw [hf.stay _ _ u _ h1]
    simp [h2]
theorem lift_whole (hp : ∀ t s, get (put t s) = s) (hg : Whole f g) : Whole (liftF get put f) (liftG get put g) where
  size := fun t l hl => hg.size (get t) l hl
  take := by
    intro t l o k t' n h hk hn hx
    obtain ⟨s', h1, rfl⟩ := liftF_some h
    have := hg.take (get t) l o k s' n h1 hk hn (by
      rcases hx with hx | ⟨o2, k2, t2, h2, h3⟩
      · exact .inl hx
      · obtain ⟨s2, h4, _⟩ := liftF_some h2
        rw [hp] at h4
        exact .inr ⟨o2, k2, s2, h4, h3⟩)
    unfold liftG
    rw [this]
  all := by
    intro t l o k t' h
    obtain ⟨s', h1, rfl⟩ := liftF_some h
    unfold liftG
    rw [hg.all _ _ _ _ _ h1]
theorem lift_run (hp : ∀ t s, get (put t s) = s) (hpp : ∀ t s s', put (put t s) s' = put t s') (hpg : ∀ t, put t (get t) = t) (hf : Steps f) (t : τ) (l : List Int) :
    Run (liftF get put f) t l = ((Run f (get t) l).1, put t (Run f (get t) l).2.1, (Run f (get t) l).2.2) := by
  have H : ∀ s l, ∀ t : τ, get t = s → Run (liftF get put f) t l = ((Run f s l).1, put t (Run f s l).2.1, (Run f s l).2.2) := by
    intro s l
    refine Run_ind (C := fun s l => ∀ t : τ, get t = s → Run (liftF get put f) t l = ((Run f s l).1, put t (Run f s l).2.1, (Run f s l).2.2)) hf ?_ ?_ s l
    · intro s l h t ht
      rw [Run_wait h, Run_wait (liftF_none.2 (by rw [ht]; exact h))]
      subst ht
      simp only [hpg]
    · intro s l o k s' h ih t ht
      subst ht
      have h2 : liftF get put f t l = some (o, k, put t s') := by unfold liftF; rw [h]; rfl
      rw [Run_step hf h, Run_step (lift_steps hf) h2, ih (put t s') (hp t s')]
      simp only [hpp]
  exact H _ l t rfl
theorem lift_tot (hp : ∀ t s, get (put t s) = s) (hpp : ∀ t s s', put (put t s) s' = put t s') (hpg : ∀ t, put t (get t) = t) (hs : ∀ s l, l ≠ [] → 1 ≤ (g s l).2.1 ∧ (g s l).2.1 ≤ l.length) : ∀ (n : Nat) (t : τ) (l : List Int), l.length ≤ n →
    Tot (liftG get put g) t l = ((Tot g (get t) l).1, put t (Tot g (get t) l).2)
  | 0, t, l, h => by
    have : l = [] := List.eq_nil_of_length_eq_zero (by omega)
    subst this
    rw [Tot_nil, Tot_nil]; simp only [hpg]
  | n + 1, t, l, h => by
    by_cases hl : l = []
    · subst hl; rw [Tot_nil, Tot_nil]; simp only [hpg]
    · have h3 := hs (get t) l hl
      rw [Tot_step hs (s' := (g (get t) l).2.2) (o := (g (get t) l).1) (k := (g (get t) l).2.1) hl rfl]
      rw [Tot_step (g := liftG get put g) (fun t l hl => hs (get t) l hl) (s' := put t (g (get t) l).2.2) (o := (g (get t) l).1) (k := (g (get t) l).2.1) hl rfl]
      rw [lift_tot hp hpp hpg hs n (put t (g (get t) l).2.2) (l.drop (g (get t) l).2.1) (by simp; omega)]
      simp only [hp, hpp]
end

/-- The state of a decoder: which signs, whether an escape stood just ahead, whether it has stopped. -/
abbrev St := Int × Bool × Bool
def st0 : St := (0, false, false)
def getU (_ : St) : Unit := ()
def putU (t : St) (_ : Unit) : St := t
def getK (t : St) : Int × Bool := (t.1, t.2.1)
def putK (t : St) (s : Int × Bool) : St := (s.1, s.2, t.2.2)
def getX (t : St) : Bool := t.2.2
def putX (t : St) (b : Bool) : St := (t.1, t.2.1, b)

def FE (e : Int) : St → List Int → Option (List Int × Nat × St) :=
  if e = 1 then liftF getU putU f8 else if e = 2 then liftF getU putU (f16 false) else if e = 3 then liftF getU putU (f16 true) else if e = 4 then liftF getU putU (fS false) else if e = 5 then liftF getU putU (fS true) else if e = 6 then liftF getK putK fk else liftF getX putX fX
def GE (e : Int) : St → List Int → List Int × Nat × St :=
  if e = 1 then liftG getU putU g8 else if e = 2 then liftG getU putU (g16 false) else if e = 3 then liftG getU putU (g16 true) else if e = 4 then liftG getU putU (gS false) else if e = 5 then liftG getU putU (gS true) else if e = 6 then liftG getK putK gk else liftG getX putX gX
theorem FE_steps (e : Int) : Steps (FE e) := by
  unfold FE
  split
  · exact lift_steps f8_steps
  · split
    · exact lift_steps (f16_steps false)
    · split
      · exact lift_steps (f16_steps true)
      · split
        · exact lift_steps (fS_steps false)
        · split
          · exact lift_steps (fS_steps true)
          · split
            · exact lift_steps fk_steps
            · exact lift_steps fX_steps
theorem GE_whole (e : Int) : Whole (FE e) (GE e) := by
  unfold FE GE
  split
  · exact lift_whole (fun _ _ => rfl) g8_whole
  · split
    · exact lift_whole (fun _ _ => rfl) (g16_whole false)
    · split
      · exact lift_whole (fun _ _ => rfl) (g16_whole true)
      · split
        · exact lift_whole (fun _ _ => rfl) (gS_whole false)
        · split
          · exact lift_whole (fun _ _ => rfl) (gS_whole true)
          · split
            · exact lift_whole (fun _ _ => rfl) gk_whole
            · exact lift_whole (fun _ _ => rfl) gX_whole
/-- What is told of bytes that came, and what waits; what is told if nothing more comes. -/
def RE (e : Int) (t : St) (l : List Int) : List Int × St × List Int := Run (FE e) t l
def TE (e : Int) (t : St) (l : List Int) : List Int × St := Tot (GE e) t l
def decE (e : Int) (l : List Int) : List Int := (TE e st0 l).1

theorem RE_8 (t : St) (l : List Int) : RE 1 t l = ((Run f8 () l).1, t, (Run f8 () l).2.2) := lift_run (get := getU) (put := putU) (fun _ _ => rfl) (fun _ _ _ => rfl) (fun _ => rfl) f8_steps t l
theorem RE_16l (t : St) (l : List Int) : RE 2 t l = ((Run (f16 false) () l).1, t, (Run (f16 false) () l).2.2) := lift_run (get := getU) (put := putU) (fun _ _ => rfl) (fun _ _ _ => rfl) (fun _ => rfl) (f16_steps false) t l
theorem RE_16b (t : St) (l : List Int) : RE 3 t l = ((Run (f16 true) () l).1, t, (Run (f16 true) () l).2.2) := lift_run (get := getU) (put := putU) (fun _ _ => rfl) (fun _ _ _ => rfl) (fun _ => rfl) (f16_steps true) t l
theorem RE_L (t : St) (l : List Int) : RE 4 t l = (decS false l, t, []) := by
  have := lift_run (get := getU) (put := putU) (fun _ _ => rfl) (fun _ _ _ => rfl) (fun _ => rfl) (fS_steps false) t l
  rw [fS_run] at this; exact this
theorem RE_U (t : St) (l : List Int) : RE 5 t l = (decS true l, t, []) := by
  have := lift_run (get := getU) (put := putU) (fun _ _ => rfl) (fun _ _ _ => rfl) (fun _ => rfl) (fS_steps true) t l
  rw [fS_run] at this; exact this
theorem RE_K (t : St) (l : List Int) : RE 6 t l = ((Run fk (t.1, t.2.1) l).1, ((Run fk (t.1, t.2.1) l).2.1.1, (Run fk (t.1, t.2.1) l).2.1.2, t.2.2), (Run fk (t.1, t.2.1) l).2.2) := lift_run (get := getK) (put := putK) (fun _ _ => rfl) (fun _ _ _ => rfl) (fun _ => rfl) fk_steps t l
theorem RE_X (t : St) (l : List Int) : RE 7 t l = (if t.2.2 || l.isEmpty then [] else [65533], (t.1, t.2.1, t.2.2 || !l.isEmpty), []) := by
  have := lift_run (get := getX) (put := putX) (fun _ _ => rfl) (fun _ _ _ => rfl) (fun _ => rfl) fX_steps t l
  rw [fX_run] at this; exact this
theorem TE_8 (t : St) (l : List Int) : TE 1 t l = (dec l, t) := by
  have := lift_tot (get := getU) (put := putU) (fun _ _ => rfl) (fun _ _ _ => rfl) (fun _ => rfl) g8_size l.length t l (Nat.le_refl _)
  rw [show Tot g8 (getU t) l = ((Tot g8 () l).1, ()) from rfl, g8_dec] at this; exact this
theorem TE_16 (big : Bool) (t : St) (l : List Int) : TE (if big then 3 else 2) t l = (dec16 big l, t) := by
  have := lift_tot (get := getU) (put := putU) (fun _ _ => rfl) (fun _ _ _ => rfl) (fun _ => rfl) (g16_size big) l.length t l (Nat.le_refl _)
  rw [show Tot (g16 big) (getU t) l = ((Tot (g16 big) () l).1, ()) from rfl, g16_dec big _ l (Nat.le_refl _)] at this
  cases big <;> exact this
theorem TE_S (user : Bool) (t : St) (l : List Int) : TE (if user then 5 else 4) t l = (decS user l, t) := by
  have := lift_tot (get := getU) (put := putU) (fun _ _ => rfl) (fun _ _ _ => rfl) (fun _ => rfl) (gS_whole user).size l.length t l (Nat.le_refl _)
  rw [show Tot (gS user) (getU t) l = ((Tot (gS user) () l).1, ()) from rfl, gS_dec user] at this
  cases user <;> exact this
theorem TE_K (t : St) (l : List Int) : TE 6 t l = ((Tot gk (t.1, t.2.1) l).1, ((Tot gk (t.1, t.2.1) l).2.1, (Tot gk (t.1, t.2.1) l).2.2, t.2.2)) := lift_tot (get := getK) (put := putK) (fun _ _ => rfl) (fun _ _ _ => rfl) (fun _ => rfl) gk_size l.length t l (Nat.le_refl _)
theorem TE_X (t : St) (l : List Int) : TE 7 t l = (if t.2.2 || l.isEmpty then [] else [65533], (t.1, t.2.1, t.2.2 || !l.isEmpty)) := by
  have := lift_tot (get := getX) (put := putX) (fun _ _ => rfl) (fun _ _ _ => rfl) (fun _ => rfl) gX_whole.size l.length t l (Nat.le_refl _)
  rw [gX_tot] at this; exact this

/-! ### what waits -/
theorem f8_waits (l : List Int) : ((Run f8 () l).2.2.length : Int) = spl l := by
  refine Run_ind (C := fun s l => ((Run f8 s l).2.2.length : Int) = spl l) f8_steps ?_ ?_ () l
  · intro s l h
    rw [Run_wait h]
    by_cases hl : l = []
    · subst hl; rfl
    · unfold f8 at h
      rw [if_neg hl] at h
      have ho : (nxt l).2.2 = true := by
        cases hq : (nxt l).2.2 with
        | true => rfl
        | false => rw [hq] at h; cases h
      have e := nxt_open (l := l) (q := (nxt l).1) (j := (nxt l).2.1) (by rw [← ho])
      unfold spl lft
      rw [pieces_ne hl, List.foldl_cons, ho, e.2.1]
      simp [pieces_nil]
  · intro s l o k s' h ih
    rw [Run_step f8_steps h]
    unfold f8 at h
    split at h
    · cases h
    · rename_i hl
      split at h
      · cases h
      · rename_i ho
        simp only [Option.some.injEq, Prod.mk.injEq] at h
        obtain ⟨rfl, rfl, _⟩ := h
        rw [spl_ne hl (Bool.eq_false_iff.2 ho), ← ih]
/-- How many integers of UTF-16 wait at the end. -/
def lastW (big : Bool) : List Int → Int
  | [a, b] => ut big a b
  | [a, b, _] => ut big a b
  | _ :: _ :: t => lastW big t
  | _ => 0
theorem lastW_drop (big : Bool) (a b : Int) {t : List Int} (h : 2 ≤ t.length) : lastW big (a :: b :: t) = lastW big t := by
  match t, h with
  | c :: d :: [], _ => rfl
  | c :: d :: e :: u, _ => rfl
theorem fst16_0 : fst16 0 = false := by decide
def wu (big : Bool) (l : List Int) : Nat := l.length % 2 + (if fst16 (lastW big l) then 2 else 0)
theorem f16_wu (big : Bool) (l : List Int) : (Run (f16 big) () l).2.2.length = wu big l := by
  refine Run_ind (C := fun s l => (Run (f16 big) s l).2.2.length = wu big l) (f16_steps big) ?_ ?_ () l
  · intro s l h
    rw [Run_wait h]
    match l, h with
    | [], _ => rfl
    | [a], _ => rfl
    | [a, b], h =>
      cases hq : fst16 (ut big a b) with
      | true => simp [wu, lastW, hq]
      | false => simp [f16, hq] at h
    | [a, b, c], h =>
      cases hq : fst16 (ut big a b) with
      | true => simp [wu, lastW, hq]
      | false => simp [f16, hq] at h
    | a :: b :: c :: d :: t, h =>
      simp only [f16] at h
      split at h
      · split at h <;> cases h
      · cases h
  · intro s l o k s' h ih
    rw [Run_step (f16_steps big) h]
    show (Run (f16 big) s' (l.drop k)).2.2.length = wu big l
    rw [ih]
    match l, h with
    | [a, b], h =>
      cases hq : fst16 (ut big a b) with
      | true => simp [f16, hq] at h
      | false =>
        simp only [f16, hq] at h
        obtain ⟨rfl, rfl, _⟩ := h
        simp [wu, lastW, hq, fst16_0]
    | [a, b, c], h =>
      cases hq : fst16 (ut big a b) with
      | true => simp [f16, hq] at h
      | false =>
        simp only [f16, hq] at h
        obtain ⟨rfl, rfl, _⟩ := h
        simp [wu, lastW, hq, fst16_0]
    | a :: b :: c :: d :: t, h =>
      have e1 : lastW big (a :: b :: c :: d :: t) = lastW big (c :: d :: t) := lastW_drop big a b (by simp)
      cases hq : fst16 (ut big a b) with
      | false =>
        simp only [f16, hq] at h
        obtain ⟨rfl, rfl, _⟩ := h
        simp only [wu, e1]; simp; omega
      | true =>
        cases hs : snd16 (ut big c d) with
        | true =>
          simp only [f16, hq, hs, if_true, Option.some.injEq, Prod.mk.injEq] at h
          obtain ⟨rfl, rfl, _⟩ := h
          have hnf : fst16 (ut big c d) = false := by
            simp only [snd16, decide_eq_true_eq] at hs
            simp only [fst16, decide_eq_false_iff_not]; omega
          simp only [wu, e1]
          match t with
          | [] => simp [lastW, hnf, fst16_0]
          | [x] => simp [lastW, hnf, fst16_0]
          | x :: y :: u => rw [lastW_drop big c d (by simp)]; simp; omega
        | false =>
          simp only [f16, hq, hs, if_true] at h
          obtain ⟨rfl, rfl, _⟩ := h
          simp only [wu, e1]; simp; omega
/-- How many integers of shifted signs wait at the end. -/
def wk (l : List Int) : Nat := if [27, 40] <:+ l then 2 else if [27] <:+ l then 1 else 0
theorem suffix_cons {c : Int} {t m : List Int} (h : m.length ≤ t.length) : m <:+ (c :: t) ↔ m <:+ t := by
  constructor
  · rintro ⟨p, hp⟩
    match p, hp with
    | [], hp => have := congrArg List.length hp; simp at this; omega
    | x :: p, hp => exact ⟨p, by simpa using (List.cons.inj hp).2⟩
  · rintro ⟨p, rfl⟩; exact ⟨c :: p, rfl⟩
theorem fk_wk (h : Int × Bool) (l : List Int) : (Run fk h l).2.2.length = wk l := by
  refine Run_ind (C := fun s l => (Run fk s l).2.2.length = wk l) fk_steps ?_ ?_ h l
  · intro s l h
    rw [Run_wait h]
    rcases fk_waits h with rfl | rfl | rfl
    · show 0 = wk []; decide
    · show 1 = wk [27]; decide
    · show 2 = wk [27, 40]; decide
  · intro s l o k s' h ih
    rw [Run_step fk_steps h]
    show (Run fk s' (l.drop k)).2.2.length = wk l
    rw [ih]
    match l, h with
    | [c], h =>
      simp only [fk] at h
      split at h
      · rename_i hc
        simp only [Option.some.injEq, Prod.mk.injEq] at h; obtain ⟨rfl, rfl, rfl⟩ := h
        have h1 : ¬ ([27, 40] : List Int) <:+ [c] := fun ⟨p, hp⟩ => by have := congrArg List.length hp; simp at this
        have h2 : ¬ ([27] : List Int) <:+ [c] := fun ⟨p, hp⟩ => by
          match p, hp with
          | [], hp => exact hc (List.cons.inj hp).1.symm
          | x :: p, hp => have := congrArg List.length hp; simp at this
        simp [wk, h1, h2]
      · cases h
    | [c, d], h =>
      have hk : k = 1 ∧ ¬ (c = 27 ∧ d = 40) := by
        simp only [fk] at h
        split at h
        · rename_i hc; simp only [Option.some.injEq, Prod.mk.injEq] at h; exact ⟨h.2.1.symm, fun q => hc q.1⟩
        · split at h
          · rename_i hd; simp only [Option.some.injEq, Prod.mk.injEq] at h; exact ⟨h.2.1.symm, fun q => hd q.2⟩
          · cases h
      obtain ⟨rfl, hn⟩ := hk
      have h1 : ¬ ([27, 40] : List Int) <:+ [c, d] := fun ⟨p, hp⟩ => by
        match p, hp with
        | [], hp => injection hp with e1 e2; injection e2 with e2 _; exact hn ⟨e1.symm, e2.symm⟩
        | x :: p, hp => have := congrArg List.length hp; simp at this
      have h3 : ¬ ([27, 40] : List Int) <:+ [d] := fun ⟨p, hp⟩ => by have := congrArg List.length hp; simp at this
      have h2 : ([27] : List Int) <:+ [c, d] ↔ ([27] : List Int) <:+ [d] := suffix_cons (by simp)
      simp only [wk, h1, h2]
      simp [h3]
    | c :: d :: e :: t, h =>
      have hk : k = 1 ∨ k = 3 ∧ d = 40 ∧ e ≠ 27 ∧ e ≠ 40 := by
        simp only [fk] at h
        split at h
        · simp only [Option.some.injEq, Prod.mk.injEq] at h; exact .inl h.2.1.symm
        · split at h
          · simp only [Option.some.injEq, Prod.mk.injEq] at h; exact .inl h.2.1.symm
          · rename_i hd
            simp at hd
            split at h
            · simp only [Option.some.injEq, Prod.mk.injEq] at h; exact .inr ⟨h.2.1.symm, by omega, by omega, by omega⟩
            · split at h
              · simp only [Option.some.injEq, Prod.mk.injEq] at h; exact .inr ⟨h.2.1.symm, by omega, by omega, by omega⟩
              · split at h
                · simp only [Option.some.injEq, Prod.mk.injEq] at h; exact .inr ⟨h.2.1.symm, by omega, by omega, by omega⟩
                · simp only [Option.some.injEq, Prod.mk.injEq] at h; exact .inl h.2.1.symm
      have a1 : ([27, 40] : List Int) <:+ c :: d :: e :: t ↔ ([27, 40] : List Int) <:+ d :: e :: t := suffix_cons (by simp)
      have a2 : ([27] : List Int) <:+ c :: d :: e :: t ↔ ([27] : List Int) <:+ d :: e :: t := suffix_cons (by simp)
      rcases hk with rfl | ⟨rfl, hd, he, he2⟩
      · simp only [wk, a1, a2]; simp
      · have b2 : ([27] : List Int) <:+ d :: e :: t ↔ ([27] : List Int) <:+ e :: t := suffix_cons (by simp)
        have b1 : ([27, 40] : List Int) <:+ d :: e :: t ↔ ([27, 40] : List Int) <:+ e :: t := by
          match t with
          | [] =>
            constructor
            · rintro ⟨p, hp⟩
              match p, hp with
              | [], hp => injection hp with e1 e2; omega
              | x :: p, hp => have := congrArg List.length hp; simp at this
            · rintro ⟨p, hp⟩; have := congrArg List.length hp; simp at this
          | x :: u => exact suffix_cons (by simp)
        have c2 : ([27] : List Int) <:+ e :: t ↔ ([27] : List Int) <:+ t := by
          match t with
          | [] =>
            constructor
            · rintro ⟨p, hp⟩
              match p, hp with
              | [], hp => injection hp with e1 e2; omega
              | x :: p, hp => have := congrArg List.length hp; simp at this
            · rintro ⟨p, hp⟩; have := congrArg List.length hp; simp at this
          | x :: u => exact suffix_cons (by simp)
        have c1 : ([27, 40] : List Int) <:+ e :: t ↔ ([27, 40] : List Int) <:+ t := by
          match t with
          | [] =>
            constructor
            · rintro ⟨p, hp⟩; have := congrArg List.length hp; simp at this
            · rintro ⟨p, hp⟩; have := congrArg List.length hp; simp at this
          | [x] =>
            constructor
            · rintro ⟨p, hp⟩
              match p, hp with
              | [], hp => injection hp with e1 e2; omega
              | x :: p, hp => have := congrArg List.length hp; simp at this
            · rintro ⟨p, hp⟩; have := congrArg List.length hp; simp at this
          | x :: y :: u => exact suffix_cons (by simp)
        simp only [wk, a1, a2, b1, b2, c1, c2]
        simp
/-- How many integers wait at the end of a text, of each encoding. -/
def wE (e : Int) (l : List Int) : Int := if e = 1 then spl l else if e = 2 then wu false l else if e = 3 then wu true l else if e = 6 then wk l else 0
theorem RE_waits {e : Int} (he : 1 ≤ e ∧ e ≤ 7) (t : St) (l : List Int) : ((RE e t l).2.2.length : Int) = wE e l := by
  obtain rfl | rfl | rfl | rfl | rfl | rfl | rfl : e = 1 ∨ e = 2 ∨ e = 3 ∨ e = 4 ∨ e = 5 ∨ e = 6 ∨ e = 7 := by omega
  · rw [RE_8]; exact f8_waits l
  · rw [RE_16l]; show ((Run (f16 false) () l).2.2.length : Int) = _; rw [f16_wu]; rfl
  · rw [RE_16b]; show ((Run (f16 true) () l).2.2.length : Int) = _; rw [f16_wu]; rfl
  · rw [RE_L]; rfl
  · rw [RE_U]; rfl
  · rw [RE_K]; show ((Run fk (t.1, t.2.1) l).2.2.length : Int) = _; rw [fk_wk]; rfl
  · rw [RE_X]; rfl
end Go.Proofs.Ytpjhcecfcjbgoaa.M
