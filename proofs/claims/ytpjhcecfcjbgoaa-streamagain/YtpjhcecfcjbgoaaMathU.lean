/- Plain functions on lists of integers that say what the program's UTF-16 functions compute: a unit, what is told at the beginning, all that is told; the bytes of a scalar. No condition. -/
import Derived.Test.YtpjhcecfcjbgoaaMathB
namespace Go.Proofs.Ytpjhcecfcjbgoaa.M

def ut (big : Bool) (a b : Int) : Int := if big then a * 256 + b else b * 256 + a
def fst16 (u : Int) : Bool := decide (55296 ≤ u ∧ u < 56320)
def snd16 (u : Int) : Bool := decide (56320 ≤ u ∧ u < 57344)
def aln (u : Int) : Int := if snd16 u then 65533 else u

/-- What is told at the beginning, and by how many bytes. -/
def nx16 (big : Bool) : List Int → Int × Nat
  | [] => (65533, 1)
  | [_] => (65533, 1)
  | [a, b] => if fst16 (ut big a b) then (65533, 2) else (aln (ut big a b), 2)
  | [a, b, _] => if fst16 (ut big a b) then (65533, 3) else (aln (ut big a b), 2)
  | a :: b :: c :: d :: _ => if fst16 (ut big a b) then (if snd16 (ut big c d) then (65536 + (ut big a b - 55296) * 1024 + (ut big c d - 56320), 4) else (65533, 2)) else (aln (ut big a b), 2)

def run16 (big : Bool) : Nat → List Int → List Int
  | 0, _ => []
  | _ + 1, [] => []
  | n + 1, c :: t => (nx16 big (c :: t)).1 :: run16 big n ((c :: t).drop (nx16 big (c :: t)).2)

theorem nx16_size (big : Bool) (l : List Int) (h : l ≠ []) : 1 ≤ (nx16 big l).2 ∧ (nx16 big l).2 ≤ 4 ∧ (nx16 big l).2 ≤ l.length := by
  match l, h with
  | [_], _ => simp [nx16]
  | [a, b], _ => simp only [nx16]; split <;> simp
  | [a, b, c], _ => simp only [nx16]; split <;> simp
  | a :: b :: c :: d :: t, _ => simp only [nx16]; split <;> (try split) <;> simp <;> omega

theorem run16_fuel (big : Bool) : ∀ (n m : Nat) (l : List Int), l.length ≤ n → l.length ≤ m → run16 big n l = run16 big m l := by
  intro n
  induction n with
  | zero => intro m l h1 h2; have : l = [] := by cases l with | nil => rfl | cons => simp at h1
            subst this; cases m <;> simp [run16]
  | succ n ih =>
    intro m l h1 h2
    cases l with
    | nil => cases m <;> simp [run16]
    | cons c t =>
      cases m with
      | zero => simp at h2
      | succ m =>
        simp only [run16]
        have hs := nx16_size big (c :: t) (by simp)
        rw [ih m]
        · simp only [List.length_drop]; simp only [List.length_cons] at *; omega
        · simp only [List.length_drop]; simp only [List.length_cons] at *; omega

def dec16 (big : Bool) (l : List Int) : List Int := run16 big l.length l
theorem dec16_nil (big : Bool) : dec16 big [] = [] := rfl
theorem dec16_step (big : Bool) {l : List Int} (h : l ≠ []) : dec16 big l = (nx16 big l).1 :: dec16 big (l.drop (nx16 big l).2) := by
  cases l with
  | nil => exact absurd rfl h
  | cons c t =>
    have hs := nx16_size big (c :: t) (by simp)
    show run16 big (t.length + 1) (c :: t) = _
    simp only [run16]
    congr 1
    refine run16_fuel _ _ _ _ ?_ (Nat.le_refl _)
    simp only [List.length_drop, List.length_cons]; omega

theorem d_one (big : Bool) (a : Int) : dec16 big [a] = [65533] := by rw [dec16_step big (by simp)]; simp [nx16, dec16_nil]
theorem d_unit (big : Bool) {a b : Int} (t : List Int) (h : fst16 (ut big a b) = false) : dec16 big (a :: b :: t) = aln (ut big a b) :: dec16 big t := by
  rw [dec16_step big (by simp)]
  match t with
  | [] => simp [nx16, h]
  | [_] => simp [nx16, h]
  | _ :: _ :: _ => simp [nx16, h]
theorem d_f0 (big : Bool) {a b : Int} (h : fst16 (ut big a b) = true) : dec16 big [a, b] = [65533] := by
  rw [dec16_step big (by simp)]; simp [nx16, h, dec16_nil]
theorem d_f1 (big : Bool) {a b : Int} (c : Int) (h : fst16 (ut big a b) = true) : dec16 big [a, b, c] = [65533] := by
  rw [dec16_step big (by simp)]; simp [nx16, h, dec16_nil]
theorem d_pair (big : Bool) {a b c d : Int} (t : List Int) (h : fst16 (ut big a b) = true) (h' : snd16 (ut big c d) = true) :
    dec16 big (a :: b :: c :: d :: t) = (65536 + (ut big a b - 55296) * 1024 + (ut big c d - 56320)) :: dec16 big t := by
  rw [dec16_step big (by simp)]; simp [nx16, h, h']
theorem d_bad (big : Bool) {a b c d : Int} (t : List Int) (h : fst16 (ut big a b) = true) (h' : snd16 (ut big c d) = false) :
    dec16 big (a :: b :: c :: d :: t) = 65533 :: dec16 big (c :: d :: t) := by
  rw [dec16_step big (by simp)]; simp [nx16, h, h']

theorem dec16_len (big : Bool) : ∀ (n : Nat) (l : List Int), l.length ≤ n → (dec16 big l).length ≤ l.length := by
  intro n
  induction n with
  | zero => intro l h; have : l = [] := by cases l with | nil => rfl | cons => simp at h
            subst this; simp [dec16_nil]
  | succ n ih =>
    intro l h
    by_cases h0 : l = []
    · subst h0; simp [dec16_nil]
    · have hs := nx16_size big l h0
      rw [dec16_step big h0]
      have := ih (l.drop (nx16 big l).2) (by simp; omega)
      simp only [List.length_cons, List.length_drop] at *
      omega
theorem dec16_le (big : Bool) (l : List Int) : (dec16 big l).length ≤ l.length := dec16_len big _ l (Nat.le_refl _)

/-! ### encoding -/
def two (big : Bool) (u : Int) : List Int := if big then [u / 256, u % 256] else [u % 256, u / 256]
def enc16a (big : Bool) (n : Int) : List Int := if n < 65536 then two big n else two big (55296 + (n - 65536) / 1024) ++ two big (56320 + (n - 65536) % 1024)
def enc16 (big : Bool) (l : List Int) : List Int := l.flatMap (enc16a big)
theorem enc16_snoc (big : Bool) (l : List Int) (n : Int) : enc16 big (l ++ [n]) = enc16 big l ++ enc16a big n := by simp [enc16]
theorem enc16_cons (big : Bool) (l : List Int) (n : Int) : enc16 big (n :: l) = enc16a big n ++ enc16 big l := by simp [enc16]
theorem two_len (big : Bool) (u : Int) : (two big u).length = 2 := by unfold two; split <;> rfl
theorem enc16a_len (big : Bool) (n : Int) : 2 ≤ (enc16a big n).length ∧ (enc16a big n).length ≤ 4 := by
  unfold enc16a; split <;> simp [two_len]
theorem enc16_len (big : Bool) (l : List Int) : (enc16 big l).length ≤ 4 * l.length := by
  induction l with
  | nil => simp [enc16]
  | cons n l ih => have := enc16a_len big n; rw [enc16_cons]; simp only [List.length_append, List.length_cons] at *; omega
theorem ut_two (big : Bool) (u : Int) (t : List Int) : ∃ a b, two big u ++ t = a :: b :: t ∧ ut big a b = u := by
  cases big
  · exact ⟨u % 256, u / 256, by simp [two], by simp [ut]; omega⟩
  · exact ⟨u / 256, u % 256, by simp [two], by simp [ut]; omega⟩
theorem dec16_enc (big : Bool) (l : List Int) (h : l.all sclr = true) : dec16 big (enc16 big l) = l := by
  induction l with
  | nil => simp [enc16, dec16_nil]
  | cons n l ih =>
    rw [List.all_cons, Bool.and_eq_true] at h
    have hn : 0 ≤ n ∧ n ≤ 1114111 ∧ (n < 55296 ∨ 57343 < n) := by have := h.1; simpa [sclr] using this
    rw [enc16_cons]
    by_cases hs : n < 65536
    · rw [enc16a, if_pos hs]
      obtain ⟨a, b, e, hu⟩ := ut_two big n (enc16 big l)
      have hf : fst16 n = false := by simp [fst16]; omega
      have hsn : snd16 n = false := by simp [snd16]; omega
      rw [e, d_unit big _ (by rw [hu]; exact hf), hu, ih h.2]
      simp [aln, hsn]
    · rw [enc16a, if_neg hs, List.append_assoc]
      obtain ⟨c, d, e', hu'⟩ := ut_two big (56320 + (n - 65536) % 1024) (enc16 big l)
      obtain ⟨a, b, e, hu⟩ := ut_two big (55296 + (n - 65536) / 1024) (c :: d :: enc16 big l)
      rw [e', e, d_pair big _ (by rw [hu]; simp [fst16]; omega) (by rw [hu']; simp [snd16]; omega), hu, hu', ih h.2]
      congr 1
      omega
theorem two_byt (big : Bool) (u : Int) (h0 : 0 ≤ u) (h1 : u < 65536) : ∀ x ∈ two big u, 0 ≤ x ∧ x ≤ 255 := by
  unfold two; split <;> (intro x hx; simp at hx; rcases hx with rfl | rfl <;> omega)
theorem enc16_byt (big : Bool) (l : List Int) (h : l.all sclr = true) : ∀ x ∈ enc16 big l, 0 ≤ x ∧ x ≤ 255 := by
  intro x hx
  simp only [enc16, List.mem_flatMap] at hx
  obtain ⟨n, hn, hx⟩ := hx
  have hn : 0 ≤ n ∧ n ≤ 1114111 ∧ (n < 55296 ∨ 57343 < n) := by have := List.all_eq_true.1 h n hn; simpa [sclr] using this
  unfold enc16a at hx
  split at hx
  · exact two_byt big n (by omega) (by omega) x hx
  · rw [List.mem_append] at hx
    rcases hx with hx | hx
    · exact two_byt big _ (by omega) (by omega) x hx
    · exact two_byt big _ (by omega) (by omega) x hx

/-! ### two by two -/
def swp : List Int → List Int
  | a :: b :: t => b :: a :: swp t
  | l => l
theorem swp_len : ∀ l : List Int, (swp l).length = l.length
  | [] => rfl
  | [_] => rfl
  | a :: b :: t => by simp [swp, swp_len t]
theorem swp_byt : ∀ (l : List Int), (∀ x ∈ l, 0 ≤ x ∧ x ≤ 255) → ∀ x ∈ swp l, 0 ≤ x ∧ x ≤ 255
  | [], h => h
  | [_], h => h
  | a :: b :: t, h => by
    intro x hx
    simp only [swp, List.mem_cons] at hx
    rcases hx with rfl | rfl | hx
    · exact h _ (by simp)
    · exact h _ (by simp)
    · exact swp_byt t (fun y hy => h y (by simp [hy])) x hx
theorem ut_swp (a b : Int) : ut false b a = ut true a b := by simp [ut]
theorem dec16_swp : ∀ (n : Nat) (l : List Int), l.length ≤ n → dec16 false (swp l) = dec16 true l := by
  intro n
  induction n with
  | zero => intro l h; have : l = [] := by cases l with | nil => rfl | cons => simp at h
            subst this; rfl
  | succ n ih =>
    intro l h
    match l, h with
    | [], _ => rfl
    | [a], _ => show dec16 false [a] = _; rw [d_one, d_one]
    | a :: b :: t, h =>
      simp only [List.length_cons] at h
      show dec16 false (b :: a :: swp t) = _
      cases hf : fst16 (ut true a b) with
      | false => rw [d_unit true t hf, d_unit false _ (by rw [ut_swp]; exact hf), ut_swp, ih t (by omega)]
      | true =>
        match t, h with
        | [], _ => rw [d_f0 true hf]; exact d_f0 false (by rw [ut_swp]; exact hf)
        | [c], _ => rw [d_f1 true c hf]; exact d_f1 false c (by rw [ut_swp]; exact hf)
        | c :: d :: t, h =>
          simp only [List.length_cons] at h
          show dec16 false (b :: a :: d :: c :: swp t) = _
          cases hs : snd16 (ut true c d) with
          | true => rw [d_pair true t hf hs, d_pair false _ (by rw [ut_swp]; exact hf) (by rw [ut_swp]; exact hs), ut_swp, ut_swp, ih t (by omega)]
          | false =>
            rw [d_bad true t hf hs, d_bad false _ (by rw [ut_swp]; exact hf) (by rw [ut_swp]; exact hs)]
            have := ih (c :: d :: t) (by simp; omega)
            rw [← this]; rfl

/-! ### parts -/
/-- The last unit of an even text. -/
def lastU (big : Bool) : List Int → Int
  | [a, b] => ut big a b
  | _ :: _ :: t => lastU big t
  | _ => 0
theorem lastU_cons (big : Bool) (a b : Int) {t : List Int} (h : t ≠ []) : lastU big (a :: b :: t) = lastU big t := by
  match t, h with
  | _ :: _, _ => rfl
theorem parts_eq (big : Bool) (t : List Int) : ∀ (n : Nat) (s : List Int), s.length ≤ n → s.length % 2 = 0 → fst16 (lastU big s) = false → dec16 big (s ++ t) = dec16 big s ++ dec16 big t := by
  intro n
  induction n with
  | zero => intro s h _ _; have : s = [] := by cases s with | nil => rfl | cons => simp at h
            subst this; rfl
  | succ n ih =>
    intro s h he hl
    match s, h, he, hl with
    | [], _, _, _ => rfl
    | [a], _, he, _ => simp at he
    | a :: b :: s, h, he, hl =>
      simp only [List.length_cons] at h he
      cases hf : fst16 (ut big a b) with
      | false =>
        rw [List.cons_append, List.cons_append, d_unit big _ hf, d_unit big _ hf]
        by_cases h0 : s = []
        · subst h0; rfl
        · rw [ih s (by omega) (by omega) (by rw [lastU_cons big a b h0] at hl; exact hl)]; rfl
      | true =>
        match s, h, he, hl with
        | [], _, _, hl => simp [lastU, hf] at hl
        | [c], _, he, _ => simp at he
        | c :: d :: s, h, he, hl =>
          simp only [List.length_cons] at h he
          rw [lastU_cons big a b (by simp)] at hl
          cases hs : snd16 (ut big c d) with
          | true =>
            rw [List.cons_append, List.cons_append, List.cons_append, List.cons_append, d_pair big _ hf hs, d_pair big _ hf hs]
            by_cases h0 : s = []
            · subst h0; rfl
            · rw [ih s (by omega) (by omega) (by rw [lastU_cons big c d h0] at hl; exact hl)]; rfl
          | false =>
            rw [List.cons_append, List.cons_append, List.cons_append, List.cons_append, d_bad big _ hf hs, d_bad big _ hf hs]
            have := ih (c :: d :: s) (by simp; omega) (by simp; omega) hl
            rw [List.cons_append, List.cons_append] at this
            rw [this]; rfl
theorem parts_le (big : Bool) (t : List Int) : ∀ (n : Nat) (s : List Int), s.length ≤ n → s.length % 2 = 0 → (dec16 big (s ++ t)).length ≤ (dec16 big s).length + (dec16 big t).length := by
  intro n
  induction n with
  | zero => intro s h _; have : s = [] := by cases s with | nil => rfl | cons => simp at h
            subst this; simp [dec16_nil]
  | succ n ih =>
    intro s h he
    match s, h, he with
    | [], _, _ => simp [dec16_nil]
    | [a], _, he => simp at he
    | a :: b :: s, h, he =>
      simp only [List.length_cons] at h he
      cases hf : fst16 (ut big a b) with
      | false =>
        rw [List.cons_append, List.cons_append, d_unit big _ hf, d_unit big _ hf]
        have := ih s (by omega) (by omega)
        simp only [List.length_cons]; omega
      | true =>
        match s, h, he with
        | [], _, _ =>
          rw [d_f0 big hf]
          show (dec16 big (a :: b :: t)).length ≤ _
          match t with
          | [] => rw [d_f0 big hf]; simp
          | [c] => rw [d_f1 big c hf]; simp
          | c :: d :: t =>
            cases hs : snd16 (ut big c d) with
            | true =>
              have h1 : fst16 (ut big c d) = false := by simp [snd16] at hs; simp [fst16]; omega
              rw [d_pair big _ hf hs, d_unit big _ h1]; simp
            | false => rw [d_bad big _ hf hs]; simp; omega
        | [c], _, he => simp at he
        | c :: d :: s, h, he =>
          simp only [List.length_cons] at h he
          cases hs : snd16 (ut big c d) with
          | true =>
            rw [List.cons_append, List.cons_append, List.cons_append, List.cons_append, d_pair big _ hf hs, d_pair big _ hf hs]
            have := ih s (by omega) (by omega)
            simp only [List.length_cons]; omega
          | false =>
            rw [List.cons_append, List.cons_append, List.cons_append, List.cons_append, d_bad big _ hf hs, d_bad big _ hf hs]
            have := ih (c :: d :: s) (by simp; omega) (by simp; omega)
            rw [List.cons_append, List.cons_append] at this
            simp only [List.length_cons] at *; omega
end Go.Proofs.Ytpjhcecfcjbgoaa.M
