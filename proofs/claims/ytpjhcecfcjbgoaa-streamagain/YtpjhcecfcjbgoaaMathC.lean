/- Plain mathematics of UTF-8: a piece is a scalar's bytes or a Bad; a scalar's bytes are a piece; how many pieces there are; where a text may be cut. Conditions: the integers are bytes where that is said. -/
import Derived.Test.YtpjhcecfcjbgoaaMathB
namespace Go.Proofs.Ytpjhcecfcjbgoaa.M

theorem nxt_1 {c : Int} (t : List Int) (h : c < 128) : nxt (c :: t) = (c, 1, false) := by
  have e1 : bSize c = 1 := by unfold bSize; rw [if_pos h]
  have e2 : bBits c = c := by unfold bBits; rw [if_pos h]
  simp [nxt, e1, e2, go]

theorem nxt_0 {c : Int} (t : List Int) (h : (128 ≤ c ∧ c < 194) ∨ 245 ≤ c) : nxt (c :: t) = (65533, 1, false) := by
  have e1 : bSize c = 0 := by unfold bSize; omega
  simp [nxt, e1]

theorem size2 {c : Int} (h : 194 ≤ c) (h' : c < 224) : bSize c = 2 ∧ bBits c = c % 32 ∧ bLow c = 128 ∧ bHigh c = 191 := by
  unfold bSize bBits bLow bHigh; omega
theorem size3 {c : Int} (h : 224 ≤ c) (h' : c < 240) : bSize c = 3 ∧ bBits c = c % 16 ∧ 128 ≤ bLow c ∧ bHigh c ≤ 191 ∧ (c = 224 → bLow c = 160) ∧ (c ≠ 224 → bLow c = 128) ∧ (c = 237 → bHigh c = 159) ∧ (c ≠ 237 → bHigh c = 191) := by
  unfold bSize bBits bLow bHigh; omega
theorem size4 {c : Int} (h : 240 ≤ c) (h' : c < 245) : bSize c = 4 ∧ bBits c = c % 8 ∧ 128 ≤ bLow c ∧ bHigh c ≤ 191 ∧ (c = 240 → bLow c = 144) ∧ (c ≠ 240 → bLow c = 128) ∧ (c = 244 → bHigh c = 143) ∧ (c ≠ 244 → bHigh c = 191) := by
  unfold bSize bBits bLow bHigh; omega

theorem nxt_2 {c : Int} (t : List Int) (h : 194 ≤ c) (h' : c < 224) : nxt (c :: t) = go 1 1 (c % 32) 128 191 t := by
  obtain ⟨a, b, d, e⟩ := size2 h h'
  simp [nxt, a, b, d, e]
theorem nxt_3 {c : Int} (t : List Int) (h : 224 ≤ c) (h' : c < 240) : ∃ lo hi, nxt (c :: t) = go 2 1 (c % 16) lo hi t ∧ 128 ≤ lo ∧ hi ≤ 191 ∧ (c = 224 → lo = 160) ∧ (c ≠ 224 → lo = 128) ∧ (c = 237 → hi = 159) ∧ (c ≠ 237 → hi = 191) := by
  obtain ⟨a, b, d⟩ := size3 h h'
  exact ⟨bLow c, bHigh c, by simp [nxt, a, b], d⟩
theorem nxt_4 {c : Int} (t : List Int) (h : 240 ≤ c) (h' : c < 245) : ∃ lo hi, nxt (c :: t) = go 3 1 (c % 8) lo hi t ∧ 128 ≤ lo ∧ hi ≤ 191 ∧ (c = 240 → lo = 144) ∧ (c ≠ 240 → lo = 128) ∧ (c = 244 → hi = 143) ∧ (c ≠ 244 → hi = 191) := by
  obtain ⟨a, b, d⟩ := size4 h h'
  exact ⟨bLow c, bHigh c, by simp [nxt, a, b], d⟩

def Byt (l : List Int) : Prop := ∀ x ∈ l, 0 ≤ x ∧ x ≤ 255

theorem enc1_1 {n : Int} (h : n < 128) : enc1 n = [n] := by unfold enc1; rw [if_pos h]
theorem enc1_2 {n : Int} (h : 128 ≤ n) (h' : n < 2048) : enc1 n = [192 + n / 64, 128 + n % 64] := by unfold enc1; rw [if_neg (by omega), if_pos h']
theorem enc1_3 {n : Int} (h : 2048 ≤ n) (h' : n < 65536) : enc1 n = [224 + n / 4096, 128 + n / 64 % 64, 128 + n % 64] := by unfold enc1; rw [if_neg (by omega), if_neg (by omega), if_pos h']
theorem enc1_4 {n : Int} (h : 65536 ≤ n) : enc1 n = [240 + n / 262144, 128 + n / 4096 % 64, 128 + n / 64 % 64, 128 + n % 64] := by unfold enc1; rw [if_neg (by omega), if_neg (by omega), if_neg (by omega)]

theorem sclr_iff (n : Int) : sclr n = true ↔ 0 ≤ n ∧ n ≤ 1114111 ∧ (n < 55296 ∨ 57343 < n) := by simp [sclr]

/-- A piece is a scalar's bytes, or a Bad. -/
theorem nxt_cases (l : List Int) (hl : l ≠ []) (hb : Byt l) :
    (∃ p r, sclr p = true ∧ l = enc1 p ++ r ∧ nxt l = (p, ((enc1 p).length : Int), false)) ∨ (nxt l).1 = 65533 := by
  cases l with
  | nil => exact absurd rfl hl
  | cons c t =>
    have hc : 0 ≤ c ∧ c ≤ 255 := hb c (by simp)
    rcases (show c < 128 ∨ ((128 ≤ c ∧ c < 194) ∨ 245 ≤ c) ∨ (194 ≤ c ∧ c < 224) ∨ (224 ≤ c ∧ c < 240) ∨ (240 ≤ c ∧ c < 245) from by omega) with h | h | ⟨h, h'⟩ | ⟨h, h'⟩ | ⟨h, h'⟩
    · refine .inl ⟨c, t, (sclr_iff c).2 (by omega), by rw [enc1_1 h]; rfl, by rw [nxt_1 t h, enc1_1 h]; rfl⟩
    · exact .inr (by rw [nxt_0 t h])
    · rw [nxt_2 t h h']
      cases t with
      | nil => exact .inr (by simp [go])
      | cons c1 t1 =>
        simp only [go]
        split
        · exact .inr rfl
        · have e := enc1_2 (n := c % 32 * 64 + c1 % 64) (by omega) (by omega)
          refine .inl ⟨c % 32 * 64 + c1 % 64, t1, (sclr_iff _).2 (by omega), ?_, by rw [e]; rfl⟩
          rw [e, show 192 + (c % 32 * 64 + c1 % 64) / 64 = c from by omega, show 128 + (c % 32 * 64 + c1 % 64) % 64 = c1 from by omega]; rfl
    · obtain ⟨lo, hi, e0, l1, l2, l3, l4, l5, l6⟩ := nxt_3 t h h'
      rw [e0]; clear e0
      cases t with
      | nil => exact .inr (by simp [go])
      | cons c1 t1 =>
        simp only [go]
        split
        · exact .inr rfl
        · rename_i g1
          cases t1 with
          | nil => exact .inr (by simp [go])
          | cons c2 t2 =>
            simp only [go]
            split
            · exact .inr rfl
            · rename_i g2
              have k1 : 2048 ≤ (c % 16 * 64 + c1 % 64) * 64 + c2 % 64 ∧ (c % 16 * 64 + c1 % 64) * 64 + c2 % 64 < 65536 ∧ ((c % 16 * 64 + c1 % 64) * 64 + c2 % 64 < 55296 ∨ 57343 < (c % 16 * 64 + c1 % 64) * 64 + c2 % 64) := by
                omega
              have k2 : 128 ≤ c1 ∧ c1 ≤ 191 := by omega
              have e := enc1_3 (n := (c % 16 * 64 + c1 % 64) * 64 + c2 % 64) (by omega) (by omega)
              refine .inl ⟨(c % 16 * 64 + c1 % 64) * 64 + c2 % 64, t2, (sclr_iff _).2 (by omega), ?_, by rw [e]; rfl⟩
              rw [e, show 224 + ((c % 16 * 64 + c1 % 64) * 64 + c2 % 64) / 4096 = c from by omega, show 128 + ((c % 16 * 64 + c1 % 64) * 64 + c2 % 64) / 64 % 64 = c1 from by omega,
                show 128 + ((c % 16 * 64 + c1 % 64) * 64 + c2 % 64) % 64 = c2 from by omega]; rfl
    · obtain ⟨lo, hi, e0, l1, l2, l3, l4, l5, l6⟩ := nxt_4 t h h'
      rw [e0]; clear e0
      cases t with
      | nil => exact .inr (by simp [go])
      | cons c1 t1 =>
        simp only [go]
        split
        · exact .inr rfl
        · rename_i g1
          cases t1 with
          | nil => exact .inr (by simp [go])
          | cons c2 t2 =>
            simp only [go]
            split
            · exact .inr rfl
            · rename_i g2
              cases t2 with
              | nil => exact .inr (by simp [go])
              | cons c3 t3 =>
                simp only [go]
                split
                · exact .inr rfl
                · rename_i g3
                  have k1 : 65536 ≤ ((c % 8 * 64 + c1 % 64) * 64 + c2 % 64) * 64 + c3 % 64 ∧ ((c % 8 * 64 + c1 % 64) * 64 + c2 % 64) * 64 + c3 % 64 ≤ 1114111 := by
                    omega
                  have k2 : 128 ≤ c1 ∧ c1 ≤ 191 := by omega
                  have e := enc1_4 (n := ((c % 8 * 64 + c1 % 64) * 64 + c2 % 64) * 64 + c3 % 64) (by omega)
                  refine .inl ⟨((c % 8 * 64 + c1 % 64) * 64 + c2 % 64) * 64 + c3 % 64, t3, (sclr_iff _).2 (by omega), ?_, by rw [e]; rfl⟩
                  rw [e, show 240 + (((c % 8 * 64 + c1 % 64) * 64 + c2 % 64) * 64 + c3 % 64) / 262144 = c from by omega, show 128 + (((c % 8 * 64 + c1 % 64) * 64 + c2 % 64) * 64 + c3 % 64) / 4096 % 64 = c1 from by omega,
                    show 128 + (((c % 8 * 64 + c1 % 64) * 64 + c2 % 64) * 64 + c3 % 64) / 64 % 64 = c2 from by omega, show 128 + (((c % 8 * 64 + c1 % 64) * 64 + c2 % 64) * 64 + c3 % 64) % 64 = c3 from by omega]; rfl

/-- A scalar's bytes are a piece. -/
theorem nxt_enc1 (p : Int) (t : List Int) (hp : sclr p = true) : nxt (enc1 p ++ t) = (p, ((enc1 p).length : Int), false) := by
  have h := (sclr_iff p).1 hp
  rcases (show p < 128 ∨ (128 ≤ p ∧ p < 2048) ∨ (2048 ≤ p ∧ p < 65536) ∨ 65536 ≤ p from by omega) with g | ⟨g, g'⟩ | ⟨g, g'⟩ | g
  · rw [enc1_1 g]; exact nxt_1 t g
  · rw [enc1_2 g g']
    show nxt ((192 + p / 64) :: (128 + p % 64) :: t) = _
    rw [nxt_2 _ (by omega) (by omega)]
    simp only [go]
    rw [if_neg (by omega)]
    simp only [List.length_cons, List.length_nil]
    congr 1
    omega
  · rw [enc1_3 g g']
    show nxt ((224 + p / 4096) :: (128 + p / 64 % 64) :: (128 + p % 64) :: t) = _
    obtain ⟨lo, hi, e0, l1, l2, l3, l4, l5, l6⟩ := nxt_3 (c := 224 + p / 4096) ((128 + p / 64 % 64) :: (128 + p % 64) :: t) (by omega) (by omega)
    rw [e0]; clear e0
    simp only [go]
    rw [if_neg (by omega), if_neg (by omega)]
    simp only [List.length_cons, List.length_nil]
    congr 1
    omega
  · rw [enc1_4 g]
    show nxt ((240 + p / 262144) :: (128 + p / 4096 % 64) :: (128 + p / 64 % 64) :: (128 + p % 64) :: t) = _
    obtain ⟨lo, hi, e0, l1, l2, l3, l4, l5, l6⟩ := nxt_4 (c := 240 + p / 262144) ((128 + p / 4096 % 64) :: (128 + p / 64 % 64) :: (128 + p % 64) :: t) (by omega) (by omega)
    rw [e0]; clear e0
    simp only [go]
    rw [if_neg (by omega), if_neg (by omega), if_neg (by omega)]
    simp only [List.length_cons, List.length_nil]
    congr 1
    omega

/-- An induction on the pieces of a text. -/
theorem piece_ind {C : List Int → Prop} (h0 : C []) (h1 : ∀ l, l ≠ [] → C (l.drop (nxt l).2.1.toNat) → C l) (l : List Int) : C l := by
  have key : ∀ n (l : List Int), l.length ≤ n → C l := by
    intro n
    induction n with
    | zero => intro l h; have : l = [] := List.eq_nil_of_length_eq_zero (by omega); subst this; exact h0
    | succ n ih =>
      intro l h
      by_cases hl : l = []
      · subst hl; exact h0
      · refine h1 l hl (ih _ ?_)
        have := nxt_size' l (List.length_pos_iff.2 hl)
        rw [List.length_drop]; omega
  exact key l.length l (Nat.le_refl _)

theorem Byt.drop {l : List Int} (h : Byt l) (n : Nat) : Byt (l.drop n) := fun x hx => h x (List.mem_of_mem_drop hx)

theorem dec_nil : dec [] = [] := rfl
theorem dec_ne {l : List Int} (h : l ≠ []) : dec l = (nxt l).1 :: dec (l.drop (nxt l).2.1.toNat) := by
  unfold dec; rw [pieces_ne h]; rfl

theorem dec_sclr (l : List Int) (hb : Byt l) : (dec l).all sclr = true := by
  revert hb
  refine piece_ind (C := fun l => Byt l → (dec l).all sclr = true) (fun _ => rfl) ?_ l
  intro l hl ih hb
  rw [dec_ne hl, List.all_cons, ih (hb.drop _), Bool.and_true]
  rcases nxt_cases l hl hb with ⟨p, r, hp, _, e⟩ | e
  · rw [e]; exact hp
  · rw [e]; rfl

theorem dec_len (l : List Int) : (dec l).length ≤ l.length ∧ l.length ≤ 4 * (dec l).length := by
  refine piece_ind (C := fun l => (dec l).length ≤ l.length ∧ l.length ≤ 4 * (dec l).length) (by simp [dec_nil]) ?_ l
  intro l hl ih
  have hs := nxt_size' l (List.length_pos_iff.2 hl)
  rw [dec_ne hl]
  rw [List.length_drop] at ih
  simp only [List.length_cons]
  omega
end Go.Proofs.Ytpjhcecfcjbgoaa.M
