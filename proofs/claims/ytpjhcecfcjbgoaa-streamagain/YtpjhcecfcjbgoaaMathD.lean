/- Plain mathematics of UTF-8: what is encoded is decoded as it was, and what is decoded without a Bad is encoded as it was. Conditions: integers are scalars, or bytes, where that is said. -/
import Derived.Test.YtpjhcecfcjbgoaaMathC
namespace Go.Proofs.Ytpjhcecfcjbgoaa.M

theorem enc1_byt (p : Int) (h : sclr p = true) : Byt (enc1 p) := by
  have h := (sclr_iff p).1 h
  intro x hx
  rcases (show p < 128 ∨ (128 ≤ p ∧ p < 2048) ∨ (2048 ≤ p ∧ p < 65536) ∨ 65536 ≤ p from by omega) with g | ⟨g, g'⟩ | ⟨g, g'⟩ | g
  · rw [enc1_1 g] at hx; simp at hx; omega
  · rw [enc1_2 g g'] at hx; simp at hx; omega
  · rw [enc1_3 g g'] at hx; simp at hx; omega
  · rw [enc1_4 g] at hx; simp at hx; omega

theorem enc_nil : enc [] = [] := rfl
theorem enc_cons (p : Int) (l : List Int) : enc (p :: l) = enc1 p ++ enc l := by simp [enc]

theorem enc_byt (l : List Int) (h : l.all sclr = true) : Byt (enc l) := by
  induction l with
  | nil => intro x hx; simp [enc] at hx
  | cons p l ih =>
    rw [List.all_cons, Bool.and_eq_true] at h
    rw [enc_cons]
    intro x hx
    rcases List.mem_append.1 hx with hx | hx
    · exact enc1_byt p h.1 x hx
    · exact ih h.2 x hx

theorem dec_enc (l : List Int) (h : l.all sclr = true) : dec (enc l) = l := by
  induction l with
  | nil => rfl
  | cons p l ih =>
    rw [List.all_cons, Bool.and_eq_true] at h
    have hl := enc1_len p
    have hne : enc1 p ++ enc l ≠ [] := fun e => by have := congrArg List.length e; simp at this; rw [this.1] at hl; simp at hl
    rw [enc_cons, dec_ne hne, nxt_enc1 p _ h.1]
    simp only [Int.toNat_natCast]
    rw [List.drop_left, ih h.2]

theorem enc_dec (l : List Int) (hb : Byt l) (h : ∀ x ∈ dec l, x ≠ 65533) : enc (dec l) = l := by
  revert hb h
  refine piece_ind (C := fun l => Byt l → (∀ x ∈ dec l, x ≠ 65533) → enc (dec l) = l) (fun _ _ => rfl) ?_ l
  intro l hl ih hb h
  rw [dec_ne hl] at h ⊢
  rw [enc_cons]
  rcases nxt_cases l hl hb with ⟨p, r, hp, e1, e2⟩ | e
  · rw [e2] at ih h ⊢
    simp only [Int.toNat_natCast] at ih h ⊢
    have e3 : l.drop (enc1 p).length = r := by
      conv => lhs; rw [e1]
      exact List.drop_left
    rw [e3] at ih h ⊢
    rw [ih (by rw [← e3]; exact hb.drop _) (fun x hx => h x (List.mem_cons_of_mem _ hx))]
    exact e1.symm
  · exact absurd e (h _ (List.mem_cons_self ..))
end Go.Proofs.Ytpjhcecfcjbgoaa.M
