/- Plain mathematics of streams: what waits is few and waits again; a state stays right; what is told in pieces is what is told at once. Conditions stand at each law. -/
import Derived.Test.YtpjhcecfcjbgoaaMathX
namespace Go.Proofs.Ytpjhcecfcjbgoaa.M

def Ok (e : Int) (t : St) : Prop := Sg t.1 ∧ (e ≠ 6 → t.1 = 0 ∧ t.2.1 = false) ∧ (e ≠ 7 → t.2.2 = false)
theorem Ok_st0 (e : Int) : Ok e st0 := ⟨.inl rfl, fun _ => ⟨rfl, rfl⟩, fun _ => rfl⟩
theorem fk_sg {s s' : Int × Bool} {l o : List Int} {k : Nat} (h : fk s l = some (o, k, s')) (hs : Sg s.1) : Sg s'.1 := by
  have := (gk_all s l o k s' h).1
  unfold gk at this
  cases he : kesc l with
  | none => rw [he] at this; injection this with _ h2; injection h2 with _ h3; rw [← h3]; exact hs
  | some g => rw [he] at this; injection this with _ h2; injection h2 with _ h3; rw [← h3]; exact (kesc_len he).2
theorem Run_sg (s : Int × Bool) (l : List Int) : Sg s.1 → Sg (Run fk s l).2.1.1 := by
  refine Run_ind (C := fun s l => Sg s.1 → Sg (Run fk s l).2.1.1) fk_steps ?_ ?_ s l
  · intro s l h hs; rw [Run_wait h]; exact hs
  · intro s l o k s' h ih hs; rw [Run_step fk_steps h]; exact ih (fk_sg h hs)
theorem seven {e : Int} (he : 1 ≤ e ∧ e ≤ 7) : e = 1 ∨ e = 2 ∨ e = 3 ∨ e = 4 ∨ e = 5 ∨ e = 6 ∨ e = 7 := by omega
theorem Ok_run {e : Int} (he : 1 ≤ e ∧ e ≤ 7) {t : St} (h : Ok e t) (l : List Int) : Ok e (RE e t l).2.1 := by
  obtain rfl | rfl | rfl | rfl | rfl | rfl | rfl := seven he
  · rw [RE_8]; exact h
  · rw [RE_16l]; exact h
  · rw [RE_16b]; exact h
  · rw [RE_L]; exact h
  · rw [RE_U]; exact h
  · rw [RE_K]; exact ⟨Run_sg _ l h.1, fun q => absurd rfl q, fun q => h.2.2 q⟩
  · rw [RE_X]; exact ⟨h.1, h.2.1, fun q => absurd rfl q⟩
theorem spl_le (l : List Int) : spl l ≤ 3 := by
  obtain ⟨n, h, h3, _⟩ := cut_at l
  rw [h]; omega
theorem wE_bd {e : Int} (he : 1 ≤ e ∧ e ≤ 7) (l : List Int) : 0 ≤ wE e l ∧ wE e l ≤ 3 ∧ wE e l ≤ l.length := by
  have h := RE_waits he st0 l
  obtain ⟨n, hn, hl⟩ := Run_end (FE_steps e) st0 l
  have h2 : (RE e st0 l).2.2.length ≤ l.length := by
    show (Run (FE e) st0 l).2.2.length ≤ _
    rw [hn, List.length_drop]; omega
  refine ⟨by omega, ?_, by omega⟩
  obtain rfl | rfl | rfl | rfl | rfl | rfl | rfl := seven he
  · exact spl_le l
  · show ((wu false l : Nat) : Int) ≤ 3
    unfold wu; split <;> omega
  · show ((wu true l : Nat) : Int) ≤ 3
    unfold wu; split <;> omega
  · show (0 : Int) ≤ 3; omega
  · show (0 : Int) ≤ 3; omega
  · show ((wk l : Nat) : Int) ≤ 3
    unfold wk; split
    · omega
    · split <;> omega
  · show (0 : Int) ≤ 3; omega
/-- What waits: the end of the text, of that length. -/
theorem RE_rest {e : Int} (he : 1 ≤ e ∧ e ≤ 7) (t : St) (l : List Int) : (RE e t l).2.2 = l.drop (l.length - (wE e l).toNat) := by
  have h := RE_waits he t l
  have hb := wE_bd he l
  obtain ⟨n, hn, hl⟩ := Run_end (FE_steps e) t l
  have hn' : (RE e t l).2.2 = l.drop n := hn
  have h2 := congrArg List.length hn'
  rw [List.length_drop] at h2
  rw [hn']
  congr 1
  omega
/-- What is told of all that does not wait. -/
theorem TE_take {e : Int} (he : 1 ≤ e ∧ e ≤ 7) (t : St) (l : List Int) : TE e t (l.take (l.length - (wE e l).toNat)) = ((RE e t l).1, (RE e t l).2.1) :=
  Tot_take (FE_steps e) (GE_whole e) t l _ (Nat.sub_le _ _) (RE_rest he t l)
theorem RE_few {e : Int} (he : 1 ≤ e ∧ e ≤ 7) (t : St) (l : List Int) : (RE e t l).2.2.length ≤ 3 := by
  have h := RE_waits he t l
  have := wE_bd he l
  omega
/-- What waits waits again. -/
theorem RE_left {e : Int} (he : 1 ≤ e ∧ e ≤ 7) (t : St) (l : List Int) : wE e (RE e t l).2.2 = (RE e t l).2.2.length := by
  have h := Run_left (FE_steps e) t l
  have h2 := RE_waits he (RE e t l).2.1 (RE e t l).2.2
  have h3 : RE e (RE e t l).2.1 (RE e t l).2.2 = ([], (RE e t l).2.1, (RE e t l).2.2) := Run_wait h
  rw [h3] at h2
  exact h2.symm
theorem RE_app (e : Int) (t : St) (l m : List Int) : RE e t (l ++ m) = ((RE e t l).1 ++ (RE e (RE e t l).2.1 ((RE e t l).2.2 ++ m)).1, (RE e (RE e t l).2.1 ((RE e t l).2.2 ++ m)).2) := Run_app (FE_steps e) t l m
theorem TE_run (e : Int) (t : St) (l : List Int) : TE e t l = ((RE e t l).1 ++ (TE e (RE e t l).2.1 (RE e t l).2.2).1, (TE e (RE e t l).2.1 (RE e t l).2.2).2) := Tot_run (FE_steps e) (GE_whole e) t l
theorem GE_few (e : Int) (t : St) (l : List Int) (hl : l ≠ []) : (GE e t l).1.length ≤ (GE e t l).2.1 := by
  have h8 := g8_size () l hl
  unfold GE
  split
  · exact h8.1
  · split
    · exact (g16_size false () l hl).1
    · split
      · exact (g16_size true () l hl).1
      · split
        · exact Nat.le_refl _
        · split
          · exact Nat.le_refl _
          · split
            · show (gk (getK t) l).1.length ≤ (gk (getK t) l).2.1
              unfold gk
              cases kesc l with
              | none => exact Nat.le_refl _
              | some g => show (bads _).length ≤ 3; unfold bads; split <;> simp
            · show (if (getX t) then ([] : List Int) else [65533]).length ≤ 1; split <;> simp
theorem TE_few (e : Int) : ∀ (n : Nat) (t : St) (l : List Int), l.length ≤ n → (TE e t l).1.length ≤ l.length
  | 0, t, l, h => by
    have : l = [] := List.eq_nil_of_length_eq_zero (by omega)
    subst this; unfold TE; rw [Tot_nil]; simp
  | n + 1, t, l, h => by
    by_cases h0 : l = []
    · subst h0; unfold TE; rw [Tot_nil]; simp
    · have hs := (GE_whole e).size t l h0
      have hf := GE_few e t l h0
      have ih := TE_few e n (GE e t l).2.2 (l.drop (GE e t l).2.1) (by simp; omega)
      unfold TE at *
      rw [Tot_step (GE_whole e).size (s' := (GE e t l).2.2) (o := (GE e t l).1) (k := (GE e t l).2.1) h0 rfl]
      simp only [List.length_append]
      rw [List.length_drop] at ih
      omega
theorem RE_out {e : Int} (he : 1 ≤ e ∧ e ≤ 7) (t : St) (l : List Int) : (RE e t l).1.length ≤ l.length := by
  have h := TE_take he t l
  have h2 := TE_few e _ t (l.take (l.length - (wE e l).toNat)) (Nat.le_refl _)
  rw [h, List.length_take] at h2
  have h3 : (RE e t l).1.length ≤ min (l.length - (wE e l).toNat) l.length := h2
  omega
end Go.Proofs.Ytpjhcecfcjbgoaa.M
