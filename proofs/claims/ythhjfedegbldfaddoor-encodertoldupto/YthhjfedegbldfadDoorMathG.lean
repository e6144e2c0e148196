/- Plain functions on integers that say what encoders compute: the encoding that is written, whether it has a code point, a number that is told, the bytes of code points. Conditions stand at each law. -/
import Derived.Test.YthhjfedegbldfadDoorMathD
import Derived.Test.YthhjfedegbldfadDoorMathS
import Derived.Test.YthhjfedegbldfadDoorMathK
namespace Go.Proofs.YthhjfedegbldfadDoor.M

def outE (n : Int) : Int := if n = 2 ∨ n = 3 ∨ n = 7 then 1 else n
def hasE (n p : Int) : Bool := if n = 4 then hasB false p else if n = 5 then hasB true p else if n = 6 then anyK p else true
/-- The digits of a number, as bytes. -/
def digs (n : Nat) : List Int := if h : n < 10 then [48 + (n : Int)] else digs (n / 10) ++ [48 + ((n % 10 : Nat) : Int)]
termination_by n
decreasing_by omega
/-- A number that is told. -/
def tld (p : Int) : List Int := [38, 35] ++ digs p.toNat ++ [59]
/-- The code points that are written where all may be told. -/
def ptE (n p : Int) : List Int := if hasE n p then [p] else tld p
def ptsE (n : Int) (l : List Int) : List Int := l.flatMap (ptE n)
def encB (n : Int) (l : List Int) : List Int := if n = 4 then encS false l else if n = 5 then encS true l else if n = 6 then kenc l else enc l

theorem digs_lo {n : Nat} (h : n < 10) : digs n = [48 + (n : Int)] := by rw [digs, dif_pos h]
theorem digs_hi {n : Nat} (h : ¬ n < 10) : digs n = digs (n / 10) ++ [48 + ((n % 10 : Nat) : Int)] := by rw [digs, dif_neg h]
theorem digs_bd (n : Nat) : ∀ x ∈ digs n, 48 ≤ x ∧ x ≤ 57 := by
  induction n using Nat.strongRecOn with
  | _ n ih =>
    intro x hx
    by_cases h : n < 10
    · rw [digs_lo h] at hx; simp at hx; omega
    · rw [digs_hi h] at hx
      rcases List.mem_append.1 hx with h1 | h1
      · exact ih (n / 10) (by omega) x h1
      · simp at h1; omega
theorem digs_len : ∀ (k n : Nat), 1 ≤ k → n < 10 ^ k → (digs n).length ≤ k := by
  intro k
  induction k with
  | zero => intro n h; omega
  | succ k ih =>
    intro n _ hn
    by_cases h : n < 10
    · rw [digs_lo h]; simp
    · have hk : 1 ≤ k := by
        rcases Nat.eq_zero_or_pos k with rfl | h'
        · simp at hn; omega
        · exact h'
      have := ih (n / 10) hk (by rw [Nat.pow_succ] at hn; omega)
      rw [digs_hi h]; simp; omega
theorem tld_bd (p : Int) : ∀ x ∈ tld p, 35 ≤ x ∧ x ≤ 59 := by
  intro x hx
  unfold tld at hx
  simp only [List.mem_append, List.mem_cons, List.not_mem_nil, or_false] at hx
  rcases hx with ((rfl | rfl) | h) | rfl
  · omega
  · omega
  · have := digs_bd _ x h; omega
  · omega
theorem sclr_bd {p : Int} (h : sclr p = true) : 0 ≤ p ∧ p ≤ 1114111 := by
  have := (sclr_iff p).1 h; omega
theorem digs_seven {p : Int} (h : sclr p = true) : (digs p.toNat).length ≤ 7 := by
  have := sclr_bd h
  exact digs_len 7 _ (by omega) (by have : (10 : Nat) ^ 7 = 10000000 := rfl; omega)
theorem tld_len {p : Int} (h : sclr p = true) : (tld p).length ≤ 10 := by
  have := digs_seven h
  unfold tld; simp; omega
theorem ptE_len {n p : Int} (h : sclr p = true) : (ptE n p).length ≤ 10 := by
  unfold ptE; split
  · simp
  · exact tld_len h
theorem ptsE_len (n : Int) (l : List Int) (h : l.all sclr = true) : (ptsE n l).length ≤ 10 * l.length := by
  induction l with
  | nil => simp [ptsE]
  | cons p t ih =>
    rw [List.all_cons, Bool.and_eq_true] at h
    have h1 := ptE_len (n := n) h.1
    have h2 := ih h.2
    have e : ptsE n (p :: t) = ptE n p ++ ptsE n t := rfl
    rw [e, List.length_append, List.length_cons]; omega
theorem ptsE_snoc (n : Int) (l : List Int) (p : Int) : ptsE n (l ++ [p]) = ptsE n l ++ ptE n p := by simp [ptsE]
theorem ptsE_app (n : Int) (l m : List Int) : ptsE n (l ++ m) = ptsE n l ++ ptsE n m := by simp [ptsE]
theorem ptE_yes {n p : Int} (h : hasE n p = true) : ptE n p = [p] := by unfold ptE; rw [if_pos h]
theorem ptE_no {n p : Int} (h : hasE n p = false) : ptE n p = tld p := by unfold ptE; rw [if_neg (by simp [h])]
theorem ptsE_all (n : Int) (l : List Int) (h : l.all (hasE n) = true) : ptsE n l = l := by
  induction l with
  | nil => rfl
  | cons p t ih =>
    rw [List.all_cons, Bool.and_eq_true] at h
    have e : ptsE n (p :: t) = ptE n p ++ ptsE n t := rfl
    rw [e, ih h.2, ptE_yes h.1]; rfl
theorem hasB_low (user : Bool) {p : Int} (h0 : 0 ≤ p) (h1 : p < 128) : hasB user p = true := by
  obtain ⟨k, hk, rfl⟩ := byte_nat h0 (by omega : p ≤ 255)
  have : pt user (k : Int) = k := by unfold pt; rw [if_pos h1]
  rw [← this]; exact hasB_pt user hk
theorem hasE_low (n : Int) {p : Int} (h0 : 28 ≤ p) (h1 : p < 128) : hasE n p = true := by
  unfold hasE
  split
  · exact hasB_low _ (by omega) h1
  · split
    · exact hasB_low _ (by omega) h1
    · split
      · have : pln p = true := by unfold pln; exact decide_eq_true (by omega)
        unfold anyK; rw [pln_has this]; rfl
      · rfl
theorem tld_has (n p : Int) : (tld p).all (hasE n) = true := by
  rw [List.all_eq_true]
  intro x hx
  have := tld_bd p x hx
  exact hasE_low n (by omega) (by omega)
theorem ptE_has (n p : Int) : (ptE n p).all (hasE n) = true := by
  unfold ptE; split
  · rename_i h; simp [h]
  · exact tld_has n p
theorem ptsE_has (n : Int) (l : List Int) : (ptsE n l).all (hasE n) = true := by
  induction l with
  | nil => rfl
  | cons p t ih =>
    have e : ptsE n (p :: t) = ptE n p ++ ptsE n t := rfl
    rw [e, List.all_append, ptE_has, ih]; rfl
theorem tld_sclr (p : Int) : (tld p).all sclr = true := by
  rw [List.all_eq_true]
  intro x hx
  have := tld_bd p x hx
  rw [sclr_iff]; omega
theorem ptsE_sclr (n : Int) (l : List Int) (h : l.all sclr = true) : (ptsE n l).all sclr = true := by
  induction l with
  | nil => rfl
  | cons p t ih =>
    rw [List.all_cons, Bool.and_eq_true] at h
    have e : ptsE n (p :: t) = ptE n p ++ ptsE n t := rfl
    rw [e, List.all_append, ih h.2, Bool.and_true]
    unfold ptE; split
    · simp [h.1]
    · exact tld_sclr p
theorem encB_app {n : Int} (h : n ≠ 6) (a b : List Int) : encB n (a ++ b) = encB n a ++ encB n b := by
  unfold encB
  split
  · simp [encS]
  · split
    · simp [encS]
    · simp [enc]
theorem outE_out (n : Int) : outE (outE n) = outE n := by
  unfold outE; split
  · rfl
  · rfl
theorem hasE_out (n p : Int) : hasE (outE n) p = hasE n p := by
  unfold outE; split
  · rename_i h
    unfold hasE
    rw [if_neg (by omega), if_neg (by omega), if_neg (by omega), if_neg (by omega), if_neg (by omega), if_neg (by omega)]
  · rfl
theorem encB_out (n : Int) (l : List Int) : encB (outE n) l = encB n l := by
  unfold outE; split
  · rename_i h
    unfold encB
    rw [if_neg (by omega), if_neg (by omega), if_neg (by omega), if_neg (by omega), if_neg (by omega), if_neg (by omega)]
  · rfl
theorem outE_bd {n : Int} (h : 1 ≤ n ∧ n ≤ 7) : outE n = 1 ∨ outE n = 4 ∨ outE n = 5 ∨ outE n = 6 := by
  unfold outE; split <;> omega
theorem hasE_four (p : Int) : hasE 4 p = hasB false p := rfl
theorem hasE_five (p : Int) : hasE 5 p = hasB true p := rfl
theorem hasE_six (p : Int) : hasE 6 p = anyK p := rfl
theorem hasE_one {n : Int} (h : outE n = 1) (p : Int) : hasE n p = true := by rw [← hasE_out, h]; rfl
theorem ptsE_one {n : Int} (h : outE n = 1) (l : List Int) : ptsE n l = l := ptsE_all n l (by rw [List.all_eq_true]; intro x _; exact hasE_one h x)
theorem ptE_out (n p : Int) : ptE (outE n) p = ptE n p := by unfold ptE; rw [hasE_out]
theorem ptsE_out (n : Int) (l : List Int) : ptsE (outE n) l = ptsE n l := by unfold ptsE; rw [show ptE (outE n) = ptE n from funext (ptE_out n)]
theorem hasS (user : Bool) (p : Int) : hasE (if user then 5 else 4) p = hasB user p := by cases user <;> rfl
theorem encB_S (user : Bool) (l : List Int) : encB (if user then 5 else 4) l = encS user l := by cases user <;> rfl
theorem encB_6 (l : List Int) : encB 6 l = kenc l := rfl
theorem encB_1 (l : List Int) : encB 1 l = enc l := rfl
end Go.Proofs.YthhjfedegbldfadDoor.M
