/- Plain functions on integers that say what calls on labels compute: white bytes, trimming, small letters. No condition. -/
import Derived.Test.YthhjfedegbldfaeDoorMath
namespace Go.Proofs.YthhjfedegbldfaeDoor

def Byt (l : List Int) : Prop := ∀ x ∈ l, 0 ≤ x ∧ x ≤ 255
/-- White bytes. -/
def wh (c : Int) : Bool := decide (c = 32 ∨ c = 9 ∨ c = 10 ∨ c = 12 ∨ c = 13)
/-- Without the white ones at the end. -/
def rT : List Int → List Int
  | [] => []
  | c :: t => if wh c && (rT t).isEmpty then [] else c :: rT t
def trI (l : List Int) : List Int := (rT l).dropWhile wh

theorem tr_comm (l : List Int) : rT (l.dropWhile wh) = trI l := by
  unfold trI
  induction l with
  | nil => rfl
  | cons c t ih =>
    by_cases h : wh c = true
    · rw [List.dropWhile_cons_of_pos h, ih]
      simp only [rT, h, Bool.true_and]
      by_cases he : rT t = []
      · rw [he]; simp
      · have : (rT t).isEmpty = false := by simpa using he
        rw [this]
        simp [h]
    · have h' : wh c = false := by simpa using h
      rw [List.dropWhile_cons_of_neg h]
      simp only [rT, h', Bool.false_and]
      simp [h']

theorem rT_snoc (t : List Int) (c : Int) : rT (t ++ [c]) = if wh c then rT t else t ++ [c] := by
  induction t with
  | nil =>
    simp only [List.nil_append, rT]
    by_cases h : wh c = true
    · simp [h]
    · simp [h]
  | cons d t ih =>
    simp only [List.cons_append, rT, ih]
    by_cases h : wh c = true
    · simp [h]
    · simp [h]

theorem rT_eq (l : List Int) : rT l = (l.reverse.dropWhile wh).reverse := by
  induction l with
  | nil => rfl
  | cons c t ih =>
    rw [List.reverse_cons, List.dropWhile_append]
    simp only [rT, ih]
    by_cases he : t.reverse.dropWhile wh = []
    · rw [he]
      by_cases h : wh c = true <;> simp [h]
    · have h1 : (t.reverse.dropWhile wh).isEmpty = false := by simpa using he
      have h2 : (t.reverse.dropWhile wh).reverse.isEmpty = false := by simpa using he
      rw [h1, h2]
      simp

def fI (c : Int) : Int := if 65 ≤ c ∧ c ≤ 90 then c + 32 else c
def fdI (l : List Int) : List Int := l.map fI

theorem wh_fI (c : Int) : wh (fI c) = wh c := by
  unfold wh fI
  rw [Bool.eq_iff_iff]
  simp only [decide_eq_true_eq]
  split <;> omega
theorem fI_fI (c : Int) : fI (fI c) = fI c := by
  unfold fI
  split <;> (try split) <;> omega
theorem fI_bd (c : Int) (h : 0 ≤ c ∧ c ≤ 255) : 0 ≤ fI c ∧ fI c ≤ 255 := by
  unfold fI
  split <;> omega

theorem fd_dropWhile (l : List Int) : (fdI l).dropWhile wh = fdI (l.dropWhile wh) := by
  unfold fdI
  induction l with
  | nil => rfl
  | cons c t ih =>
    by_cases h : wh c = true
    · rw [List.map_cons, List.dropWhile_cons_of_pos (by rw [wh_fI]; exact h), List.dropWhile_cons_of_pos h, ih]
    · rw [List.map_cons, List.dropWhile_cons_of_neg (by rw [wh_fI]; exact h), List.dropWhile_cons_of_neg h, List.map_cons]
theorem fd_rT (l : List Int) : rT (fdI l) = fdI (rT l) := by
  induction l with
  | nil => rfl
  | cons c t ih =>
    show rT (fI c :: fdI t) = fdI (rT (c :: t))
    simp only [rT, ih, wh_fI]
    have : (fdI (rT t)).isEmpty = (rT t).isEmpty := by unfold fdI; cases rT t <;> rfl
    rw [this]
    split <;> rfl
theorem fd_tr (l : List Int) : trI (fdI l) = fdI (trI l) := by
  unfold trI; rw [fd_rT, fd_dropWhile]
theorem fd_fd (l : List Int) : fdI (fdI l) = fdI l := by
  unfold fdI; rw [List.map_map]; apply List.map_congr_left; intro c _; exact fI_fI c

theorem dw_dw (l : List Int) : (l.dropWhile wh).dropWhile wh = l.dropWhile wh := by
  induction l with
  | nil => rfl
  | cons c t ih =>
    by_cases h : wh c = true
    · rw [List.dropWhile_cons_of_pos h, ih]
    · rw [List.dropWhile_cons_of_neg h, List.dropWhile_cons_of_neg h]
theorem rT_rT (l : List Int) : rT (rT l) = rT l := by
  induction l with
  | nil => rfl
  | cons c t ih =>
    simp only [rT]
    split
    · rfl
    · rename_i h
      simp only [rT, ih, h]
      simp
theorem tr_tr (l : List Int) : trI (trI l) = trI l := by
  rw [← tr_comm l, ← tr_comm (rT _)]
  show rT ((rT (l.dropWhile wh)).dropWhile wh) = _
  rw [← show trI (l.dropWhile wh) = (rT (l.dropWhile wh)).dropWhile wh from rfl, ← tr_comm, dw_dw, rT_rT]

theorem rT_mem (l : List Int) : ∀ x ∈ rT l, x ∈ l := by
  induction l with
  | nil => intro x hx; exact hx
  | cons c t ih =>
    intro x hx
    simp only [rT] at hx
    split at hx
    · simp at hx
    · rcases List.mem_cons.1 hx with rfl | hx
      · exact List.mem_cons_self ..
      · exact List.mem_cons_of_mem _ (ih x hx)
theorem tr_byt {l : List Int} (h : Byt l) : Byt (trI l) := fun x hx => h x (rT_mem l x (List.dropWhile_subset _ hx))
theorem fd_byt {l : List Int} (h : Byt l) : Byt (fdI l) := by
  intro x hx
  unfold fdI at hx
  obtain ⟨c, hc, rfl⟩ := List.mem_map.1 hx
  exact fI_bd c (h c hc)
theorem rT_len (l : List Int) : (rT l).length ≤ l.length := by
  induction l with
  | nil => exact Nat.le_refl _
  | cons c t ih =>
    simp only [rT]
    split
    · simp
    · simp only [List.length_cons]; omega
theorem tr_len (l : List Int) : (trI l).length ≤ l.length :=
  Nat.le_trans (List.dropWhile_sublist _).length_le (rT_len l)
theorem fd_len (l : List Int) : (fdI l).length = l.length := by simp [fdI]

/-- The first of a list whose name is n: its number, or 0. -/
def lk : List (ByteArray × Int) → ByteArray → Int
  | [], _ => 0
  | x :: t, n => if x.1 == n then x.2 else lk t n
end Go.Proofs.YthhjfedegbldfaeDoor
