/- Plain functions on lists of integers that say what the program's UTF-8 functions compute: a first byte, the next piece, all pieces. No condition. -/
namespace Go.Proofs.Ytpjhcecfcjbgoaa.M

def bSize (c : Int) : Int := if c < 128 then 1 else if c < 194 then 0 else if c < 224 then 2 else if c < 240 then 3 else if c < 245 then 4 else 0
def bBits (c : Int) : Int := if c < 128 then c else if c < 194 then 0 else if c < 224 then c % 32 else if c < 240 then c % 16 else if c < 245 then c % 8 else 0
def bLow (c : Int) : Int := if c < 194 then 0 else if c < 224 then 128 else if c = 224 then 160 else if c < 240 then 128 else if c = 240 then 144 else if c < 245 then 128 else 0
def bHigh (c : Int) : Int := if c < 194 then 0 else if c = 237 then 159 else if c < 244 then 191 else if c = 244 then 143 else 0

/-- The rest of a piece: r bytes more; i: how many were read. -/
def go : Nat → Int → Int → Int → Int → List Int → Int × Int × Bool
  | 0, i, p, _, _, _ => (p, i, false)
  | _ + 1, i, _, _, _, [] => (65533, i, true)
  | r + 1, i, p, lo, hi, c :: t => if c < lo ∨ hi < c then (65533, i, false) else go r (i + 1) (p * 64 + c % 64) 128 191 t

def nxt : List Int → Int × Int × Bool
  | [] => (65533, 1, false)
  | c :: t => if bSize c = 0 then (65533, 1, false) else go (bSize c - 1).toNat 1 (bBits c) (bLow c) (bHigh c) t

/-- The pieces of a text, with fuel. -/
def pcs : Nat → List Int → List (Int × Int × Bool)
  | 0, _ => []
  | _ + 1, [] => []
  | n + 1, c :: t => nxt (c :: t) :: pcs n ((c :: t).drop (nxt (c :: t)).2.1.toNat)

theorem go_size : ∀ (r : Nat) (i p lo hi : Int) (l : List Int), i ≤ (go r i p lo hi l).2.1 ∧ (go r i p lo hi l).2.1 ≤ i + r ∧ (go r i p lo hi l).2.1 ≤ i + l.length := by
  intro r
  induction r with
  | zero => intro i p lo hi l; simp [go]; omega
  | succ r ih =>
    intro i p lo hi l
    cases l with
    | nil => simp [go]; omega
    | cons c t =>
      simp only [go]
      split
      · simp; omega
      · have := ih (i + 1) (p * 64 + c % 64) 128 191 t
        simp only [List.length_cons]
        omega

theorem bSize_bd (c : Int) : 0 ≤ bSize c ∧ bSize c ≤ 4 := by
  unfold bSize; split <;> (try split) <;> (try split) <;> (try split) <;> (try split) <;> omega

theorem nxt_size (c : Int) (t : List Int) : 1 ≤ (nxt (c :: t)).2.1 ∧ (nxt (c :: t)).2.1 ≤ 4 ∧ (nxt (c :: t)).2.1 ≤ (c :: t).length := by
  have hb := bSize_bd c
  simp only [nxt]
  split
  · simp; omega
  · have := go_size (bSize c - 1).toNat 1 (bBits c) (bLow c) (bHigh c) t
    simp only [List.length_cons]
    omega

theorem nxt_size' (l : List Int) (h : 0 < l.length) : 1 ≤ (nxt l).2.1 ∧ (nxt l).2.1 ≤ 4 ∧ (nxt l).2.1 ≤ l.length := by
  cases l with
  | nil => simp at h
  | cons c t => exact nxt_size c t

theorem pcs_fuel : ∀ (n m : Nat) (l : List Int), l.length ≤ n → l.length ≤ m → pcs n l = pcs m l := by
  intro n
  induction n with
  | zero => intro m l h1 h2; have : l = [] := by cases l with | nil => rfl | cons => simp at h1
            subst this; cases m <;> simp [pcs]
  | succ n ih =>
    intro m l h1 h2
    cases l with
    | nil => cases m <;> simp [pcs]
    | cons c t =>
      cases m with
      | zero => simp at h2
      | succ m =>
        simp only [pcs]
        have hs := nxt_size c t
        rw [ih m]
        · simp only [List.length_drop]; simp only [List.length_cons] at *; omega
        · simp only [List.length_drop]; simp only [List.length_cons] at *; omega

/-- All pieces. -/
def pieces (l : List Int) : List (Int × Int × Bool) := pcs l.length l
theorem pieces_nil : pieces [] = [] := rfl
theorem pieces_cons (c : Int) (t : List Int) : pieces (c :: t) = nxt (c :: t) :: pieces ((c :: t).drop (nxt (c :: t)).2.1.toNat) := by
  have hs := nxt_size c t
  show pcs (t.length + 1) (c :: t) = _
  simp only [pcs]
  congr 1
  refine pcs_fuel _ _ _ ?_ (Nat.le_refl _)
  simp only [List.length_drop, List.length_cons]; omega
theorem pieces_ne {l : List Int} (h : l ≠ []) : pieces l = nxt l :: pieces (l.drop (nxt l).2.1.toNat) := by
  cases l with
  | nil => exact absurd rfl h
  | cons c t => exact pieces_cons c t

def dec (l : List Int) : List Int := (pieces l).map (·.1)
theorem dec_step {pt sz : Int} {op : Bool} (l : List Int) (h : nxt l = (pt, sz, op)) (hn : l ≠ []) : dec l = [pt] ++ dec (l.drop sz.toNat) := by
  unfold dec
  rw [pieces_ne hn, h]
  rfl
/-- What is left at the end: the size of the last piece that is open. -/
def lft (l : List (Int × Int × Bool)) : Int := l.foldl (fun a p => if p.2.2 then p.2.1 else a) 0
def spl (l : List Int) : Int := lft (pieces l)
end Go.Proofs.Ytpjhcecfcjbgoaa.M
