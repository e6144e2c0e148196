/- Plain functions on lists of bytes that say what calls on charsets compute. Conditions stand at each law. -/
import Derived.Test.YtofbghdkmjhniaaDoorRC
import Derived.Test.YtofbghdkmjhniaaDoorRH
namespace Go.Proofs.YtofbghdkmjhniaaDoor

def pSemi (c : Int) : Bool := !(wh c || c == 59)
/-- The letters of charset. -/
def csL : List Int := [99, 104, 97, 114, 115, 101, 116]
def fnd (l : List Int) : Int := findI (strOfNums l)
/-- The label behind a charset, from a place on: its encoding. -/
def chs : Nat → List Int → Nat → Int
  | 0, _, _ => 0
  | n + 1, l, k =>
    if l.length ≤ k then 0 else if bgn l k csL = false then chs n l (k + 1) else
    if l.length ≤ run wh l (k + 7) ∨ l.getD (run wh l (k + 7)) 0 ≠ 61 then chs n l (run wh l (k + 7)) else
    if run wh l (run wh l (k + 7) + 1) < l.length ∧ (l.getD (run wh l (run wh l (k + 7) + 1)) 0 = 34 ∨ l.getD (run wh l (run wh l (k + 7) + 1)) 0 = 39) then
      if l.length ≤ run (pNot (l.getD (run wh l (run wh l (k + 7) + 1)) 0)) l (run wh l (run wh l (k + 7) + 1) + 1) then 0
      else fnd (cut l (run wh l (run wh l (k + 7) + 1) + 1) (run (pNot (l.getD (run wh l (run wh l (k + 7) + 1)) 0)) l (run wh l (run wh l (k + 7) + 1) + 1)))
    else fnd (cut l (run wh l (run wh l (k + 7) + 1)) (run pSemi l (run wh l (run wh l (k + 7) + 1))))
def chsF (l : List Int) (k : Nat) : Int := chs (l.length + 1 - k) l k
def chsI (l : List Int) : Int := chsF l 0
theorem bgn_le {l : List Int} {k : Nat} {m : List Int} (h : bgn l k m = true) : k + m.length ≤ l.length := (of_decide_eq_true h).1
theorem chs_more : ∀ (n m : Nat) (l : List Int) (k : Nat), k ≤ l.length → l.length + 1 - k ≤ n → l.length + 1 - k ≤ m → chs n l k = chs m l k
  | 0, _, l, k, hk, hn, _ => by omega
  | n + 1, 0, l, k, hk, _, hm => by omega
  | n + 1, m + 1, l, k, hk, hn, hm => by
    unfold chs
    split
    · rfl
    · split
      · exact chs_more n m l (k + 1) (by omega) (by omega) (by omega)
      · rename_i h1 h2
        have hb : k + 7 ≤ l.length := bgn_le (l := l) (k := k) (m := csL) (by simpa using h2)
        have g1 := run_ge wh l (k + 7)
        have e1 := run_le wh l hb
        split
        · exact chs_more n m l _ e1 (by omega) (by omega)
        · rfl
theorem chsF_end {l : List Int} {k : Nat} (hk : k = l.length) : chsF l k = 0 := by
  subst hk
  unfold chsF
  rw [show l.length + 1 - l.length = 0 + 1 from by omega]
  unfold chs
  rw [if_pos (Nat.le_refl _)]
theorem chsF_at {l : List Int} {k : Nat} (hk : k < l.length) : chsF l k = chs ((l.length - k) + 1) l k := by
  unfold chsF; rw [show l.length + 1 - k = (l.length - k) + 1 from by omega]
theorem chsF_no {l : List Int} {k : Nat} (hk : k < l.length) (h : bgn l k csL = false) : chsF l k = chsF l (k + 1) := by
  rw [chsF_at hk]
  unfold chs
  rw [if_neg (by omega), if_pos h]
  exact chs_more _ _ l (k + 1) (by omega) (by omega) (by omega)
theorem chsF_none {l : List Int} {k a1 : Nat} (hk : k < l.length) (h : bgn l k csL = true) (h1 : run wh l (k + 7) = a1) (h' : l.length ≤ a1 ∨ l.getD a1 0 ≠ 61) : chsF l k = chsF l a1 := by
  have hb : k + 7 ≤ l.length := bgn_le h
  have g1 := run_ge wh l (k + 7)
  have e1 := run_le wh l hb
  rw [chsF_at hk]
  unfold chs
  subst h1
  rw [if_neg (by omega), if_neg (by simp [h]), if_pos h']
  exact chs_more _ _ l _ e1 (by omega) (by omega)
theorem chsF_quote {l : List Int} {k a1 a2 a3 : Nat} (hk : k < l.length) (h : bgn l k csL = true) (h1 : run wh l (k + 7) = a1) (h' : ¬ (l.length ≤ a1 ∨ l.getD a1 0 ≠ 61)) (h2 : run wh l (a1 + 1) = a2) (hq : a2 < l.length ∧ (l.getD a2 0 = 34 ∨ l.getD a2 0 = 39)) (h3 : run (pNot (l.getD a2 0)) l (a2 + 1) = a3) :
    chsF l k = if l.length ≤ a3 then 0 else fnd (cut l (a2 + 1) a3) := by
  rw [chsF_at hk]
  unfold chs
  subst h1; subst h2; subst h3
  rw [if_neg (by omega), if_neg (by simp [h]), if_neg h', if_pos hq]
theorem chsF_bare {l : List Int} {k a1 a2 a3 : Nat} (hk : k < l.length) (h : bgn l k csL = true) (h1 : run wh l (k + 7) = a1) (h' : ¬ (l.length ≤ a1 ∨ l.getD a1 0 ≠ 61)) (h2 : run wh l (a1 + 1) = a2) (hq : ¬ (a2 < l.length ∧ (l.getD a2 0 = 34 ∨ l.getD a2 0 = 39))) (h3 : run pSemi l a2 = a3) :
    chsF l k = fnd (cut l a2 a3) := by
  rw [chsF_at hk]
  unfold chs
  subst h1; subst h2; subst h3
  rw [if_neg (by omega), if_neg (by simp [h]), if_neg h', if_neg hq]
theorem pSemi_n {c : Int} (h : wh c = false) (h' : (c == 59) = false) : pSemi c = true := by unfold pSemi; rw [h, h']; rfl
theorem pSemi_w {c : Int} (h : wh c = true) : pSemi c = false := by unfold pSemi; rw [h]; rfl
end Go.Proofs.YtofbghdkmjhniaaDoor
