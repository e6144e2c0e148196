/- Laws that the statements of this seat lean on, part 1 (Math MathB MathM MathL Base RG MathN RA RB RC RH MathO MathV5 MathW5 RJ): each a contract of a function, or a plain fact; conditions stand at each. -/
import Derived.BigQuiet
import Derived.Deep.CutBlock
import Derived.Deep.DeepCutAuto
import Derived.Deep.QuietTactic
import Derived.Laws.AppendOwnNone
import Derived.Laws.BitsLemmas
import Derived.Laws.BytesArg
import Derived.Laws.IdiomStrings
import Derived.Lib.Strings
import Derived.ProofKit
import Derived.WalkKit
import Derived.WalkSmall
import Derived.Test.YtaiinjfnkmidbaaGreatDoorRows
namespace Go.Proofs.YtaiinjfnkmidbaaGreatDoor.M

def bSize (c : Int) : Int := if c < 128 then 1 else if c < 194 then 0 else if c < 224 then 2 else if c < 240 then 3 else if c < 245 then 4 else 0
def bBits (c : Int) : Int := if c < 128 then c else if c < 194 then 0 else if c < 224 then c % 32 else if c < 240 then c % 16 else if c < 245 then c % 8 else 0
def bLow (c : Int) : Int := if c < 194 then 0 else if c < 224 then 128 else if c = 224 then 160 else if c < 240 then 128 else if c = 240 then 144 else if c < 245 then 128 else 0
def bHigh (c : Int) : Int := if c < 194 then 0 else if c = 237 then 159 else if c < 244 then 191 else if c = 244 then 143 else 0

/-- The rest of a piece: r bytes more; i: how many were read. -/
def go : Nat → Int → Int → Int → Int → List Int → Int × Int × Bool
  | 0, i, p, _, _, _ => (p, i, false)
  | _ + 1, i, _, _, _, [] => (65533, i, true)
  | r + 1, i, p, lo, hi, c :: t => if c < lo ∨ hi < c then (65533, i, false) else go r (i + 1) (p * 64 + c % 64) 128 191 t

def nxt : List Int → Int × Int × Bool
  | [] => (65533, 1, false)
  | c :: t => if bSize c = 0 then (65533, 1, false) else go (bSize c - 1).toNat 1 (bBits c) (bLow c) (bHigh c) t

/-- The pieces of a text, with fuel. -/
def pcs : Nat → List Int → List (Int × Int × Bool)
  | 0, _ => []
  | _ + 1, [] => []
  | n + 1, c :: t => nxt (c :: t) :: pcs n ((c :: t).drop (nxt (c :: t)).2.1.toNat)

theorem go_size : ∀ (r : Nat) (i p lo hi : Int) (l : List Int), i ≤ (go r i p lo hi l).2.1 ∧ (go r i p lo hi l).2.1 ≤ i + r ∧ (go r i p lo hi l).2.1 ≤ i + l.length := by
  intro r
  induction r with
  | zero => intro i p lo hi l; simp [go]; omega
  | succ r ih =>
    intro i p lo hi l
    cases l with
    | nil => simp [go]; omega
    | cons c t =>
      simp only [go]
      split
      · simp; omega
      · have := ih (i + 1) (p * 64 + c % 64) 128 191 t
        simp only [List.length_cons]
        omega

theorem bSize_bd (c : Int) : 0 ≤ bSize c ∧ bSize c ≤ 4 := by
  unfold bSize; split <;> (try split) <;> (try split) <;> (try split) <;> (try split) <;> omega

theorem nxt_size (c : Int) (t : List Int) : 1 ≤ (nxt (c :: t)).2.1 ∧ (nxt (c :: t)).2.1 ≤ 4 ∧ (nxt (c :: t)).2.1 ≤ (c :: t).length := by
  have hb := bSize_bd c
  simp only [nxt]
  split
  · simp; omega
  · have := go_size (bSize c - 1).toNat 1 (bBits c) (bLow c) (bHigh c) t
    simp only [List.length_cons]
    omega

theorem nxt_size' (l : List Int) (h : 0 < l.length) : 1 ≤ (nxt l).2.1 ∧ (nxt l).2.1 ≤ 4 ∧ (nxt l).2.1 ≤ l.length := by
  cases l with
  | nil => simp at h
  | cons c t => exact nxt_size c t

theorem pcs_fuel : ∀ (n m : Nat) (l : List Int), l.length ≤ n → l.length ≤ m → pcs n l = pcs m l := by
  intro n
  induction n with
  | zero => intro m l h1 h2; have : l = [] := by cases l with | nil => rfl | cons => simp at h1
            subst this; cases m <;> simp [pcs]
  | succ n ih =>
    intro m l h1 h2
    cases l with
    | nil => cases m <;> simp [pcs]
    | cons c t =>
      cases m with
      | zero => simp at h2
      | succ m =>
        simp only [pcs]
        have hs := nxt_size c t
        rw [ih m]
        · simp only [List.length_drop]; simp only [List.length_cons] at *; omega
        · simp only [List.length_drop]; simp only [List.length_cons] at *; omega

/-- All pieces. -/
def pieces (l : List Int) : List (Int × Int × Bool) := pcs l.length l
theorem pieces_nil : pieces [] = [] := rfl
theorem pieces_cons (c : Int) (t : List Int) : pieces (c :: t) = nxt (c :: t) :: pieces ((c :: t).drop (nxt (c :: t)).2.1.toNat) := by
  have hs := nxt_size c t
  show pcs (t.length + 1) (c :: t) = _
  simp only [pcs]
  congr 1
  refine pcs_fuel _ _ _ ?_ (Nat.le_refl _)
  simp only [List.length_drop, List.length_cons]; omega
theorem pieces_ne {l : List Int} (h : l ≠ []) : pieces l = nxt l :: pieces (l.drop (nxt l).2.1.toNat) := by
  cases l with
  | nil => exact absurd rfl h
  | cons c t => exact pieces_cons c t

def dec (l : List Int) : List Int := (pieces l).map (·.1)
theorem dec_step {pt sz : Int} {op : Bool} (l : List Int) (h : nxt l = (pt, sz, op)) (hn : l ≠ []) : dec l = [pt] ++ dec (l.drop sz.toNat) := by
  unfold dec
  rw [pieces_ne hn, h]
  rfl
/-- What is left at the end: the size of the last piece that is open. -/
def lft (l : List (Int × Int × Bool)) : Int := l.foldl (fun a p => if p.2.2 then p.2.1 else a) 0
def spl (l : List Int) : Int := lft (pieces l)
end Go.Proofs.YtaiinjfnkmidbaaGreatDoor.M

namespace Go.Proofs.YtaiinjfnkmidbaaGreatDoor.M
def sclr (n : Int) : Bool := decide (0 ≤ n ∧ n ≤ 1114111 ∧ (n < 55296 ∨ 57343 < n))
def enc1 (n : Int) : List Int :=
  if n < 128 then [n] else if n < 2048 then [192 + n / 64, 128 + n % 64]
  else if n < 65536 then [224 + n / 4096, 128 + n / 64 % 64, 128 + n % 64]
  else [240 + n / 262144, 128 + n / 4096 % 64, 128 + n / 64 % 64, 128 + n % 64]
def enc (l : List Int) : List Int := l.flatMap enc1
theorem enc_snoc (l : List Int) (n : Int) : enc (l ++ [n]) = enc l ++ enc1 n := by simp [enc]
theorem enc1_len (n : Int) : 1 ≤ (enc1 n).length ∧ (enc1 n).length ≤ 4 := by
  unfold enc1; split <;> (try split) <;> (try split) <;> simp
theorem enc_len (l : List Int) : (enc l).length ≤ 4 * l.length := by
  induction l with
  | nil => simp [enc]
  | cons n l ih => have := enc1_len n; simp only [enc, List.flatMap_cons, List.length_append, List.length_cons] at *; omega
end Go.Proofs.YtaiinjfnkmidbaaGreatDoor.M

namespace Go.Proofs.YtaiinjfnkmidbaaGreatDoor.M

/-- An encoding's mark. -/
def mkL (n : Int) : List Int := if n = 1 then [239, 187, 191] else if n = 2 then [255, 254] else if n = 3 then [254, 255] else []
/-- The encoding whose mark stands at a text's beginning, and how many bytes that has. -/
def sn (l : List Int) : Int × Int := if [239, 187, 191] <+: l then (1, 3) else if [254, 255] <+: l then (3, 2) else if [255, 254] <+: l then (2, 2) else (0, 0)
def may (l : List Int) : Bool := decide (l = [] ∨ l = [239] ∨ l = [239, 187] ∨ l = [254] ∨ l = [255])
theorem pre3 (a b c : Int) (l : List Int) : [a, b, c] <+: l ↔ ∃ t, l = a :: b :: c :: t := by
  constructor
  · rintro ⟨t, rfl⟩; exact ⟨t, rfl⟩
  · rintro ⟨t, rfl⟩; exact ⟨t, rfl⟩
theorem pre2 (a b : Int) (l : List Int) : [a, b] <+: l ↔ ∃ t, l = a :: b :: t := by
  constructor
  · rintro ⟨t, rfl⟩; exact ⟨t, rfl⟩
  · rintro ⟨t, rfl⟩; exact ⟨t, rfl⟩
theorem sn_1 (t : List Int) : sn (239 :: 187 :: 191 :: t) = (1, 3) := by
  unfold sn; rw [if_pos ((pre3 _ _ _ _).2 ⟨t, rfl⟩)]
theorem sn_3 (t : List Int) : sn (254 :: 255 :: t) = (3, 2) := by
  unfold sn; rw [if_neg (by rw [pre3]; rintro ⟨u, h⟩; simp at h), if_pos ((pre2 _ _ _).2 ⟨t, rfl⟩)]
theorem sn_2 (t : List Int) : sn (255 :: 254 :: t) = (2, 2) := by
  unfold sn; rw [if_neg (by rw [pre3]; rintro ⟨u, h⟩; simp at h), if_neg (by rw [pre2]; rintro ⟨u, h⟩; simp at h), if_pos ((pre2 _ _ _).2 ⟨t, rfl⟩)]
/-- A text has a mark, or none. -/
theorem sn_cases (l : List Int) : (∃ t, l = 239 :: 187 :: 191 :: t ∧ sn l = (1, 3)) ∨ (∃ t, l = 254 :: 255 :: t ∧ sn l = (3, 2)) ∨ (∃ t, l = 255 :: 254 :: t ∧ sn l = (2, 2)) ∨ (sn l = (0, 0) ∧ ¬ [239, 187, 191] <+: l ∧ ¬ [254, 255] <+: l ∧ ¬ [255, 254] <+: l) := by
  by_cases h1 : [239, 187, 191] <+: l
  · obtain ⟨t, rfl⟩ := (pre3 _ _ _ _).1 h1
    exact .inl ⟨t, rfl, sn_1 t⟩
  · by_cases h2 : [254, 255] <+: l
    · obtain ⟨t, rfl⟩ := (pre2 _ _ _).1 h2
      exact .inr (.inl ⟨t, rfl, sn_3 t⟩)
    · by_cases h3 : [255, 254] <+: l
      · obtain ⟨t, rfl⟩ := (pre2 _ _ _).1 h3
        exact .inr (.inr (.inl ⟨t, rfl, sn_2 t⟩))
      · refine .inr (.inr (.inr ⟨?_, h1, h2, h3⟩))
        unfold sn; rw [if_neg h1, if_neg h2, if_neg h3]
theorem sn_some {l : List Int} (h : (sn l).1 ≠ 0) (m : List Int) : sn (l ++ m) = sn l ∧ may l = false := by
  rcases sn_cases l with ⟨t, rfl, e⟩ | ⟨t, rfl, e⟩ | ⟨t, rfl, e⟩ | ⟨e, _⟩
  · rw [e]; exact ⟨sn_1 _, by simp [may]⟩
  · rw [e]; exact ⟨sn_3 _, by simp [may]⟩
  · rw [e]; exact ⟨sn_2 _, by simp [may]⟩
  · rw [e] at h; exact absurd rfl h
theorem sn_none {l : List Int} (h : (sn l).1 = 0) (hm : may l = false) (m : List Int) : (sn (l ++ m)).1 = 0 := by
  rcases sn_cases l with ⟨t, rfl, e⟩ | ⟨t, rfl, e⟩ | ⟨t, rfl, e⟩ | ⟨e, h1, h2, h3⟩
  · rw [e] at h; cases h
  · rw [e] at h; cases h
  · rw [e] at h; cases h
  · unfold may at hm
    rw [decide_eq_false_iff_not] at hm
    have g1 : ¬ [239, 187, 191] <+: l ++ m := by
      intro hp
      rcases List.prefix_or_prefix_of_prefix hp (List.prefix_append l m) with q | q
      · exact h1 q
      · obtain ⟨t, ht⟩ := q
        rcases l with _ | ⟨a, _ | ⟨b, _ | ⟨c, l⟩⟩⟩
        · simp at hm
        · simp at ht hm; omega
        · simp at ht hm; omega
        · simp at ht
          exact h1 ⟨l, by simp [ht.1, ht.2.1, ht.2.2.1]⟩
    have g2 : ¬ [254, 255] <+: l ++ m := by
      intro hp
      rcases List.prefix_or_prefix_of_prefix hp (List.prefix_append l m) with q | q
      · exact h2 q
      · obtain ⟨t, ht⟩ := q
        rcases l with _ | ⟨a, _ | ⟨b, l⟩⟩
        · simp at hm
        · simp at ht hm; omega
        · simp at ht
          exact h2 ⟨l, by simp [ht.1, ht.2.1]⟩
    have g3 : ¬ [255, 254] <+: l ++ m := by
      intro hp
      rcases List.prefix_or_prefix_of_prefix hp (List.prefix_append l m) with q | q
      · exact h3 q
      · obtain ⟨t, ht⟩ := q
        rcases l with _ | ⟨a, _ | ⟨b, l⟩⟩
        · simp at hm
        · simp at ht hm; omega
        · simp at ht
          exact h3 ⟨l, by simp [ht.1, ht.2.1]⟩
    unfold sn; rw [if_neg g1, if_neg g2, if_neg g3]
end Go.Proofs.YtaiinjfnkmidbaaGreatDoor.M

namespace Go.Proofs.YtaiinjfnkmidbaaGreatDoor

def Byt (l : List Int) : Prop := ∀ x ∈ l, 0 ≤ x ∧ x ≤ 255
/-- White bytes. -/
def wh (c : Int) : Bool := decide (c = 32 ∨ c = 9 ∨ c = 10 ∨ c = 12 ∨ c = 13)
/-- Without the white ones at the end. -/
def rT : List Int → List Int
  | [] => []
  | c :: t => if wh c && (rT t).isEmpty then [] else c :: rT t
def trI (l : List Int) : List Int := (rT l).dropWhile wh

theorem tr_comm (l : List Int) : rT (l.dropWhile wh) = trI l := by
  unfold trI
  induction l with
  | nil => rfl
  | cons c t ih =>
    by_cases h : wh c = true
    · rw [List.dropWhile_cons_of_pos h, ih]
      simp only [rT, h, Bool.true_and]
      by_cases he : rT t = []
      · rw [he]; simp
      · have : (rT t).isEmpty = false := by simpa using he
        rw [this]
        simp [h]
    · have h' : wh c = false := by simpa using h
      rw [List.dropWhile_cons_of_neg h]
      simp only [rT, h', Bool.false_and]
      simp [h']

theorem rT_snoc (t : List Int) (c : Int) : rT (t ++ [c]) = if wh c then rT t else t ++ [c] := by
  induction t with
  | nil =>
    simp only [List.nil_append, rT]
    by_cases h : wh c = true
    · simp [h]
    · simp [h]
  | cons d t ih =>
    simp only [List.cons_append, rT, ih]
    by_cases h : wh c = true
    · simp [h]
    · simp [h]

theorem rT_eq (l : List Int) : rT l = (l.reverse.dropWhile wh).reverse := by
  induction l with
  | nil => rfl
  | cons c t ih =>
    rw [List.reverse_cons, List.dropWhile_append]
    simp only [rT, ih]
    by_cases he : t.reverse.dropWhile wh = []
    · rw [he]
      by_cases h : wh c = true <;> simp [h]
    · have h1 : (t.reverse.dropWhile wh).isEmpty = false := by simpa using he
      have h2 : (t.reverse.dropWhile wh).reverse.isEmpty = false := by simpa using he
      rw [h1, h2]
      simp

def fI (c : Int) : Int := if 65 ≤ c ∧ c ≤ 90 then c + 32 else c
def fdI (l : List Int) : List Int := l.map fI

theorem wh_fI (c : Int) : wh (fI c) = wh c := by
  unfold wh fI
  rw [Bool.eq_iff_iff]
  simp only [decide_eq_true_eq]
  split <;> omega
theorem fI_fI (c : Int) : fI (fI c) = fI c := by
  unfold fI
  split <;> (try split) <;> omega
theorem fI_bd (c : Int) (h : 0 ≤ c ∧ c ≤ 255) : 0 ≤ fI c ∧ fI c ≤ 255 := by
  unfold fI
  split <;> omega

theorem fd_dropWhile (l : List Int) : (fdI l).dropWhile wh = fdI (l.dropWhile wh) := by
  unfold fdI
  induction l with
  | nil => rfl
  | cons c t ih =>
    by_cases h : wh c = true
    · rw [List.map_cons, List.dropWhile_cons_of_pos (by rw [wh_fI]; exact h), List.dropWhile_cons_of_pos h, ih]
    · rw [List.map_cons, List.dropWhile_cons_of_neg (by rw [wh_fI]; exact h), List.dropWhile_cons_of_neg h, List.map_cons]
theorem fd_rT (l : List Int) : rT (fdI l) = fdI (rT l) := by
  induction l with
  | nil => rfl
  | cons c t ih =>
    show rT (fI c :: fdI t) = fdI (rT (c :: t))
    simp only [rT, ih, wh_fI]
    have : (fdI (rT t)).isEmpty = (rT t).isEmpty := by unfold fdI; cases rT t <;> rfl
    rw [this]
    split <;> rfl
theorem fd_tr (l : List Int) : trI (fdI l) = fdI (trI l) := by
  unfold trI; rw [fd_rT, fd_dropWhile]
theorem fd_fd (l : List Int) : fdI (fdI l) = fdI l := by
  unfold fdI; rw [List.map_map]; apply List.map_congr_left; intro c _; exact fI_fI c

theorem rT_mem (l : List Int) : ∀ x ∈ rT l, x ∈ l := by
  induction l with
  | nil => intro x hx; exact hx
  | cons c t ih =>
    intro x hx
    simp only [rT] at hx
    split at hx
    · simp at hx
    · rcases List.mem_cons.1 hx with rfl | hx
      · exact List.mem_cons_self ..
      · exact List.mem_cons_of_mem _ (ih x hx)
theorem tr_byt {l : List Int} (h : Byt l) : Byt (trI l) := fun x hx => h x (rT_mem l x (List.dropWhile_subset _ hx))
theorem fd_byt {l : List Int} (h : Byt l) : Byt (fdI l) := by
  intro x hx
  unfold fdI at hx
  obtain ⟨c, hc, rfl⟩ := List.mem_map.1 hx
  exact fI_bd c (h c hc)
theorem rT_len (l : List Int) : (rT l).length ≤ l.length := by
  induction l with
  | nil => exact Nat.le_refl _
  | cons c t ih =>
    simp only [rT]
    split
    · simp
    · simp only [List.length_cons]; omega
theorem tr_len (l : List Int) : (trI l).length ≤ l.length :=
  Nat.le_trans (List.dropWhile_sublist _).length_le (rT_len l)
theorem fd_len (l : List Int) : (fdI l).length = l.length := by simp [fdI]

/-- The first of a list whose name is n: its number, or 0. -/
def lk : List (ByteArray × Int) → ByteArray → Int
  | [], _ => 0
  | x :: t, n => if x.1 == n then x.2 else lk t n
end Go.Proofs.YtaiinjfnkmidbaaGreatDoor

namespace Go.Proofs.YtaiinjfnkmidbaaGreatDoor
open Go.RowKit
set_option linter.unusedVariables false

def bl (s : ByteArray) : List Int := s.data.toList.map (fun u => (u.toNat : Int))
theorem bcell {W w1 : World} (hb : Below W.heap.size W w1) : (∀ b o, b < W.heap.size → w1.cell? ⟨b, o, none⟩ = W.cell? ⟨b, o, none⟩) ∧ (∀ b o, b < W.heap.size → w1.frozen? ⟨b, o, none⟩ = W.frozen? ⟨b, o, none⟩) :=
  ⟨fun b o h => hb.cell (p := ⟨b, o, none⟩) h, fun b o h => hb.frozen (p := ⟨b, o, none⟩) h⟩
theorem bl_len (s : ByteArray) : (bl s).length = s.size := by simp [bl]
theorem bl_drop (s : ByteArray) (k : Nat) (h : k < s.size) : (bl s).drop k = (s[k].toNat : Int) :: (bl s).drop (k + 1) := by
  rw [List.drop_eq_getElem_cons (by rw [bl_len]; exact h)]
  congr 1
  simp [bl]; rfl
theorem bl_0 (s : ByteArray) (h : 0 < s.size) : bl s = (s[0].toNat : Int) :: (bl s).drop 1 := by
  have := bl_drop s 0 h; simpa using this
theorem hide {p : Prop} (h : p) : Hid p := h
theorem unhide {p : Prop} (h : Hid p) : p := h
theorem owns_shape {w : World} {base e size n : Nat} {v : Value} {xs : List Value} (h : w.ownsRow base e size v n xs) : ∃ ao cap, v = .slice ao n cap := by
  rcases h.2 with ⟨rfl, rfl⟩ | ⟨g, cap, cur, rfl, _⟩
  · exact ⟨_, _, rfl⟩
  · exact ⟨_, _, rfl⟩
theorem info3 : (Tryz.prog.info? 3).map (fun i => (i.zero, i.size, i.bytes)) = some (some (.int .i64 0), 1, 8) := by kernel_rfl
theorem info5 : (Tryz.prog.info? 5).map (fun i => (i.zero, i.size, i.bytes)) = some (some (.int .u8 0), 1, 1) := by kernel_rfl
theorem bl_extract (s : ByteArray) (k : Nat) : bl (s.extract k s.size) = (bl s).drop k := by
  simp [bl, ByteArray.data_extract]
  rw [List.take_of_length_le]
  simp
theorem bl_take (s : ByteArray) (k : Nat) : bl (s.extract 0 k) = (bl s).take k := by
  simp [bl, ByteArray.data_extract]
theorem bl_app (s t : ByteArray) : bl (s ++ t) = bl s ++ bl t := by simp [bl]
theorem owns_below {w w1 : World} {base e size n : Nat} {v : Value} {xs : List Value} (h : w.ownsRow base e size v n xs) (hb : Below w.heap.size w w1) : w1.ownsRow base e size v n xs := by
  refine ⟨h.1, ?_⟩
  rcases h.2 with hn | ⟨g, cap, cur, rfl, hg, hh, rest⟩
  · exact .inl hn
  · refine .inr ⟨g, cap, cur, rfl, hg, ?_, rest⟩
    rw [hb.block g (lt_of_block hh)]; exact hh
/-- The slice value v reads xs. -/
def Ints (w : World) (v : Value) (xs : List Int) : Prop :=
  ∃ ao cap, v = .slice ao xs.length cap ∧ xs.length ≤ maxLen ∧ (ao = none → cap = 0) ∧
    (xs = [] ∨ ∃ b off, ao = some ⟨b, off, none⟩ ∧ ∀ i, i < xs.length → w.cell? ⟨b, off + i, none⟩ = some (.int .i64 (xs.getD i 0)))
theorem Ints.below {w w' : World} {v : Value} {xs : List Int} (h : Ints w v xs) (hb : Below w.heap.size w w') : Ints w' v xs := by
  obtain ⟨ao, cap, rfl, hm, hn, h⟩ := h
  refine ⟨ao, cap, rfl, hm, hn, ?_⟩
  rcases h with h | ⟨b, off, rfl, hc⟩
  · exact .inl h
  · exact .inr ⟨b, off, rfl, fun i hi => (hb.cell (p := ⟨b, off + i, none⟩) (World.block_lt_of_cell? w _ (hc i hi))).trans (hc i hi)⟩
theorem Ints.of_owns {w : World} {base : Nat} {v : Value} {xs : List Int} (h : w.ownsRow base 3 1 v xs.length (xs.map (Value.int .i64))) : Ints w v xs := by
  rcases h.2 with ⟨rfl, hn⟩ | ⟨g, cap, cur, rfl, hg, hh, h1, h2, _⟩
  · refine ⟨none, 0, by rw [hn], by rw [hn]; simp, fun _ => rfl, .inl (List.eq_nil_of_length_eq_zero hn)⟩
  · refine ⟨_, cap, rfl, by omega, (fun e => by cases e), .inr ⟨g, 0, rfl, fun i hi => ?_⟩⟩
    have := h.cells (g := g) rfl i (.int .i64 (xs.getD i 0)) (by simp [hi])
    by_cases h0 : i = 0
    · subst h0; simpa [Addr.add] using this
    · simpa [Addr.add, h0] using this
theorem Ints.nil (w : World) : Ints w (.slice none 0 0) [] := ⟨none, 0, rfl, by simp, fun _ => rfl, .inl rfl⟩
theorem ret_bool {a b : Bool} (h : a = b) : Ending.returned (.bool a) = .returned (.bool b) := by rw [h]
theorem ret_int {k : IntKind} {a b : Int} (h : a = b) : Ending.returned (.int k a) = .returned (.int k b) := by rw [h]
theorem and63 (x : Int) (h0 : 0 ≤ x) (h1 : x < 2 ^ 62) : bits .and .i64 x 63 = x % 64 :=
  bits_mask .i64 62 (by decide) (fun n h h' => by rw [IntKind.wrap_i64]; omega) 6 (by decide) x h0 h1
theorem or_at (i : Nat) (x y : Int) (hx₀ : 0 ≤ x) (hx : x % 2 ^ i = 0) (hx₁ : x < 2 ^ 62) (hy₀ : 0 ≤ y) (hy : y < 2 ^ i) (hy₁ : y < 2 ^ 62) : bits .or .i64 x y = x + y :=
  bits_join .i64 62 (by decide) (fun n h h' => by rw [IntKind.wrap_i64]; omega) i x y hx₀ hx hx₁ hy₀ hy hy₁
theorem bstep {a b c : World} (h : Below a.heap.size a b) (k : Below b.heap.size b c) : Below a.heap.size a c := h.trans (k.mono h.size)
theorem balloc (a : World) (o : Obj) : Below a.heap.size a (a.alloc o) := (Below.refl _ _).alloc (Nat.le_refl _) o
theorem take_snoc (xs : List Int) (k : Nat) (h : k < xs.length) : xs.take (k + 1) = xs.take k ++ [xs.getD k 0] := by
  rw [List.take_succ_eq_append_getElem h]; simp [h]
theorem bl_byt (s : ByteArray) : ∀ x ∈ bl s, 0 ≤ x ∧ x ≤ 255 := by
  intro x hx
  simp only [bl, List.mem_map] at hx
  obtain ⟨u, _, rfl⟩ := hx
  have := u.toNat_lt
  omega
theorem str_bl (s : ByteArray) : strOfNums (bl s) = s := by
  cases s with
  | mk d =>
    have e : ((fun n : Int => UInt8.ofNat n.toNat) ∘ fun u : UInt8 => (u.toNat : Int)) = id := by funext u; simp
    simp only [strOfNums, bl, List.map_map, e, List.map_id]
theorem bl_str (xs : List Int) (h : ∀ x ∈ xs, 0 ≤ x ∧ x ≤ 255) : bl (strOfNums xs) = xs := by
  unfold bl
  rw [strOfNums_data, List.map_map]
  conv => rhs; rw [← List.map_id xs]
  apply List.map_congr_left
  intro x hx
  have := h x hx
  simp only [Function.comp, id]
  rw [UInt8.toNat_ofNat']
  omega
/-- What a walk is told of a slice of integers that came in. -/
def IsRow (k : IntKind) (w : World) (a : Option Addr) (len cap : Nat) (zs : List Int) : Prop :=
  (a = none ∧ len = 0 ∧ cap = 0 ∧ zs = []) ∨
  ∃ x, a = some x ∧ len ≤ cap ∧ cap ≤ maxLen ∧ zs.length = cap ∧ (∀ i, i < zs.length → w.cell? (x.add i) = some (.int k (zs.getD i 0))) ∧ ∀ n ∈ zs, (Lit.int k n).wf = true
theorem Ints.of_row {w : World} {a : Option Addr} {len cap : Nat} {zs : List Int} (h : IsRow .i64 w a len cap zs) : Ints w (.slice a len cap) (zs.take len) := by
  rcases h with ⟨rfl, rfl, rfl, rfl⟩ | ⟨x, rfl, h1, h2, h3, hc, _⟩
  · exact Ints.nil w
  · have hl : (zs.take len).length = len := by rw [List.length_take]; omega
    refine ⟨some x, cap, by rw [hl], by rw [hl]; omega, (fun e => by cases e), ?_⟩
    by_cases h0 : len = 0
    · exact .inl (by rw [h0]; rfl)
    · obtain ⟨b, off, spot⟩ := x
      have hc0 := hc 0 (by omega)
      have hspot : spot = none := by simpa [Addr.add] using World.cell?_spot hc0
      subst hspot
      refine .inr ⟨b, off, rfl, fun i hi => ?_⟩
      rw [hl] at hi
      have := hc i (by omega)
      have e : (zs.take len).getD i 0 = zs.getD i 0 := by simp [hi]
      rw [e]
      by_cases hi0 : i = 0
      · subst hi0; simpa [Addr.add] using this
      · simpa [Addr.add, hi0] using this
theorem append_ints {w : World} {ops : Array Oper} {rest : List Oper} {o : Oper} {a : Act} {Q : Exit → Act → World → Prop} (hw : Region.wanted o (yielded ops a.tmps) = true) (s x : Operand)
    (ho : o.op = .call { callee := .builtin .append, args := #[s, x], argTypes := #[31, 31] }) (base : Nat) (v : Value) (xs : List Int) (hs : a.eval s = v)
    (hown : w.ownsRow base 3 1 v xs.length (xs.map (Value.int .i64))) (u : Value) (ys : List Int) (hx : a.eval x = u) (hI : Ints w u ys) (hlen : xs.length + ys.length ≤ 100000) (hbase : base ≤ w.heap.size)
    (h : ∀ v' w', w'.ownsRow base 3 1 v' (xs ++ ys).length ((xs ++ ys).map (Value.int .i64)) → Below base w w' → wpList Tryz.prog ops Q rest (a.put o.dst v') w') : wpList Tryz.prog ops Q (o :: rest) a w := by
  obtain ⟨i0, hi, hz0, hz1, hz2⟩ := info_parts info3
  obtain ⟨ao, cap, rfl, hm, hn, hc⟩ := hI
  refine BigFrame.wpList_want hw fun K hK => ?_
  cases ao with
  | none =>
    have hy : ys = [] := by
      rcases hc with hc | ⟨b, off, e, _⟩
      · exact hc
      · cases e
    subst hy
    have hcap := hn rfl
    subst hcap
    have hrun := run_append_owned_none (P := Tryz.prog) (w := w) base 31 o.type 3 i0 1 Tryz.underlying31 hi v _ _ hown
    have hK' := hK _ _ (h v w (by simpa using hown) (Below.refl _ _))
    unfold Oper.wp
    simp only [List.length_nil] at hx
    simp [execOp, ho, resolve, invoke, builtin, hs, hx, hrun, Result.andThen]
    exact hK'
  | some ad =>
    refine wp_append_own w s x 31 ho base 3 i0 (.int .i64 0) 1 8 Tryz.underlying31 hi hz0 hz1 hz2 rfl (by decide) v _ _ hs hown ad ys.length cap (ys.map (Value.int .i64)) hx (by simp) ?_ ?_ (by unfold maxLen; omega) (by omega) hbase ?_
    · intro j u hj
      have hjl : j < ys.length := by
        rcases Nat.lt_or_ge j ys.length with h | h
        · exact h
        · simp [List.getElem?_eq_none (show (ys.map (Value.int .i64)).length ≤ j by simpa using h)] at hj
      rcases hc with hc | ⟨b, off, e, hc⟩
      · subst hc; simp at hjl
      · cases e
        have := hc j hjl
        simp [hjl] at hj
        subst hj
        by_cases hj0 : j = 0
        · subst hj0; simpa [Addr.add, hjl] using this
        · simpa [Addr.add, hj0, hjl] using this
    · intro u hu
      simp at hu
      obtain ⟨y, _, rfl⟩ := hu
      rfl
    · intro v' w' h1 h2 _
      refine hK _ _ (h v' w' (by simpa using h1) ((Below.refl _ _).grown h2 hbase (fun k hk => (hown.lt k hk).1)))
theorem one_int (w : World) (a : Int) : Ints (w.alloc (.cells #[.int .i64 a] 3)) (.slice (some ⟨w.heap.size, 0, none⟩) 1 1) [a] := by
  refine ⟨_, 1, rfl, by simp [maxLen], (fun e => by cases e), .inr ⟨_, _, rfl, ?_⟩⟩
  intro i hi
  match i, hi with
  | 0, _ => simp
theorem two_ints (w : World) (a b : Int) : Ints (w.alloc (.cells #[.int .i64 a, .int .i64 b] 3)) (.slice (some ⟨w.heap.size, 0, none⟩) 2 2) [a, b] := by
  refine ⟨_, 2, rfl, by simp [maxLen], (fun e => by cases e), .inr ⟨_, _, rfl, ?_⟩⟩
  intro i hi
  match i, hi with
  | 0, _ => simp
  | 1, _ => simp
theorem three_ints (w : World) (a b c : Int) : Ints (w.alloc (.cells #[.int .i64 a, .int .i64 b, .int .i64 c] 3)) (.slice (some ⟨w.heap.size, 0, none⟩) 3 3) [a, b, c] := by
  refine ⟨_, 3, rfl, by simp [maxLen], (fun e => by cases e), .inr ⟨_, _, rfl, ?_⟩⟩
  intro i hi
  match i, hi with
  | 0, _ => simp
  | 1, _ => simp
  | 2, _ => simp
theorem isEmpty_size (r : ByteArray) : r.toList.isEmpty = decide (r.size = 0) := by
  rw [ByteArray.toList_eq, Bool.eq_iff_iff]
  simp only [List.isEmpty_iff, decide_eq_true_eq]
  have : r.data.toList.length = r.size := by simp
  rw [← this]
  exact List.length_eq_zero_iff.symm
theorem str_app (a b : List Int) : strOfNums a ++ strOfNums b = strOfNums (a ++ b) := by
  apply ByteArray.ext
  simp [strOfNums]
theorem conv_owned {w : World} {base : Nat} {v : Value} {xs : List Int} (h : w.ownsRow base 5 1 v xs.length (xs.map (Value.int .u8))) :
    (convert 151 9 v).run Tryz.prog w = .ok (.string (strOfNums xs)) w := by
  rcases h.2 with ⟨rfl, hn⟩ | ⟨g, cap, cur, rfl, hg, hh, h1, h2, _⟩
  · have : xs = [] := List.eq_nil_of_length_eq_zero hn
    subst this
    exact run_convert_bytes_nil w 151 5 Tryz.underlying151 Tryz.underlying5 0 0 9 Tryz.underlying9
  · refine run_convert_bytes_arg w 151 5 Tryz.underlying151 Tryz.underlying5 g 0 xs.length cap xs rfl (fun i hi => ?_) 9 Tryz.underlying9
    have := h.cells (g := g) rfl i (.int .u8 (xs.getD i 0)) (by simp [hi])
    by_cases h0 : i = 0
    · subst h0; simpa [Addr.add] using this
    · simpa [Addr.add, h0] using this
theorem conv_built {w : World} {b : Nat} (ns : List Int) (m cap : Nat) (hm : ns.length = m) (hb : w.heap[b]? = some (.cells (ns.map (Value.int .u8)).toArray 5 (0, 0))) :
    (convert 151 9 (.slice (some ⟨b, 0, none⟩) m cap)).run Tryz.prog w = .ok (.string (strOfNums ns)) w := by
  refine run_convert_bytes_arg w 151 5 Tryz.underlying151 Tryz.underlying5 b 0 m cap ns hm (fun i hi => ?_) 9 Tryz.underlying9
  have hi' : i < ns.length := by omega
  simp [World.cell?, hb, hi']
theorem bl_get (s : ByteArray) (i : Nat) (h : i < s.size) : (bl s)[i]? = some (s[i].toNat : Int) := by
  have h' : i < (bl s).length := by rw [bl_len]; exact h
  rw [List.getElem?_eq_getElem h']
  simp [bl]; rfl
theorem owns_da {w : World} {base e size n : Nat} {v : Value} {xs : List Value} (h : w.ownsRow base e size v n xs) (q : Nat) (o : Obj) : ((w.drewN q).alloc o).ownsRow base e size v n xs :=
  owns_below h ((below_drewN (Below.refl _ _) q).alloc (Nat.le_refl _) o)
theorem owns_a {w : World} {base e size n : Nat} {v : Value} {xs : List Value} (h : w.ownsRow base e size v n xs) (o : Obj) : (w.alloc o).ownsRow base e size v n xs :=
  owns_below h ((Below.refl _ _).alloc (Nat.le_refl _) o)
end Go.Proofs.YtaiinjfnkmidbaaGreatDoor

namespace Go.Proofs.YtaiinjfnkmidbaaGreatDoor
open Go.RowKit
set_option linter.unusedVariables false

set_option maxHeartbeats 400000 in
set_option maxRecDepth 100000 in
theorem isWhite_any (c : Int) (w : World) (h : 0 ≤ c ∧ c < 256) : Calls Tryz.prog 113 #[.int .u8 c] w fun e w' => e = .returned (.bool (wh c)) ∧ w' = w := by
  have HW : Hid (wh c = ((c == 32) || (c == 9) || (c == 10) || (c == 12) || (c == 13))) := by
    show wh c = _
    rw [Bool.eq_iff_iff]; simp [wh]; omega
  rcases (show c = 32 ∨ c = 9 ∨ c = 10 ∨ c = 12 ∨ c = 13 ∨ (c ≠ 32 ∧ c ≠ 9 ∧ c ≠ 10 ∧ c ≠ 12 ∧ c ≠ 13) from by omega) with rfl | rfl | rfl | rfl | rfl | ⟨g1, g2, g3, g4, g5⟩
  all_goals (try (go_enter Tryz.func113, Tryz.ntmps113; go_wp2; go_ret; exact ⟨ret_bool (by rw [unhide HW]; rfl), rfl⟩))
  have h1 : (c == 32) = false := by simp; omega
  have h2 : (c == 9) = false := by simp; omega
  have h3 : (c == 10) = false := by simp; omega
  have h4 : (c == 12) = false := by simp; omega
  have h5 : (c == 13) = false := by simp; omega
  clear g1 g2 g3 g4 g5
  go_enter Tryz.func113, Tryz.ntmps113
  go_wp2
  go_ret
  exact ⟨ret_bool (by rw [unhide HW, h1, h2, h3, h4, h5]; rfl), rfl⟩

set_option maxHeartbeats 400000 in
set_option maxRecDepth 100000 in
theorem between_any (n lo hi : Int) (w : World) : Calls Tryz.prog 51 #[.int .i64 n, .int .i64 lo, .int .i64 hi] w fun e w' => e = .returned (.bool (decide (lo ≤ n) && decide (n ≤ hi))) ∧ w' = w := by
  by_cases h : lo ≤ n
  · go_enter Tryz.func51, Tryz.ntmps51
    go_wp2
    go_ret
    exact ⟨ret_bool (by simp [h]), rfl⟩
  · go_enter Tryz.func51, Tryz.ntmps51
    go_wp2
    go_ret
    exact ⟨ret_bool (by simp; omega), rfl⟩

def szOf : Value → Nat
  | .string b => b.size
  | _ => 0

theorem bl_ne {r : ByteArray} (h : 0 < r.size) : bl r ≠ [] := fun e => by have := congrArg List.length e; rw [bl_len] at this; simp only [List.length_nil] at this; omega
theorem bl_last (r : ByteArray) (h : r.size - 1 < r.size) : bl r = (bl r).take (r.size - 1) ++ [(r[r.size - 1].toNat : Int)] := by
  have hl : (bl r).length = r.size - 1 + 1 := by rw [bl_len]; omega
  have hg := bl_get r (r.size - 1) h
  have this := List.take_succ_eq_append_getElem (l := bl r) (i := r.size - 1) (by omega)
  rw [List.take_of_length_le (by omega)] at this
  rw [List.getElem?_eq_getElem (by omega)] at hg
  rw [Option.some.inj hg] at this
  exact this

set_option maxHeartbeats 1000000 in
set_option maxRecDepth 100000 in
theorem trimOf_any (s : ByteArray) (w : World) (hs : s.size ≤ 3000) :
    Calls Tryz.prog 111 #[.string s] w fun e w' => e = .returned (.string (strOfNums (trI (bl s)))) ∧ w' = w := by
  have HC := hide (tr_comm (bl s))
  go_enter Tryz.func111, Tryz.ntmps111
  go_wp2_with fail
  go_loop [0] (fun v => ∃ r, v = .string r ∧ r.size ≤ 3000 ∧ Hid ((bl r).dropWhile wh = (bl s).dropWhile wh)) (fun v => szOf v)
  case atStart => exact ⟨s, rfl, hs, rfl⟩
  case round =>
    obtain ⟨r, rfl, hr, HD⟩ := hrel
    by_cases h0 : 0 < r.size
    · have hbd : 0 ≤ (r[0].toNat : Int) ∧ (r[0].toNat : Int) < 256 := by have := r[0].toNat_lt; omega
      have HB := hide (bl_0 r h0)
      obtain ⟨q, HQ⟩ : ∃ q, Hid (wh (r[0].toNat : Int) = q) := ⟨wh (r[0].toNat : Int), rfl⟩
      go_wp2_with fail
      refine (isWhite_any _ _ hbd).mono ?_
      rintro e w1 ⟨rfl, hw⟩
      replace hw := hw.symm
      subst hw
      rw [unhide HQ]
      cases q
      · have HD2 : Hid ((bl r) = (bl s).dropWhile wh) := by
          show _ = _
          rw [← unhide HD]
          conv => rhs; rw [unhide HB]
          rw [List.dropWhile_cons_of_neg (by rw [unhide HQ]; simp), ← unhide HB]
        clear HB HQ HD
        go_wp2_with fail
        go_loop [0] (fun v => ∃ r', v = .string r' ∧ r'.size ≤ 3000 ∧ Hid (rT (bl r') = rT (bl r))) (fun v => szOf v)
        case atStart => exact ⟨r, rfl, hr, rfl⟩
        case round =>
          obtain ⟨r', rfl, hr', HE⟩ := hrel
          by_cases h1 : 0 < r'.size
          · have hlt : r'.size - 1 < r'.size := by omega
            have hbd' : 0 ≤ (r'[r'.size - 1].toNat : Int) ∧ (r'[r'.size - 1].toNat : Int) < 256 := by have := r'[r'.size - 1].toNat_lt; omega
            have HB' := hide (bl_last r' hlt)
            obtain ⟨q', HQ'⟩ : ∃ q', Hid (wh (r'[r'.size - 1].toNat : Int) = q') := ⟨wh (r'[r'.size - 1].toNat : Int), rfl⟩
            go_wp2_with fail
            refine (isWhite_any _ _ hbd').mono ?_
            rintro e w2 ⟨rfl, hw⟩
            replace hw := hw.symm
            subst hw
            rw [unhide HQ']
            cases q'
            · have HF : Hid (strOfNums (trI (bl s)) = r') := by
                show _ = _
                have e1 : rT (bl r') = bl r' := by
                  conv => lhs; rw [unhide HB']
                  rw [rT_snoc, unhide HQ']
                  exact (unhide HB').symm
                rw [← unhide HC, ← unhide HD2, ← unhide HE, e1, str_bl]
              go_wp2_with fail
              go_ret
              exact ⟨by rw [unhide HF]; rfl, rfl⟩
            · have HE2 : Hid (rT (bl (r'.extract 0 (r'.size - 1))) = rT (bl r)) := by
                show _ = _
                rw [← unhide HE, bl_take]
                conv => rhs; rw [unhide HB']
                rw [rT_snoc, unhide HQ']; rfl
              go_wp2_with fail
              go_round
              case rel => exact ⟨_, rfl, by simp; omega, HE2⟩
              case measure => simp [szOf]; omega
          · have HF : Hid (strOfNums (trI (bl s)) = r') := by
              show _ = _
              have e0 : bl r' = [] := List.eq_nil_of_length_eq_zero (by rw [bl_len]; omega)
              have e1 : rT (bl r') = bl r' := by rw [e0]; rfl
              rw [← unhide HC, ← unhide HD2, ← unhide HE, e1, str_bl]
            go_wp2_with fail
            go_ret
            exact ⟨by rw [unhide HF]; rfl, rfl⟩
      · have HD2 : Hid ((bl (r.extract 1 r.size)).dropWhile wh = (bl s).dropWhile wh) := by
          show _ = _
          rw [← unhide HD, bl_extract]
          conv => rhs; rw [unhide HB]
          rw [List.dropWhile_cons_of_pos (unhide HQ)]
        go_wp2_with fail
        go_round
        case rel => exact ⟨_, rfl, by simp; omega, HD2⟩
        case measure => simp [szOf]; omega
    · have HD2 : Hid ((bl r) = (bl s).dropWhile wh) := by
        show _ = _
        have e0 : bl r = [] := List.eq_nil_of_length_eq_zero (by rw [bl_len]; omega)
        rw [← unhide HD, e0]; rfl
      clear HD
      go_wp2_with fail
      go_loop [0] (fun v => ∃ r', v = .string r' ∧ r'.size ≤ 3000 ∧ Hid (rT (bl r') = rT (bl r))) (fun v => szOf v)
      case atStart => exact ⟨r, rfl, hr, rfl⟩
      case round =>
        obtain ⟨r', rfl, hr', HE⟩ := hrel
        by_cases h1 : 0 < r'.size
        · have hlt : r'.size - 1 < r'.size := by omega
          have hbd' : 0 ≤ (r'[r'.size - 1].toNat : Int) ∧ (r'[r'.size - 1].toNat : Int) < 256 := by have := r'[r'.size - 1].toNat_lt; omega
          have HB' := hide (bl_last r' hlt)
          obtain ⟨q', HQ'⟩ : ∃ q', Hid (wh (r'[r'.size - 1].toNat : Int) = q') := ⟨wh (r'[r'.size - 1].toNat : Int), rfl⟩
          go_wp2_with fail
          refine (isWhite_any _ _ hbd').mono ?_
          rintro e w2 ⟨rfl, hw⟩
          replace hw := hw.symm
          subst hw
          rw [unhide HQ']
          cases q'
          · have HF : Hid (strOfNums (trI (bl s)) = r') := by
              show _ = _
              have e1 : rT (bl r') = bl r' := by
                conv => lhs; rw [unhide HB']
                rw [rT_snoc, unhide HQ']
                exact (unhide HB').symm
              rw [← unhide HC, ← unhide HD2, ← unhide HE, e1, str_bl]
            go_wp2_with fail
            go_ret
            exact ⟨by rw [unhide HF]; rfl, rfl⟩
          · have HE2 : Hid (rT (bl (r'.extract 0 (r'.size - 1))) = rT (bl r)) := by
              show _ = _
              rw [← unhide HE, bl_take]
              conv => rhs; rw [unhide HB']
              rw [rT_snoc, unhide HQ']; rfl
            go_wp2_with fail
            go_round
            case rel => exact ⟨_, rfl, by simp; omega, HE2⟩
            case measure => simp [szOf]; omega
        · have HF : Hid (strOfNums (trI (bl s)) = r') := by
            show _ = _
            have e0 : bl r' = [] := List.eq_nil_of_length_eq_zero (by rw [bl_len]; omega)
            have e1 : rT (bl r') = bl r' := by rw [e0]; rfl
            rw [← unhide HC, ← unhide HD2, ← unhide HE, e1, str_bl]
          go_wp2_with fail
          go_ret
          exact ⟨by rw [unhide HF]; rfl, rfl⟩

/-- What a round of FoldOf knows. -/
def InFo (s : ByteArray) (w wr : World) (k : Nat) (v : Value) : Prop :=
  wr.ownsRow w.heap.size 5 1 v (fdI ((bl s).take k)).length ((fdI ((bl s).take k)).map (Value.int .u8)) ∧ Below w.heap.size w wr

theorem InFo.step {s : ByteArray} {w wr w1 : World} {k : Nat} {v v1 : Value} (h : InFo s w wr k v) (hk : k < s.size) {c : Int} (hc : fI ((bl s).getD k 0) = c)
    (ho : w1.ownsRow w.heap.size 5 1 v1 (fdI ((bl s).take k) ++ [c]).length ((fdI ((bl s).take k) ++ [c]).map (Value.int .u8))) (hb : Below w.heap.size wr w1) : InFo s w w1 (k + 1) v1 := by
  have hk' : k < (bl s).length := by rw [bl_len]; exact hk
  have e : fdI ((bl s).take (k + 1)) = fdI ((bl s).take k) ++ [c] := by
    rw [List.take_succ_eq_append_getElem hk']; unfold fdI; rw [List.map_append, ← hc]; congr 1; simp [hk']
  exact ⟨by rw [e]; exact ho, h.2.trans hb⟩

set_option maxHeartbeats 1000000 in
set_option maxRecDepth 100000 in
theorem foldOf_any (s : ByteArray) (w : World) (hs : s.size ≤ 3000) :
    Calls Tryz.prog 110 #[.string s] w fun e w' => e = .returned (.string (strOfNums (fdI (bl s)))) ∧ Below w.heap.size w w' := by
  obtain ⟨i0, hi, hz0, hz1, hz2⟩ := info_parts info5
  have HI : InFo s w w 0 (.slice none 0 0) := ⟨World.ownsRow_nil _ _ _ _, Below.refl _ _⟩
  go_enter Tryz.func110, Tryz.ntmps110
  go_wp2_with fail
  go_loopw [3, 4] (fun v i wr => ∃ k : Nat, k ≤ s.size ∧ i = .int .i64 k ∧ InFo s w wr k v) (fun _ i _ => s.size - (intOf i).toNat)
  case atStart => exact ⟨0, by omega, rfl, HI⟩
  case round =>
    obtain ⟨k, hk, rfl, hI⟩ := hrel
    clear HI
    by_cases hlt : k < s.size
    · obtain ⟨c, hc⟩ : ∃ c : Int, (s[k].toNat : Int) = c := ⟨_, rfl⟩
      have hbd : 0 ≤ c ∧ c < 256 := by have := s[k].toNat_lt; omega
      have hgd : (bl s).getD k 0 = c := by rw [List.getD_eq_getElem?_getD, bl_get s k hlt, ← hc]; rfl
      have hsz := hI.2.size
      have hln : (fdI ((bl s).take k)).length ≤ 3000 := by rw [fd_len]; have := List.length_take_le k (bl s); omega
      have hown := hI.1
      obtain ⟨ao, cap, hsh⟩ := owns_shape hown
      subst hsh
      by_cases h1 : 65 ≤ c ∧ c ≤ 90
      · have HF : Hid (fI ((bl s).getD k 0) = c + 32) := by show _ = _; rw [hgd]; unfold fI; rw [if_pos h1]
        obtain ⟨h10, h11⟩ := h1
        clear hgd
        go_wp2_with fail
        refine (between_any _ _ _ _).mono ?_
        rintro e w1 ⟨rfl, hw⟩
        replace hw := hw.symm
        subst hw
        go_wp2_with (at_builtin; refine wpList_append_own _ rfl (.tmp 20) (.tmp 22) 151 rfl w.heap.size 5 i0 (.int .u8 0) 1 1 Tryz.underlying151 hi hz0 hz1 hz2 rfl (by decide) _ _ _ rfl (hown.alloc _) ⟨wr.heap.size, 0, none⟩ 1 1 [.int .u8 (c + 32)] rfl rfl (by intro j u hj; match j, hj with | 0, hj => (simp at hj; subst hj; simp [Addr.add])) (by intro u hu; simp at hu; subst hu; rfl) (by unfold maxLen; omega) (by omega) (by simp; omega) ?_)
        intro v2 w2 ho2 hg2 _
        obtain ⟨ao2, cap2, hsh2⟩ := owns_shape ho2
        subst hsh2
        have HI2 := InFo.step hI hlt (unhide HF) (by simpa using ho2) (((Below.refl _ _).alloc hsz _).grown hg2 (by simp; omega) (fun k hk => (hown.lt k hk).1))
        clear hI hown ho2 hg2
        go_wp2_with fail
        go_roundw
        case rel => exact ⟨k + 1, by omega, by go_num, by simpa using HI2⟩
        case measure => simp [intOf]; omega
      · have hd : (decide (65 ≤ c) && decide (c ≤ 90)) = false := by simp; omega
        have HF : Hid (fI ((bl s).getD k 0) = c) := by show _ = _; rw [hgd]; unfold fI; rw [if_neg h1]
        clear hgd h1
        go_wp2_with fail
        refine (between_any _ _ _ _).mono ?_
        rintro e w1 ⟨rfl, hw⟩
        replace hw := hw.symm
        subst hw
        go_wp2_with (at_builtin; refine wpList_append_own _ rfl (.tmp 20) (.tmp 22) 151 rfl w.heap.size 5 i0 (.int .u8 0) 1 1 Tryz.underlying151 hi hz0 hz1 hz2 rfl (by decide) _ _ _ rfl (hown.alloc _) ⟨wr.heap.size, 0, none⟩ 1 1 [.int .u8 (c)] rfl rfl (by intro j u hj; match j, hj with | 0, hj => (simp at hj; subst hj; simp [Addr.add])) (by intro u hu; simp at hu; subst hu; rfl) (by unfold maxLen; omega) (by omega) (by simp; omega) ?_)
        intro v2 w2 ho2 hg2 _
        obtain ⟨ao2, cap2, hsh2⟩ := owns_shape ho2
        subst hsh2
        have HI2 := InFo.step hI hlt (unhide HF) (by simpa using ho2) (((Below.refl _ _).alloc hsz _).grown hg2 (by simp; omega) (fun k hk => (hown.lt k hk).1))
        clear hI hown ho2 hg2
        go_wp2_with fail
        go_roundw
        case rel => exact ⟨k + 1, by omega, by go_num, by simpa using HI2⟩
        case measure => simp [intOf]; omega
    · have ek : k = s.size := by omega
      subst ek
      have e : (bl s).take s.size = bl s := List.take_of_length_le (by rw [bl_len]; exact Nat.le_refl _)
      obtain ⟨o1, o2⟩ := hI
      rw [e] at o1
      have hcv := conv_owned o1
      obtain ⟨ao, cap, hsh⟩ := owns_shape o1
      subst hsh
      have HB := hide o2
      clear o1 o2 e
      go_wp2_with fail
      go_ret
      exact ⟨rfl, unhide HB⟩
end Go.Proofs.YtaiinjfnkmidbaaGreatDoor

namespace Go.Proofs.YtaiinjfnkmidbaaGreatDoor

/-- The first place from i on where p does not hold. -/
def run (p : Int → Bool) (l : List Int) (i : Nat) : Nat := i + ((l.drop i).takeWhile p).length
/-- The bytes from i to j. -/
def cut (l : List Int) (i j : Nat) : List Int := (l.drop i).take (j - i)

theorem run_ge (p : Int → Bool) (l : List Int) (i : Nat) : i ≤ run p l i := by unfold run; omega
theorem run_le (p : Int → Bool) (l : List Int) {i : Nat} (h : i ≤ l.length) : run p l i ≤ l.length := by
  unfold run
  have := (List.takeWhile_sublist p (l := l.drop i)).length_le
  rw [List.length_drop] at this
  omega
theorem run_step {p : Int → Bool} {l : List Int} {i : Nat} (h : i < l.length) (hp : p (l.getD i 0) = true) : run p l i = run p l (i + 1) := by
  unfold run
  have e : l.drop i = l.getD i 0 :: l.drop (i + 1) := by
    rw [List.drop_eq_getElem_cons h]; simp [h]
  rw [e, List.takeWhile_cons_of_pos hp]
  simp; omega
theorem run_stop {p : Int → Bool} {l : List Int} {i : Nat} (h : i < l.length) (hp : p (l.getD i 0) = false) : run p l i = i := by
  unfold run
  have e : l.drop i = l.getD i 0 :: l.drop (i + 1) := by
    rw [List.drop_eq_getElem_cons h]; simp [h]
  rw [e, List.takeWhile_cons_of_neg (by rw [hp]; simp)]
  simp
theorem run_end {p : Int → Bool} {l : List Int} {i : Nat} (h : l.length ≤ i) : run p l i = i := by
  unfold run; rw [List.drop_of_length_le h]; simp
theorem cut_self (l : List Int) (i : Nat) : cut l i i = [] := by simp [cut]
theorem cut_snoc {l : List Int} {i k : Nat} (hik : i ≤ k) (hk : k < l.length) : cut l i (k + 1) = cut l i k ++ [l.getD k 0] := by
  unfold cut
  rw [show k + 1 - i = (k - i) + 1 from by omega]
  have h1 : k - i < (l.drop i).length := by rw [List.length_drop]; omega
  rw [List.take_succ_eq_append_getElem h1]
  congr 1
  rw [List.getElem_drop]
  have e : i + (k - i) = k := by omega
  simp [e, hk]
theorem cut_len {l : List Int} {i j : Nat} (hj : j ≤ l.length) : (cut l i j).length = j - i := by
  unfold cut
  rw [List.length_take, List.length_drop]; omega

/-- Bytes that are passed ahead of a name; bytes of a name; bytes of a value without quotes. -/
def pAhead (c : Int) : Bool := wh c || c == 47
def pName (c : Int) : Bool := !(c == 61 || c == 47 || c == 62 || wh c)
def pVal (c : Int) : Bool := !(c == 62 || wh c)
def pNot (q c : Int) : Bool := !(c == q)
/-- An attribute from a place on: its name and value, the place behind it, whether there is one. -/
def attrI (l : List Int) (at' : Nat) : (List Int × List Int) × Nat × Bool :=
  let a0 := run pAhead l at'
  if l.length ≤ a0 ∨ l.getD a0 0 = 62 then (([], []), a0, false) else
  let a1 := run pName l (a0 + 1)
  let a2 := run wh l a1
  if l.length ≤ a2 ∨ l.getD a2 0 ≠ 61 then ((fdI (cut l a0 a1), []), a2, true) else
  let a3 := run wh l (a2 + 1)
  if a3 < l.length ∧ (l.getD a3 0 = 34 ∨ l.getD a3 0 = 39) then
    let a4 := run (pNot (l.getD a3 0)) l (a3 + 1)
    if l.length ≤ a4 then (([], []), a4, false) else ((fdI (cut l a0 a1), fdI (cut l (a3 + 1) a4)), a4 + 1, true)
  else
    let a4 := run pVal l a3
    ((fdI (cut l a0 a1), fdI (cut l a3 a4)), a4, true)
theorem attrI_le {l : List Int} {at' : Nat} (h : at' ≤ l.length) : (attrI l at').2.1 ≤ l.length ∧ at' ≤ (attrI l at').2.1 ∧ ((attrI l at').2.2 = true → at' < (attrI l at').2.1) := by
  have g0 := run_ge pAhead l at'
  have h0 := run_le pAhead l h
  unfold attrI
  simp only
  split
  · exact ⟨h0, g0, fun h => by cases h⟩
  · rename_i c0
    have l0 : run pAhead l at' < l.length := by omega
    have g1 := run_ge pName l (run pAhead l at' + 1)
    have h1 := run_le pName l (i := run pAhead l at' + 1) (by omega)
    have g2 := run_ge wh l (run pName l (run pAhead l at' + 1))
    have h2 := run_le wh l h1
    split
    · exact ⟨h2, by simp only; omega, fun _ => by simp only; omega⟩
    · rename_i c2
      have l2 : run wh l (run pName l (run pAhead l at' + 1)) < l.length := by omega
      generalize run wh l (run pName l (run pAhead l at' + 1)) = a2 at *
      have g3 := run_ge wh l (a2 + 1)
      have h3 := run_le wh l (i := a2 + 1) (by omega)
      generalize run wh l (a2 + 1) = a3 at *
      split
      · rename_i c3
        have g4 := run_ge (pNot (l.getD a3 0)) l (a3 + 1)
        have h4 := run_le (pNot (l.getD a3 0)) l (i := a3 + 1) (by omega)
        split
        · exact ⟨h4, by simp only; omega, fun h => by cases h⟩
        · exact ⟨by simp only; omega, by simp only; omega, fun _ => by simp only; omega⟩
      · have g4 := run_ge pVal l a3
        have h4 := run_le pVal l h3
        exact ⟨h4, by simp only; omega, fun _ => by simp only; omega⟩
/-- Attributes one by one: all, and the place then. -/
def attrsN : Nat → List Int → Nat → List (List Int × List Int) × Nat
  | 0, _, i => ([], i)
  | n + 1, l, i => if (attrI l i).2.2 then ((attrI l i).1 :: (attrsN n l (attrI l i).2.1).1, (attrsN n l (attrI l i).2.1).2) else ([], (attrI l i).2.1)
def attrsI (l : List Int) (i : Nat) : List (List Int × List Int) × Nat := attrsN (l.length + 1 - i) l i
theorem attrsN_more : ∀ (n m : Nat) (l : List Int) (i : Nat), i ≤ l.length → l.length + 1 - i ≤ n → l.length + 1 - i ≤ m → attrsN n l i = attrsN m l i
  | 0, _, l, i, hi, hn, _ => by omega
  | n + 1, 0, l, i, hi, _, hm => by omega
  | n + 1, m + 1, l, i, hi, hn, hm => by
    have hb := attrI_le hi
    unfold attrsN
    cases hq : (attrI l i).2.2
    · rfl
    · have := hb.2.2 hq
      rw [attrsN_more n m l (attrI l i).2.1 hb.1 (by omega) (by omega)]
theorem attrsI_no {l : List Int} {i : Nat} (hi : i ≤ l.length) (h : (attrI l i).2.2 = false) : attrsI l i = ([], (attrI l i).2.1) := by
  unfold attrsI
  rw [show l.length + 1 - i = (l.length - i) + 1 from by omega]
  unfold attrsN
  rw [h]; rfl
theorem attrsI_yes {l : List Int} {i : Nat} (hi : i ≤ l.length) (h : (attrI l i).2.2 = true) : attrsI l i = ((attrI l i).1 :: (attrsI l (attrI l i).2.1).1, (attrsI l (attrI l i).2.1).2) := by
  have hb := attrI_le hi
  have hl := hb.2.2 h
  unfold attrsI
  rw [show l.length + 1 - i = (l.length - i) + 1 from by omega]
  conv => lhs; unfold attrsN
  rw [if_pos h, attrsN_more (l.length - i) (l.length + 1 - (attrI l i).2.1) l _ hb.1 (by omega) (Nat.le_refl _)]
theorem attrsI_le (l : List Int) : ∀ (n i : Nat), l.length - i ≤ n → i ≤ l.length → (attrsI l i).2 ≤ l.length ∧ i ≤ (attrsI l i).2 ∧ (attrsI l i).1.length ≤ l.length - i
  | n, i, hn, hi => by
    have hb := attrI_le hi
    cases hq : (attrI l i).2.2
    · rw [attrsI_no hi hq]; exact ⟨hb.1, hb.2.1, by simp⟩
    · have hl := hb.2.2 hq
      rw [attrsI_yes hi hq]
      match n with
      | 0 => omega
      | n + 1 =>
        have := attrsI_le l n (attrI l i).2.1 (by omega) hb.1
        exact ⟨this.1, by omega, by simp; omega⟩
end Go.Proofs.YtaiinjfnkmidbaaGreatDoor

namespace Go.Proofs.YtaiinjfnkmidbaaGreatDoor
open Go.RowKit
set_option linter.unusedVariables false

theorem bl_at {s : ByteArray} {k : Nat} (h : k < s.size) : (bl s).getD k 0 = (s[k].toNat : Int) := by
  rw [List.getD_eq_getElem?_getD, bl_get s k h]; rfl
theorem bl_cut (s : ByteArray) (i j : Nat) : bl (s.extract i j) = cut (bl s) i j := by
  unfold cut bl
  simp [ByteArray.data_extract, List.map_take, List.map_drop]
theorem pAhead_w {c : Int} (h : wh c = true) : pAhead c = true := by unfold pAhead; rw [h]; rfl
theorem pAhead_n {c : Int} (h : wh c = false) (h' : (c == 47) = false) : pAhead c = false := by unfold pAhead; rw [h, h']; rfl
theorem pName_n {c : Int} (h : (c == 61) = false) (h1 : (c == 47) = false) (h2 : (c == 62) = false) (h3 : wh c = false) : pName c = true := by unfold pName; rw [h, h1, h2, h3]; rfl
theorem pName_w {c : Int} (h3 : wh c = true) : pName c = false := by unfold pName; rw [h3]; simp
theorem pVal_n {c : Int} (h2 : (c == 62) = false) (h3 : wh c = false) : pVal c = true := by unfold pVal; rw [h2, h3]; rfl
theorem pVal_w {c : Int} (h3 : wh c = true) : pVal c = false := by unfold pVal; rw [h3]; simp
theorem pNot_n {q c : Int} (h : (c == q) = false) : pNot q c = true := by unfold pNot; rw [h]; rfl
theorem pNot_y (q : Int) : pNot q q = false := by simp [pNot]
theorem u8_lt (s : ByteArray) {k : Nat} (h : k < s.size) : (0 : Int) ≤ (s[k].toNat : Int) ∧ (s[k].toNat : Int) < 256 := by
  have := s[k].toNat_lt; omega
theorem ne_eq {c d : Int} (h : c ≠ d) : (c == d) = false := by simpa using h
theorem ne_ne {c d : Int} (h : c ≠ d) : (c != d) = true := by simpa using h
theorem cut_one {l : List Int} {k : Nat} (h : k < l.length) : cut l k (k + 1) = [l.getD k 0] := by rw [cut_snoc (Nat.le_refl _) h, cut_self]; rfl
theorem cut_step {s t : ByteArray} {i k : Nat} (h : bl t = cut (bl s) i k) (hik : i ≤ k) (hk : k < s.size) : bl (t ++ s.extract k (k + 1)) = cut (bl s) i (k + 1) := by
  rw [bl_app, h, bl_cut, cut_one (by rw [bl_len]; exact hk), cut_snoc hik (by rw [bl_len]; exact hk)]
theorem ext_one {s : ByteArray} {k : Nat} (h : k < s.size) : (s.extract k (k + 1)).size = 1 := by
  rw [← bl_len, bl_cut, cut_one (by rw [bl_len]; exact h)]; rfl

/-- The ways that AttrAt goes. -/
theorem attrI_1 {l : List Int} {k a0 : Nat} (h0 : run pAhead l k = a0) (h : l.length ≤ a0 ∨ l.getD a0 0 = 62) : attrI l k = (([], []), a0, false) := by
  subst h0; unfold attrI; simp only; rw [if_pos h]
theorem attrI_2 {l : List Int} {k a0 a1 a2 : Nat} (h0 : run pAhead l k = a0) (h : ¬ (l.length ≤ a0 ∨ l.getD a0 0 = 62)) (h1 : run pName l (a0 + 1) = a1) (h2 : run wh l a1 = a2) (h' : l.length ≤ a2 ∨ l.getD a2 0 ≠ 61) : attrI l k = ((fdI (cut l a0 a1), []), a2, true) := by
  subst h0; subst h1; subst h2; unfold attrI; simp only; rw [if_neg h, if_pos h']
theorem attrI_3 {l : List Int} {k a0 a1 a2 a3 a4 : Nat} (h0 : run pAhead l k = a0) (h : ¬ (l.length ≤ a0 ∨ l.getD a0 0 = 62)) (h1 : run pName l (a0 + 1) = a1) (h2 : run wh l a1 = a2) (h' : ¬ (l.length ≤ a2 ∨ l.getD a2 0 ≠ 61)) (h3 : run wh l (a2 + 1) = a3) (hq : a3 < l.length ∧ (l.getD a3 0 = 34 ∨ l.getD a3 0 = 39)) (h4 : run (pNot (l.getD a3 0)) l (a3 + 1) = a4) :
    attrI l k = if l.length ≤ a4 then (([], []), a4, false) else ((fdI (cut l a0 a1), fdI (cut l (a3 + 1) a4)), a4 + 1, true) := by
  subst h0; subst h1; subst h2; subst h3; subst h4; unfold attrI; simp only; rw [if_neg h, if_neg h', if_pos hq]
theorem attrI_4 {l : List Int} {k a0 a1 a2 a3 a4 : Nat} (h0 : run pAhead l k = a0) (h : ¬ (l.length ≤ a0 ∨ l.getD a0 0 = 62)) (h1 : run pName l (a0 + 1) = a1) (h2 : run wh l a1 = a2) (h' : ¬ (l.length ≤ a2 ∨ l.getD a2 0 ≠ 61)) (h3 : run wh l (a2 + 1) = a3) (hq : ¬ (a3 < l.length ∧ (l.getD a3 0 = 34 ∨ l.getD a3 0 = 39))) (h4 : run pVal l a3 = a4) :
    attrI l k = ((fdI (cut l a0 a1), fdI (cut l a3 a4)), a4, true) := by
  subst h0; subst h1; subst h2; subst h3; subst h4; unfold attrI; simp only; rw [if_neg h, if_neg h', if_neg hq]

set_option maxHeartbeats 12800000 in
set_option maxRecDepth 100000 in
theorem attrAt_any (s : ByteArray) (k0 : Nat) (w : World) (hk0 : k0 ≤ s.size) (hs : s.size ≤ 3000) :
    Calls Tryz.prog 170 #[.string s, .int .i64 (k0 : Int)] w fun e w' => e = .returned (.tuple #[.agg #[.string (strOfNums (attrI (bl s) k0).1.1), .string (strOfNums (attrI (bl s) k0).1.2)], .int .i64 ((attrI (bl s) k0).2.1 : Int), .bool (attrI (bl s) k0).2.2]) ∧ Below w.heap.size w w' := by
  have hl := bl_len s
  have HL := hide hl
  go_enter Tryz.func170, Tryz.ntmps170
  go_upto_block 0 with fail
  go_cut [1] (fun i wx => i = .int .i64 (run pAhead (bl s) (k0) : Int) ∧ wx = w.alloc (.cells #[.string ⟨#[]⟩, .string ⟨#[]⟩] 80))
  case first =>
    go_wp2_with fail
    go_loop [1] (fun i => ∃ k : Nat, i = .int .i64 k ∧ k ≤ s.size ∧ Hid (run pAhead (bl s) k = run pAhead (bl s) (k0))) (fun i => s.size - (intOf i).toNat)
    case atStart => exact ⟨k0, by go_num, by omega, hide rfl⟩
    case round =>
      obtain ⟨k, rfl, hk, HR⟩ := hrel
      by_cases hlt : k < s.size
      · have hcb := u8_lt s hlt
        have HG := hide (bl_at hlt)
        obtain ⟨c, hcc⟩ : ∃ c : Int, (s[k].toNat : Int) = c := ⟨_, rfl⟩
        rw [hcc] at hcb HG
        have W := isWhite_any c
        cases hw : wh c
        · rw [hw] at W
          by_cases h47 : c = 47
          · subst h47
            have HR' : Hid (run pAhead (bl s) (k + 1) = run pAhead (bl s) (k0)) := hide (by rw [← run_step (by omega) (by rw [unhide HG]; exact (by decide)), unhide HR])
            go_wp2_with fail
            refine (W _ hcb).mono ?_
            rintro e wz ⟨rfl, hwz⟩
            replace hwz := hwz.symm
            subst hwz
            go_wp2_with fail
            go_round
            case rel => exact ⟨k + 1, by go_num, by omega, HR'⟩
            case measure => simp [intOf]; omega
          · have h47e := ne_eq h47
            have h47n := ne_ne h47
            have HE : Hid (run pAhead (bl s) (k0) = k) := hide (by rw [← unhide HR, run_stop (by omega) (by rw [unhide HG]; exact pAhead_n hw h47e)])
            go_wp2_with fail
            refine (W _ hcb).mono ?_
            rintro e wz ⟨rfl, hwz⟩
            replace hwz := hwz.symm
            subst hwz
            go_wp2_with fail
            go_meet
            case rel => exact ⟨by rw [unhide HE], rfl⟩
        · rw [hw] at W
          have HR' : Hid (run pAhead (bl s) (k + 1) = run pAhead (bl s) (k0)) := hide (by rw [← run_step (by omega) (by rw [unhide HG]; exact pAhead_w hw), unhide HR])
          go_wp2_with fail
          refine (W _ hcb).mono ?_
          rintro e wz ⟨rfl, hwz⟩
          replace hwz := hwz.symm
          subst hwz
          go_wp2_with fail
          go_round
          case rel => exact ⟨k + 1, by go_num, by omega, HR'⟩
          case measure => simp [intOf]; omega
      · have HE : Hid (run pAhead (bl s) (k0) = k) := hide (by rw [← unhide HR, run_end (by omega)])
        go_wp2_with fail
        go_meet
        case rel => exact ⟨by rw [unhide HE], rfl⟩
  obtain ⟨rfl, rfl⟩ := hcut
  have ha0 := run_le pAhead (bl s) (i := k0) (by omega)
  have ga0 := run_ge pAhead (bl s) k0
  obtain ⟨a0, HA0⟩ : ∃ a0, Hid (run pAhead (bl s) k0 = a0) := ⟨_, hide rfl⟩
  rw [unhide HA0] at ha0 ga0 ⊢
  by_cases hlt0 : a0 < s.size
  · have hcb0 := u8_lt s hlt0
    have HG0 := hide (bl_at hlt0)
    obtain ⟨c0, hcc0⟩ : ∃ c : Int, (s[a0].toNat : Int) = c := ⟨_, rfl⟩
    rw [hcc0] at hcb0 HG0
    by_cases h62 : c0 = 62
    · subst h62
      have HRes := hide (attrI_1 (unhide HA0) (.inr (unhide HG0)))
      go_wp2_with fail
      refine bodyPost_ret (v := .tuple #[.agg #[.string ⟨#[]⟩, .string ⟨#[]⟩], .int .i64 (a0 : Int), .bool false]) (by simp [results, Tryz.results170, go_sem]) rfl ⟨?_, ?_⟩
      · rw [unhide HRes]; rfl
      · exact balloc _ _
    · have h62e := ne_eq h62
      have hne0 : ((a0 : Int) == (s.size : Int)) = false := by simp; omega
      have HN0 : Hid (¬ ((bl s).length ≤ a0 ∨ (bl s).getD a0 0 = 62)) := hide (by rw [unhide HG0]; omega)
      have hsl : ∀ wx, (Instr.slice 9 (.string s) (some (.int .i64 (a0 : Int))) (some (.int .i64 ((a0 : Int) + 1))) none).run Tryz.prog wx = .ok (.string (s.extract a0 (a0 + 1))) wx := fun wx => run_slice_string (P := Tryz.prog) wx 9 s .i64 .i64 (a0 : Int) ((a0 : Int) + 1) Tryz.underlying9 (by omega) (by omega) (by omega)
      have HX0 : Hid (bl (s.extract a0 (a0 + 1)) = cut (bl s) a0 (a0 + 1)) := hide (bl_cut s a0 (a0 + 1))
      go_upto_block 2 with fail
      go_cut [1, 7] (fun i nmv wx => ∃ t : ByteArray, i = .int .i64 (run pName (bl s) (a0 + 1) : Int) ∧ nmv = .string t ∧ bl t = cut (bl s) (a0) (run pName (bl s) (a0 + 1)) ∧ wx = w.alloc (.cells #[.string ⟨#[]⟩, .string ⟨#[]⟩] 80))
      case first =>
        go_wp2_with fail
        go_loopw [1, 7] (fun i nmv wr => ∃ (k : Nat) (t : ByteArray), i = .int .i64 k ∧ nmv = .string t ∧ a0 + 1 ≤ k ∧ k ≤ s.size ∧ Hid (run pName (bl s) k = run pName (bl s) (a0 + 1)) ∧ Hid (bl t = cut (bl s) (a0) k) ∧ wr = w.alloc (.cells #[.string ⟨#[]⟩, .string ⟨#[]⟩] 80)) (fun i _ _ => s.size - (intOf i).toNat)
        case atStart => exact ⟨a0 + 1, _, by go_num, rfl, by omega, by omega, hide rfl, HX0, rfl⟩
        case round =>
          obtain ⟨k, t, rfl, rfl, hlo, hk, HR, HX, rfl⟩ := hrel
          have htz : t.size ≤ 3000 := by rw [← bl_len, unhide HX, cut_len (by omega)]; omega
          by_cases hlt : k < s.size
          · have hcb := u8_lt s hlt
            have HG := hide (bl_at hlt)
            obtain ⟨c, hcc⟩ : ∃ c : Int, (s[k].toNat : Int) = c := ⟨_, rfl⟩
            rw [hcc] at hcb HG
            by_cases h61 : c = 61
            · subst h61
              have HE : Hid (run pName (bl s) (a0 + 1) = k) := hide (by rw [← unhide HR, run_stop (by omega) (by rw [unhide HG]; exact (by decide))])
              go_wp2_with fail
              go_meet
              case rel => exact ⟨t, by rw [unhide HE], rfl, by rw [unhide HE]; exact unhide HX, rfl⟩
            · have h61e := ne_eq h61
              have h61n := ne_ne h61
              by_cases h47 : c = 47
              · subst h47
                have HE : Hid (run pName (bl s) (a0 + 1) = k) := hide (by rw [← unhide HR, run_stop (by omega) (by rw [unhide HG]; exact (by decide))])
                go_wp2_with fail
                go_meet
                case rel => exact ⟨t, by rw [unhide HE], rfl, by rw [unhide HE]; exact unhide HX, rfl⟩
              · have h47e := ne_eq h47
                have h47n := ne_ne h47
                by_cases h62 : c = 62
                · subst h62
                  have HE : Hid (run pName (bl s) (a0 + 1) = k) := hide (by rw [← unhide HR, run_stop (by omega) (by rw [unhide HG]; exact (by decide))])
                  go_wp2_with fail
                  go_meet
                  case rel => exact ⟨t, by rw [unhide HE], rfl, by rw [unhide HE]; exact unhide HX, rfl⟩
                · have h62e := ne_eq h62
                  have h62n := ne_ne h62
                  have W := isWhite_any c
                  cases hw : wh c
                  · rw [hw] at W
                    have HR' : Hid (run pName (bl s) (k + 1) = run pName (bl s) (a0 + 1)) := hide (by rw [← run_step (by omega) (by rw [unhide HG]; exact pName_n h61e h47e h62e hw), unhide HR])
                    have HX' := hide (cut_step (unhide HX) (by omega) hlt)
                    have hz1 := ext_one hlt
                    have hsl : ∀ wx, (Instr.slice 9 (.string s) (some (.int .i64 (k : Int))) (some (.int .i64 ((k : Int) + 1))) none).run Tryz.prog wx = .ok (.string (s.extract k (k + 1))) wx := fun wx => run_slice_string (P := Tryz.prog) wx 9 s .i64 .i64 (k : Int) ((k : Int) + 1) Tryz.underlying9 (by omega) (by omega) (by omega)
                    go_wp2_with fail
                    refine (W _ hcb).mono ?_
                    rintro e wz ⟨rfl, hwz⟩
                    replace hwz := hwz.symm
                    subst hwz
                    go_wp2_with fail
                    go_roundw
                    case rel => exact ⟨k + 1, t ++ s.extract k (k + 1), by go_num, rfl, by omega, by omega, HR', HX', by first | rfl | trivial⟩
                    case measure => simp [intOf]; omega
                  · rw [hw] at W
                    have HE : Hid (run pName (bl s) (a0 + 1) = k) := hide (by rw [← unhide HR, run_stop (by omega) (by rw [unhide HG]; exact pName_w hw)])
                    go_wp2_with fail
                    refine (W _ hcb).mono ?_
                    rintro e wz ⟨rfl, hwz⟩
                    replace hwz := hwz.symm
                    subst hwz
                    go_wp2_with fail
                    go_meet
                    case rel => exact ⟨t, by rw [unhide HE], rfl, by rw [unhide HE]; exact unhide HX, rfl⟩
          · have HE : Hid (run pName (bl s) (a0 + 1) = k) := hide (by rw [← unhide HR, run_end (by omega)])
            go_wp2_with fail
            go_meet
            case rel => exact ⟨t, by rw [unhide HE], rfl, by rw [unhide HE]; exact unhide HX, rfl⟩
      obtain ⟨nmt, rfl, rfl, hx1, rfl⟩ := hcut
      have HX1 := hide hx1
      have ha1 := run_le pName (bl s) (i := a0 + 1) (by omega)
      have ga1 := run_ge pName (bl s) (a0 + 1)
      obtain ⟨a1, HA1⟩ : ∃ a1, Hid (run pName (bl s) (a0 + 1) = a1) := ⟨_, hide rfl⟩
      rw [unhide HA1] at ha1 ga1 HX1 ⊢
      clear hx1 hsl HX0
      go_upto_block 4 with fail
      go_cut [1] (fun i wx => i = .int .i64 (run wh (bl s) (a1) : Int) ∧ wx = w.alloc (.cells #[.string ⟨#[]⟩, .string ⟨#[]⟩] 80))
      case first =>
        go_wp2_with fail
        go_loop [1] (fun i => ∃ k : Nat, i = .int .i64 k ∧ k ≤ s.size ∧ Hid (run wh (bl s) k = run wh (bl s) (a1))) (fun i => s.size - (intOf i).toNat)
        case atStart => exact ⟨a1, by go_num, by omega, hide rfl⟩
        case round =>
          obtain ⟨k, rfl, hk, HR⟩ := hrel
          by_cases hlt : k < s.size
          · have hcb := u8_lt s hlt
            have HG := hide (bl_at hlt)
            obtain ⟨c, hcc⟩ : ∃ c : Int, (s[k].toNat : Int) = c := ⟨_, rfl⟩
            rw [hcc] at hcb HG
            have W := isWhite_any c
            cases hw : wh c
            · rw [hw] at W
              have HE : Hid (run wh (bl s) (a1) = k) := hide (by rw [← unhide HR, run_stop (by omega) (by rw [unhide HG]; exact hw)])
              go_wp2_with fail
              refine (W _ hcb).mono ?_
              rintro e wz ⟨rfl, hwz⟩
              replace hwz := hwz.symm
              subst hwz
              go_wp2_with fail
              go_meet
              case rel => exact ⟨by rw [unhide HE], rfl⟩
            · rw [hw] at W
              have HR' : Hid (run wh (bl s) (k + 1) = run wh (bl s) (a1)) := hide (by rw [← run_step (by omega) (by rw [unhide HG]; exact hw), unhide HR])
              go_wp2_with fail
              refine (W _ hcb).mono ?_
              rintro e wz ⟨rfl, hwz⟩
              replace hwz := hwz.symm
              subst hwz
              go_wp2_with fail
              go_round
              case rel => exact ⟨k + 1, by go_num, by omega, HR'⟩
              case measure => simp [intOf]; omega
          · have HE : Hid (run wh (bl s) (a1) = k) := hide (by rw [← unhide HR, run_end (by omega)])
            go_wp2_with fail
            go_meet
            case rel => exact ⟨by rw [unhide HE], rfl⟩
      obtain ⟨rfl, rfl⟩ := hcut
      have ha2 := run_le wh (bl s) (i := a1) (by omega)
      have ga2 := run_ge wh (bl s) a1
      obtain ⟨a2, HA2⟩ : ∃ a2, Hid (run wh (bl s) a1 = a2) := ⟨_, hide rfl⟩
      rw [unhide HA2] at ha2 ga2 ⊢
      have htz1 : nmt.size ≤ 3000 := by rw [← bl_len, unhide HX1, cut_len (by omega)]; omega
      by_cases hlt2 : a2 < s.size
      · have hcb2 := u8_lt s hlt2
        have HG2 := hide (bl_at hlt2)
        obtain ⟨c2, hcc2⟩ : ∃ c : Int, (s[a2].toNat : Int) = c := ⟨_, rfl⟩
        rw [hcc2] at hcb2 HG2
        have hne2 : ((a2 : Int) == (s.size : Int)) = false := by simp; omega
        by_cases h61 : c2 = 61
        · subst h61
          have HN2 : Hid (¬ ((bl s).length ≤ a2 ∨ (bl s).getD a2 0 ≠ 61)) := hide (by rw [unhide HG2]; omega)
          go_upto_block 6 with fail
          go_cut [1] (fun i wx => i = .int .i64 (run wh (bl s) (a2 + 1) : Int) ∧ wx = w.alloc (.cells #[.string ⟨#[]⟩, .string ⟨#[]⟩] 80))
          case first =>
            go_wp2_with fail
            go_loop [1] (fun i => ∃ k : Nat, i = .int .i64 k ∧ k ≤ s.size ∧ Hid (run wh (bl s) k = run wh (bl s) (a2 + 1))) (fun i => s.size - (intOf i).toNat)
            case atStart => exact ⟨a2 + 1, by go_num, by omega, hide rfl⟩
            case round =>
              obtain ⟨k, rfl, hk, HR⟩ := hrel
              by_cases hlt : k < s.size
              · have hcb := u8_lt s hlt
                have HG := hide (bl_at hlt)
                obtain ⟨c, hcc⟩ : ∃ c : Int, (s[k].toNat : Int) = c := ⟨_, rfl⟩
                rw [hcc] at hcb HG
                have W := isWhite_any c
                cases hw : wh c
                · rw [hw] at W
                  have HE : Hid (run wh (bl s) (a2 + 1) = k) := hide (by rw [← unhide HR, run_stop (by omega) (by rw [unhide HG]; exact hw)])
                  go_wp2_with fail
                  refine (W _ hcb).mono ?_
                  rintro e wz ⟨rfl, hwz⟩
                  replace hwz := hwz.symm
                  subst hwz
                  go_wp2_with fail
                  go_meet
                  case rel => exact ⟨by rw [unhide HE], rfl⟩
                · rw [hw] at W
                  have HR' : Hid (run wh (bl s) (k + 1) = run wh (bl s) (a2 + 1)) := hide (by rw [← run_step (by omega) (by rw [unhide HG]; exact hw), unhide HR])
                  go_wp2_with fail
                  refine (W _ hcb).mono ?_
                  rintro e wz ⟨rfl, hwz⟩
                  replace hwz := hwz.symm
                  subst hwz
                  go_wp2_with fail
                  go_round
                  case rel => exact ⟨k + 1, by go_num, by omega, HR'⟩
                  case measure => simp [intOf]; omega
              · have HE : Hid (run wh (bl s) (a2 + 1) = k) := hide (by rw [← unhide HR, run_end (by omega)])
                go_wp2_with fail
                go_meet
                case rel => exact ⟨by rw [unhide HE], rfl⟩
          obtain ⟨rfl, rfl⟩ := hcut
          have ha3 := run_le wh (bl s) (i := a2 + 1) (by omega)
          have ga3 := run_ge wh (bl s) (a2 + 1)
          obtain ⟨a3, HA3⟩ : ∃ a3, Hid (run wh (bl s) (a2 + 1) = a3) := ⟨_, hide rfl⟩
          rw [unhide HA3] at ha3 ga3 ⊢
          by_cases hlt3 : a3 < s.size
          · have hcb3 := u8_lt s hlt3
            have HG3 := hide (bl_at hlt3)
            obtain ⟨c3, hcc3⟩ : ∃ c : Int, (s[a3].toNat : Int) = c := ⟨_, rfl⟩
            rw [hcc3] at hcb3 HG3
            by_cases h34 : c3 = 34
            · subst h34
              have HQ3 : Hid (a3 < (bl s).length ∧ ((bl s).getD a3 0 = 34 ∨ (bl s).getD a3 0 = 39)) := hide (by rw [unhide HG3]; omega)
              have HX3 : Hid (bl ⟨#[]⟩ = cut (bl s) (a3 + 1) (a3 + 1)) := hide (by rw [cut_self]; rfl)
              go_upto_block 8 with fail
              go_cut [1, 8] (fun i nmv wx => ∃ t : ByteArray, i = .int .i64 (run (pNot 34) (bl s) (a3 + 1) : Int) ∧ nmv = .string t ∧ bl t = cut (bl s) (a3 + 1) (run (pNot 34) (bl s) (a3 + 1)) ∧ wx = w.alloc (.cells #[.string ⟨#[]⟩, .string ⟨#[]⟩] 80))
              case first =>
                go_wp2_with fail
                go_loopw [1, 8] (fun i nmv wr => ∃ (k : Nat) (t : ByteArray), i = .int .i64 k ∧ nmv = .string t ∧ a3 + 1 ≤ k ∧ k ≤ s.size ∧ Hid (run (pNot 34) (bl s) k = run (pNot 34) (bl s) (a3 + 1)) ∧ Hid (bl t = cut (bl s) (a3 + 1) k) ∧ wr = w.alloc (.cells #[.string ⟨#[]⟩, .string ⟨#[]⟩] 80)) (fun i _ _ => s.size - (intOf i).toNat)
                case atStart => exact ⟨a3 + 1, _, by go_num, rfl, by omega, by omega, hide rfl, HX3, rfl⟩
                case round =>
                  obtain ⟨k, t, rfl, rfl, hlo, hk, HR, HX, rfl⟩ := hrel
                  have htz : t.size ≤ 3000 := by rw [← bl_len, unhide HX, cut_len (by omega)]; omega
                  by_cases hlt : k < s.size
                  · have hcb := u8_lt s hlt
                    have HG := hide (bl_at hlt)
                    obtain ⟨c, hcc⟩ : ∃ c : Int, (s[k].toNat : Int) = c := ⟨_, rfl⟩
                    rw [hcc] at hcb HG
                    by_cases hq2 : c = 34
                    · subst hq2
                      have HE : Hid (run (pNot 34) (bl s) (a3 + 1) = k) := hide (by rw [← unhide HR, run_stop (by omega) (by rw [unhide HG]; exact pNot_y _)])
                      go_wp2_with fail
                      go_meet
                      case rel => exact ⟨t, by rw [unhide HE], rfl, by rw [unhide HE]; exact unhide HX, rfl⟩
                    · have hqe := ne_eq hq2
                      have hqn := ne_ne hq2
                      have HR' : Hid (run (pNot 34) (bl s) (k + 1) = run (pNot 34) (bl s) (a3 + 1)) := hide (by rw [← run_step (by omega) (by rw [unhide HG]; exact pNot_n hqe), unhide HR])
                      have HX' := hide (cut_step (unhide HX) (by omega) hlt)
                      have hz1 := ext_one hlt
                      have hsl : ∀ wx, (Instr.slice 9 (.string s) (some (.int .i64 (k : Int))) (some (.int .i64 ((k : Int) + 1))) none).run Tryz.prog wx = .ok (.string (s.extract k (k + 1))) wx := fun wx => run_slice_string (P := Tryz.prog) wx 9 s .i64 .i64 (k : Int) ((k : Int) + 1) Tryz.underlying9 (by omega) (by omega) (by omega)
                      go_wp2_with fail
                      go_roundw
                      case rel => exact ⟨k + 1, t ++ s.extract k (k + 1), by go_num, rfl, by omega, by omega, HR', HX', by first | rfl | trivial⟩
                      case measure => simp [intOf]; omega
                  · have HE : Hid (run (pNot 34) (bl s) (a3 + 1) = k) := hide (by rw [← unhide HR, run_end (by omega)])
                    go_wp2_with fail
                    go_meet
                    case rel => exact ⟨t, by rw [unhide HE], rfl, by rw [unhide HE]; exact unhide HX, rfl⟩
              obtain ⟨vlt, rfl, rfl, hx4, rfl⟩ := hcut
              have HX4 := hide hx4
              have ha4 := run_le (pNot 34) (bl s) (i := a3 + 1) (by omega)
              have ga4 := run_ge (pNot 34) (bl s) (a3 + 1)
              obtain ⟨a4, HA4⟩ : ∃ a4, Hid (run (pNot 34) (bl s) (a3 + 1) = a4) := ⟨_, hide rfl⟩
              rw [unhide HA4] at ha4 ga4 HX4 ⊢
              clear hx4
              have htz4 : vlt.size ≤ 3000 := by rw [← bl_len, unhide HX4, cut_len (by omega)]; omega
              by_cases hlt4 : a4 < s.size
              · have hne4 : ((a4 : Int) == (s.size : Int)) = false := by simp; omega
                have HRes : Hid (attrI (bl s) k0 = ((fdI (cut (bl s) a0 a1), fdI (cut (bl s) (a3 + 1) a4)), a4 + 1, true)) := hide (by rw [attrI_3 (a4 := a4) (unhide HA0) (unhide HN0) (unhide HA1) (unhide HA2) (unhide HN2) (unhide HA3) (unhide HQ3) (by rw [unhide HG3]; exact unhide HA4), if_neg (by omega)])
                have HF1 := hide (fun w => foldOf_any nmt w htz1)
                rw [unhide HX1] at HF1
                have HF2 := hide (fun w => foldOf_any vlt w htz4)
                rw [unhide HX4] at HF2
                generalize hfn : strOfNums (fdI (cut (bl s) a0 a1)) = fn at *
                generalize hfv : strOfNums (fdI (cut (bl s) (a3 + 1) a4)) = fv at *
                go_wp2_with fail
                refine (unhide HF1 _).mono ?_
                rintro e w5 ⟨rfl, hb5⟩
                have HB5 := hide hb5
                clear hb5
                go_wp2_with fail
                refine (unhide HF2 _).mono ?_
                rintro e w6 ⟨rfl, hb6⟩
                have HBX := hide (bstep (unhide HB5) hb6)
                clear hb6
                have r0 : w6.cell? ⟨w.heap.size, 0, none⟩ = some (.string ⟨#[]⟩) := by rw [(unhide HBX).cell (p := ⟨w.heap.size, 0, none⟩) (by simp)]; simp
                have r1 : w6.cell? ⟨w.heap.size, 1, none⟩ = some (.string ⟨#[]⟩) := by rw [(unhide HBX).cell (p := ⟨w.heap.size, 1, none⟩) (by simp)]; simp
                have q0 : w6.frozen? ⟨w.heap.size, 0, none⟩ = false := by rw [(unhide HBX).frozen (p := ⟨w.heap.size, 0, none⟩) (by simp)]; simp
                have q1 : w6.frozen? ⟨w.heap.size, 1, none⟩ = false := by rw [(unhide HBX).frozen (p := ⟨w.heap.size, 1, none⟩) (by simp)]; simp
                have hzz : w.heap.size < w6.heap.size := by have := (unhide HBX).size; simp at this; omega
                go_wp2_with fail
                refine bodyPost_ret (v := .tuple #[.agg #[.string fn, .string fv], .int .i64 ((a4 : Int) + 1), .bool true]) (by simp [results, Tryz.results170, go_sem, r0, r1]) rfl ⟨?_, ?_⟩
                · rw [unhide HRes]; rw [← hfn, ← hfv] <;> rfl
                · first
                  | exact ((bstep (balloc _ _) (unhide HBX)).setCell (Nat.le_refl _) _).setCell (Nat.le_refl _) _
                  | exact (bstep (balloc _ _) (unhide HBX)).setCell (Nat.le_refl _) _
              · obtain rfl : a4 = s.size := by omega
                have HRes : Hid (attrI (bl s) k0 = (([], []), s.size, false)) := hide (by rw [attrI_3 (a4 := s.size) (unhide HA0) (unhide HN0) (unhide HA1) (unhide HA2) (unhide HN2) (unhide HA3) (unhide HQ3) (by rw [unhide HG3]; exact unhide HA4), if_pos (by omega)])
                go_wp2_with fail
                refine bodyPost_ret (v := .tuple #[.agg #[.string ⟨#[]⟩, .string ⟨#[]⟩], .int .i64 (s.size : Int), .bool false]) (by simp [results, Tryz.results170, go_sem]) rfl ⟨?_, ?_⟩
                · rw [unhide HRes]; rfl
                · exact balloc _ _
            · have h34e := ne_eq h34
              by_cases h39 : c3 = 39
              · subst h39
                have HQ3 : Hid (a3 < (bl s).length ∧ ((bl s).getD a3 0 = 34 ∨ (bl s).getD a3 0 = 39)) := hide (by rw [unhide HG3]; omega)
                have HX3 : Hid (bl ⟨#[]⟩ = cut (bl s) (a3 + 1) (a3 + 1)) := hide (by rw [cut_self]; rfl)
                go_upto_block 8 with fail
                go_cut [1, 8] (fun i nmv wx => ∃ t : ByteArray, i = .int .i64 (run (pNot 39) (bl s) (a3 + 1) : Int) ∧ nmv = .string t ∧ bl t = cut (bl s) (a3 + 1) (run (pNot 39) (bl s) (a3 + 1)) ∧ wx = w.alloc (.cells #[.string ⟨#[]⟩, .string ⟨#[]⟩] 80))
                case first =>
                  go_wp2_with fail
                  go_loopw [1, 8] (fun i nmv wr => ∃ (k : Nat) (t : ByteArray), i = .int .i64 k ∧ nmv = .string t ∧ a3 + 1 ≤ k ∧ k ≤ s.size ∧ Hid (run (pNot 39) (bl s) k = run (pNot 39) (bl s) (a3 + 1)) ∧ Hid (bl t = cut (bl s) (a3 + 1) k) ∧ wr = w.alloc (.cells #[.string ⟨#[]⟩, .string ⟨#[]⟩] 80)) (fun i _ _ => s.size - (intOf i).toNat)
                  case atStart => exact ⟨a3 + 1, _, by go_num, rfl, by omega, by omega, hide rfl, HX3, rfl⟩
                  case round =>
                    obtain ⟨k, t, rfl, rfl, hlo, hk, HR, HX, rfl⟩ := hrel
                    have htz : t.size ≤ 3000 := by rw [← bl_len, unhide HX, cut_len (by omega)]; omega
                    by_cases hlt : k < s.size
                    · have hcb := u8_lt s hlt
                      have HG := hide (bl_at hlt)
                      obtain ⟨c, hcc⟩ : ∃ c : Int, (s[k].toNat : Int) = c := ⟨_, rfl⟩
                      rw [hcc] at hcb HG
                      by_cases hq2 : c = 39
                      · subst hq2
                        have HE : Hid (run (pNot 39) (bl s) (a3 + 1) = k) := hide (by rw [← unhide HR, run_stop (by omega) (by rw [unhide HG]; exact pNot_y _)])
                        go_wp2_with fail
                        go_meet
                        case rel => exact ⟨t, by rw [unhide HE], rfl, by rw [unhide HE]; exact unhide HX, rfl⟩
                      · have hqe := ne_eq hq2
                        have hqn := ne_ne hq2
                        have HR' : Hid (run (pNot 39) (bl s) (k + 1) = run (pNot 39) (bl s) (a3 + 1)) := hide (by rw [← run_step (by omega) (by rw [unhide HG]; exact pNot_n hqe), unhide HR])
                        have HX' := hide (cut_step (unhide HX) (by omega) hlt)
                        have hz1 := ext_one hlt
                        have hsl : ∀ wx, (Instr.slice 9 (.string s) (some (.int .i64 (k : Int))) (some (.int .i64 ((k : Int) + 1))) none).run Tryz.prog wx = .ok (.string (s.extract k (k + 1))) wx := fun wx => run_slice_string (P := Tryz.prog) wx 9 s .i64 .i64 (k : Int) ((k : Int) + 1) Tryz.underlying9 (by omega) (by omega) (by omega)
                        go_wp2_with fail
                        go_roundw
                        case rel => exact ⟨k + 1, t ++ s.extract k (k + 1), by go_num, rfl, by omega, by omega, HR', HX', by first | rfl | trivial⟩
                        case measure => simp [intOf]; omega
                    · have HE : Hid (run (pNot 39) (bl s) (a3 + 1) = k) := hide (by rw [← unhide HR, run_end (by omega)])
                      go_wp2_with fail
                      go_meet
                      case rel => exact ⟨t, by rw [unhide HE], rfl, by rw [unhide HE]; exact unhide HX, rfl⟩
                obtain ⟨vlt, rfl, rfl, hx4, rfl⟩ := hcut
                have HX4 := hide hx4
                have ha4 := run_le (pNot 39) (bl s) (i := a3 + 1) (by omega)
                have ga4 := run_ge (pNot 39) (bl s) (a3 + 1)
                obtain ⟨a4, HA4⟩ : ∃ a4, Hid (run (pNot 39) (bl s) (a3 + 1) = a4) := ⟨_, hide rfl⟩
                rw [unhide HA4] at ha4 ga4 HX4 ⊢
                clear hx4
                have htz4 : vlt.size ≤ 3000 := by rw [← bl_len, unhide HX4, cut_len (by omega)]; omega
                by_cases hlt4 : a4 < s.size
                · have hne4 : ((a4 : Int) == (s.size : Int)) = false := by simp; omega
                  have HRes : Hid (attrI (bl s) k0 = ((fdI (cut (bl s) a0 a1), fdI (cut (bl s) (a3 + 1) a4)), a4 + 1, true)) := hide (by rw [attrI_3 (a4 := a4) (unhide HA0) (unhide HN0) (unhide HA1) (unhide HA2) (unhide HN2) (unhide HA3) (unhide HQ3) (by rw [unhide HG3]; exact unhide HA4), if_neg (by omega)])
                  have HF1 := hide (fun w => foldOf_any nmt w htz1)
                  rw [unhide HX1] at HF1
                  have HF2 := hide (fun w => foldOf_any vlt w htz4)
                  rw [unhide HX4] at HF2
                  generalize hfn : strOfNums (fdI (cut (bl s) a0 a1)) = fn at *
                  generalize hfv : strOfNums (fdI (cut (bl s) (a3 + 1) a4)) = fv at *
                  go_wp2_with fail
                  refine (unhide HF1 _).mono ?_
                  rintro e w5 ⟨rfl, hb5⟩
                  have HB5 := hide hb5
                  clear hb5
                  go_wp2_with fail
                  refine (unhide HF2 _).mono ?_
                  rintro e w6 ⟨rfl, hb6⟩
                  have HBX := hide (bstep (unhide HB5) hb6)
                  clear hb6
                  have r0 : w6.cell? ⟨w.heap.size, 0, none⟩ = some (.string ⟨#[]⟩) := by rw [(unhide HBX).cell (p := ⟨w.heap.size, 0, none⟩) (by simp)]; simp
                  have r1 : w6.cell? ⟨w.heap.size, 1, none⟩ = some (.string ⟨#[]⟩) := by rw [(unhide HBX).cell (p := ⟨w.heap.size, 1, none⟩) (by simp)]; simp
                  have q0 : w6.frozen? ⟨w.heap.size, 0, none⟩ = false := by rw [(unhide HBX).frozen (p := ⟨w.heap.size, 0, none⟩) (by simp)]; simp
                  have q1 : w6.frozen? ⟨w.heap.size, 1, none⟩ = false := by rw [(unhide HBX).frozen (p := ⟨w.heap.size, 1, none⟩) (by simp)]; simp
                  have hzz : w.heap.size < w6.heap.size := by have := (unhide HBX).size; simp at this; omega
                  go_wp2_with fail
                  refine bodyPost_ret (v := .tuple #[.agg #[.string fn, .string fv], .int .i64 ((a4 : Int) + 1), .bool true]) (by simp [results, Tryz.results170, go_sem, r0, r1]) rfl ⟨?_, ?_⟩
                  · rw [unhide HRes]; rw [← hfn, ← hfv] <;> rfl
                  · first
                    | exact ((bstep (balloc _ _) (unhide HBX)).setCell (Nat.le_refl _) _).setCell (Nat.le_refl _) _
                    | exact (bstep (balloc _ _) (unhide HBX)).setCell (Nat.le_refl _) _
                · obtain rfl : a4 = s.size := by omega
                  have HRes : Hid (attrI (bl s) k0 = (([], []), s.size, false)) := hide (by rw [attrI_3 (a4 := s.size) (unhide HA0) (unhide HN0) (unhide HA1) (unhide HA2) (unhide HN2) (unhide HA3) (unhide HQ3) (by rw [unhide HG3]; exact unhide HA4), if_pos (by omega)])
                  go_wp2_with fail
                  refine bodyPost_ret (v := .tuple #[.agg #[.string ⟨#[]⟩, .string ⟨#[]⟩], .int .i64 (s.size : Int), .bool false]) (by simp [results, Tryz.results170, go_sem]) rfl ⟨?_, ?_⟩
                  · rw [unhide HRes]; rfl
                  · exact balloc _ _
              · have h39e := ne_eq h39
                have HQ3 : Hid (¬ (a3 < (bl s).length ∧ ((bl s).getD a3 0 = 34 ∨ (bl s).getD a3 0 = 39))) := hide (by rw [unhide HG3]; omega)
                have HX3 : Hid (bl ⟨#[]⟩ = cut (bl s) (a3) (a3)) := hide (by rw [cut_self]; rfl)
                go_upto_block 10 with fail
                go_cut [1, 8] (fun i nmv wx => ∃ t : ByteArray, i = .int .i64 (run pVal (bl s) (a3) : Int) ∧ nmv = .string t ∧ bl t = cut (bl s) (a3) (run pVal (bl s) (a3)) ∧ wx = w.alloc (.cells #[.string ⟨#[]⟩, .string ⟨#[]⟩] 80))
                case first =>
                  go_wp2_with fail
                  go_loopw [1, 8] (fun i nmv wr => ∃ (k : Nat) (t : ByteArray), i = .int .i64 k ∧ nmv = .string t ∧ a3 ≤ k ∧ k ≤ s.size ∧ Hid (run pVal (bl s) k = run pVal (bl s) (a3)) ∧ Hid (bl t = cut (bl s) (a3) k) ∧ wr = w.alloc (.cells #[.string ⟨#[]⟩, .string ⟨#[]⟩] 80)) (fun i _ _ => s.size - (intOf i).toNat)
                  case atStart => exact ⟨a3, _, by go_num, rfl, by omega, by omega, hide rfl, HX3, rfl⟩
                  case round =>
                    obtain ⟨k, t, rfl, rfl, hlo, hk, HR, HX, rfl⟩ := hrel
                    have htz : t.size ≤ 3000 := by rw [← bl_len, unhide HX, cut_len (by omega)]; omega
                    by_cases hlt : k < s.size
                    · have hcb := u8_lt s hlt
                      have HG := hide (bl_at hlt)
                      obtain ⟨c, hcc⟩ : ∃ c : Int, (s[k].toNat : Int) = c := ⟨_, rfl⟩
                      rw [hcc] at hcb HG
                      by_cases h62 : c = 62
                      · subst h62
                        have HE : Hid (run pVal (bl s) (a3) = k) := hide (by rw [← unhide HR, run_stop (by omega) (by rw [unhide HG]; exact (by decide))])
                        go_wp2_with fail
                        go_meet
                        case rel => exact ⟨t, by rw [unhide HE], rfl, by rw [unhide HE]; exact unhide HX, rfl⟩
                      · have h62e := ne_eq h62
                        have h62n := ne_ne h62
                        have W := isWhite_any c
                        cases hw : wh c
                        · rw [hw] at W
                          have HR' : Hid (run pVal (bl s) (k + 1) = run pVal (bl s) (a3)) := hide (by rw [← run_step (by omega) (by rw [unhide HG]; exact pVal_n h62e hw), unhide HR])
                          have HX' := hide (cut_step (unhide HX) (by omega) hlt)
                          have hz1 := ext_one hlt
                          have hsl : ∀ wx, (Instr.slice 9 (.string s) (some (.int .i64 (k : Int))) (some (.int .i64 ((k : Int) + 1))) none).run Tryz.prog wx = .ok (.string (s.extract k (k + 1))) wx := fun wx => run_slice_string (P := Tryz.prog) wx 9 s .i64 .i64 (k : Int) ((k : Int) + 1) Tryz.underlying9 (by omega) (by omega) (by omega)
                          go_wp2_with fail
                          refine (W _ hcb).mono ?_
                          rintro e wz ⟨rfl, hwz⟩
                          replace hwz := hwz.symm
                          subst hwz
                          go_wp2_with fail
                          go_roundw
                          case rel => exact ⟨k + 1, t ++ s.extract k (k + 1), by go_num, rfl, by omega, by omega, HR', HX', by first | rfl | trivial⟩
                          case measure => simp [intOf]; omega
                        · rw [hw] at W
                          have HE : Hid (run pVal (bl s) (a3) = k) := hide (by rw [← unhide HR, run_stop (by omega) (by rw [unhide HG]; exact pVal_w hw)])
                          go_wp2_with fail
                          refine (W _ hcb).mono ?_
                          rintro e wz ⟨rfl, hwz⟩
                          replace hwz := hwz.symm
                          subst hwz
                          go_wp2_with fail
                          go_meet
                          case rel => exact ⟨t, by rw [unhide HE], rfl, by rw [unhide HE]; exact unhide HX, rfl⟩
                    · have HE : Hid (run pVal (bl s) (a3) = k) := hide (by rw [← unhide HR, run_end (by omega)])
                      go_wp2_with fail
                      go_meet
                      case rel => exact ⟨t, by rw [unhide HE], rfl, by rw [unhide HE]; exact unhide HX, rfl⟩
                obtain ⟨vlt, rfl, rfl, hx4, rfl⟩ := hcut
                have HX4 := hide hx4
                have ha4 := run_le pVal (bl s) (i := a3) (by omega)
                have ga4 := run_ge pVal (bl s) (a3)
                obtain ⟨a4, HA4⟩ : ∃ a4, Hid (run pVal (bl s) (a3) = a4) := ⟨_, hide rfl⟩
                rw [unhide HA4] at ha4 ga4 HX4 ⊢
                clear hx4
                have htz4 : vlt.size ≤ 3000 := by rw [← bl_len, unhide HX4, cut_len (by omega)]; omega
                have HRes := hide (attrI_4 (unhide HA0) (unhide HN0) (unhide HA1) (unhide HA2) (unhide HN2) (unhide HA3) (unhide HQ3) (unhide HA4))
                have HF1 := hide (fun w => foldOf_any nmt w htz1)
                rw [unhide HX1] at HF1
                have HF2 := hide (fun w => foldOf_any vlt w htz4)
                rw [unhide HX4] at HF2
                generalize hfn : strOfNums (fdI (cut (bl s) a0 a1)) = fn at *
                generalize hfv : strOfNums (fdI (cut (bl s) (a3) a4)) = fv at *
                go_wp2_with fail
                refine (unhide HF1 _).mono ?_
                rintro e w5 ⟨rfl, hb5⟩
                have HB5 := hide hb5
                clear hb5
                go_wp2_with fail
                refine (unhide HF2 _).mono ?_
                rintro e w6 ⟨rfl, hb6⟩
                have HBX := hide (bstep (unhide HB5) hb6)
                clear hb6
                have r0 : w6.cell? ⟨w.heap.size, 0, none⟩ = some (.string ⟨#[]⟩) := by rw [(unhide HBX).cell (p := ⟨w.heap.size, 0, none⟩) (by simp)]; simp
                have r1 : w6.cell? ⟨w.heap.size, 1, none⟩ = some (.string ⟨#[]⟩) := by rw [(unhide HBX).cell (p := ⟨w.heap.size, 1, none⟩) (by simp)]; simp
                have q0 : w6.frozen? ⟨w.heap.size, 0, none⟩ = false := by rw [(unhide HBX).frozen (p := ⟨w.heap.size, 0, none⟩) (by simp)]; simp
                have q1 : w6.frozen? ⟨w.heap.size, 1, none⟩ = false := by rw [(unhide HBX).frozen (p := ⟨w.heap.size, 1, none⟩) (by simp)]; simp
                have hzz : w.heap.size < w6.heap.size := by have := (unhide HBX).size; simp at this; omega
                go_wp2_with fail
                refine bodyPost_ret (v := .tuple #[.agg #[.string fn, .string fv], .int .i64 (a4 : Int), .bool true]) (by simp [results, Tryz.results170, go_sem, r0, r1]) rfl ⟨?_, ?_⟩
                · rw [unhide HRes]; rw [← hfn, ← hfv] <;> rfl
                · first
                  | exact ((bstep (balloc _ _) (unhide HBX)).setCell (Nat.le_refl _) _).setCell (Nat.le_refl _) _
                  | exact (bstep (balloc _ _) (unhide HBX)).setCell (Nat.le_refl _) _
          · obtain rfl : a3 = s.size := by omega
            have HQ3 : Hid (¬ (s.size < (bl s).length ∧ ((bl s).getD s.size 0 = 34 ∨ (bl s).getD s.size 0 = 39))) := hide (by omega)
            have HX3 : Hid (bl ⟨#[]⟩ = cut (bl s) (s.size) (s.size)) := hide (by rw [cut_self]; rfl)
            go_upto_block 10 with fail
            go_cut [1, 8] (fun i nmv wx => ∃ t : ByteArray, i = .int .i64 (run pVal (bl s) (s.size) : Int) ∧ nmv = .string t ∧ bl t = cut (bl s) (s.size) (run pVal (bl s) (s.size)) ∧ wx = w.alloc (.cells #[.string ⟨#[]⟩, .string ⟨#[]⟩] 80))
            case first =>
              go_wp2_with fail
              go_loopw [1, 8] (fun i nmv wr => ∃ (k : Nat) (t : ByteArray), i = .int .i64 k ∧ nmv = .string t ∧ s.size ≤ k ∧ k ≤ s.size ∧ Hid (run pVal (bl s) k = run pVal (bl s) (s.size)) ∧ Hid (bl t = cut (bl s) (s.size) k) ∧ wr = w.alloc (.cells #[.string ⟨#[]⟩, .string ⟨#[]⟩] 80)) (fun i _ _ => s.size - (intOf i).toNat)
              case atStart => exact ⟨s.size, _, by go_num, rfl, by omega, by omega, hide rfl, HX3, rfl⟩
              case round =>
                obtain ⟨k, t, rfl, rfl, hlo, hk, HR, HX, rfl⟩ := hrel
                have htz : t.size ≤ 3000 := by rw [← bl_len, unhide HX, cut_len (by omega)]; omega
                by_cases hlt : k < s.size
                · have hcb := u8_lt s hlt
                  have HG := hide (bl_at hlt)
                  obtain ⟨c, hcc⟩ : ∃ c : Int, (s[k].toNat : Int) = c := ⟨_, rfl⟩
                  rw [hcc] at hcb HG
                  exfalso; omega
                · have HE : Hid (run pVal (bl s) (s.size) = k) := hide (by rw [← unhide HR, run_end (by omega)])
                  go_wp2_with fail
                  go_meet
                  case rel => exact ⟨t, by rw [unhide HE], rfl, by rw [unhide HE]; exact unhide HX, rfl⟩
            obtain ⟨vlt, rfl, rfl, hx4, rfl⟩ := hcut
            have HX4 := hide hx4
            have ha4 := run_le pVal (bl s) (i := s.size) (by omega)
            have ga4 := run_ge pVal (bl s) (s.size)
            obtain ⟨a4, HA4⟩ : ∃ a4, Hid (run pVal (bl s) (s.size) = a4) := ⟨_, hide rfl⟩
            rw [unhide HA4] at ha4 ga4 HX4 ⊢
            clear hx4
            have htz4 : vlt.size ≤ 3000 := by rw [← bl_len, unhide HX4, cut_len (by omega)]; omega
            have HRes := hide (attrI_4 (unhide HA0) (unhide HN0) (unhide HA1) (unhide HA2) (unhide HN2) (unhide HA3) (unhide HQ3) (unhide HA4))
            have HF1 := hide (fun w => foldOf_any nmt w htz1)
            rw [unhide HX1] at HF1
            have HF2 := hide (fun w => foldOf_any vlt w htz4)
            rw [unhide HX4] at HF2
            generalize hfn : strOfNums (fdI (cut (bl s) a0 a1)) = fn at *
            generalize hfv : strOfNums (fdI (cut (bl s) (s.size) a4)) = fv at *
            go_wp2_with fail
            refine (unhide HF1 _).mono ?_
            rintro e w5 ⟨rfl, hb5⟩
            have HB5 := hide hb5
            clear hb5
            go_wp2_with fail
            refine (unhide HF2 _).mono ?_
            rintro e w6 ⟨rfl, hb6⟩
            have HBX := hide (bstep (unhide HB5) hb6)
            clear hb6
            have r0 : w6.cell? ⟨w.heap.size, 0, none⟩ = some (.string ⟨#[]⟩) := by rw [(unhide HBX).cell (p := ⟨w.heap.size, 0, none⟩) (by simp)]; simp
            have r1 : w6.cell? ⟨w.heap.size, 1, none⟩ = some (.string ⟨#[]⟩) := by rw [(unhide HBX).cell (p := ⟨w.heap.size, 1, none⟩) (by simp)]; simp
            have q0 : w6.frozen? ⟨w.heap.size, 0, none⟩ = false := by rw [(unhide HBX).frozen (p := ⟨w.heap.size, 0, none⟩) (by simp)]; simp
            have q1 : w6.frozen? ⟨w.heap.size, 1, none⟩ = false := by rw [(unhide HBX).frozen (p := ⟨w.heap.size, 1, none⟩) (by simp)]; simp
            have hzz : w.heap.size < w6.heap.size := by have := (unhide HBX).size; simp at this; omega
            go_wp2_with fail
            refine bodyPost_ret (v := .tuple #[.agg #[.string fn, .string fv], .int .i64 (a4 : Int), .bool true]) (by simp [results, Tryz.results170, go_sem, r0, r1]) rfl ⟨?_, ?_⟩
            · rw [unhide HRes]; rw [← hfn, ← hfv] <;> rfl
            · first
              | exact ((bstep (balloc _ _) (unhide HBX)).setCell (Nat.le_refl _) _).setCell (Nat.le_refl _) _
              | exact (bstep (balloc _ _) (unhide HBX)).setCell (Nat.le_refl _) _
        · have h61n := ne_ne h61
          have HRes := hide (attrI_2 (unhide HA0) (unhide HN0) (unhide HA1) (unhide HA2) (.inr (by rw [unhide HG2]; exact h61)))
          have HF := hide (fun w => foldOf_any nmt w htz1)
          rw [unhide HX1] at HF
          generalize hfn : strOfNums (fdI (cut (bl s) a0 a1)) = fn at *
          go_wp2_with fail
          refine (unhide HF _).mono ?_
          rintro e w5 ⟨rfl, hb5⟩
          have HBX := hide hb5
          clear hb5
          have r0 : w5.cell? ⟨w.heap.size, 0, none⟩ = some (.string ⟨#[]⟩) := by rw [(unhide HBX).cell (p := ⟨w.heap.size, 0, none⟩) (by simp)]; simp
          have r1 : w5.cell? ⟨w.heap.size, 1, none⟩ = some (.string ⟨#[]⟩) := by rw [(unhide HBX).cell (p := ⟨w.heap.size, 1, none⟩) (by simp)]; simp
          have q0 : w5.frozen? ⟨w.heap.size, 0, none⟩ = false := by rw [(unhide HBX).frozen (p := ⟨w.heap.size, 0, none⟩) (by simp)]; simp
          have q1 : w5.frozen? ⟨w.heap.size, 1, none⟩ = false := by rw [(unhide HBX).frozen (p := ⟨w.heap.size, 1, none⟩) (by simp)]; simp
          have hzz : w.heap.size < w5.heap.size := by have := (unhide HBX).size; simp at this; omega
          go_wp2_with fail
          refine bodyPost_ret (v := .tuple #[.agg #[.string fn, .string ⟨#[]⟩], .int .i64 (a2 : Int), .bool true]) (by simp [results, Tryz.results170, go_sem, r0, r1]) rfl ⟨?_, ?_⟩
          · rw [unhide HRes]; rw [← hfn]; rfl
          · first
            | exact ((bstep (balloc _ _) (unhide HBX)).setCell (Nat.le_refl _) _).setCell (Nat.le_refl _) _
            | exact (bstep (balloc _ _) (unhide HBX)).setCell (Nat.le_refl _) _
      · obtain rfl : a2 = s.size := by omega
        have HRes := hide (attrI_2 (unhide HA0) (unhide HN0) (unhide HA1) (unhide HA2) (.inl (by omega)))
        have HF := hide (fun w => foldOf_any nmt w htz1)
        rw [unhide HX1] at HF
        generalize hfn : strOfNums (fdI (cut (bl s) a0 a1)) = fn at *
        go_wp2_with fail
        refine (unhide HF _).mono ?_
        rintro e w5 ⟨rfl, hb5⟩
        have HBX := hide hb5
        clear hb5
        have r0 : w5.cell? ⟨w.heap.size, 0, none⟩ = some (.string ⟨#[]⟩) := by rw [(unhide HBX).cell (p := ⟨w.heap.size, 0, none⟩) (by simp)]; simp
        have r1 : w5.cell? ⟨w.heap.size, 1, none⟩ = some (.string ⟨#[]⟩) := by rw [(unhide HBX).cell (p := ⟨w.heap.size, 1, none⟩) (by simp)]; simp
        have q0 : w5.frozen? ⟨w.heap.size, 0, none⟩ = false := by rw [(unhide HBX).frozen (p := ⟨w.heap.size, 0, none⟩) (by simp)]; simp
        have q1 : w5.frozen? ⟨w.heap.size, 1, none⟩ = false := by rw [(unhide HBX).frozen (p := ⟨w.heap.size, 1, none⟩) (by simp)]; simp
        have hzz : w.heap.size < w5.heap.size := by have := (unhide HBX).size; simp at this; omega
        go_wp2_with fail
        refine bodyPost_ret (v := .tuple #[.agg #[.string fn, .string ⟨#[]⟩], .int .i64 (s.size : Int), .bool true]) (by simp [results, Tryz.results170, go_sem, r0, r1]) rfl ⟨?_, ?_⟩
        · rw [unhide HRes]; rw [← hfn]; rfl
        · first
          | exact ((bstep (balloc _ _) (unhide HBX)).setCell (Nat.le_refl _) _).setCell (Nat.le_refl _) _
          | exact (bstep (balloc _ _) (unhide HBX)).setCell (Nat.le_refl _) _
  · obtain rfl : a0 = s.size := by omega
    have HRes := hide (attrI_1 (unhide HA0) (.inl (by omega)))
    go_wp2_with fail
    refine bodyPost_ret (v := .tuple #[.agg #[.string ⟨#[]⟩, .string ⟨#[]⟩], .int .i64 (s.size : Int), .bool false]) (by simp [results, Tryz.results170, go_sem]) rfl ⟨?_, ?_⟩
    · rw [unhide HRes]; rfl
    · exact balloc _ _
end Go.Proofs.YtaiinjfnkmidbaaGreatDoor

namespace Go.Proofs.YtaiinjfnkmidbaaGreatDoor
open Go.RowKit
set_option linter.unusedVariables false

/-- The cells of attributes. -/
def atCells (L : List (List Int × List Int)) : List Value := L.flatMap fun x => [.string (strOfNums x.1), .string (strOfNums x.2)]
theorem atCells_snoc (L : List (List Int × List Int)) (x : List Int × List Int) : atCells (L ++ [x]) = atCells L ++ [.string (strOfNums x.1), .string (strOfNums x.2)] := by simp [atCells]
theorem infoA : (Tryz.prog.info? 80).map (fun i => (i.zero, i.size, i.bytes)) = some (some (.agg #[.string ⟨#[]⟩, .string ⟨#[]⟩]), 2, 32) := by kernel_rfl
/-- What a round of AttrsAt's loop knows. -/
def InA (l : List Int) (k0 : Nat) (w wr : World) (k : Nat) (v : Value) : Prop := ∃ L, wr.ownsRow w.heap.size 80 2 v L.length (atCells L) ∧ Below w.heap.size w wr ∧ L.length ≤ k ∧ attrsI l k0 = (L ++ (attrsI l k).1, (attrsI l k).2)

set_option maxHeartbeats 3200000 in
set_option maxRecDepth 100000 in
theorem attrsAt_any (s : ByteArray) (k0 : Nat) (w : World) (hk0 : k0 ≤ s.size) (hs : s.size ≤ 3000) :
    Calls Tryz.prog 114 #[.string s, .int .i64 (k0 : Int)] w fun e w' => ∃ v, e = .returned (.tuple #[v, .int .i64 ((attrsI (bl s) k0).2 : Int)]) ∧ w'.ownsRow w.heap.size 80 2 v (attrsI (bl s) k0).1.length (atCells (attrsI (bl s) k0).1) ∧ Below w.heap.size w w' := by
  obtain ⟨i0, hi, hz0, hz1, hz2⟩ := info_parts infoA
  have HI : Hid (InA (bl s) k0 w w k0 (.slice none 0 0)) := hide ⟨[], World.ownsRow_nil _ _ _ _, Below.refl _ _, by simp, by simp⟩
  have hl := bl_len s
  go_enter Tryz.func114, Tryz.ntmps114
  go_wp2_with fail
  go_loopw [1, 6] (fun i v wr => ∃ k : Nat, i = .int .i64 k ∧ k ≤ s.size ∧ InA (bl s) k0 w wr k v) (fun i _ _ => s.size - (intOf i).toNat)
  case atStart => exact ⟨k0, rfl, hk0, unhide HI⟩
  case round =>
    obtain ⟨k, rfl, hk, L, hO, hB, hLk, hE⟩ := hrel
    clear HI
    have HO := hide hO
    have HB := hide hB
    have HE := hide hE
    have hz := hB.size
    have HA := hide (fun w => attrAt_any s k w hk hs)
    have hle := attrI_le (l := bl s) (at' := k) (by omega)
    clear hO hB hE
    obtain ⟨av, cv, hsh⟩ := owns_shape (unhide HO)
    subst hsh
    obtain ⟨x, tt, ok, HX⟩ : ∃ x tt ok, Hid (attrI (bl s) k = (x, tt, ok)) := ⟨_, _, _, hide rfl⟩
    rw [unhide HX] at HA hle
    simp only at HA hle
    cases ok
    · have HN : Hid (attrsI (bl s) k = ([], tt)) := hide (by rw [attrsI_no (by omega) (by rw [unhide HX]), unhide HX])
      have HE' : Hid (attrsI (bl s) k0 = (L, tt)) := hide (by rw [unhide HE, unhide HN]; simp)
      obtain ⟨x1, x2⟩ := x
      go_wp2_with fail
      refine (unhide HA _).mono ?_
      rintro e w1 ⟨rfl, hb1⟩
      have HB1 := hide (bstep (unhide HB) (bstep hb1 (balloc w1 (.cells #[.string (strOfNums x1), .string (strOfNums x2)] 80))))
      have HO1 := hide (owns_a (owns_below (unhide HO) hb1) (.cells #[.string (strOfNums x1), .string (strOfNums x2)] 80))
      clear hb1
      simp only
      generalize strOfNums x1 = t1 at *
      generalize strOfNums x2 = t2 at *
      go_wp2_with fail
      go_ret2
      refine ⟨.slice av L.length cv, by rw [unhide HE']; rfl, ?_, unhide HB1⟩
      rw [unhide HE']; exact unhide HO1
    · have hto := hle.2.2 rfl
      have HY : Hid (attrsI (bl s) k = (x :: (attrsI (bl s) tt).1, (attrsI (bl s) tt).2)) := hide (by rw [attrsI_yes (by omega) (by rw [unhide HX]), unhide HX])
      have HE' : Hid (attrsI (bl s) k0 = ((L ++ [x]) ++ (attrsI (bl s) tt).1, (attrsI (bl s) tt).2)) := hide (by rw [unhide HE, unhide HY]; simp)
      have HS := hide (atCells_snoc L x)
      obtain ⟨x1, x2⟩ := x
      go_wp2_with fail
      refine (unhide HA _).mono ?_
      rintro e w1 ⟨rfl, hb1⟩
      have hz1' := hb1.size
      have HB1 := hide (bstep (unhide HB) hb1)
      have HO1 := hide (owns_below (unhide HO) hb1)
      clear hb1
      simp only at HS ⊢
      generalize strOfNums x1 = t1 at *
      generalize strOfNums x2 = t2 at *
      go_wp2_with (at_builtin; refine wpList_append_own _ rfl (.tmp 22) (.tmp 24) 75 rfl w.heap.size 80 i0 (.agg #[.string ⟨#[]⟩, .string ⟨#[]⟩]) 2 32 Tryz.underlying75 hi hz0 hz1 hz2 rfl (by decide) _ _ _ rfl (owns_a (owns_a (unhide HO1) _) _) ⟨w1.heap.size + 1, 0, none⟩ 1 1 [.string t1, .string t2] rfl rfl ?c1 ?c2 ?c3 ?c4 ?c5 ?_)
      case c1 =>
        intro j u hj
        match j, hj with
        | 0, hj => simp at hj; subst hj; simp [Addr.add]
        | 1, hj => simp at hj; subst hj; simp [Addr.add]
      case c2 => intro u hu; simp at hu; rcases hu with rfl | rfl <;> rfl
      case c3 => unfold maxLen; omega
      case c4 => omega
      case c5 => simp; omega
      intro v2 w2 ho2 hg2 _
      obtain ⟨ao2, cap2, hsh2⟩ := owns_shape ho2
      subst hsh2
      have hlt := (unhide HO1).lt
      have HJ : Hid (InA (bl s) k0 w w2 tt (.slice ao2 (L.length + 1) cap2)) := hide ⟨L ++ [(x1, x2)], by rw [unhide HS]; simpa using ho2, (unhide HB1).trans ((((Below.refl w.heap.size w1).alloc (by omega) _).alloc (by simp; omega) _).grown hg2 (by simp; omega) (fun j hj => (hlt j hj).1)), by simp; omega, unhide HE'⟩
      clear ho2 hg2 hlt
      go_wp2_with fail
      go_roundw
      case rel => exact ⟨tt, rfl, by omega, by simpa using unhide HJ⟩
      case measure => simp [intOf]; omega
end Go.Proofs.YtaiinjfnkmidbaaGreatDoor

namespace Go.Proofs.YtaiinjfnkmidbaaGreatDoor
open Go.RowKit
set_option linter.unusedVariables false

/-- Does a text of small letters stand at a place? -/
def bgn (l : List Int) (k : Nat) (m : List Int) : Bool := decide (k + m.length ≤ l.length ∧ fdI (cut l k (k + m.length)) = m)
theorem bgn_no {l : List Int} {k : Nat} {m : List Int} (h : l.length < k + m.length) : bgn l k m = false := by unfold bgn; exact decide_eq_false (by omega)
theorem bgn_at {s m : ByteArray} {k : Nat} (h : k + m.size ≤ s.size) : decide (strOfNums (fdI (cut (bl s) k (k + m.size))) = m) = bgn (bl s) k (bl m) := by
  unfold bgn
  rw [Bool.eq_iff_iff, decide_eq_true_eq, decide_eq_true_eq, bl_len, bl_len]
  have hb : ∀ x ∈ fdI (cut (bl s) k (k + m.size)), 0 ≤ x ∧ x ≤ 255 := by
    have := fd_byt (l := cut (bl s) k (k + m.size)) (by
      intro x hx
      unfold cut at hx
      exact bl_byt s x (List.mem_of_mem_drop (List.mem_of_mem_take hx)))
    exact this
  constructor
  · intro e
    refine ⟨h, ?_⟩
    rw [← bl_str _ hb, e]
  · rintro ⟨_, e⟩
    rw [e, str_bl]
theorem text_eq (f m : ByteArray) : (f.toList == m.toList) = decide (f = m) := by
  rw [Bool.eq_iff_iff, beq_iff_eq, decide_eq_true_eq]
  constructor
  · intro h
    apply ByteArray.ext
    apply Array.ext'
    rw [← Lib.toList_data, ← Lib.toList_data, h]
  · intro h; rw [h]
set_option maxHeartbeats 800000 in
set_option maxRecDepth 100000 in
theorem beginsAt_any (s : ByteArray) (k : Nat) (m : ByteArray) (w : World) (hk : k ≤ s.size) (hs : s.size ≤ 3000) (hm : m.size ≤ 10) :
    Calls Tryz.prog 112 #[.string s, .int .i64 (k : Int), .string m] w fun e w' => e = .returned (.bool (bgn (bl s) k (bl m))) ∧ Below w.heap.size w w' := by
  by_cases h : k + m.size ≤ s.size
  · rw [← bgn_at h]
    have HF := hide (fun w => foldOf_any (s.extract k (k + m.size)) w (by rw [← bl_len, bl_cut, cut_len (by rw [bl_len]; exact h)]; omega))
    rw [bl_cut] at HF
    have hsl : ∀ wx, (Instr.slice 9 (.string s) (some (.int .i64 (k : Int))) (some (.int .i64 ((k : Int) + (m.size : Int)))) none).run Tryz.prog wx = .ok (.string (s.extract k (k + m.size))) wx := fun wx => by
      have := run_slice_string (P := Tryz.prog) wx 9 s .i64 .i64 (k : Int) ((k : Int) + (m.size : Int)) Tryz.underlying9 (by omega) (by omega) (by omega)
      rw [this]
      simp
      congr 2
    generalize strOfNums (fdI (cut (bl s) k (k + m.size))) = f at *
    go_enter Tryz.func112, Tryz.ntmps112
    go_wp2_with fail
    refine (unhide HF _).mono ?_
    rintro e w1 ⟨rfl, hb⟩
    have HB := hide hb
    clear hb
    go_wp2_with fail
    go_ret
    refine ⟨?_, unhide HB⟩
    rw [← text_eq f m]
    rfl
  · rw [bgn_no (by rw [bl_len, bl_len]; omega)]
    go_enter Tryz.func112, Tryz.ntmps112
    go_wp2_with fail
    go_ret
    exact ⟨rfl, Below.refl _ _⟩

/-- A slice of attributes. -/
def Ats (w : World) (v : Value) (L : List (ByteArray × ByteArray)) : Prop :=
  ∃ ao cap, v = .slice ao L.length cap ∧ L.length ≤ maxLen ∧ (L = [] ∨ ∃ b off, ao = some ⟨b, off, none⟩ ∧ ∀ i (h : i < L.length), w.cell? ⟨b, off + i * 2, none⟩ = some (.string L[i].1) ∧ w.cell? ⟨b, off + i * 2 + 1, none⟩ = some (.string L[i].2))
theorem Ats.below {w w' : World} {v : Value} {L : List (ByteArray × ByteArray)} (h : Ats w v L) (hb : Below w.heap.size w w') : Ats w' v L := by
  obtain ⟨ao, cap, h1, h2, h3⟩ := h
  refine ⟨ao, cap, h1, h2, ?_⟩
  rcases h3 with h3 | ⟨b, off, h4, h5⟩
  · exact .inl h3
  · refine .inr ⟨b, off, h4, fun i hi => ⟨?_, ?_⟩⟩
    · exact (hb.cell (p := ⟨b, off + i * 2, none⟩) (World.block_lt_of_cell? w _ (h5 i hi).1)).trans (h5 i hi).1
    · exact (hb.cell (p := ⟨b, off + i * 2 + 1, none⟩) (World.block_lt_of_cell? w _ (h5 i hi).2)).trans (h5 i hi).2
/-- Attributes as texts. -/
def txts (L : List (List Int × List Int)) : List (ByteArray × ByteArray) := L.map fun x => (strOfNums x.1, strOfNums x.2)
theorem atCells_at (L : List (List Int × List Int)) : ∀ i (h : i < (txts L).length), (atCells L)[i * 2]? = some (.string (txts L)[i].1) ∧ (atCells L)[i * 2 + 1]? = some (.string (txts L)[i].2) := by
  induction L with
  | nil => intro i h; simp [txts] at h
  | cons x t ih =>
    intro i h
    cases i with
    | zero => simp [atCells, txts]
    | succ i =>
      have := ih i (by simpa [txts] using h)
      have e1 : (i + 1) * 2 = i * 2 + 2 := by omega
      rw [e1]
      simpa [atCells, txts, List.flatMap_cons] using this
theorem Ats.of_owns {w : World} {base : Nat} {v : Value} {L : List (List Int × List Int)} (h : w.ownsRow base 80 2 v L.length (atCells L)) : Ats w v (txts L) := by
  have hl : (txts L).length = L.length := by simp [txts]
  rcases h.2 with ⟨hv, hn⟩ | ⟨g, cap, cur, hv, _, hg, hnc, hcm, hcs, htk⟩
  · have : L = [] := List.length_eq_zero_iff.1 hn
    subst this
    exact ⟨none, 0, by rw [hv]; rfl, by simp [txts], .inl rfl⟩
  · refine ⟨some ⟨g, 0, none⟩, cap, by rw [hv, hl], by rw [hl]; omega, .inr ⟨g, 0, rfl, fun i hi => ?_⟩⟩
    have hc := atCells_at L i hi
    rw [← htk] at hc
    have hi' : i < L.length := by rw [← hl]; exact hi
    rw [List.getElem?_take, if_pos (by omega), List.getElem?_take, if_pos (by omega)] at hc
    simp only [World.cell?, hg, Nat.zero_add]
    simpa using hc

end Go.Proofs.YtaiinjfnkmidbaaGreatDoor

namespace Go.Proofs.YtaiinjfnkmidbaaGreatDoor
open Go.RowKit
set_option linter.unusedVariables false

/-- The cells of a table. -/
def tabCells (l : List (ByteArray × Int)) : Array Value := (l.flatMap fun x => [.string x.1, .int .i64 x.2]).toArray
/-- The table l lies at block b. -/
def Tab (w : World) (b : Nat) (l : List (ByteArray × Int)) : Prop :=
  ∀ i (h : i < l.length), w.cell? ⟨b, i * 2, none⟩ = some (.string l[i].1) ∧ w.cell? ⟨b, i * 2 + 1, none⟩ = some (.int .i64 l[i].2)

theorem tabCells_at : ∀ (l : List (ByteArray × Int)) (i : Nat) (h : i < l.length), (l.flatMap fun x => [Value.string x.1, Value.int .i64 x.2])[i * 2]? = some (.string l[i].1) ∧ (l.flatMap fun x => [Value.string x.1, Value.int .i64 x.2])[i * 2 + 1]? = some (.int .i64 l[i].2) := by
  intro l
  induction l with
  | nil => intro i h; simp at h
  | cons x t ih =>
    intro i h
    cases i with
    | zero => simp
    | succ i =>
      have := ih i (by simpa using h)
      have e1 : (i + 1) * 2 = i * 2 + 2 := by omega
      rw [e1]
      simpa [List.flatMap_cons] using this

theorem Tab.new (w : World) (l : List (ByteArray × Int)) (t : TypeId) : Tab (w.alloc (.cells (tabCells l) t)) w.heap.size l := by
  intro i h
  have := tabCells_at l i h
  rw [World.cell?_alloc_at _ _ _ _ rfl, World.cell?_alloc_at _ _ _ _ rfl]
  unfold tabCells
  simpa using this
theorem Tab.below {w w' : World} {b : Nat} {l : List (ByteArray × Int)} (h : Tab w b l) (hb : Below w.heap.size w w') : Tab w' b l := by
  intro i hi
  obtain ⟨h1, h2⟩ := h i hi
  exact ⟨(hb.cell (p := ⟨b, i * 2, none⟩) (World.block_lt_of_cell? w _ h1)).trans h1, (hb.cell (p := ⟨b, i * 2 + 1, none⟩) (World.block_lt_of_cell? w _ h2)).trans h2⟩

def labs : List (ByteArray × Int) := [(⟨#[117, 110, 105, 99, 111, 100, 101, 45, 49, 45, 49, 45, 117, 116, 102, 45, 56]⟩, 1), (⟨#[117, 116, 102, 45, 56]⟩, 1), (⟨#[117, 116, 102, 56]⟩, 1), (⟨#[117, 116, 102, 45, 49, 54]⟩, 2), (⟨#[117, 116, 102, 45, 49, 54, 108, 101]⟩, 2), (⟨#[117, 110, 105, 99, 111, 100, 101]⟩, 2), (⟨#[117, 116, 102, 45, 49, 54, 98, 101]⟩, 3), (⟨#[117, 110, 105, 99, 111, 100, 101, 102, 102, 102, 101]⟩, 3), (⟨#[119, 105, 110, 100, 111, 119, 115, 45, 49, 50, 53, 50]⟩, 4), (⟨#[99, 112, 49, 50, 53, 50]⟩, 4), (⟨#[105, 115, 111, 45, 56, 56, 53, 57, 45, 49]⟩, 4), (⟨#[108, 97, 116, 105, 110, 49]⟩, 4), (⟨#[97, 115, 99, 105, 105]⟩, 4), (⟨#[117, 115, 45, 97, 115, 99, 105, 105]⟩, 4), (⟨#[108, 49]⟩, 4), (⟨#[120, 45, 117, 115, 101, 114, 45, 100, 101, 102, 105, 110, 101, 100]⟩, 5), (⟨#[105, 115, 111, 45, 50, 48, 50, 50, 45, 106, 112]⟩, 6), (⟨#[99, 115, 105, 115, 111, 50, 48, 50, 50, 106, 112]⟩, 6), (⟨#[114, 101, 112, 108, 97, 99, 101, 109, 101, 110, 116]⟩, 7), (⟨#[104, 122, 45, 103, 98, 45, 50, 51, 49, 50]⟩, 7), (⟨#[105, 115, 111, 45, 50, 48, 50, 50, 45, 107, 114]⟩, 7), (⟨#[105, 115, 111, 45, 50, 48, 50, 50, 45, 99, 110]⟩, 7)]
set_option maxHeartbeats 1000000 in
set_option maxRecDepth 100000 in
theorem Labels_any (w : World) : Calls Tryz.prog 75 #[] w fun e w' => e = .returned (.slice (some ⟨w.heap.size, 0, none⟩) 22 22) ∧ w' = w.alloc (.cells (tabCells labs) 103) := by
  go_enter Tryz.func75, Tryz.ntmps75
  go_wp2
  go_ret
  exact ⟨rfl, rfl⟩

theorem tr_size (s : ByteArray) (hs : s.size ≤ 3000) : (strOfNums (trI (bl s))).size ≤ 3000 := by
  rw [strOfNums_size]; have := tr_len (bl s); rw [bl_len] at this; omega
/-- The number that a text's label has, or 0. -/
def findI (s : ByteArray) : Int := lk labs (strOfNums (fdI (trI (bl s))))

theorem ftrOf_any (s : ByteArray) (w : World) (hs : s.size ≤ 3000) :
    Calls Tryz.prog 110 #[.string (strOfNums (trI (bl s)))] w fun e w' => e = .returned (.string (strOfNums (fdI (trI (bl s))))) ∧ Below w.heap.size w w' := by
  have := foldOf_any (strOfNums (trI (bl s))) w (tr_size s hs)
  rw [bl_str _ (tr_byt (bl_byt s))] at this
  exact this

set_option maxHeartbeats 1000000 in
set_option maxRecDepth 100000 in
theorem findOf_any (s : ByteArray) (w : World) (hs : s.size ≤ 3000) :
    Calls Tryz.prog 55 #[.string s] w fun e w' => e = .returned (.int .i64 (findI s)) ∧ Below w.heap.size w w' := by
  have HT := hide (fun w => trimOf_any s w hs)
  have HF := hide (fun w => ftrOf_any s w hs)
  unfold findI
  generalize strOfNums (fdI (trI (bl s))) = n at *
  generalize strOfNums (trI (bl s)) = t at *
  go_enter Tryz.func55, Tryz.ntmps55
  go_wp2_with fail
  refine (unhide HT _).mono ?_
  rintro e w1 ⟨rfl, hw⟩
  replace hw := hw.symm
  subst hw
  go_wp2_with fail
  refine (unhide HF _).mono ?_
  rintro e w2 ⟨rfl, hb2⟩
  go_wp2_with fail
  refine (Labels_any _).mono ?_
  rintro e w3 ⟨rfl, hw⟩
  have hT : Tab w3 w2.heap.size labs := by rw [hw]; exact Tab.new _ _ _
  have hb3 : Below w2.heap.size w2 w3 := by rw [hw]; exact balloc _ _
  clear hw HT HF
  have HT := hide hT
  have HB := hide (bstep hb2 hb3)
  clear hT hb2 hb3
  obtain ⟨l, Hl⟩ : ∃ l, Hid (labs = l) := ⟨labs, rfl⟩
  have hlen : l.length = 22 := by rw [← unhide Hl]; rfl
  rw [unhide Hl] at HT
  go_wp2_with fail
  go_loop [4] (fun i => ∃ k : Nat, k ≤ l.length ∧ i = .int .i64 k ∧ Hid (lk labs n = lk (l.drop k) n)) (fun i => l.length - (intOf i).toNat)
  case atStart => exact ⟨0, by omega, rfl, by rw [unhide Hl]; exact rfl⟩
  case round =>
    obtain ⟨k, hk, rfl, HL⟩ := hrel
    by_cases hlt : k < l.length
    · obtain ⟨c1, c2⟩ := unhide HT k hlt
      have HD : Hid (lk (l.drop k) n = if (l[k].1 == n) then l[k].2 else lk (l.drop (k + 1)) n) := by
        show _ = _
        rw [List.drop_eq_getElem_cons hlt]; rfl
      obtain ⟨la, HA⟩ : ∃ la, Hid (l[k].1 = la) := ⟨l[k].1, rfl⟩
      obtain ⟨lb, HB'⟩ : ∃ lb, Hid (l[k].2 = lb) := ⟨l[k].2, rfl⟩
      rw [unhide HA] at c1 HD
      rw [unhide HB'] at c2 HD
      have hk22 : k < 22 := by omega
      have HQ0 := hide (beq_toListBytes la n)
      obtain ⟨q, HQ⟩ : ∃ q, Hid ((la == n) = q) := ⟨(la == n), rfl⟩
      have hq : (la.toList == n.toList) = q := by rw [← unhide HQ0]; exact unhide HQ
      rw [unhide HQ] at HD
      cases q
      · have HL' : Hid (lk labs n = lk (l.drop (k + 1)) n) := by
          show _ = _
          rw [unhide HL, unhide HD]; simp
        clear HD
        go_wp2_with fail
        go_round
        case rel => exact ⟨k + 1, by omega, by go_num, HL'⟩
        case measure => simp [intOf]; omega
      · have HL' : Hid (lk labs n = lb) := by
          show _ = _
          rw [unhide HL, unhide HD]; simp
        clear HD
        go_wp2_with fail
        go_ret
        exact ⟨by rw [unhide HL']; rfl, unhide HB⟩
    · have ek : k = l.length := by omega
      have HL' : Hid (lk labs n = 0) := by
        show _ = _
        rw [unhide HL, ek, List.drop_length]; rfl
      have hk22 : ¬ k < 22 := by omega
      go_wp2_with fail
      go_ret
      exact ⟨by rw [unhide HL']; rfl, unhide HB⟩

end Go.Proofs.YtaiinjfnkmidbaaGreatDoor

namespace Go.Proofs.YtaiinjfnkmidbaaGreatDoor

def pSemi (c : Int) : Bool := !(wh c || c == 59)
/-- The letters of charset. -/
def csL : List Int := [99, 104, 97, 114, 115, 101, 116]
def fnd (l : List Int) : Int := findI (strOfNums l)
/-- The label behind a charset, from a place on: its encoding. -/
def chs : Nat → List Int → Nat → Int
  | 0, _, _ => 0
  | n + 1, l, k =>
    if l.length ≤ k then 0 else if bgn l k csL = false then chs n l (k + 1) else
    if l.length ≤ run wh l (k + 7) ∨ l.getD (run wh l (k + 7)) 0 ≠ 61 then chs n l (run wh l (k + 7)) else
    if run wh l (run wh l (k + 7) + 1) < l.length ∧ (l.getD (run wh l (run wh l (k + 7) + 1)) 0 = 34 ∨ l.getD (run wh l (run wh l (k + 7) + 1)) 0 = 39) then
      if l.length ≤ run (pNot (l.getD (run wh l (run wh l (k + 7) + 1)) 0)) l (run wh l (run wh l (k + 7) + 1) + 1) then 0
      else fnd (cut l (run wh l (run wh l (k + 7) + 1) + 1) (run (pNot (l.getD (run wh l (run wh l (k + 7) + 1)) 0)) l (run wh l (run wh l (k + 7) + 1) + 1)))
    else fnd (cut l (run wh l (run wh l (k + 7) + 1)) (run pSemi l (run wh l (run wh l (k + 7) + 1))))
def chsF (l : List Int) (k : Nat) : Int := chs (l.length + 1 - k) l k
def chsI (l : List Int) : Int := chsF l 0
theorem bgn_le {l : List Int} {k : Nat} {m : List Int} (h : bgn l k m = true) : k + m.length ≤ l.length := (of_decide_eq_true h).1
theorem chs_more : ∀ (n m : Nat) (l : List Int) (k : Nat), k ≤ l.length → l.length + 1 - k ≤ n → l.length + 1 - k ≤ m → chs n l k = chs m l k
  | 0, _, l, k, hk, hn, _ => by omega
  | n + 1, 0, l, k, hk, _, hm => by omega
  | n + 1, m + 1, l, k, hk, hn, hm => by
    unfold chs
    split
    · rfl
    · split
      · exact chs_more n m l (k + 1) (by omega) (by omega) (by omega)
      · rename_i h1 h2
        have hb : k + 7 ≤ l.length := bgn_le (l := l) (k := k) (m := csL) (by simpa using h2)
        have g1 := run_ge wh l (k + 7)
        have e1 := run_le wh l hb
        split
        · exact chs_more n m l _ e1 (by omega) (by omega)
        · rfl
theorem chsF_end {l : List Int} {k : Nat} (hk : k = l.length) : chsF l k = 0 := by
  subst hk
  unfold chsF
  rw [show l.length + 1 - l.length = 0 + 1 from by omega]
  unfold chs
  rw [if_pos (Nat.le_refl _)]
theorem chsF_at {l : List Int} {k : Nat} (hk : k < l.length) : chsF l k = chs ((l.length - k) + 1) l k := by
  unfold chsF; rw [show l.length + 1 - k = (l.length - k) + 1 from by omega]
theorem chsF_no {l : List Int} {k : Nat} (hk : k < l.length) (h : bgn l k csL = false) : chsF l k = chsF l (k + 1) := by
  rw [chsF_at hk]
  unfold chs
  rw [if_neg (by omega), if_pos h]
  exact chs_more _ _ l (k + 1) (by omega) (by omega) (by omega)
theorem chsF_none {l : List Int} {k a1 : Nat} (hk : k < l.length) (h : bgn l k csL = true) (h1 : run wh l (k + 7) = a1) (h' : l.length ≤ a1 ∨ l.getD a1 0 ≠ 61) : chsF l k = chsF l a1 := by
  have hb : k + 7 ≤ l.length := bgn_le h
  have g1 := run_ge wh l (k + 7)
  have e1 := run_le wh l hb
  rw [chsF_at hk]
  unfold chs
  subst h1
  rw [if_neg (by omega), if_neg (by simp [h]), if_pos h']
  exact chs_more _ _ l _ e1 (by omega) (by omega)
theorem chsF_quote {l : List Int} {k a1 a2 a3 : Nat} (hk : k < l.length) (h : bgn l k csL = true) (h1 : run wh l (k + 7) = a1) (h' : ¬ (l.length ≤ a1 ∨ l.getD a1 0 ≠ 61)) (h2 : run wh l (a1 + 1) = a2) (hq : a2 < l.length ∧ (l.getD a2 0 = 34 ∨ l.getD a2 0 = 39)) (h3 : run (pNot (l.getD a2 0)) l (a2 + 1) = a3) :
    chsF l k = if l.length ≤ a3 then 0 else fnd (cut l (a2 + 1) a3) := by
  rw [chsF_at hk]
  unfold chs
  subst h1; subst h2; subst h3
  rw [if_neg (by omega), if_neg (by simp [h]), if_neg h', if_pos hq]
theorem chsF_bare {l : List Int} {k a1 a2 a3 : Nat} (hk : k < l.length) (h : bgn l k csL = true) (h1 : run wh l (k + 7) = a1) (h' : ¬ (l.length ≤ a1 ∨ l.getD a1 0 ≠ 61)) (h2 : run wh l (a1 + 1) = a2) (hq : ¬ (a2 < l.length ∧ (l.getD a2 0 = 34 ∨ l.getD a2 0 = 39))) (h3 : run pSemi l a2 = a3) :
    chsF l k = fnd (cut l a2 a3) := by
  rw [chsF_at hk]
  unfold chs
  subst h1; subst h2; subst h3
  rw [if_neg (by omega), if_neg (by simp [h]), if_neg h', if_neg hq]
theorem pSemi_n {c : Int} (h : wh c = false) (h' : (c == 59) = false) : pSemi c = true := by unfold pSemi; rw [h, h']; rfl
theorem pSemi_w {c : Int} (h : wh c = true) : pSemi c = false := by unfold pSemi; rw [h]; rfl
end Go.Proofs.YtaiinjfnkmidbaaGreatDoor

namespace Go.Proofs.YtaiinjfnkmidbaaGreatDoor

end Go.Proofs.YtaiinjfnkmidbaaGreatDoor

namespace Go.Proofs.YtaiinjfnkmidbaaGreatDoor

end Go.Proofs.YtaiinjfnkmidbaaGreatDoor

namespace Go.Proofs.YtaiinjfnkmidbaaGreatDoor
open Go.RowKit
set_option linter.unusedVariables false

theorem cs_bl : bl ⟨#[99, 104, 97, 114, 115, 101, 116]⟩ = csL := by decide
set_option maxHeartbeats 12800000 in
set_option maxRecDepth 100000 in
theorem charsetOf_any (s : ByteArray) (w : World) (hs : s.size ≤ 3000) :
    Calls Tryz.prog 171 #[.string s] w fun e w' => e = .returned (.int .i64 (chsI (bl s))) ∧ Below w.heap.size w w' := by
  have hl := bl_len s
  have HBG := hide (fun (k : Nat) (hk : k ≤ s.size) (w : World) => beginsAt_any s k ⟨#[99, 104, 97, 114, 115, 101, 116]⟩ w hk hs (by decide))
  rw [cs_bl] at HBG
  go_enter Tryz.func171, Tryz.ntmps171
  go_wp2_with fail
  go_loopw [3] (fun i wr => ∃ k : Nat, i = .int .i64 k ∧ k ≤ s.size ∧ Below w.heap.size w wr ∧ Hid (chsF (bl s) k = chsI (bl s))) (fun i _ => s.size - (intOf i).toNat)
  case atStart => exact ⟨0, rfl, by omega, Below.refl _ _, hide rfl⟩
  case round =>
    obtain ⟨K, rfl, hK, hB, HC⟩ := hrel
    have HB := hide hB
    clear hB
    by_cases hKl : K < s.size
    · have HG := hide (unhide HBG K hK)
      cases hb : bgn (bl s) K csL
      · rw [hb] at HG
        have HC' : Hid (chsF (bl s) (K + 1) = chsI (bl s)) := hide (by rw [← chsF_no (by omega) hb, unhide HC])
        go_wp2_with fail
        refine (unhide HG _).mono ?_
        rintro e w1 ⟨rfl, hb1⟩
        have HB1 := hide (bstep (unhide HB) hb1)
        clear hb1
        go_wp2_with fail
        go_roundw
        case rel => exact ⟨K + 1, by go_num, by omega, unhide HB1, HC'⟩
        case measure => simp [intOf]; omega
      · rw [hb] at HG
        have hb7 : K + 7 ≤ s.size := by have := bgn_le hb; rw [hl] at this; exact this
        have HBG1 := hide hb
        clear hb
        go_wp2_with fail
        refine (unhide HG _).mono ?_
        rintro e w1 ⟨rfl, hb1⟩
        have HB1 := hide (bstep (unhide HB) hb1)
        clear hb1
        go_upto_block 2 with fail
        go_cut [3] (fun i wx => i = .int .i64 (run wh (bl s) (K + 7) : Int) ∧ wx = w1)
        case first =>
          go_wp2_with fail
          go_loop [3] (fun i => ∃ k : Nat, i = .int .i64 k ∧ k ≤ s.size ∧ Hid (run wh (bl s) k = run wh (bl s) (K + 7))) (fun i => s.size - (intOf i).toNat)
          case atStart => exact ⟨K + 7, by go_num, by omega, hide rfl⟩
          case round =>
            obtain ⟨k, rfl, hk, HR⟩ := hrel
            by_cases hlt : k < s.size
            · have hcb := u8_lt s hlt
              have HG := hide (bl_at hlt)
              obtain ⟨c, hcc⟩ : ∃ c : Int, (s[k].toNat : Int) = c := ⟨_, rfl⟩
              rw [hcc] at hcb HG
              have W := isWhite_any c
              cases hw : wh c
              · rw [hw] at W
                have HE : Hid (run wh (bl s) (K + 7) = k) := hide (by rw [← unhide HR, run_stop (by omega) (by rw [unhide HG]; exact hw)])
                go_wp2_with fail
                refine (W _ hcb).mono ?_
                rintro e wz ⟨rfl, hwz⟩
                replace hwz := hwz.symm
                subst hwz
                go_wp2_with fail
                go_meet
                case rel => exact ⟨by rw [unhide HE], rfl⟩
              · rw [hw] at W
                have HR' : Hid (run wh (bl s) (k + 1) = run wh (bl s) (K + 7)) := hide (by rw [← run_step (by omega) (by rw [unhide HG]; exact hw), unhide HR])
                go_wp2_with fail
                refine (W _ hcb).mono ?_
                rintro e wz ⟨rfl, hwz⟩
                replace hwz := hwz.symm
                subst hwz
                go_wp2_with fail
                go_round
                case rel => exact ⟨k + 1, by go_num, by omega, HR'⟩
                case measure => simp [intOf]; omega
            · have HE : Hid (run wh (bl s) (K + 7) = k) := hide (by rw [← unhide HR, run_end (by omega)])
              go_wp2_with fail
              go_meet
              case rel => exact ⟨by rw [unhide HE], rfl⟩
        obtain ⟨rfl, hwc⟩ := hcut
        replace hwc := hwc.symm
        subst hwc
        have ha1 := run_le wh (bl s) (i := K + 7) (by omega)
        have ga1 := run_ge wh (bl s) (K + 7)
        obtain ⟨a1, HA1⟩ : ∃ a1, Hid (run wh (bl s) (K + 7) = a1) := ⟨_, hide rfl⟩
        rw [unhide HA1] at ha1 ga1 ⊢
        by_cases hlt1 : a1 < s.size
        · have hcb1 := u8_lt s hlt1
          have HG1 := hide (bl_at hlt1)
          obtain ⟨c1, hcc1⟩ : ∃ c : Int, (s[a1].toNat : Int) = c := ⟨_, rfl⟩
          rw [hcc1] at hcb1 HG1
          have hne1 : ((a1 : Int) == (s.size : Int)) = false := by simp; omega
          by_cases h61 : c1 = 61
          · subst h61
            have HN1 : Hid (¬ ((bl s).length ≤ a1 ∨ (bl s).getD a1 0 ≠ 61)) := hide (by rw [unhide HG1]; omega)
            go_upto_block 4 with fail
            go_cut [3] (fun i wx => i = .int .i64 (run wh (bl s) (a1 + 1) : Int) ∧ wx = w1)
            case first =>
              go_wp2_with fail
              go_loop [3] (fun i => ∃ k : Nat, i = .int .i64 k ∧ k ≤ s.size ∧ Hid (run wh (bl s) k = run wh (bl s) (a1 + 1))) (fun i => s.size - (intOf i).toNat)
              case atStart => exact ⟨a1 + 1, by go_num, by omega, hide rfl⟩
              case round =>
                obtain ⟨k, rfl, hk, HR⟩ := hrel
                by_cases hlt : k < s.size
                · have hcb := u8_lt s hlt
                  have HG := hide (bl_at hlt)
                  obtain ⟨c, hcc⟩ : ∃ c : Int, (s[k].toNat : Int) = c := ⟨_, rfl⟩
                  rw [hcc] at hcb HG
                  have W := isWhite_any c
                  cases hw : wh c
                  · rw [hw] at W
                    have HE : Hid (run wh (bl s) (a1 + 1) = k) := hide (by rw [← unhide HR, run_stop (by omega) (by rw [unhide HG]; exact hw)])
                    go_wp2_with fail
                    refine (W _ hcb).mono ?_
                    rintro e wz ⟨rfl, hwz⟩
                    replace hwz := hwz.symm
                    subst hwz
                    go_wp2_with fail
                    go_meet
                    case rel => exact ⟨by rw [unhide HE], rfl⟩
                  · rw [hw] at W
                    have HR' : Hid (run wh (bl s) (k + 1) = run wh (bl s) (a1 + 1)) := hide (by rw [← run_step (by omega) (by rw [unhide HG]; exact hw), unhide HR])
                    go_wp2_with fail
                    refine (W _ hcb).mono ?_
                    rintro e wz ⟨rfl, hwz⟩
                    replace hwz := hwz.symm
                    subst hwz
                    go_wp2_with fail
                    go_round
                    case rel => exact ⟨k + 1, by go_num, by omega, HR'⟩
                    case measure => simp [intOf]; omega
                · have HE : Hid (run wh (bl s) (a1 + 1) = k) := hide (by rw [← unhide HR, run_end (by omega)])
                  go_wp2_with fail
                  go_meet
                  case rel => exact ⟨by rw [unhide HE], rfl⟩
            obtain ⟨rfl, hwc⟩ := hcut
            replace hwc := hwc.symm
            subst hwc
            have ha2 := run_le wh (bl s) (i := a1 + 1) (by omega)
            have ga2 := run_ge wh (bl s) (a1 + 1)
            obtain ⟨a2, HA2⟩ : ∃ a2, Hid (run wh (bl s) (a1 + 1) = a2) := ⟨_, hide rfl⟩
            rw [unhide HA2] at ha2 ga2 ⊢
            by_cases hlt2 : a2 < s.size
            · have hcb2 := u8_lt s hlt2
              have HG2 := hide (bl_at hlt2)
              obtain ⟨c2, hcc2⟩ : ∃ c : Int, (s[a2].toNat : Int) = c := ⟨_, rfl⟩
              rw [hcc2] at hcb2 HG2
              by_cases h34 : c2 = 34
              · subst h34
                have HQ2 : Hid (a2 < (bl s).length ∧ ((bl s).getD a2 0 = 34 ∨ (bl s).getD a2 0 = 39)) := hide (by rw [unhide HG2]; omega)
                have hqs : (s[a2].toNat : Int) = 34 := hcc2
                go_wp2_with fail
                go_loopw [5] (fun i wr => ∃ k : Nat, i = .int .i64 k ∧ a2 + 1 ≤ k ∧ k ≤ s.size ∧ Below w.heap.size w wr ∧ Hid (run (pNot 34) (bl s) k = run (pNot 34) (bl s) (a2 + 1))) (fun i _ => s.size - (intOf i).toNat)
                case atStart => exact ⟨a2 + 1, by go_num, by omega, by omega, unhide HB1, hide rfl⟩
                case round =>
                  obtain ⟨k, rfl, hlo, hk, hB2, HR⟩ := hrel
                  have HB2 := hide hB2
                  clear hB2
                  by_cases hlt : k < s.size
                  · have hcb := u8_lt s hlt
                    have HGk := hide (bl_at hlt)
                    obtain ⟨c, hcc⟩ : ∃ c : Int, (s[k].toNat : Int) = c := ⟨_, rfl⟩
                    rw [hcc] at hcb HGk
                    by_cases hq2 : c = 34
                    · subst hq2
                      have HE : Hid (run (pNot 34) (bl s) (a2 + 1) = k) := hide (by rw [← unhide HR, run_stop (by omega) (by rw [unhide HGk]; decide)])
                      have HZ : Hid (chsI (bl s) = findI (s.extract (a2 + 1) k)) := hide (by rw [← unhide HC, chsF_quote (a3 := k) (by omega) (unhide HBG1) (unhide HA1) (unhide HN1) (unhide HA2) (unhide HQ2) (by rw [unhide HG2]; exact unhide HE), if_neg (by omega), ← bl_cut]; unfold fnd; rw [str_bl])
                      have HF := hide (fun w => findOf_any (s.extract (a2 + 1) k) w (by rw [← bl_len, bl_cut, cut_len (by omega)]; omega))
                      have hsl : ∀ wx, (Instr.slice 9 (.string s) (some (.int .i64 ((a2 : Int) + 1))) (some (.int .i64 (k : Int))) none).run Tryz.prog wx = .ok (.string (s.extract (a2 + 1) k)) wx := fun wx => run_slice_string (P := Tryz.prog) wx 9 s .i64 .i64 ((a2 : Int) + 1) (k : Int) Tryz.underlying9 (by omega) (by omega) (by omega)
                      go_wp2_with fail
                      go_region
                      all_goals
                        go_wp2_with fail
                        refine (unhide HF _).mono ?_
                        rintro e w5 ⟨rfl, hb5⟩
                        have HB5 := hide (bstep (below_drewN (unhide HB2) 1) hb5)
                        clear hb5
                        go_wp2_with fail
                        go_ret
                        exact ⟨by rw [unhide HZ]; rfl, unhide HB5⟩
                    · have hqe := ne_eq hq2
                      have HR' : Hid (run (pNot 34) (bl s) (k + 1) = run (pNot 34) (bl s) (a2 + 1)) := hide (by rw [← run_step (by omega) (by rw [unhide HGk]; exact pNot_n hqe), unhide HR])
                      go_wp2_with fail
                      go_region
                      all_goals
                        go_wp2_with fail
                        go_roundw
                        case rel => exact ⟨k + 1, by go_num, by omega, by omega, below_drewN (unhide HB2) 1, HR'⟩
                        case measure => simp [intOf]; omega
                  · have HE : Hid (run (pNot 34) (bl s) (a2 + 1) = k) := hide (by rw [← unhide HR, run_end (by omega)])
                    have HZ : Hid (chsI (bl s) = 0) := hide (by rw [← unhide HC, chsF_quote (a3 := k) (by omega) (unhide HBG1) (unhide HA1) (unhide HN1) (unhide HA2) (unhide HQ2) (by rw [unhide HG2]; exact unhide HE), if_pos (by omega)])
                    go_wp2_with fail
                    go_ret
                    exact ⟨by rw [unhide HZ]; rfl, unhide HB2⟩
              · have h34e := ne_eq h34
                by_cases h39 : c2 = 39
                · subst h39
                  have HQ2 : Hid (a2 < (bl s).length ∧ ((bl s).getD a2 0 = 34 ∨ (bl s).getD a2 0 = 39)) := hide (by rw [unhide HG2]; omega)
                  have hqs : (s[a2].toNat : Int) = 39 := hcc2
                  go_wp2_with fail
                  go_loopw [5] (fun i wr => ∃ k : Nat, i = .int .i64 k ∧ a2 + 1 ≤ k ∧ k ≤ s.size ∧ Below w.heap.size w wr ∧ Hid (run (pNot 39) (bl s) k = run (pNot 39) (bl s) (a2 + 1))) (fun i _ => s.size - (intOf i).toNat)
                  case atStart => exact ⟨a2 + 1, by go_num, by omega, by omega, unhide HB1, hide rfl⟩
                  case round =>
                    obtain ⟨k, rfl, hlo, hk, hB2, HR⟩ := hrel
                    have HB2 := hide hB2
                    clear hB2
                    by_cases hlt : k < s.size
                    · have hcb := u8_lt s hlt
                      have HGk := hide (bl_at hlt)
                      obtain ⟨c, hcc⟩ : ∃ c : Int, (s[k].toNat : Int) = c := ⟨_, rfl⟩
                      rw [hcc] at hcb HGk
                      by_cases hq2 : c = 39
                      · subst hq2
                        have HE : Hid (run (pNot 39) (bl s) (a2 + 1) = k) := hide (by rw [← unhide HR, run_stop (by omega) (by rw [unhide HGk]; decide)])
                        have HZ : Hid (chsI (bl s) = findI (s.extract (a2 + 1) k)) := hide (by rw [← unhide HC, chsF_quote (a3 := k) (by omega) (unhide HBG1) (unhide HA1) (unhide HN1) (unhide HA2) (unhide HQ2) (by rw [unhide HG2]; exact unhide HE), if_neg (by omega), ← bl_cut]; unfold fnd; rw [str_bl])
                        have HF := hide (fun w => findOf_any (s.extract (a2 + 1) k) w (by rw [← bl_len, bl_cut, cut_len (by omega)]; omega))
                        have hsl : ∀ wx, (Instr.slice 9 (.string s) (some (.int .i64 ((a2 : Int) + 1))) (some (.int .i64 (k : Int))) none).run Tryz.prog wx = .ok (.string (s.extract (a2 + 1) k)) wx := fun wx => run_slice_string (P := Tryz.prog) wx 9 s .i64 .i64 ((a2 : Int) + 1) (k : Int) Tryz.underlying9 (by omega) (by omega) (by omega)
                        go_wp2_with fail
                        go_region
                        all_goals
                          go_wp2_with fail
                          refine (unhide HF _).mono ?_
                          rintro e w5 ⟨rfl, hb5⟩
                          have HB5 := hide (bstep (below_drewN (unhide HB2) 1) hb5)
                          clear hb5
                          go_wp2_with fail
                          go_ret
                          exact ⟨by rw [unhide HZ]; rfl, unhide HB5⟩
                      · have hqe := ne_eq hq2
                        have HR' : Hid (run (pNot 39) (bl s) (k + 1) = run (pNot 39) (bl s) (a2 + 1)) := hide (by rw [← run_step (by omega) (by rw [unhide HGk]; exact pNot_n hqe), unhide HR])
                        go_wp2_with fail
                        go_region
                        all_goals
                          go_wp2_with fail
                          go_roundw
                          case rel => exact ⟨k + 1, by go_num, by omega, by omega, below_drewN (unhide HB2) 1, HR'⟩
                          case measure => simp [intOf]; omega
                    · have HE : Hid (run (pNot 39) (bl s) (a2 + 1) = k) := hide (by rw [← unhide HR, run_end (by omega)])
                      have HZ : Hid (chsI (bl s) = 0) := hide (by rw [← unhide HC, chsF_quote (a3 := k) (by omega) (unhide HBG1) (unhide HA1) (unhide HN1) (unhide HA2) (unhide HQ2) (by rw [unhide HG2]; exact unhide HE), if_pos (by omega)])
                      go_wp2_with fail
                      go_ret
                      exact ⟨by rw [unhide HZ]; rfl, unhide HB2⟩
                · have h39e := ne_eq h39
                  have HQ2 : Hid (¬ (a2 < (bl s).length ∧ ((bl s).getD a2 0 = 34 ∨ (bl s).getD a2 0 = 39))) := hide (by rw [unhide HG2]; omega)
                  have HX3 : Hid (bl ⟨#[]⟩ = cut (bl s) (a2) (a2)) := hide (by rw [cut_self]; rfl)
                  go_upto_block 8 with fail
                  go_cut [3, 4] (fun i nmv wx => ∃ t : ByteArray, i = .int .i64 (run pSemi (bl s) (a2) : Int) ∧ nmv = .string t ∧ bl t = cut (bl s) (a2) (run pSemi (bl s) (a2)) ∧ wx = w1)
                  case first =>
                    go_wp2_with fail
                    go_loopw [3, 4] (fun i nmv wr => ∃ (k : Nat) (t : ByteArray), i = .int .i64 k ∧ nmv = .string t ∧ a2 ≤ k ∧ k ≤ s.size ∧ Hid (run pSemi (bl s) k = run pSemi (bl s) (a2)) ∧ Hid (bl t = cut (bl s) (a2) k) ∧ wr = w1) (fun i _ _ => s.size - (intOf i).toNat)
                    case atStart => exact ⟨a2, _, by go_num, rfl, by omega, by omega, hide rfl, HX3, rfl⟩
                    case round =>
                      obtain ⟨k, t, rfl, rfl, hlo, hk, HR, HX, rfl⟩ := hrel
                      have htz : t.size ≤ 3000 := by rw [← bl_len, unhide HX, cut_len (by omega)]; omega
                      by_cases hlt : k < s.size
                      · have hcb := u8_lt s hlt
                        have HG := hide (bl_at hlt)
                        obtain ⟨c, hcc⟩ : ∃ c : Int, (s[k].toNat : Int) = c := ⟨_, rfl⟩
                        rw [hcc] at hcb HG
                        have W := isWhite_any c
                        cases hw : wh c
                        · rw [hw] at W
                          by_cases h59 : c = 59
                          · subst h59
                            have HE : Hid (run pSemi (bl s) (a2) = k) := hide (by rw [← unhide HR, run_stop (by omega) (by rw [unhide HG]; exact (by decide))])
                            go_wp2_with fail
                            refine (W _ hcb).mono ?_
                            rintro e wz ⟨rfl, hwz⟩
                            replace hwz := hwz.symm
                            subst hwz
                            go_wp2_with fail
                            go_meet
                            case rel => exact ⟨t, by rw [unhide HE], rfl, by rw [unhide HE]; exact unhide HX, rfl⟩
                          · have h59e := ne_eq h59
                            have h59n := ne_ne h59
                            have HR' : Hid (run pSemi (bl s) (k + 1) = run pSemi (bl s) (a2)) := hide (by rw [← run_step (by omega) (by rw [unhide HG]; exact pSemi_n hw h59e), unhide HR])
                            have HX' := hide (cut_step (unhide HX) (by omega) hlt)
                            have hz1 := ext_one hlt
                            have hsl : ∀ wx, (Instr.slice 9 (.string s) (some (.int .i64 (k : Int))) (some (.int .i64 ((k : Int) + 1))) none).run Tryz.prog wx = .ok (.string (s.extract k (k + 1))) wx := fun wx => run_slice_string (P := Tryz.prog) wx 9 s .i64 .i64 (k : Int) ((k : Int) + 1) Tryz.underlying9 (by omega) (by omega) (by omega)
                            go_wp2_with fail
                            refine (W _ hcb).mono ?_
                            rintro e wz ⟨rfl, hwz⟩
                            replace hwz := hwz.symm
                            subst hwz
                            go_wp2_with fail
                            go_roundw
                            case rel => exact ⟨k + 1, t ++ s.extract k (k + 1), by go_num, rfl, by omega, by omega, HR', HX', by first | rfl | trivial⟩
                            case measure => simp [intOf]; omega
                        · rw [hw] at W
                          have HE : Hid (run pSemi (bl s) (a2) = k) := hide (by rw [← unhide HR, run_stop (by omega) (by rw [unhide HG]; exact pSemi_w hw)])
                          go_wp2_with fail
                          refine (W _ hcb).mono ?_
                          rintro e wz ⟨rfl, hwz⟩
                          replace hwz := hwz.symm
                          subst hwz
                          go_wp2_with fail
                          go_meet
                          case rel => exact ⟨t, by rw [unhide HE], rfl, by rw [unhide HE]; exact unhide HX, rfl⟩
                      · have HE : Hid (run pSemi (bl s) (a2) = k) := hide (by rw [← unhide HR, run_end (by omega)])
                        go_wp2_with fail
                        go_meet
                        case rel => exact ⟨t, by rw [unhide HE], rfl, by rw [unhide HE]; exact unhide HX, rfl⟩
                  obtain ⟨vlt, rfl, rfl, hx4, hwc⟩ := hcut
                  replace hwc := hwc.symm
                  subst hwc
                  have HX4 := hide hx4
                  have ha3 := run_le pSemi (bl s) (i := a2) (by omega)
                  have ga3 := run_ge pSemi (bl s) (a2)
                  obtain ⟨a3, HA3⟩ : ∃ a3, Hid (run pSemi (bl s) (a2) = a3) := ⟨_, hide rfl⟩
                  rw [unhide HA3] at ha3 ga3 HX4 ⊢
                  clear hx4
                  have htz4 : vlt.size ≤ 3000 := by rw [← bl_len, unhide HX4, cut_len (by omega)]; omega
                  have HZ : Hid (chsI (bl s) = findI vlt) := hide (by rw [← unhide HC, chsF_bare (by omega) (unhide HBG1) (unhide HA1) (unhide HN1) (unhide HA2) (unhide HQ2) (unhide HA3), ← unhide HX4]; unfold fnd; rw [str_bl])
                  have HF := hide (fun w => findOf_any vlt w htz4)
                  go_wp2_with fail
                  refine (unhide HF _).mono ?_
                  rintro e w5 ⟨rfl, hb5⟩
                  have HB5 := hide (bstep (unhide HB1) hb5)
                  clear hb5
                  go_wp2_with fail
                  go_ret
                  exact ⟨by rw [unhide HZ]; rfl, unhide HB5⟩
            · obtain rfl : a2 = s.size := by omega
              have HQ2 : Hid (¬ (s.size < (bl s).length ∧ ((bl s).getD s.size 0 = 34 ∨ (bl s).getD s.size 0 = 39))) := hide (by omega)
              have HX3 : Hid (bl ⟨#[]⟩ = cut (bl s) (s.size) (s.size)) := hide (by rw [cut_self]; rfl)
              go_upto_block 8 with fail
              go_cut [3, 4] (fun i nmv wx => ∃ t : ByteArray, i = .int .i64 (run pSemi (bl s) (s.size) : Int) ∧ nmv = .string t ∧ bl t = cut (bl s) (s.size) (run pSemi (bl s) (s.size)) ∧ wx = w1)
              case first =>
                go_wp2_with fail
                go_loopw [3, 4] (fun i nmv wr => ∃ (k : Nat) (t : ByteArray), i = .int .i64 k ∧ nmv = .string t ∧ s.size ≤ k ∧ k ≤ s.size ∧ Hid (run pSemi (bl s) k = run pSemi (bl s) (s.size)) ∧ Hid (bl t = cut (bl s) (s.size) k) ∧ wr = w1) (fun i _ _ => s.size - (intOf i).toNat)
                case atStart => exact ⟨s.size, _, by go_num, rfl, by omega, by omega, hide rfl, HX3, rfl⟩
                case round =>
                  obtain ⟨k, t, rfl, rfl, hlo, hk, HR, HX, rfl⟩ := hrel
                  have htz : t.size ≤ 3000 := by rw [← bl_len, unhide HX, cut_len (by omega)]; omega
                  by_cases hlt : k < s.size
                  · have hcb := u8_lt s hlt
                    have HG := hide (bl_at hlt)
                    obtain ⟨c, hcc⟩ : ∃ c : Int, (s[k].toNat : Int) = c := ⟨_, rfl⟩
                    rw [hcc] at hcb HG
                    exfalso; omega
                  · have HE : Hid (run pSemi (bl s) (s.size) = k) := hide (by rw [← unhide HR, run_end (by omega)])
                    go_wp2_with fail
                    go_meet
                    case rel => exact ⟨t, by rw [unhide HE], rfl, by rw [unhide HE]; exact unhide HX, rfl⟩
              obtain ⟨vlt, rfl, rfl, hx4, hwc⟩ := hcut
              replace hwc := hwc.symm
              subst hwc
              have HX4 := hide hx4
              have ha3 := run_le pSemi (bl s) (i := s.size) (by omega)
              have ga3 := run_ge pSemi (bl s) (s.size)
              obtain ⟨a3, HA3⟩ : ∃ a3, Hid (run pSemi (bl s) (s.size) = a3) := ⟨_, hide rfl⟩
              rw [unhide HA3] at ha3 ga3 HX4 ⊢
              clear hx4
              have htz4 : vlt.size ≤ 3000 := by rw [← bl_len, unhide HX4, cut_len (by omega)]; omega
              have HZ : Hid (chsI (bl s) = findI vlt) := hide (by rw [← unhide HC, chsF_bare (by omega) (unhide HBG1) (unhide HA1) (unhide HN1) (unhide HA2) (unhide HQ2) (unhide HA3), ← unhide HX4]; unfold fnd; rw [str_bl])
              have HF := hide (fun w => findOf_any vlt w htz4)
              go_wp2_with fail
              refine (unhide HF _).mono ?_
              rintro e w5 ⟨rfl, hb5⟩
              have HB5 := hide (bstep (unhide HB1) hb5)
              clear hb5
              go_wp2_with fail
              go_ret
              exact ⟨by rw [unhide HZ]; rfl, unhide HB5⟩
          · have h61n := ne_ne h61
            have HC' : Hid (chsF (bl s) (a1) = chsI (bl s)) := hide (by rw [← chsF_none (by omega) (unhide HBG1) (unhide HA1) (.inr (by rw [unhide HG1]; exact h61)), unhide HC])
            go_wp2_with fail
            go_roundw
            case rel => exact ⟨a1, rfl, by omega, unhide HB1, HC'⟩
            case measure => simp [intOf]; omega
        · obtain rfl : a1 = s.size := by omega
          have HC' : Hid (chsF (bl s) (s.size) = chsI (bl s)) := hide (by rw [← chsF_none (by omega) (unhide HBG1) (unhide HA1) (.inl (by omega)), unhide HC])
          go_wp2_with fail
          go_roundw
          case rel => exact ⟨s.size, rfl, by omega, unhide HB1, HC'⟩
          case measure => simp [intOf]; omega
    · have HZ : Hid (chsI (bl s) = 0) := hide (by rw [← unhide HC, chsF_end (by omega)])
      go_wp2_with fail
      go_ret
      exact ⟨by rw [unhide HZ]; rfl, unhide HB⟩
end Go.Proofs.YtaiinjfnkmidbaaGreatDoor
