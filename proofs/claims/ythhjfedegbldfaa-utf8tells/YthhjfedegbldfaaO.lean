/- The contract of cartoucheref.DecodeUtf8: the code points of all pieces but an open one, and the bytes of that; nothing that was there is written. Condition: at most 3000 bytes. -/
import Derived.Test.YthhjfedegbldfaaN
import Derived.Test.YthhjfedegbldfaaK
namespace Go.Proofs.Ythhjfedegbldfaa
open Go.RowKit
set_option linter.unusedVariables false

def szOf : Value → Nat
  | .string b => b.size
  | _ => 0

/-- What a round of DecodeUtf8 knows: r is what is still to be told. -/
def InD (s : ByteArray) (w wr : World) (r : ByteArray) (xs : List Int) (v : Value) : Prop :=
  wr.ownsRow w.heap.size 3 1 v xs.length (xs.map (Value.int .i64)) ∧ Below w.heap.size w wr ∧ xs ++ M.dec (bl r) = M.dec (bl s) ∧ M.spl (bl r) = M.spl (bl s) ∧ xs.length + r.size ≤ s.size

def hd (r : ByteArray) : Int := (bl r).headD 0
/-- Are k bytes all of a scalar's? -/
def doneB (r : ByteArray) (k : Nat) : Bool := decide (1 ≤ k ∧ (k : Int) = M.bSize (hd r))

theorem bl_ne {r : ByteArray} (h : 0 < r.size) : bl r ≠ [] := fun e => by have := congrArg List.length e; rw [bl_len] at this; simp only [List.length_nil] at this; omega

theorem InD.step {s r : ByteArray} {w wr w2 : World} {xs : List Int} {v v2 : Value} {p : Int} {k : Nat} (h : InD s w wr r xs v) (h0 : 0 < r.size) (hk : 1 ≤ k) (hk2 : k ≤ r.size) (hn : M.nxt (bl r) = (p, (k : Int), false))
    (ho : w2.ownsRow w.heap.size 3 1 v2 (xs ++ [p]).length ((xs ++ [p]).map (Value.int .i64))) (hb : Below w.heap.size wr w2) : InD s w w2 (r.extract k r.size) (xs ++ [p]) v2 := by
  obtain ⟨h1, h2, h3, h4, h5⟩ := h
  have hne := bl_ne h0
  refine ⟨ho, h2.trans hb, ?_, ?_, ?_⟩
  · rw [← h3, bl_extract, M.dec_ne hne, hn]; simp
  · rw [← h4, M.spl_ne hne (by rw [hn]), hn, bl_extract]; simp
  · simp [ByteArray.size_extract]; omega

/-- What DecodeUtf8 answers. -/
def DecPost (s : ByteArray) (w : World) (e : Ending) (w' : World) : Prop :=
  ∃ v rr xs, e = .returned (.tuple #[v, .string rr]) ∧ w'.ownsRow w.heap.size 3 1 v xs.length (xs.map (Value.int .i64)) ∧ Below w.heap.size w w' ∧ (rr.size : Int) = M.spl (bl s) ∧ xs.length ≤ 3000 ∧
    xs ++ (if rr.size = 0 then [] else [65533]) = M.dec (bl s)

theorem take_cons {r : ByteArray} (h0 : 0 < r.size) (k : Nat) : (bl r).take (k + 1) = hd r :: ((bl r).drop 1).take k := by
  have := bl_0 r h0
  conv => lhs; rw [this]
  simp only [List.take_succ_cons]
  congr 1
  unfold hd
  rw [this]; rfl
theorem bl_hd {r : ByteArray} (h0 : 0 < r.size) : bl r = hd r :: (bl r).drop 1 := by
  have := bl_0 r h0
  unfold hd
  conv => lhs; rw [this]
  congr 1
  rw [this]; rfl

theorem done_nxt {r : ByteArray} {k : Nat} (h0 : 0 < r.size) (hk : k ≤ r.size) (hd' : doneB r k = true) (hb : M.begOk ((bl r).take k) = true) :
    M.nxt (bl r) = (M.val (M.bBits (hd r)) (((bl r).drop 1).take (k - 1)), (k : Int), false) := by
  simp [doneB] at hd'
  obtain ⟨j, rfl⟩ : ∃ j, k = j + 1 := ⟨k - 1, by omega⟩
  rw [take_cons h0] at hb
  have := M.nxt_done (c := hd r) (t := (bl r).drop 1) (k := j) (by rw [List.length_drop, bl_len]; omega) hb hd'.2
  rw [← bl_hd h0] at this
  rw [this]; simp

theorem left_nxt {r : ByteArray} (h0 : 0 < r.size) (hd' : doneB r r.size = false) (hb : M.begOk ((bl r).take r.size) = true) : M.nxt (bl r) = (65533, (r.size : Int), true) := by
  simp [doneB] at hd'
  have hl : ((bl r).drop 1).length + 1 = r.size := by rw [List.length_drop, bl_len]; omega
  rw [← bl_len r, List.take_length, bl_hd h0] at hb
  have := M.nxt_left hb (by rw [hl]; exact hd' h0)
  rw [← bl_hd h0, hl] at this
  exact this

theorem bad_nxt {r : ByteArray} {k : Nat} (h0 : 0 < r.size) (hk1 : 1 ≤ k) (hk : k < r.size) (hd' : doneB r k = false) (hb : M.begOk ((bl r).take k) = true) (hn : M.begOk ((bl r).take (k + 1)) = false) :
    M.nxt (bl r) = (65533, (k : Int), false) := by
  simp [doneB] at hd'
  obtain ⟨j, rfl⟩ : ∃ j, k = j + 1 := ⟨k - 1, by omega⟩
  rw [take_cons h0] at hb hn
  have := M.nxt_bad (c := hd r) (t := (bl r).drop 1) (k := j) (by rw [List.length_drop, bl_len]; omega) hb (hd' hk1) hn
  rw [← bl_hd h0] at this
  exact this

theorem first_nxt {r : ByteArray} (h0 : 0 < r.size) (hn : M.begOk ((bl r).take 1) = false) : M.nxt (bl r) = (65533, 1, false) := by
  rw [take_cons h0] at hn
  have := M.nxt_first (c := hd r) ((bl r).drop 1) hn
  rw [← bl_hd h0] at this
  exact this

theorem bl_take (s : ByteArray) (k : Nat) : bl (s.extract 0 k) = (bl s).take k := by
  simp [bl, ByteArray.data_extract]

theorem begun_pre {r : ByteArray} {k : Nat} (h0 : 0 < r.size) (hk : k < r.size) (hd' : doneB r k = false) (hb : k = 0 ∨ M.begOk ((bl r).take k) = true) (w : World) :
    Calls Try.prog 28 #[.string (r.extract 0 (k + 1))] w (BegPost ((bl r).take (k + 1)) w) := by
  refine isBegun_list _ _ w (bl_take r (k + 1)) (by rw [take_cons h0]; simp) ?_
  have hl : ((bl r).take (k + 1)).length = k + 1 := by rw [List.length_take, bl_len]; omega
  have e : ((bl r).take (k + 1)).dropLast = (bl r).take k := by
    rw [List.dropLast_eq_take, hl, List.take_take]; simp
  have eh : ((bl r).take (k + 1)).headD 0 = hd r := by rw [take_cons h0]; rfl
  rw [e, eh]
  by_cases hk0 : k = 0
  · subst hk0; exact .inl rfl
  · refine .inr ⟨hb.resolve_left hk0, ?_⟩
    rw [List.length_take, bl_len, Nat.min_eq_left (by omega)]
    simp [doneB] at hd'
    exact hd' (by omega)
end Go.Proofs.Ythhjfedegbldfaa
