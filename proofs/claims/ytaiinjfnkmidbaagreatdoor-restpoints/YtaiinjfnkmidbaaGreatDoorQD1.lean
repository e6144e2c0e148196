/- Laws that the statements of this seat lean on, part 1 (Math MathB Base MathU MathS SA EA MathR MathC MathD MathE MathQ MathK MathT KA KB KC KD): each a contract of a function, or a plain fact; conditions stand at each. -/
import Derived.BigQuiet
import Derived.Deep.AppendLies
import Derived.Deep.QuietTactic
import Derived.Deep.RegionHeld3
import Derived.Deep.RegionLaw
import Derived.Laws.AppendOwnNone
import Derived.Laws.BitsLemmas
import Derived.Laws.BytesArg
import Derived.Lib.AppendStr
import Derived.Lib.Bytealg
import Derived.Lib.Slices
import Derived.Lib.Strings
import Derived.Lib.Walk
import Derived.ProofKit
import Derived.WalkKit
import Derived.WalkSmall
import Derived.Test.YtaiinjfnkmidbaaGreatDoorRows
namespace Go.Proofs.YtaiinjfnkmidbaaGreatDoor.M

def bSize (c : Int) : Int := if c < 128 then 1 else if c < 194 then 0 else if c < 224 then 2 else if c < 240 then 3 else if c < 245 then 4 else 0
def bBits (c : Int) : Int := if c < 128 then c else if c < 194 then 0 else if c < 224 then c % 32 else if c < 240 then c % 16 else if c < 245 then c % 8 else 0
def bLow (c : Int) : Int := if c < 194 then 0 else if c < 224 then 128 else if c = 224 then 160 else if c < 240 then 128 else if c = 240 then 144 else if c < 245 then 128 else 0
def bHigh (c : Int) : Int := if c < 194 then 0 else if c = 237 then 159 else if c < 244 then 191 else if c = 244 then 143 else 0

/-- The rest of a piece: r bytes more; i: how many were read. -/
def go : Nat → Int → Int → Int → Int → List Int → Int × Int × Bool
  | 0, i, p, _, _, _ => (p, i, false)
  | _ + 1, i, _, _, _, [] => (65533, i, true)
  | r + 1, i, p, lo, hi, c :: t => if c < lo ∨ hi < c then (65533, i, false) else go r (i + 1) (p * 64 + c % 64) 128 191 t

def nxt : List Int → Int × Int × Bool
  | [] => (65533, 1, false)
  | c :: t => if bSize c = 0 then (65533, 1, false) else go (bSize c - 1).toNat 1 (bBits c) (bLow c) (bHigh c) t

/-- The pieces of a text, with fuel. -/
def pcs : Nat → List Int → List (Int × Int × Bool)
  | 0, _ => []
  | _ + 1, [] => []
  | n + 1, c :: t => nxt (c :: t) :: pcs n ((c :: t).drop (nxt (c :: t)).2.1.toNat)

theorem go_size : ∀ (r : Nat) (i p lo hi : Int) (l : List Int), i ≤ (go r i p lo hi l).2.1 ∧ (go r i p lo hi l).2.1 ≤ i + r ∧ (go r i p lo hi l).2.1 ≤ i + l.length := by
  intro r
  induction r with
  | zero => intro i p lo hi l; simp [go]; omega
  | succ r ih =>
    intro i p lo hi l
    cases l with
    | nil => simp [go]; omega
    | cons c t =>
      simp only [go]
      split
      · simp; omega
      · have := ih (i + 1) (p * 64 + c % 64) 128 191 t
        simp only [List.length_cons]
        omega

theorem bSize_bd (c : Int) : 0 ≤ bSize c ∧ bSize c ≤ 4 := by
  unfold bSize; split <;> (try split) <;> (try split) <;> (try split) <;> (try split) <;> omega

theorem nxt_size (c : Int) (t : List Int) : 1 ≤ (nxt (c :: t)).2.1 ∧ (nxt (c :: t)).2.1 ≤ 4 ∧ (nxt (c :: t)).2.1 ≤ (c :: t).length := by
  have hb := bSize_bd c
  simp only [nxt]
  split
  · simp; omega
  · have := go_size (bSize c - 1).toNat 1 (bBits c) (bLow c) (bHigh c) t
    simp only [List.length_cons]
    omega

theorem nxt_size' (l : List Int) (h : 0 < l.length) : 1 ≤ (nxt l).2.1 ∧ (nxt l).2.1 ≤ 4 ∧ (nxt l).2.1 ≤ l.length := by
  cases l with
  | nil => simp at h
  | cons c t => exact nxt_size c t

theorem pcs_fuel : ∀ (n m : Nat) (l : List Int), l.length ≤ n → l.length ≤ m → pcs n l = pcs m l := by
  intro n
  induction n with
  | zero => intro m l h1 h2; have : l = [] := by cases l with | nil => rfl | cons => simp at h1
            subst this; cases m <;> simp [pcs]
  | succ n ih =>
    intro m l h1 h2
    cases l with
    | nil => cases m <;> simp [pcs]
    | cons c t =>
      cases m with
      | zero => simp at h2
      | succ m =>
        simp only [pcs]
        have hs := nxt_size c t
        rw [ih m]
        · simp only [List.length_drop]; simp only [List.length_cons] at *; omega
        · simp only [List.length_drop]; simp only [List.length_cons] at *; omega

/-- All pieces. -/
def pieces (l : List Int) : List (Int × Int × Bool) := pcs l.length l
theorem pieces_nil : pieces [] = [] := rfl
theorem pieces_cons (c : Int) (t : List Int) : pieces (c :: t) = nxt (c :: t) :: pieces ((c :: t).drop (nxt (c :: t)).2.1.toNat) := by
  have hs := nxt_size c t
  show pcs (t.length + 1) (c :: t) = _
  simp only [pcs]
  congr 1
  refine pcs_fuel _ _ _ ?_ (Nat.le_refl _)
  simp only [List.length_drop, List.length_cons]; omega
theorem pieces_ne {l : List Int} (h : l ≠ []) : pieces l = nxt l :: pieces (l.drop (nxt l).2.1.toNat) := by
  cases l with
  | nil => exact absurd rfl h
  | cons c t => exact pieces_cons c t

def dec (l : List Int) : List Int := (pieces l).map (·.1)
theorem dec_step {pt sz : Int} {op : Bool} (l : List Int) (h : nxt l = (pt, sz, op)) (hn : l ≠ []) : dec l = [pt] ++ dec (l.drop sz.toNat) := by
  unfold dec
  rw [pieces_ne hn, h]
  rfl
/-- What is left at the end: the size of the last piece that is open. -/
def lft (l : List (Int × Int × Bool)) : Int := l.foldl (fun a p => if p.2.2 then p.2.1 else a) 0
def spl (l : List Int) : Int := lft (pieces l)
end Go.Proofs.YtaiinjfnkmidbaaGreatDoor.M

namespace Go.Proofs.YtaiinjfnkmidbaaGreatDoor.M
def sclr (n : Int) : Bool := decide (0 ≤ n ∧ n ≤ 1114111 ∧ (n < 55296 ∨ 57343 < n))
def enc1 (n : Int) : List Int :=
  if n < 128 then [n] else if n < 2048 then [192 + n / 64, 128 + n % 64]
  else if n < 65536 then [224 + n / 4096, 128 + n / 64 % 64, 128 + n % 64]
  else [240 + n / 262144, 128 + n / 4096 % 64, 128 + n / 64 % 64, 128 + n % 64]
def enc (l : List Int) : List Int := l.flatMap enc1
theorem enc_snoc (l : List Int) (n : Int) : enc (l ++ [n]) = enc l ++ enc1 n := by simp [enc]
theorem enc1_len (n : Int) : 1 ≤ (enc1 n).length ∧ (enc1 n).length ≤ 4 := by
  unfold enc1; split <;> (try split) <;> (try split) <;> simp
theorem enc_len (l : List Int) : (enc l).length ≤ 4 * l.length := by
  induction l with
  | nil => simp [enc]
  | cons n l ih => have := enc1_len n; simp only [enc, List.flatMap_cons, List.length_append, List.length_cons] at *; omega
end Go.Proofs.YtaiinjfnkmidbaaGreatDoor.M

namespace Go.Proofs.YtaiinjfnkmidbaaGreatDoor
open Go.RowKit
set_option linter.unusedVariables false

def bl (s : ByteArray) : List Int := s.data.toList.map (fun u => (u.toNat : Int))
theorem bcell {W w1 : World} (hb : Below W.heap.size W w1) : (∀ b o, b < W.heap.size → w1.cell? ⟨b, o, none⟩ = W.cell? ⟨b, o, none⟩) ∧ (∀ b o, b < W.heap.size → w1.frozen? ⟨b, o, none⟩ = W.frozen? ⟨b, o, none⟩) :=
  ⟨fun b o h => hb.cell (p := ⟨b, o, none⟩) h, fun b o h => hb.frozen (p := ⟨b, o, none⟩) h⟩
theorem bl_len (s : ByteArray) : (bl s).length = s.size := by simp [bl]
theorem bl_drop (s : ByteArray) (k : Nat) (h : k < s.size) : (bl s).drop k = (s[k].toNat : Int) :: (bl s).drop (k + 1) := by
  rw [List.drop_eq_getElem_cons (by rw [bl_len]; exact h)]
  congr 1
  simp [bl]; rfl
theorem bl_0 (s : ByteArray) (h : 0 < s.size) : bl s = (s[0].toNat : Int) :: (bl s).drop 1 := by
  have := bl_drop s 0 h; simpa using this
theorem hide {p : Prop} (h : p) : Hid p := h
theorem unhide {p : Prop} (h : Hid p) : p := h
theorem owns_shape {w : World} {base e size n : Nat} {v : Value} {xs : List Value} (h : w.ownsRow base e size v n xs) : ∃ ao cap, v = .slice ao n cap := by
  rcases h.2 with ⟨rfl, rfl⟩ | ⟨g, cap, cur, rfl, _⟩
  · exact ⟨_, _, rfl⟩
  · exact ⟨_, _, rfl⟩
theorem info3 : (Tryz.prog.info? 3).map (fun i => (i.zero, i.size, i.bytes)) = some (some (.int .i64 0), 1, 8) := by kernel_rfl
theorem info5 : (Tryz.prog.info? 5).map (fun i => (i.zero, i.size, i.bytes)) = some (some (.int .u8 0), 1, 1) := by kernel_rfl
theorem bl_extract (s : ByteArray) (k : Nat) : bl (s.extract k s.size) = (bl s).drop k := by
  simp [bl, ByteArray.data_extract]
  rw [List.take_of_length_le]
  simp
theorem bl_take (s : ByteArray) (k : Nat) : bl (s.extract 0 k) = (bl s).take k := by
  simp [bl, ByteArray.data_extract]
theorem bl_app (s t : ByteArray) : bl (s ++ t) = bl s ++ bl t := by simp [bl]
theorem owns_below {w w1 : World} {base e size n : Nat} {v : Value} {xs : List Value} (h : w.ownsRow base e size v n xs) (hb : Below w.heap.size w w1) : w1.ownsRow base e size v n xs := by
  refine ⟨h.1, ?_⟩
  rcases h.2 with hn | ⟨g, cap, cur, rfl, hg, hh, rest⟩
  · exact .inl hn
  · refine .inr ⟨g, cap, cur, rfl, hg, ?_, rest⟩
    rw [hb.block g (lt_of_block hh)]; exact hh
/-- The slice value v reads xs. -/
def Ints (w : World) (v : Value) (xs : List Int) : Prop :=
  ∃ ao cap, v = .slice ao xs.length cap ∧ xs.length ≤ maxLen ∧ (ao = none → cap = 0) ∧
    (xs = [] ∨ ∃ b off, ao = some ⟨b, off, none⟩ ∧ ∀ i, i < xs.length → w.cell? ⟨b, off + i, none⟩ = some (.int .i64 (xs.getD i 0)))
theorem Ints.below {w w' : World} {v : Value} {xs : List Int} (h : Ints w v xs) (hb : Below w.heap.size w w') : Ints w' v xs := by
  obtain ⟨ao, cap, rfl, hm, hn, h⟩ := h
  refine ⟨ao, cap, rfl, hm, hn, ?_⟩
  rcases h with h | ⟨b, off, rfl, hc⟩
  · exact .inl h
  · exact .inr ⟨b, off, rfl, fun i hi => (hb.cell (p := ⟨b, off + i, none⟩) (World.block_lt_of_cell? w _ (hc i hi))).trans (hc i hi)⟩
theorem Ints.of_owns {w : World} {base : Nat} {v : Value} {xs : List Int} (h : w.ownsRow base 3 1 v xs.length (xs.map (Value.int .i64))) : Ints w v xs := by
  rcases h.2 with ⟨rfl, hn⟩ | ⟨g, cap, cur, rfl, hg, hh, h1, h2, _⟩
  · refine ⟨none, 0, by rw [hn], by rw [hn]; simp, fun _ => rfl, .inl (List.eq_nil_of_length_eq_zero hn)⟩
  · refine ⟨_, cap, rfl, by omega, (fun e => by cases e), .inr ⟨g, 0, rfl, fun i hi => ?_⟩⟩
    have := h.cells (g := g) rfl i (.int .i64 (xs.getD i 0)) (by simp [hi])
    by_cases h0 : i = 0
    · subst h0; simpa [Addr.add] using this
    · simpa [Addr.add, h0] using this
theorem Ints.nil (w : World) : Ints w (.slice none 0 0) [] := ⟨none, 0, rfl, by simp, fun _ => rfl, .inl rfl⟩
theorem ret_bool {a b : Bool} (h : a = b) : Ending.returned (.bool a) = .returned (.bool b) := by rw [h]
theorem ret_int {k : IntKind} {a b : Int} (h : a = b) : Ending.returned (.int k a) = .returned (.int k b) := by rw [h]
theorem and63 (x : Int) (h0 : 0 ≤ x) (h1 : x < 2 ^ 62) : bits .and .i64 x 63 = x % 64 :=
  bits_mask .i64 62 (by decide) (fun n h h' => by rw [IntKind.wrap_i64]; omega) 6 (by decide) x h0 h1
theorem or_at (i : Nat) (x y : Int) (hx₀ : 0 ≤ x) (hx : x % 2 ^ i = 0) (hx₁ : x < 2 ^ 62) (hy₀ : 0 ≤ y) (hy : y < 2 ^ i) (hy₁ : y < 2 ^ 62) : bits .or .i64 x y = x + y :=
  bits_join .i64 62 (by decide) (fun n h h' => by rw [IntKind.wrap_i64]; omega) i x y hx₀ hx hx₁ hy₀ hy hy₁
theorem bstep {a b c : World} (h : Below a.heap.size a b) (k : Below b.heap.size b c) : Below a.heap.size a c := h.trans (k.mono h.size)
theorem balloc (a : World) (o : Obj) : Below a.heap.size a (a.alloc o) := (Below.refl _ _).alloc (Nat.le_refl _) o
theorem take_snoc (xs : List Int) (k : Nat) (h : k < xs.length) : xs.take (k + 1) = xs.take k ++ [xs.getD k 0] := by
  rw [List.take_succ_eq_append_getElem h]; simp [h]
theorem bl_byt (s : ByteArray) : ∀ x ∈ bl s, 0 ≤ x ∧ x ≤ 255 := by
  intro x hx
  simp only [bl, List.mem_map] at hx
  obtain ⟨u, _, rfl⟩ := hx
  have := u.toNat_lt
  omega
theorem str_bl (s : ByteArray) : strOfNums (bl s) = s := by
  cases s with
  | mk d =>
    have e : ((fun n : Int => UInt8.ofNat n.toNat) ∘ fun u : UInt8 => (u.toNat : Int)) = id := by funext u; simp
    simp only [strOfNums, bl, List.map_map, e, List.map_id]
theorem bl_str (xs : List Int) (h : ∀ x ∈ xs, 0 ≤ x ∧ x ≤ 255) : bl (strOfNums xs) = xs := by
  unfold bl
  rw [strOfNums_data, List.map_map]
  conv => rhs; rw [← List.map_id xs]
  apply List.map_congr_left
  intro x hx
  have := h x hx
  simp only [Function.comp, id]
  rw [UInt8.toNat_ofNat']
  omega
/-- What a walk is told of a slice of integers that came in. -/
def IsRow (k : IntKind) (w : World) (a : Option Addr) (len cap : Nat) (zs : List Int) : Prop :=
  (a = none ∧ len = 0 ∧ cap = 0 ∧ zs = []) ∨
  ∃ x, a = some x ∧ len ≤ cap ∧ cap ≤ maxLen ∧ zs.length = cap ∧ (∀ i, i < zs.length → w.cell? (x.add i) = some (.int k (zs.getD i 0))) ∧ ∀ n ∈ zs, (Lit.int k n).wf = true
theorem Ints.of_row {w : World} {a : Option Addr} {len cap : Nat} {zs : List Int} (h : IsRow .i64 w a len cap zs) : Ints w (.slice a len cap) (zs.take len) := by
  rcases h with ⟨rfl, rfl, rfl, rfl⟩ | ⟨x, rfl, h1, h2, h3, hc, _⟩
  · exact Ints.nil w
  · have hl : (zs.take len).length = len := by rw [List.length_take]; omega
    refine ⟨some x, cap, by rw [hl], by rw [hl]; omega, (fun e => by cases e), ?_⟩
    by_cases h0 : len = 0
    · exact .inl (by rw [h0]; rfl)
    · obtain ⟨b, off, spot⟩ := x
      have hc0 := hc 0 (by omega)
      have hspot : spot = none := by simpa [Addr.add] using World.cell?_spot hc0
      subst hspot
      refine .inr ⟨b, off, rfl, fun i hi => ?_⟩
      rw [hl] at hi
      have := hc i (by omega)
      have e : (zs.take len).getD i 0 = zs.getD i 0 := by simp [hi]
      rw [e]
      by_cases hi0 : i = 0
      · subst hi0; simpa [Addr.add] using this
      · simpa [Addr.add, hi0] using this
theorem append_ints {w : World} {ops : Array Oper} {rest : List Oper} {o : Oper} {a : Act} {Q : Exit → Act → World → Prop} (hw : Region.wanted o (yielded ops a.tmps) = true) (s x : Operand)
    (ho : o.op = .call { callee := .builtin .append, args := #[s, x], argTypes := #[31, 31] }) (base : Nat) (v : Value) (xs : List Int) (hs : a.eval s = v)
    (hown : w.ownsRow base 3 1 v xs.length (xs.map (Value.int .i64))) (u : Value) (ys : List Int) (hx : a.eval x = u) (hI : Ints w u ys) (hlen : xs.length + ys.length ≤ 100000) (hbase : base ≤ w.heap.size)
    (h : ∀ v' w', w'.ownsRow base 3 1 v' (xs ++ ys).length ((xs ++ ys).map (Value.int .i64)) → Below base w w' → wpList Tryz.prog ops Q rest (a.put o.dst v') w') : wpList Tryz.prog ops Q (o :: rest) a w := by
  obtain ⟨i0, hi, hz0, hz1, hz2⟩ := info_parts info3
  obtain ⟨ao, cap, rfl, hm, hn, hc⟩ := hI
  refine BigFrame.wpList_want hw fun K hK => ?_
  cases ao with
  | none =>
    have hy : ys = [] := by
      rcases hc with hc | ⟨b, off, e, _⟩
      · exact hc
      · cases e
    subst hy
    have hcap := hn rfl
    subst hcap
    have hrun := run_append_owned_none (P := Tryz.prog) (w := w) base 31 o.type 3 i0 1 Tryz.underlying31 hi v _ _ hown
    have hK' := hK _ _ (h v w (by simpa using hown) (Below.refl _ _))
    unfold Oper.wp
    simp only [List.length_nil] at hx
    simp [execOp, ho, resolve, invoke, builtin, hs, hx, hrun, Result.andThen]
    exact hK'
  | some ad =>
    refine wp_append_own w s x 31 ho base 3 i0 (.int .i64 0) 1 8 Tryz.underlying31 hi hz0 hz1 hz2 rfl (by decide) v _ _ hs hown ad ys.length cap (ys.map (Value.int .i64)) hx (by simp) ?_ ?_ (by unfold maxLen; omega) (by omega) hbase ?_
    · intro j u hj
      have hjl : j < ys.length := by
        rcases Nat.lt_or_ge j ys.length with h | h
        · exact h
        · simp [List.getElem?_eq_none (show (ys.map (Value.int .i64)).length ≤ j by simpa using h)] at hj
      rcases hc with hc | ⟨b, off, e, hc⟩
      · subst hc; simp at hjl
      · cases e
        have := hc j hjl
        simp [hjl] at hj
        subst hj
        by_cases hj0 : j = 0
        · subst hj0; simpa [Addr.add, hjl] using this
        · simpa [Addr.add, hj0, hjl] using this
    · intro u hu
      simp at hu
      obtain ⟨y, _, rfl⟩ := hu
      rfl
    · intro v' w' h1 h2 _
      refine hK _ _ (h v' w' (by simpa using h1) ((Below.refl _ _).grown h2 hbase (fun k hk => (hown.lt k hk).1)))
theorem one_int (w : World) (a : Int) : Ints (w.alloc (.cells #[.int .i64 a] 3)) (.slice (some ⟨w.heap.size, 0, none⟩) 1 1) [a] := by
  refine ⟨_, 1, rfl, by simp [maxLen], (fun e => by cases e), .inr ⟨_, _, rfl, ?_⟩⟩
  intro i hi
  match i, hi with
  | 0, _ => simp
theorem two_ints (w : World) (a b : Int) : Ints (w.alloc (.cells #[.int .i64 a, .int .i64 b] 3)) (.slice (some ⟨w.heap.size, 0, none⟩) 2 2) [a, b] := by
  refine ⟨_, 2, rfl, by simp [maxLen], (fun e => by cases e), .inr ⟨_, _, rfl, ?_⟩⟩
  intro i hi
  match i, hi with
  | 0, _ => simp
  | 1, _ => simp
theorem three_ints (w : World) (a b c : Int) : Ints (w.alloc (.cells #[.int .i64 a, .int .i64 b, .int .i64 c] 3)) (.slice (some ⟨w.heap.size, 0, none⟩) 3 3) [a, b, c] := by
  refine ⟨_, 3, rfl, by simp [maxLen], (fun e => by cases e), .inr ⟨_, _, rfl, ?_⟩⟩
  intro i hi
  match i, hi with
  | 0, _ => simp
  | 1, _ => simp
  | 2, _ => simp
theorem isEmpty_size (r : ByteArray) : r.toList.isEmpty = decide (r.size = 0) := by
  rw [ByteArray.toList_eq, Bool.eq_iff_iff]
  simp only [List.isEmpty_iff, decide_eq_true_eq]
  have : r.data.toList.length = r.size := by simp
  rw [← this]
  exact List.length_eq_zero_iff.symm
theorem str_app (a b : List Int) : strOfNums a ++ strOfNums b = strOfNums (a ++ b) := by
  apply ByteArray.ext
  simp [strOfNums]
theorem conv_owned {w : World} {base : Nat} {v : Value} {xs : List Int} (h : w.ownsRow base 5 1 v xs.length (xs.map (Value.int .u8))) :
    (convert 151 9 v).run Tryz.prog w = .ok (.string (strOfNums xs)) w := by
  rcases h.2 with ⟨rfl, hn⟩ | ⟨g, cap, cur, rfl, hg, hh, h1, h2, _⟩
  · have : xs = [] := List.eq_nil_of_length_eq_zero hn
    subst this
    exact run_convert_bytes_nil w 151 5 Tryz.underlying151 Tryz.underlying5 0 0 9 Tryz.underlying9
  · refine run_convert_bytes_arg w 151 5 Tryz.underlying151 Tryz.underlying5 g 0 xs.length cap xs rfl (fun i hi => ?_) 9 Tryz.underlying9
    have := h.cells (g := g) rfl i (.int .u8 (xs.getD i 0)) (by simp [hi])
    by_cases h0 : i = 0
    · subst h0; simpa [Addr.add] using this
    · simpa [Addr.add, h0] using this
theorem conv_built {w : World} {b : Nat} (ns : List Int) (m cap : Nat) (hm : ns.length = m) (hb : w.heap[b]? = some (.cells (ns.map (Value.int .u8)).toArray 5 (0, 0))) :
    (convert 151 9 (.slice (some ⟨b, 0, none⟩) m cap)).run Tryz.prog w = .ok (.string (strOfNums ns)) w := by
  refine run_convert_bytes_arg w 151 5 Tryz.underlying151 Tryz.underlying5 b 0 m cap ns hm (fun i hi => ?_) 9 Tryz.underlying9
  have hi' : i < ns.length := by omega
  simp [World.cell?, hb, hi']
theorem bl_get (s : ByteArray) (i : Nat) (h : i < s.size) : (bl s)[i]? = some (s[i].toNat : Int) := by
  have h' : i < (bl s).length := by rw [bl_len]; exact h
  rw [List.getElem?_eq_getElem h']
  simp [bl]; rfl
theorem owns_da {w : World} {base e size n : Nat} {v : Value} {xs : List Value} (h : w.ownsRow base e size v n xs) (q : Nat) (o : Obj) : ((w.drewN q).alloc o).ownsRow base e size v n xs :=
  owns_below h ((below_drewN (Below.refl _ _) q).alloc (Nat.le_refl _) o)
theorem owns_a {w : World} {base e size n : Nat} {v : Value} {xs : List Value} (h : w.ownsRow base e size v n xs) (o : Obj) : (w.alloc o).ownsRow base e size v n xs :=
  owns_below h ((Below.refl _ _).alloc (Nat.le_refl _) o)
end Go.Proofs.YtaiinjfnkmidbaaGreatDoor

namespace Go.Proofs.YtaiinjfnkmidbaaGreatDoor.M

def ut (big : Bool) (a b : Int) : Int := if big then a * 256 + b else b * 256 + a
def fst16 (u : Int) : Bool := decide (55296 ≤ u ∧ u < 56320)
def snd16 (u : Int) : Bool := decide (56320 ≤ u ∧ u < 57344)
def aln (u : Int) : Int := if snd16 u then 65533 else u

/-- What is told at the beginning, and by how many bytes. -/
def nx16 (big : Bool) : List Int → Int × Nat
  | [] => (65533, 1)
  | [_] => (65533, 1)
  | [a, b] => if fst16 (ut big a b) then (65533, 2) else (aln (ut big a b), 2)
  | [a, b, _] => if fst16 (ut big a b) then (65533, 3) else (aln (ut big a b), 2)
  | a :: b :: c :: d :: _ => if fst16 (ut big a b) then (if snd16 (ut big c d) then (65536 + (ut big a b - 55296) * 1024 + (ut big c d - 56320), 4) else (65533, 2)) else (aln (ut big a b), 2)

def run16 (big : Bool) : Nat → List Int → List Int
  | 0, _ => []
  | _ + 1, [] => []
  | n + 1, c :: t => (nx16 big (c :: t)).1 :: run16 big n ((c :: t).drop (nx16 big (c :: t)).2)

theorem nx16_size (big : Bool) (l : List Int) (h : l ≠ []) : 1 ≤ (nx16 big l).2 ∧ (nx16 big l).2 ≤ 4 ∧ (nx16 big l).2 ≤ l.length := by
  match l, h with
  | [_], _ => simp [nx16]
  | [a, b], _ => simp only [nx16]; split <;> simp
  | [a, b, c], _ => simp only [nx16]; split <;> simp
  | a :: b :: c :: d :: t, _ => simp only [nx16]; split <;> (try split) <;> simp <;> omega

theorem run16_fuel (big : Bool) : ∀ (n m : Nat) (l : List Int), l.length ≤ n → l.length ≤ m → run16 big n l = run16 big m l := by
  intro n
  induction n with
  | zero => intro m l h1 h2; have : l = [] := by cases l with | nil => rfl | cons => simp at h1
            subst this; cases m <;> simp [run16]
  | succ n ih =>
    intro m l h1 h2
    cases l with
    | nil => cases m <;> simp [run16]
    | cons c t =>
      cases m with
      | zero => simp at h2
      | succ m =>
        simp only [run16]
        have hs := nx16_size big (c :: t) (by simp)
        rw [ih m]
        · simp only [List.length_drop]; simp only [List.length_cons] at *; omega
        · simp only [List.length_drop]; simp only [List.length_cons] at *; omega

def dec16 (big : Bool) (l : List Int) : List Int := run16 big l.length l
theorem dec16_nil (big : Bool) : dec16 big [] = [] := rfl
theorem dec16_step (big : Bool) {l : List Int} (h : l ≠ []) : dec16 big l = (nx16 big l).1 :: dec16 big (l.drop (nx16 big l).2) := by
  cases l with
  | nil => exact absurd rfl h
  | cons c t =>
    have hs := nx16_size big (c :: t) (by simp)
    show run16 big (t.length + 1) (c :: t) = _
    simp only [run16]
    congr 1
    refine run16_fuel _ _ _ _ ?_ (Nat.le_refl _)
    simp only [List.length_drop, List.length_cons]; omega

theorem d_one (big : Bool) (a : Int) : dec16 big [a] = [65533] := by rw [dec16_step big (by simp)]; simp [nx16, dec16_nil]
theorem d_unit (big : Bool) {a b : Int} (t : List Int) (h : fst16 (ut big a b) = false) : dec16 big (a :: b :: t) = aln (ut big a b) :: dec16 big t := by
  rw [dec16_step big (by simp)]
  match t with
  | [] => simp [nx16, h]
  | [_] => simp [nx16, h]
  | _ :: _ :: _ => simp [nx16, h]
theorem d_f0 (big : Bool) {a b : Int} (h : fst16 (ut big a b) = true) : dec16 big [a, b] = [65533] := by
  rw [dec16_step big (by simp)]; simp [nx16, h, dec16_nil]
theorem d_f1 (big : Bool) {a b : Int} (c : Int) (h : fst16 (ut big a b) = true) : dec16 big [a, b, c] = [65533] := by
  rw [dec16_step big (by simp)]; simp [nx16, h, dec16_nil]
theorem d_pair (big : Bool) {a b c d : Int} (t : List Int) (h : fst16 (ut big a b) = true) (h' : snd16 (ut big c d) = true) :
    dec16 big (a :: b :: c :: d :: t) = (65536 + (ut big a b - 55296) * 1024 + (ut big c d - 56320)) :: dec16 big t := by
  rw [dec16_step big (by simp)]; simp [nx16, h, h']
theorem d_bad (big : Bool) {a b c d : Int} (t : List Int) (h : fst16 (ut big a b) = true) (h' : snd16 (ut big c d) = false) :
    dec16 big (a :: b :: c :: d :: t) = 65533 :: dec16 big (c :: d :: t) := by
  rw [dec16_step big (by simp)]; simp [nx16, h, h']

/-! ### encoding -/
def two (big : Bool) (u : Int) : List Int := if big then [u / 256, u % 256] else [u % 256, u / 256]
/-! ### two by two -/
/-! ### parts -/
end Go.Proofs.YtaiinjfnkmidbaaGreatDoor.M

namespace Go.Proofs.YtaiinjfnkmidbaaGreatDoor.M

def high : List Int := [8364, 129, 8218, 402, 8222, 8230, 8224, 8225, 710, 8240, 352, 8249, 338, 141, 381, 143, 144, 8216, 8217, 8220, 8221, 8226, 8211, 8212, 732, 8482, 353, 8250, 339, 157, 382, 376]
def pt (user : Bool) (c : Int) : Int := if c < 128 then c else if user then 63232 + c else if c < 160 then high.getD (c - 128).toNat 0 else c
def tblOf (user : Bool) (k : Nat) : List Int := (List.range k).map (fun j : Nat => pt user j)
def hasB (user : Bool) (n : Int) : Bool := (List.range 256).any (fun c => pt user (c : Nat) == n)
def bof (user : Bool) (n : Int) : Int := (((List.range 256).find? (fun c => pt user (c : Nat) == n)).getD 0 : Nat)
def decS (user : Bool) (l : List Int) : List Int := l.map (pt user)
def encS (user : Bool) (l : List Int) : List Int := l.map (bof user)

theorem tblOf_len (user : Bool) (k : Nat) : (tblOf user k).length = k := by simp [tblOf]
theorem tblOf_get (user : Bool) {k j : Nat} (h : j < k) : (tblOf user k).getD j 0 = pt user j := by simp [tblOf, h]
theorem tblOf_snoc (user : Bool) (k : Nat) : tblOf user (k + 1) = tblOf user k ++ [pt user k] := by simp [tblOf, List.range_succ]

theorem pt_bd (user : Bool) {k : Nat} (h : k < 256) : 0 ≤ pt user k ∧ pt user k ≤ 65535 := by
  have := (by decide +kernel : ∀ u : Bool, ∀ k : Fin 256, 0 ≤ pt u (k : Nat) ∧ pt u (k : Nat) ≤ 65535)
  exact this user ⟨k, h⟩
theorem pt_nodup (user : Bool) : ((List.range 256).map (fun j : Nat => pt user j)).Nodup := by
  cases user
  · decide +kernel
  · decide +kernel
theorem pt_inj (user : Bool) {j k : Nat} (hj : j < 256) (hk : k < 256) (h : pt user j = pt user k) : j = k := by
  have hn := pt_nodup user
  have e1 : ((List.range 256).map (fun j : Nat => pt user j))[j]? = some (pt user j) := by simp [hj]
  have e2 : ((List.range 256).map (fun j : Nat => pt user j))[k]? = some (pt user k) := by simp [hk]
  exact (List.getElem?_inj (by simpa using hj) hn).1 (by rw [e1, e2, h])
theorem hasB_pt (user : Bool) {k : Nat} (h : k < 256) : hasB user (pt user k) = true := by
  simp only [hasB, List.any_eq_true, List.mem_range]
  exact ⟨k, h, by simp⟩
theorem bof_spec (user : Bool) {n : Int} (h : hasB user n = true) : ∃ k : Nat, k < 256 ∧ bof user n = k ∧ pt user k = n := by
  unfold bof
  cases hf : (List.range 256).find? (fun c => pt user (c : Nat) == n) with
  | none =>
    rw [List.find?_eq_none] at hf
    simp only [hasB, List.any_eq_true] at h
    obtain ⟨c, hc, he⟩ := h
    exact absurd he (by simpa using hf c hc)
  | some k =>
    have h1 := List.mem_of_find?_eq_some hf
    have h2 := List.find?_some hf
    exact ⟨k, by simpa using h1, rfl, by simpa using h2⟩
theorem bof_pt (user : Bool) {k : Nat} (h : k < 256) : bof user (pt user k) = k := by
  obtain ⟨j, hj, e, hp⟩ := bof_spec user (hasB_pt user h)
  rw [e, pt_inj user hj h hp]
theorem bof_bd (user : Bool) {n : Int} (h : hasB user n = true) : 0 ≤ bof user n ∧ bof user n ≤ 255 := by
  obtain ⟨k, hk, e, _⟩ := bof_spec user h
  omega
theorem hasB_iff (user : Bool) (n : Int) : hasB user n = true ↔ ∃ k : Nat, k < 256 ∧ pt user k = n := by
  simp [hasB]
theorem hasB_no (user : Bool) (n : Int) (h : ∀ k : Nat, k < 256 → pt user k ≠ n) : hasB user n = false := by
  rw [Bool.eq_false_iff]
  intro e
  obtain ⟨k, hk, hp⟩ := (hasB_iff user n).1 e
  exact h k hk hp
theorem byte_nat {c : Int} (h0 : 0 ≤ c) (h1 : c ≤ 255) : ∃ k : Nat, k < 256 ∧ c = k := ⟨c.toNat, by omega, by omega⟩
theorem encS_byt (user : Bool) (l : List Int) (h : l.all (hasB user) = true) : ∀ x ∈ encS user l, 0 ≤ x ∧ x ≤ 255 := by
  intro x hx
  simp only [encS, List.mem_map] at hx
  obtain ⟨n, hn, rfl⟩ := hx
  exact bof_bd user (List.all_eq_true.1 h n hn)
theorem encS_snoc (user : Bool) (l : List Int) (n : Int) : encS user (l ++ [n]) = encS user l ++ [bof user n] := by simp [encS]
theorem encS_len (user : Bool) (l : List Int) : (encS user l).length = l.length := by simp [encS]
theorem decS_len (user : Bool) (l : List Int) : (decS user l).length = l.length := by simp [decS]
theorem decS_app (user : Bool) (l m : List Int) : decS user (l ++ m) = decS user l ++ decS user m := by simp [decS]
end Go.Proofs.YtaiinjfnkmidbaaGreatDoor.M

namespace Go.Proofs.YtaiinjfnkmidbaaGreatDoor
open Go.RowKit
set_option linter.unusedVariables false

set_option maxHeartbeats 400000 in
set_option maxRecDepth 100000 in
theorem high_any (w : World) : Calls Tryz.prog 201 #[] w fun e w' => e = .returned (.slice (some ⟨w.heap.size, 0, none⟩) 32 32) ∧ (∀ i, i < 32 → w'.cell? ⟨w.heap.size, i, none⟩ = some (.int .i64 (M.high.getD i 0))) ∧ w.heap.size + 1 ≤ w'.heap.size ∧ Below w.heap.size w w' := by
  go_enter Tryz.func201, Tryz.ntmps201
  go_wp2
  go_ret
  refine ⟨rfl, fun i hi => ?_, by simp, balloc _ _⟩
  have h := heap_alloc_new w (.cells (M.high.map (Value.int .i64)).toArray 3)
  have hl : i < M.high.length := hi
  show (w.alloc (.cells (M.high.map (Value.int .i64)).toArray 3)).cell? ⟨w.heap.size, i, none⟩ = _
  simp only [World.cell?, h]
  simp [hl]

theorem pt_lo (user : Bool) {k : Nat} (h : k < 128) : M.pt user k = k := by unfold M.pt; rw [if_pos (by omega)]
theorem pt_user {k : Nat} (h : 128 ≤ k) : M.pt true k = 63232 + k := by unfold M.pt; rw [if_neg (by omega)]; rfl
theorem pt_mid {k : Nat} (h : 128 ≤ k) (h' : k < 160) : M.pt false k = M.high.getD (k - 128) 0 := by
  have e : ((k : Int) - 128).toNat = k - 128 := by omega
  unfold M.pt; rw [if_neg (by omega), if_neg (by simp), if_pos (by omega), e]
theorem pt_hi {k : Nat} (h : 160 ≤ k) : M.pt false k = k := by unfold M.pt; rw [if_neg (by omega), if_neg (by simp), if_neg (by omega)]

/-- What a round of pointsOf knows: the table so far, and High's row. -/
def InP (user : Bool) (w wr : World) (k : Nat) (v : Value) : Prop :=
  wr.ownsRow (w.heap.size + 1) 3 1 v (M.tblOf user k).length ((M.tblOf user k).map (Value.int .i64)) ∧ Below w.heap.size w wr ∧ w.heap.size + 1 ≤ wr.heap.size ∧ (∀ i, i < 32 → wr.cell? ⟨w.heap.size, i, none⟩ = some (.int .i64 (M.high.getD i 0)))

theorem InP.step {user : Bool} {w wr w2 : World} {k : Nat} {v v2 : Value} (p : Int) (h : InP user w wr k v) (hp : M.pt user k = p)
    (ho : w2.ownsRow (w.heap.size + 1) 3 1 v2 (M.tblOf user k ++ [p]).length ((M.tblOf user k ++ [p]).map (Value.int .i64))) (hb : Below (w.heap.size + 1) wr w2) : InP user w w2 (k + 1) v2 := by
  obtain ⟨h1, h2, h3, h4⟩ := h
  have := hb.size
  refine ⟨?_, h2.trans (hb.mono (Nat.le_succ _)), by omega, fun i hi => (hb.cell (p := ⟨w.heap.size, i, none⟩) (Nat.lt_succ_self _)).trans (h4 i hi)⟩
  rw [M.tblOf_snoc, hp]; exact ho

set_option maxHeartbeats 400000 in
set_option maxRecDepth 100000 in
theorem pointsOf_any (user : Bool) (w : World) : Calls Tryz.prog 154 #[.bool user] w fun e w' => ∃ v, e = .returned v ∧ Ints w' v (M.tblOf user 256) ∧ Below w.heap.size w w' := by
  go_enter Tryz.func154, Tryz.ntmps154
  go_wp2_with fail
  refine (high_any _).mono ?_
  rintro e w1 ⟨rfl, hI1, hz1, hb1⟩
  have HI : Hid (InP user w w1 0 (.slice none 0 0)) := hide ⟨World.ownsRow_nil _ _ _ _, hb1, hz1, hI1⟩
  clear hI1 hb1 hz1
  go_wp2_with fail
  go_loopw [4, 7] (fun v i wr => ∃ k : Nat, k ≤ 256 ∧ i = .int .i64 k ∧ InP user w wr k v) (fun _ i _ => 256 - (intOf i).toNat)
  case atStart => exact ⟨0, by omega, rfl, unhide HI⟩
  case round =>
    obtain ⟨k, hk, rfl, hI⟩ := hrel
    clear HI
    have hz := hI.2.2.1
    have hl := hide (M.tblOf_len user k)
    obtain ⟨ao, cap, hsh⟩ := owns_shape hI.1
    subst hsh
    by_cases hlt : k < 256
    · by_cases h1 : k < 128
      · go_wp2_with (at_builtin; refine append_ints rfl (.tmp 10) (.tmp 12) rfl (w.heap.size + 1) _ (M.tblOf user k) rfl (owns_a hI.1 _) _ [(k : Int)] rfl (one_int _ _) (by simp [M.tblOf_len]; omega) (by simp; omega) ?_)
        intro v2 w2 ho2 hb2
        have HJ : Hid (InP user w w2 (k + 1) v2) := hide (hI.step ((k : Int)) (pt_lo user h1) (by simpa using ho2) (((Below.refl _ _).alloc hI.2.2.1 _).trans hb2))
        obtain ⟨ao2, cap2, hsh2⟩ := owns_shape ho2
        subst hsh2
        clear hI ho2 hb2
        go_wp2_with fail
        go_roundw
        case rel => exact ⟨k + 1, by omega, by go_num, by simpa using unhide HJ⟩
        case measure => simp [intOf]; omega
      · cases user
        · by_cases h2 : k < 160
          · have hcell : wr.cell? ⟨w.heap.size, k - 128, none⟩ = some (.int .i64 (M.high.getD (k - 128) 0)) := hI.2.2.2 (k - 128) (by omega)
            have hsub : (k : Int) - 128 = ((k - 128 : Nat) : Int) := by omega
            have hb32 : k - 128 < 32 := by omega
            have HP := hide (pt_mid (k := k) (by omega) h2)
            obtain ⟨j, HJ⟩ : ∃ j, Hid (k - 128 = j) := ⟨_, rfl⟩
            rw [unhide HJ] at hcell hsub hb32 HP
            have hbw : w.heap.size < wr.heap.size := by omega
            obtain ⟨p, HQ⟩ : ∃ p, Hid (M.high.getD j 0 = p) := ⟨_, rfl⟩
            rw [unhide HQ] at hcell HP
            go_wp2_with (at_builtin; refine append_ints rfl (.tmp 33) (.tmp 39) rfl (w.heap.size + 1) _ (M.tblOf false k) rfl (owns_a hI.1 _) _ [p] rfl (one_int _ _) (by simp [M.tblOf_len]; omega) (by simp; omega) ?_)
            intro v2 w2 ho2 hb2
            have HJ : Hid (InP false w w2 (k + 1) v2) := hide (hI.step (p) (unhide HP) (by simpa using ho2) (((Below.refl _ _).alloc hI.2.2.1 _).trans hb2))
            obtain ⟨ao2, cap2, hsh2⟩ := owns_shape ho2
            subst hsh2
            clear hI ho2 hb2
            go_wp2_with fail
            go_roundw
            case rel => exact ⟨k + 1, by omega, by go_num, by simpa using unhide HJ⟩
            case measure => simp [intOf]; omega
          · go_wp2_with (at_builtin; refine append_ints rfl (.tmp 10) (.tmp 12) rfl (w.heap.size + 1) _ (M.tblOf false k) rfl (owns_a hI.1 _) _ [(k : Int)] rfl (one_int _ _) (by simp [M.tblOf_len]; omega) (by simp; omega) ?_)
            intro v2 w2 ho2 hb2
            have HJ : Hid (InP false w w2 (k + 1) v2) := hide (hI.step ((k : Int)) (pt_hi (by omega)) (by simpa using ho2) (((Below.refl _ _).alloc hI.2.2.1 _).trans hb2))
            obtain ⟨ao2, cap2, hsh2⟩ := owns_shape ho2
            subst hsh2
            clear hI ho2 hb2
            go_wp2_with fail
            go_roundw
            case rel => exact ⟨k + 1, by omega, by go_num, by simpa using unhide HJ⟩
            case measure => simp [intOf]; omega
        · go_wp2_with (at_builtin; refine append_ints rfl (.tmp 20) (.tmp 24) rfl (w.heap.size + 1) _ (M.tblOf true k) rfl (owns_a hI.1 _) _ [63360 + (k : Int) - 128] rfl (one_int _ _) (by simp [M.tblOf_len]; omega) (by simp; omega) ?_)
          intro v2 w2 ho2 hb2
          have HJ : Hid (InP true w w2 (k + 1) v2) := hide (hI.step (63360 + (k : Int) - 128) (by rw [pt_user (by omega)]; omega) (by simpa using ho2) (((Below.refl _ _).alloc hI.2.2.1 _).trans hb2))
          obtain ⟨ao2, cap2, hsh2⟩ := owns_shape ho2
          subst hsh2
          clear hI ho2 hb2
          go_wp2_with fail
          go_roundw
          case rel => exact ⟨k + 1, by omega, by go_num, by simpa using unhide HJ⟩
          case measure => simp [intOf]; omega
    · have ek : k = 256 := by omega
      subst ek
      have HV := hide (Ints.of_owns hI.1)
      have HB := hide hI.2.1
      clear hI
      go_wp2_with fail
      go_ret
      exact ⟨_, rfl, unhide HV, unhide HB⟩

/-- What a round of single.Decode's loop knows. -/
def InS (user : Bool) (s : ByteArray) (w wr : World) (k : Nat) (v : Value) : Prop :=
  wr.ownsRow w.heap.size 3 1 v (M.decS user ((bl s).take k)).length ((M.decS user ((bl s).take k)).map (Value.int .i64)) ∧ Below w.heap.size w wr

theorem InS.step {user : Bool} {s : ByteArray} {w wr w2 : World} {k : Nat} {v v2 : Value} {c p : Int} (h : InS user s w wr k v) (hk : k < s.size) (hc : (s[k].toNat : Int) = c) (hp : M.pt user c = p)
    (ho : w2.ownsRow w.heap.size 3 1 v2 (M.decS user ((bl s).take k) ++ [p]).length ((M.decS user ((bl s).take k) ++ [p]).map (Value.int .i64))) (hb : Below w.heap.size wr w2) : InS user s w w2 (k + 1) v2 := by
  have e : M.decS user ((bl s).take (k + 1)) = M.decS user ((bl s).take k) ++ [p] := by
    rw [List.take_succ_eq_append_getElem (by rw [bl_len]; exact hk), M.decS_app]
    congr 1
    have : (bl s)[k]'(by rw [bl_len]; exact hk) = c := by
      have := bl_get s k hk
      rw [List.getElem?_eq_getElem (by rw [bl_len]; exact hk)] at this
      rw [← hc]; exact Option.some.inj this
    rw [this]; simp [M.decS, hp]
  refine ⟨?_, h.2.trans hb⟩
  rw [e]; exact ho

set_option maxHeartbeats 400000 in
set_option maxRecDepth 100000 in
theorem decS_in (user : Bool) (s : ByteArray) (B : Nat) (w : World) (hs : s.size ≤ 3000) (hB : w.cell? ⟨B, 0, none⟩ = some (.bool user)) :
    Calls Tryz.prog 153 #[.string s, .pointer (some ⟨B, 0, none⟩)] w fun e w' => ∃ v, e = .returned v ∧ Ints w' v (M.decS user (bl s)) ∧ Below w.heap.size w w' := by
  go_enter Tryz.func153, Tryz.ntmps153
  go_wp2_with fail
  refine (pointsOf_any user _).mono ?_
  rintro e w1 ⟨v1, rfl, hI1, hb1⟩
  obtain ⟨ao1, cap1, hsh1, -, -, hc1⟩ := hI1
  subst hsh1
  rw [M.tblOf_len]
  rw [M.tblOf_len] at hc1
  obtain ⟨b, off, rfl, hcc⟩ : ∃ b off, ao1 = some ⟨b, off, none⟩ ∧ ∀ i, i < 256 → w1.cell? ⟨b, off + i, none⟩ = some (.int .i64 ((M.tblOf user 256).getD i 0)) := by
    rcases hc1 with h | h
    · have := congrArg List.length h; rw [M.tblOf_len] at this; simp at this
    · exact h
  have hbl : b < w1.heap.size := World.block_lt_of_cell? w1 _ (hcc 0 (by omega))
  have HC := hide hcc
  have HI : Hid (InS user s w1 w1 0 (.slice none 0 0)) := hide ⟨World.ownsRow_nil _ _ _ _, Below.refl _ _⟩
  clear hc1 hcc hB
  go_wp2_with fail
  go_loopw [5, 11] (fun v i wr => ∃ k : Nat, k ≤ s.size ∧ i = .int .i64 k ∧ InS user s w1 wr k v) (fun _ i _ => s.size - (intOf i).toNat)
  case atStart => exact ⟨0, by omega, rfl, unhide HI⟩
  case round =>
    obtain ⟨k, hk, rfl, hI⟩ := hrel
    clear HI
    have hz := hI.2.size
    have hl : Hid ((M.decS user ((bl s).take k)).length = k) := hide (by rw [M.decS_len, List.length_take, bl_len]; omega)
    obtain ⟨ao, cap, hsh⟩ := owns_shape hI.1
    subst hsh
    by_cases hlt : k < s.size
    · obtain ⟨c, hc⟩ : ∃ c : Nat, s[k].toNat = c := ⟨_, rfl⟩
      have hcb : c < 256 := by have := s[k].toNat_lt; omega
      have hcell : wr.cell? ⟨b, off + c, none⟩ = some (.int .i64 (M.pt user (c : Int))) := by
        rw [hI.2.cell (p := ⟨b, off + c, none⟩) hbl, unhide HC c hcb, M.tblOf_get user hcb]
      have hci : (s[k].toNat : Int) = (c : Int) := by omega
      have hbr : b < wr.heap.size := by omega
      obtain ⟨p, HP⟩ : ∃ p, Hid (M.pt user (c : Int) = p) := ⟨_, rfl⟩
      rw [unhide HP] at hcell
      have HCC := hide hci
      go_wp2_with (at_builtin; refine append_ints rfl (.tmp 14) (.tmp 21) rfl w1.heap.size _ (M.decS user ((bl s).take k)) rfl (owns_a hI.1 _) _ [p] rfl (one_int _ _) (by rw [unhide hl]; simp; omega) (by simp; omega) ?_)
      intro v2 w2 ho2 hb2
      have HJ : Hid (InS user s w1 w2 (k + 1) v2) := hide (hI.step hlt (unhide HCC) (unhide HP) (by simpa using ho2) (((Below.refl _ _).alloc hz _).trans hb2))
      obtain ⟨ao2, cap2, hsh2⟩ := owns_shape ho2
      subst hsh2
      clear hI ho2 hb2
      go_wp2_with fail
      go_roundw
      case rel => exact ⟨k + 1, by omega, by go_num, by simpa using unhide HJ⟩
      case measure => simp [intOf]; omega
    · have ek : k = s.size := by omega
      have HV := hide (Ints.of_owns hI.1)
      have et : (bl s).take k = bl s := List.take_of_length_le (by rw [bl_len]; omega)
      rw [et] at HV
      have HB := hide (bstep hb1 hI.2)
      rw [et]
      clear hI et hl
      go_wp2_with fail
      go_ret
      exact ⟨_, rfl, unhide HV, unhide HB⟩

set_option maxHeartbeats 400000 in
set_option maxRecDepth 100000 in
theorem decodeS_any (user : Bool) (s : ByteArray) (w : World) (hs : s.size ≤ 3000) :
    Calls Tryz.prog 91 #[.bool user, .string s] w fun e w' => ∃ v, e = .returned (.tuple #[v, .int .i64 0]) ∧ Ints w' v (M.decS user (bl s)) ∧ Below w.heap.size w w' := by
  go_enter Tryz.func91, Tryz.ntmps91
  go_wp2_with (first | (go_at_call 153; refine (decS_in user _ _ _ hs (by simp)).mono ?_; rintro e w1 ⟨v, rfl, hI, hb⟩; have HI := hide hI; have HB := hide (bstep (balloc _ _) hb); obtain ⟨ao, cap, rfl, _⟩ := hI; clear hb) | go_in)
  go_ret2
  exact ⟨_, rfl, unhide HI, unhide HB⟩

set_option maxHeartbeats 400000 in
set_option maxRecDepth 100000 in
theorem decodeS_long (user : Bool) (s : ByteArray) (w : World) (hs : 3000 < s.size) (hm : s.size ≤ maxLen) :
    Calls Tryz.prog 91 #[.bool user, .string s] w fun e w' => e = .returned (.tuple #[.slice none 0 0, .int .i64 2]) ∧ Below w.heap.size w w' := by
  unfold maxLen at hm
  go_enter Tryz.func91, Tryz.ntmps91
  go_wp2
  go_ret2
  exact ⟨rfl, balloc _ _⟩
end Go.Proofs.YtaiinjfnkmidbaaGreatDoor

namespace Go.Proofs.YtaiinjfnkmidbaaGreatDoor
open Go.RowKit
set_option linter.unusedVariables false

/-- The place of a number, or -1. -/
def plc (xs : List Int) (n : Int) : Int := match xs.findIdx? (· == n) with | some k => k | none => -1
theorem plc_hit {xs : List Int} {n : Int} {k : Nat} (hk : k < xs.length) (h : ∀ j, j < k → xs.getD j 0 ≠ n) (hn : xs.getD k 0 = n) : plc xs n = k := by
  have e : xs.findIdx? (· == n) = some k := by
    rw [List.findIdx?_eq_some_iff_getElem]
    refine ⟨hk, by simpa [List.getD, hk] using hn, fun j hj => ?_⟩
    have := h j hj
    have hj' : j < xs.length := by omega
    simpa [List.getD, hj'] using this
  unfold plc; rw [e]
theorem plc_miss {xs : List Int} {n : Int} (h : ∀ j, j < xs.length → xs.getD j 0 ≠ n) : plc xs n = -1 := by
  have e : xs.findIdx? (· == n) = none := by
    rw [List.findIdx?_eq_none_iff]
    intro x hx
    obtain ⟨j, hj, rfl⟩ := List.getElem_of_mem hx
    have := h j hj
    simpa [List.getD, hj] using this
  unfold plc; rw [e]
theorem plc_has (xs : List Int) (n : Int) : decide (0 ≤ plc xs n) = xs.any (· == n) := by
  unfold plc
  cases h : xs.findIdx? (· == n) with
  | some k =>
    rw [List.findIdx?_eq_some_iff_getElem] at h
    obtain ⟨hk, hq, _⟩ := h
    have : xs.any (· == n) = true := List.any_eq_true.2 ⟨xs[k], List.getElem_mem _, hq⟩
    rw [this]; simp
  | none =>
    rw [List.findIdx?_eq_none_iff] at h
    have : xs.any (· == n) = false := by rw [List.any_eq_false]; intro x hx; simp [h x hx]
    rw [this]; simp

set_option maxHeartbeats 400000 in
set_option maxRecDepth 100000 in
theorem index_ints {v : Value} {xs : List Int} (n : Int) (w : World) (hx : Ints w v xs) :
    Calls Tryz.prog 194 #[v, .int .i64 n] w fun e w' => e = .returned (.int .i64 (plc xs n)) ∧ w' = w := by
  obtain ⟨ao, cap, rfl, hm, -, hc⟩ := id hx
  unfold maxLen at hm
  clear hx
  have HC := hide hc
  clear hc
  go_enter Tryz.func194, Tryz.ntmps194
  go_wp2_with fail
  go_loop [8] (fun i => ∃ k : Nat, k ≤ xs.length ∧ i = .int .i64 k ∧ Hid (∀ j, j < k → xs.getD j 0 ≠ n)) (fun i => xs.length - (intOf i).toNat)
  case atStart => exact ⟨0, by omega, rfl, hide (fun j hj => by omega)⟩
  case round =>
    obtain ⟨k, hk, rfl, HN⟩ := hrel
    by_cases hlt : k < xs.length
    · obtain ⟨b, off, rfl, hc⟩ : ∃ b off, ao = some ⟨b, off, none⟩ ∧ ∀ i, i < xs.length → w.cell? ⟨b, off + i, none⟩ = some (.int .i64 (xs.getD i 0)) := by
        rcases unhide HC with h | h
        · subst h; simp at hlt
        · exact h
      have hcell := hc k hlt
      have hbr : b < w.heap.size := World.block_lt_of_cell? w _ hcell
      obtain ⟨p, HP⟩ : ∃ p, Hid (xs.getD k 0 = p) := ⟨_, hide rfl⟩
      rw [unhide HP] at hcell
      clear hc
      by_cases hq : n = p
      · subst hq
        have HR := hide (plc_hit hlt (unhide HN) (unhide HP))
        go_wp2_with fail
        go_ret
        exact ⟨by rw [unhide HR]; rfl, rfl⟩
      · have hq' : (n == p) = false := by simpa using hq
        have HN' : Hid (∀ j, j < k + 1 → xs.getD j 0 ≠ n) := hide (fun j hj => by
          by_cases e : j = k
          · rw [e, unhide HP]; exact fun h => hq h.symm
          · exact unhide HN j (by omega))
        clear HN
        go_wp2_with fail
        go_round
        case rel => exact ⟨k + 1, by omega, by go_num, HN'⟩
        case measure => simp [intOf]; omega
    · have HR : Hid (plc xs n = -1) := hide (plc_miss (fun j hj => unhide HN j (by omega)))
      go_wp2_with fail
      go_ret
      exact ⟨by rw [unhide HR]; rfl, rfl⟩

set_option maxHeartbeats 400000 in
set_option maxRecDepth 100000 in
theorem contains_ints {v : Value} {xs : List Int} (n : Int) (w : World) (hx : Ints w v xs) :
    Calls Tryz.prog 144 #[v, .int .i64 n] w fun e w' => e = .returned (.bool (xs.any (· == n))) ∧ w' = w := by
  have H := index_ints n w hx
  obtain ⟨ao, cap, rfl, hm, -, hc⟩ := id hx
  have HD := hide (plc_has xs n)
  generalize plc xs n = q at *
  generalize xs.any (· == n) = r at *
  clear hx hc
  go_enter Tryz.func144, Tryz.ntmps144
  go_wp2_with fail
  refine H.mono ?_
  rintro e w1 ⟨rfl, hw⟩
  replace hw := hw.symm
  subst hw
  go_wp2_with fail
  go_ret
  refine ⟨?_, rfl⟩
  rw [← unhide HD]
  rfl
end Go.Proofs.YtaiinjfnkmidbaaGreatDoor

namespace Go.Proofs.YtaiinjfnkmidbaaGreatDoor.M

def run {σ : Type} (f : σ → List Int → Option (List Int × Nat × σ)) : Nat → σ → List Int → List Int × σ × List Int
  | 0, s, l => ([], s, l)
  | n + 1, s, l => match f s l with
    | none => ([], s, l)
    | some (o, k, s') => (o ++ (run f n s' (l.drop k)).1, (run f n s' (l.drop k)).2)

structure Steps {σ : Type} (f : σ → List Int → Option (List Int × Nat × σ)) : Prop where
  size : ∀ s l o k s', f s l = some (o, k, s') → 1 ≤ k ∧ k ≤ l.length
  stay : ∀ s l t r, f s l = some r → f s (l ++ t) = some r

section
variable {σ : Type} {f : σ → List Int → Option (List Int × Nat × σ)} (hf : Steps f)
include hf

theorem Steps.nil (s : σ) : f s [] = none := by
  cases h : f s [] with
  | none => rfl
  | some r =>
    obtain ⟨o, k, s'⟩ := r
    have := hf.size s [] o k s' h
    simp at this
    omega

theorem run_fuel : ∀ (n m : Nat) (s : σ) (l : List Int), l.length ≤ n → l.length ≤ m → run f n s l = run f m s l := by
  intro n
  induction n with
  | zero =>
    intro m s l h1 h2
    have : l = [] := List.eq_nil_of_length_eq_zero (by omega)
    subst this
    cases m with
    | zero => rfl
    | succ m => simp [run, hf.nil]
  | succ n ih =>
    intro m s l h1 h2
    cases m with
    | zero =>
      have : l = [] := List.eq_nil_of_length_eq_zero (by omega)
      subst this
      simp [run, hf.nil]
    | succ m =>
      simp only [run]
      cases h : f s l with
      | none => rfl
      | some r =>
        obtain ⟨o, k, s'⟩ := r
        have hs := hf.size s l o k s' h
        simp only
        rw [ih m s' (l.drop k) (by simp; omega) (by simp; omega)]
end

def Run {σ : Type} (f : σ → List Int → Option (List Int × Nat × σ)) (s : σ) (l : List Int) : List Int × σ × List Int := run f l.length s l

section
variable {σ : Type} {f : σ → List Int → Option (List Int × Nat × σ)}
theorem Run_wait {s : σ} {l : List Int} (h : f s l = none) : Run f s l = ([], s, l) := by
  unfold Run
  cases hl : l.length with
  | zero => rfl
  | succ n => simp [run, h]
theorem Run_step (hf : Steps f) {s s' : σ} {l o : List Int} {k : Nat} (h : f s l = some (o, k, s')) : Run f s l = (o ++ (Run f s' (l.drop k)).1, (Run f s' (l.drop k)).2) := by
  have hs := hf.size s l o k s' h
  unfold Run
  obtain ⟨n, hn⟩ : ∃ n, l.length = n + 1 := ⟨l.length - 1, by omega⟩
  rw [hn]
  simp only [run, h]
  rw [run_fuel hf n (l.drop k).length s' (l.drop k) (by simp; omega) (Nat.le_refl _)]
theorem Run_ind {C : σ → List Int → Prop} (hf : Steps f) (h0 : ∀ s l, f s l = none → C s l) (h1 : ∀ s l o k s', f s l = some (o, k, s') → C s' (l.drop k) → C s l) : ∀ s l, C s l := by
  have : ∀ (n : Nat) s l, l.length ≤ n → C s l := by
    intro n
    induction n with
    | zero =>
      intro s l h
      have : l = [] := List.eq_nil_of_length_eq_zero (by omega)
      subst this
      exact h0 s [] (hf.nil s)
    | succ n ih =>
      intro s l h
      cases hq : f s l with
      | none => exact h0 s l hq
      | some r =>
        obtain ⟨o, k, s'⟩ := r
        have hs := hf.size s l o k s' hq
        exact h1 s l o k s' hq (ih s' (l.drop k) (by simp; omega))
  exact fun s l => this l.length s l (Nat.le_refl _)
/-- What is left waits. -/
theorem Run_left (hf : Steps f) (s : σ) (l : List Int) : f (Run f s l).2.1 (Run f s l).2.2 = none := by
  refine Run_ind (C := fun s l => f (Run f s l).2.1 (Run f s l).2.2 = none) hf ?_ ?_ s l
  · intro s l h; rw [Run_wait h]; exact h
  · intro s l o k s' h ih; rw [Run_step hf h]; exact ih
theorem Run_end (hf : Steps f) (s : σ) (l : List Int) : ∃ n, (Run f s l).2.2 = l.drop n ∧ n ≤ l.length := by
  refine Run_ind (C := fun s l => ∃ n, (Run f s l).2.2 = l.drop n ∧ n ≤ l.length) hf ?_ ?_ s l
  · intro s l h; rw [Run_wait h]; exact ⟨0, rfl, Nat.zero_le _⟩
  · intro s l o k s' h ih
    obtain ⟨n, e, hn⟩ := ih
    have hs := hf.size s l o k s' h
    rw [Run_step hf h]
    refine ⟨k + n, ?_, ?_⟩
    · show (Run f s' (l.drop k)).2.2 = _; rw [e, List.drop_drop]
    · simp at hn; omega
/-- Two parts, one behind the other. -/
theorem Run_app (hf : Steps f) (s : σ) (l t : List Int) : Run f s (l ++ t) = ((Run f s l).1 ++ (Run f (Run f s l).2.1 ((Run f s l).2.2 ++ t)).1, (Run f (Run f s l).2.1 ((Run f s l).2.2 ++ t)).2) := by
  refine Run_ind (C := fun s l => Run f s (l ++ t) = ((Run f s l).1 ++ (Run f (Run f s l).2.1 ((Run f s l).2.2 ++ t)).1, (Run f (Run f s l).2.1 ((Run f s l).2.2 ++ t)).2)) hf ?_ ?_ s l
  · intro s l h; rw [Run_wait h]; simp
  · intro s l o k s' h ih
    have hs := hf.size s l o k s' h
    rw [Run_step hf h, Run_step hf (hf.stay s l t _ h), List.drop_append_of_le_length hs.2, ih]
    simp [List.append_assoc]
end
end Go.Proofs.YtaiinjfnkmidbaaGreatDoor.M

namespace Go.Proofs.YtaiinjfnkmidbaaGreatDoor.M

theorem nxt_1 {c : Int} (t : List Int) (h : c < 128) : nxt (c :: t) = (c, 1, false) := by
  have e1 : bSize c = 1 := by unfold bSize; rw [if_pos h]
  have e2 : bBits c = c := by unfold bBits; rw [if_pos h]
  simp [nxt, e1, e2, go]

theorem nxt_0 {c : Int} (t : List Int) (h : (128 ≤ c ∧ c < 194) ∨ 245 ≤ c) : nxt (c :: t) = (65533, 1, false) := by
  have e1 : bSize c = 0 := by unfold bSize; omega
  simp [nxt, e1]

theorem size2 {c : Int} (h : 194 ≤ c) (h' : c < 224) : bSize c = 2 ∧ bBits c = c % 32 ∧ bLow c = 128 ∧ bHigh c = 191 := by
  unfold bSize bBits bLow bHigh; omega
theorem size3 {c : Int} (h : 224 ≤ c) (h' : c < 240) : bSize c = 3 ∧ bBits c = c % 16 ∧ 128 ≤ bLow c ∧ bHigh c ≤ 191 ∧ (c = 224 → bLow c = 160) ∧ (c ≠ 224 → bLow c = 128) ∧ (c = 237 → bHigh c = 159) ∧ (c ≠ 237 → bHigh c = 191) := by
  unfold bSize bBits bLow bHigh; omega
theorem size4 {c : Int} (h : 240 ≤ c) (h' : c < 245) : bSize c = 4 ∧ bBits c = c % 8 ∧ 128 ≤ bLow c ∧ bHigh c ≤ 191 ∧ (c = 240 → bLow c = 144) ∧ (c ≠ 240 → bLow c = 128) ∧ (c = 244 → bHigh c = 143) ∧ (c ≠ 244 → bHigh c = 191) := by
  unfold bSize bBits bLow bHigh; omega

theorem nxt_2 {c : Int} (t : List Int) (h : 194 ≤ c) (h' : c < 224) : nxt (c :: t) = go 1 1 (c % 32) 128 191 t := by
  obtain ⟨a, b, d, e⟩ := size2 h h'
  simp [nxt, a, b, d, e]
theorem nxt_3 {c : Int} (t : List Int) (h : 224 ≤ c) (h' : c < 240) : ∃ lo hi, nxt (c :: t) = go 2 1 (c % 16) lo hi t ∧ 128 ≤ lo ∧ hi ≤ 191 ∧ (c = 224 → lo = 160) ∧ (c ≠ 224 → lo = 128) ∧ (c = 237 → hi = 159) ∧ (c ≠ 237 → hi = 191) := by
  obtain ⟨a, b, d⟩ := size3 h h'
  exact ⟨bLow c, bHigh c, by simp [nxt, a, b], d⟩
theorem nxt_4 {c : Int} (t : List Int) (h : 240 ≤ c) (h' : c < 245) : ∃ lo hi, nxt (c :: t) = go 3 1 (c % 8) lo hi t ∧ 128 ≤ lo ∧ hi ≤ 191 ∧ (c = 240 → lo = 144) ∧ (c ≠ 240 → lo = 128) ∧ (c = 244 → hi = 143) ∧ (c ≠ 244 → hi = 191) := by
  obtain ⟨a, b, d⟩ := size4 h h'
  exact ⟨bLow c, bHigh c, by simp [nxt, a, b], d⟩

def Byt (l : List Int) : Prop := ∀ x ∈ l, 0 ≤ x ∧ x ≤ 255

theorem enc1_1 {n : Int} (h : n < 128) : enc1 n = [n] := by unfold enc1; rw [if_pos h]
theorem enc1_2 {n : Int} (h : 128 ≤ n) (h' : n < 2048) : enc1 n = [192 + n / 64, 128 + n % 64] := by unfold enc1; rw [if_neg (by omega), if_pos h']
theorem enc1_3 {n : Int} (h : 2048 ≤ n) (h' : n < 65536) : enc1 n = [224 + n / 4096, 128 + n / 64 % 64, 128 + n % 64] := by unfold enc1; rw [if_neg (by omega), if_neg (by omega), if_pos h']
theorem enc1_4 {n : Int} (h : 65536 ≤ n) : enc1 n = [240 + n / 262144, 128 + n / 4096 % 64, 128 + n / 64 % 64, 128 + n % 64] := by unfold enc1; rw [if_neg (by omega), if_neg (by omega), if_neg (by omega)]

theorem sclr_iff (n : Int) : sclr n = true ↔ 0 ≤ n ∧ n ≤ 1114111 ∧ (n < 55296 ∨ 57343 < n) := by simp [sclr]

/-- A piece is a scalar's bytes, or a Bad. -/
theorem nxt_cases (l : List Int) (hl : l ≠ []) (hb : Byt l) :
    (∃ p r, sclr p = true ∧ l = enc1 p ++ r ∧ nxt l = (p, ((enc1 p).length : Int), false)) ∨ (nxt l).1 = 65533 := by
  cases l with
  | nil => exact absurd rfl hl
  | cons c t =>
    have hc : 0 ≤ c ∧ c ≤ 255 := hb c (by simp)
    rcases (show c < 128 ∨ ((128 ≤ c ∧ c < 194) ∨ 245 ≤ c) ∨ (194 ≤ c ∧ c < 224) ∨ (224 ≤ c ∧ c < 240) ∨ (240 ≤ c ∧ c < 245) from by omega) with h | h | ⟨h, h'⟩ | ⟨h, h'⟩ | ⟨h, h'⟩
    · refine .inl ⟨c, t, (sclr_iff c).2 (by omega), by rw [enc1_1 h]; rfl, by rw [nxt_1 t h, enc1_1 h]; rfl⟩
    · exact .inr (by rw [nxt_0 t h])
    · rw [nxt_2 t h h']
      cases t with
      | nil => exact .inr (by simp [go])
      | cons c1 t1 =>
        simp only [go]
        split
        · exact .inr rfl
        · have e := enc1_2 (n := c % 32 * 64 + c1 % 64) (by omega) (by omega)
          refine .inl ⟨c % 32 * 64 + c1 % 64, t1, (sclr_iff _).2 (by omega), ?_, by rw [e]; rfl⟩
          rw [e, show 192 + (c % 32 * 64 + c1 % 64) / 64 = c from by omega, show 128 + (c % 32 * 64 + c1 % 64) % 64 = c1 from by omega]; rfl
    · obtain ⟨lo, hi, e0, l1, l2, l3, l4, l5, l6⟩ := nxt_3 t h h'
      rw [e0]; clear e0
      cases t with
      | nil => exact .inr (by simp [go])
      | cons c1 t1 =>
        simp only [go]
        split
        · exact .inr rfl
        · rename_i g1
          cases t1 with
          | nil => exact .inr (by simp [go])
          | cons c2 t2 =>
            simp only [go]
            split
            · exact .inr rfl
            · rename_i g2
              have k1 : 2048 ≤ (c % 16 * 64 + c1 % 64) * 64 + c2 % 64 ∧ (c % 16 * 64 + c1 % 64) * 64 + c2 % 64 < 65536 ∧ ((c % 16 * 64 + c1 % 64) * 64 + c2 % 64 < 55296 ∨ 57343 < (c % 16 * 64 + c1 % 64) * 64 + c2 % 64) := by
                omega
              have k2 : 128 ≤ c1 ∧ c1 ≤ 191 := by omega
              have e := enc1_3 (n := (c % 16 * 64 + c1 % 64) * 64 + c2 % 64) (by omega) (by omega)
              refine .inl ⟨(c % 16 * 64 + c1 % 64) * 64 + c2 % 64, t2, (sclr_iff _).2 (by omega), ?_, by rw [e]; rfl⟩
              rw [e, show 224 + ((c % 16 * 64 + c1 % 64) * 64 + c2 % 64) / 4096 = c from by omega, show 128 + ((c % 16 * 64 + c1 % 64) * 64 + c2 % 64) / 64 % 64 = c1 from by omega,
                show 128 + ((c % 16 * 64 + c1 % 64) * 64 + c2 % 64) % 64 = c2 from by omega]; rfl
    · obtain ⟨lo, hi, e0, l1, l2, l3, l4, l5, l6⟩ := nxt_4 t h h'
      rw [e0]; clear e0
      cases t with
      | nil => exact .inr (by simp [go])
      | cons c1 t1 =>
        simp only [go]
        split
        · exact .inr rfl
        · rename_i g1
          cases t1 with
          | nil => exact .inr (by simp [go])
          | cons c2 t2 =>
            simp only [go]
            split
            · exact .inr rfl
            · rename_i g2
              cases t2 with
              | nil => exact .inr (by simp [go])
              | cons c3 t3 =>
                simp only [go]
                split
                · exact .inr rfl
                · rename_i g3
                  have k1 : 65536 ≤ ((c % 8 * 64 + c1 % 64) * 64 + c2 % 64) * 64 + c3 % 64 ∧ ((c % 8 * 64 + c1 % 64) * 64 + c2 % 64) * 64 + c3 % 64 ≤ 1114111 := by
                    omega
                  have k2 : 128 ≤ c1 ∧ c1 ≤ 191 := by omega
                  have e := enc1_4 (n := ((c % 8 * 64 + c1 % 64) * 64 + c2 % 64) * 64 + c3 % 64) (by omega)
                  refine .inl ⟨((c % 8 * 64 + c1 % 64) * 64 + c2 % 64) * 64 + c3 % 64, t3, (sclr_iff _).2 (by omega), ?_, by rw [e]; rfl⟩
                  rw [e, show 240 + (((c % 8 * 64 + c1 % 64) * 64 + c2 % 64) * 64 + c3 % 64) / 262144 = c from by omega, show 128 + (((c % 8 * 64 + c1 % 64) * 64 + c2 % 64) * 64 + c3 % 64) / 4096 % 64 = c1 from by omega,
                    show 128 + (((c % 8 * 64 + c1 % 64) * 64 + c2 % 64) * 64 + c3 % 64) / 64 % 64 = c2 from by omega, show 128 + (((c % 8 * 64 + c1 % 64) * 64 + c2 % 64) * 64 + c3 % 64) % 64 = c3 from by omega]; rfl

/-- An induction on the pieces of a text. -/
theorem piece_ind {C : List Int → Prop} (h0 : C []) (h1 : ∀ l, l ≠ [] → C (l.drop (nxt l).2.1.toNat) → C l) (l : List Int) : C l := by
  have key : ∀ n (l : List Int), l.length ≤ n → C l := by
    intro n
    induction n with
    | zero => intro l h; have : l = [] := List.eq_nil_of_length_eq_zero (by omega); subst this; exact h0
    | succ n ih =>
      intro l h
      by_cases hl : l = []
      · subst hl; exact h0
      · refine h1 l hl (ih _ ?_)
        have := nxt_size' l (List.length_pos_iff.2 hl)
        rw [List.length_drop]; omega
  exact key l.length l (Nat.le_refl _)

theorem Byt.drop {l : List Int} (h : Byt l) (n : Nat) : Byt (l.drop n) := fun x hx => h x (List.mem_of_mem_drop hx)

theorem dec_nil : dec [] = [] := rfl
theorem dec_ne {l : List Int} (h : l ≠ []) : dec l = (nxt l).1 :: dec (l.drop (nxt l).2.1.toNat) := by
  unfold dec; rw [pieces_ne h]; rfl

theorem dec_sclr (l : List Int) (hb : Byt l) : (dec l).all sclr = true := by
  revert hb
  refine piece_ind (C := fun l => Byt l → (dec l).all sclr = true) (fun _ => rfl) ?_ l
  intro l hl ih hb
  rw [dec_ne hl, List.all_cons, ih (hb.drop _), Bool.and_true]
  rcases nxt_cases l hl hb with ⟨p, r, hp, _, e⟩ | e
  · rw [e]; exact hp
  · rw [e]; rfl

end Go.Proofs.YtaiinjfnkmidbaaGreatDoor.M

namespace Go.Proofs.YtaiinjfnkmidbaaGreatDoor.M

end Go.Proofs.YtaiinjfnkmidbaaGreatDoor.M

namespace Go.Proofs.YtaiinjfnkmidbaaGreatDoor.M

theorem go_open : ∀ (r : Nat) (i p lo hi : Int) (l : List Int) (q j : Int), go r i p lo hi l = (q, j, true) → q = 65533 ∧ j = i + l.length ∧ l.length < r := by
  intro r
  induction r with
  | zero => intro i p lo hi l q j h; simp [go] at h
  | succ r ih =>
    intro i p lo hi l q j h
    cases l with
    | nil => simp [go] at h; simp; omega
    | cons c t =>
      simp only [go] at h
      split at h
      · simp at h
      · have := ih _ _ _ _ _ _ _ h
        simp only [List.length_cons]
        omega

theorem go_local : ∀ (r : Nat) (i p lo hi : Int) (l t : List Int) (q j : Int), go r i p lo hi l = (q, j, false) → go r i p lo hi (l ++ t) = (q, j, false) := by
  intro r
  induction r with
  | zero => intro i p lo hi l t q j h; simpa [go] using h
  | succ r ih =>
    intro i p lo hi l t q j h
    cases l with
    | nil => simp [go] at h
    | cons c l' =>
      simp only [go, List.cons_append] at h ⊢
      split at h
      · rename_i g; rw [if_pos g]; exact h
      · rename_i g; rw [if_neg g]; exact ih _ _ _ _ _ _ _ _ h

theorem go_prefix : ∀ (r : Nat) (i p lo hi : Int) (m v : List Int) (q j : Int), go r i p lo hi (m ++ v) = (q, j, false) → j ≤ i + m.length →
    (go r i p lo hi m).1 = q ∧ (go r i p lo hi m).2.1 = j := by
  intro r
  induction r with
  | zero => intro i p lo hi m v q j h _; simp [go] at h; simp [go, h]
  | succ r ih =>
    intro i p lo hi m v q j h hj
    cases m with
    | nil =>
      simp only [List.nil_append] at h
      cases v with
      | nil => simp [go] at h
      | cons c v' =>
        simp only [go] at h
        split at h
        · simp at h; simp [go]; omega
        · have := go_size r (i + 1) (p * 64 + c % 64) 128 191 v'
          rw [h] at this
          simp at hj this
          omega
    | cons c m' =>
      simp only [go, List.cons_append] at h ⊢
      split at h
      · rename_i g; rw [if_pos g]; simp at h; simp; omega
      · rename_i g; rw [if_neg g]
        refine ih _ _ _ _ _ _ _ _ h ?_
        simp at hj
        omega

theorem nxt_open {l : List Int} {q j : Int} (h : nxt l = (q, j, true)) : q = 65533 ∧ j = l.length ∧ j ≤ 3 ∧ 1 ≤ j := by
  cases l with
  | nil => simp [nxt] at h
  | cons c t =>
    simp only [nxt] at h
    have hb := bSize_bd c
    split at h
    · simp at h
    · have := go_open _ _ _ _ _ _ _ _ h
      simp only [List.length_cons]
      omega

theorem nxt_local {l : List Int} (t : List Int) {q j : Int} (hl : l ≠ []) (h : nxt l = (q, j, false)) : nxt (l ++ t) = (q, j, false) := by
  cases l with
  | nil => exact absurd rfl hl
  | cons c l' =>
    simp only [nxt, List.cons_append] at h ⊢
    split at h
    · rename_i g; rw [if_pos g]; exact h
    · rename_i g; rw [if_neg g]; exact go_local _ _ _ _ _ _ _ _ _ h

theorem nxt_prefix {m v : List Int} {q j : Int} (hm : m ≠ []) (h : nxt (m ++ v) = (q, j, false)) (hj : j ≤ m.length) : (nxt m).1 = q ∧ (nxt m).2.1 = j := by
  cases m with
  | nil => exact absurd rfl hm
  | cons c m' =>
    simp only [nxt, List.cons_append] at h ⊢
    split at h
    · rename_i g; rw [if_pos g]; simp at h; simp; omega
    · rename_i g; rw [if_neg g]
      exact go_prefix _ _ _ _ _ _ _ _ _ h (by simp at hj; omega)

theorem spl_ne {l : List Int} (h : l ≠ []) (ho : (nxt l).2.2 = false) : spl l = spl (l.drop (nxt l).2.1.toNat) := by
  unfold spl lft
  rw [pieces_ne h, List.foldl_cons, ho]
  simp

/-- Where a text may be cut. -/
theorem cut_ex (l : List Int) : ∃ l1 l2, l = l1 ++ l2 ∧ (l2.length : Int) = spl l ∧ l2.length ≤ 3 ∧ (l2 = [] ∨ nxt l2 = (65533, (l2.length : Int), true)) ∧ ∀ t, dec (l ++ t) = dec l1 ++ dec (l2 ++ t) := by
  refine piece_ind (C := fun l => ∃ l1 l2, l = l1 ++ l2 ∧ (l2.length : Int) = spl l ∧ l2.length ≤ 3 ∧ (l2 = [] ∨ nxt l2 = (65533, (l2.length : Int), true)) ∧ ∀ t, dec (l ++ t) = dec l1 ++ dec (l2 ++ t)) ?_ ?_ l
  · exact ⟨[], [], rfl, rfl, by simp, .inl rfl, fun t => rfl⟩
  · intro l hl ih
    obtain ⟨q, j, o, hn⟩ : ∃ q j o, nxt l = (q, j, o) := ⟨_, _, _, rfl⟩
    have hs := nxt_size' l (List.length_pos_iff.2 hl)
    rw [hn] at hs ih
    simp only [] at hs ih
    cases o
    · obtain ⟨r1, r2, e1, e2, e3, e4, e5⟩ := ih
      have hsp : spl l = spl (l.drop j.toNat) := by have := spl_ne hl (by rw [hn]); rw [hn] at this; exact this
      have ht : (l.take j.toNat).length = j.toNat := by rw [List.length_take]; omega
      have hne : l.take j.toNat ++ r1 ≠ [] := fun e => by
        have := congrArg List.length e
        rw [List.length_append, ht] at this
        simp at this
        omega
      have el : l = (l.take j.toNat ++ r1) ++ r2 := by
        rw [List.append_assoc, ← e1, List.take_append_drop]
      have hp := nxt_prefix (m := l.take j.toNat ++ r1) (v := r2) hne (by rw [← el]; exact hn) (by rw [List.length_append, ht]; omega)
      refine ⟨l.take j.toNat ++ r1, r2, el, by rw [hsp]; exact e2, e3, e4, fun t => ?_⟩
      have hlt : l ++ t ≠ [] := by simp [hl]
      rw [dec_ne hlt, nxt_local t hl hn, dec_ne hne, hp.1, hp.2]
      simp only [List.cons_append]
      congr 1
      rw [List.drop_append_of_le_length (by omega), e5 t]
      congr 2
      rw [List.drop_append_of_le_length (by rw [ht]; exact Nat.le_refl _), List.drop_of_length_le (by rw [ht]; exact Nat.le_refl _)]
      rfl
    · have ho := nxt_open hn
      refine ⟨[], l, rfl, ?_, by omega, .inr ?_, fun t => rfl⟩
      · unfold spl lft
        rw [pieces_ne hl, hn, List.foldl_cons]
        simp only [if_true]
        rw [List.drop_of_length_le (by omega), pieces_nil]
        simp; omega
      · rw [hn, ho.1, ho.2.1]

/-- What the law on parts asks of what is left. -/
theorem cut_at (l : List Int) : ∃ n : Nat, spl l = n ∧ n ≤ 3 ∧ n ≤ l.length ∧ (n ≠ 0 → dec (l.drop (l.length - n)) = [65533]) ∧ ∀ t, dec (l ++ t) = dec (l.take (l.length - n)) ++ dec (l.drop (l.length - n) ++ t) := by
  obtain ⟨l1, l2, e1, e2, e3, e4, e5⟩ := cut_ex l
  have hlen : l.length - l2.length = l1.length := by rw [e1, List.length_append]; omega
  refine ⟨l2.length, e2.symm, e3, by rw [e1, List.length_append]; omega, fun h => ?_, fun t => ?_⟩
  · rw [hlen, show l.drop l1.length = l2 from by rw [e1]; exact List.drop_left]
    rcases e4 with e4 | e4
    · rw [e4] at h; simp at h
    · have hne : l2 ≠ [] := fun e => h (by rw [e]; rfl)
      rw [dec_ne hne, e4]
      simp only [Int.toNat_natCast]
      rw [List.drop_of_length_le (Nat.le_refl _)]; rfl
  · rw [hlen, show l.drop l1.length = l2 from by rw [e1]; exact List.drop_left, show l.take l1.length = l1 from by rw [e1]; exact List.take_left]
    exact e5 t
end Go.Proofs.YtaiinjfnkmidbaaGreatDoor.M

namespace Go.Proofs.YtaiinjfnkmidbaaGreatDoor.M

/-- What is told of bytes that are left at last, of UTF-8 and UTF-16. -/
def fin (r : List Int) : List Int := if r = [] then [] else [65533]

def f8 (_ : Unit) (l : List Int) : Option (List Int × Nat × Unit) := if l = [] then none else if (nxt l).2.2 then none else some ([(nxt l).1], (nxt l).2.1.toNat, ())
theorem f8_steps : Steps f8 where
  size := by
    intro s l o k s' h
    unfold f8 at h
    split at h
    · cases h
    · rename_i hl
      split at h
      · cases h
      · have := nxt_size' l (List.length_pos_iff.2 hl)
        simp only [Option.some.injEq, Prod.mk.injEq] at h
        omega
  stay := by
    intro s l t r h
    unfold f8 at h ⊢
    split at h
    · cases h
    · rename_i hl
      split at h
      · cases h
      · rename_i ho
        have e := nxt_local (l := l) t (q := (nxt l).1) (j := (nxt l).2.1) hl (by rw [← Bool.eq_false_iff.2 ho])
        rw [if_neg (by simp [hl]), e]
        exact h
theorem f8_dec (l : List Int) : (Run f8 () l).1 ++ fin (Run f8 () l).2.2 = dec l := by
  refine Run_ind (C := fun s l => (Run f8 s l).1 ++ fin (Run f8 s l).2.2 = dec l) f8_steps ?_ ?_ () l
  · intro s l h
    rw [Run_wait h]
    by_cases hl : l = []
    · subst hl; rfl
    · unfold f8 at h
      rw [if_neg hl] at h
      have ho : (nxt l).2.2 = true := by
        cases hq : (nxt l).2.2 with
        | true => rfl
        | false => rw [hq] at h; cases h
      have e := nxt_open (l := l) (q := (nxt l).1) (j := (nxt l).2.1) (by rw [← ho])
      rw [dec_ne hl, e.1, e.2.1]
      simp [fin, hl, dec_nil]
  · intro s l o k s' h ih
    rw [Run_step f8_steps h]
    unfold f8 at h
    split at h
    · cases h
    · rename_i hl
      split at h
      · cases h
      · simp only [Option.some.injEq, Prod.mk.injEq] at h
        obtain ⟨rfl, rfl, _⟩ := h
        rw [dec_ne hl, ← ih]
        rfl

def f16 (big : Bool) (_ : Unit) : List Int → Option (List Int × Nat × Unit)
  | a :: b :: t => if fst16 (ut big a b) then (match t with
      | c :: d :: _ => if snd16 (ut big c d) then some ([65536 + (ut big a b - 55296) * 1024 + (ut big c d - 56320)], 4, ()) else some ([65533], 2, ())
      | _ => none) else some ([aln (ut big a b)], 2, ())
  | _ => none
theorem f16_steps (big : Bool) : Steps (f16 big) where
  size := by
    intro s l o k s' h
    match l, h with
    | a :: b :: [], h => simp only [f16] at h; split at h <;> simp at h; obtain ⟨_, rfl⟩ := h; simp
    | a :: b :: [c], h => simp only [f16] at h; split at h <;> simp at h; obtain ⟨_, rfl⟩ := h; simp
    | a :: b :: c :: d :: t, h => simp only [f16] at h; split at h <;> (try split at h) <;> simp at h <;> (obtain ⟨_, rfl⟩ := h; simp <;> omega)
  stay := by
    intro s l t r h
    match l, h with
    | a :: b :: [], h =>
      simp only [f16] at h
      split at h
      · cases h
      · rename_i hq; show f16 big s (a :: b :: t) = _; simp only [f16, if_neg hq]; exact h
    | a :: b :: [c], h =>
      simp only [f16] at h
      split at h
      · cases h
      · rename_i hq; show f16 big s (a :: b :: c :: t) = _; simp only [f16, if_neg hq]; exact h
    | a :: b :: c :: d :: u, h => exact h
theorem f16_dec (big : Bool) (l : List Int) : (Run (f16 big) () l).1 ++ fin (Run (f16 big) () l).2.2 = dec16 big l := by
  refine Run_ind (C := fun s l => (Run (f16 big) s l).1 ++ fin (Run (f16 big) s l).2.2 = dec16 big l) (f16_steps big) ?_ ?_ () l
  · intro s l h
    rw [Run_wait h]
    match l, h with
    | [], _ => rfl
    | [a], _ => rw [d_one]; rfl
    | [a, b], h =>
      cases hq : fst16 (ut big a b) with
      | true => rw [d_f0 big hq]; rfl
      | false => simp [f16, hq] at h
    | [a, b, c], h =>
      cases hq : fst16 (ut big a b) with
      | true => rw [d_f1 big c hq]; rfl
      | false => simp [f16, hq] at h
    | a :: b :: c :: d :: t, h =>
      simp only [f16] at h
      split at h
      · split at h <;> cases h
      · cases h
  · intro s l o k s' h ih
    rw [Run_step (f16_steps big) h]
    match l, h, ih with
    | [a, b], h, ih =>
      cases hq : fst16 (ut big a b) with
      | true => simp [f16, hq] at h
      | false =>
        simp only [f16, hq] at h
        obtain ⟨rfl, rfl, _⟩ := h
        rw [d_unit big _ hq]; exact congrArg (List.cons _) ih
    | [a, b, c], h, ih =>
      cases hq : fst16 (ut big a b) with
      | true => simp [f16, hq] at h
      | false =>
        simp only [f16, hq] at h
        obtain ⟨rfl, rfl, _⟩ := h
        rw [d_unit big _ hq]; exact congrArg (List.cons _) ih
    | a :: b :: c :: d :: t, h, ih =>
      cases hq : fst16 (ut big a b) with
      | false =>
        simp only [f16, hq] at h
        obtain ⟨rfl, rfl, _⟩ := h
        rw [d_unit big _ hq]; exact congrArg (List.cons _) ih
      | true =>
        cases hs : snd16 (ut big c d) with
        | true =>
          simp only [f16, hq, hs, if_true, Option.some.injEq, Prod.mk.injEq] at h
          obtain ⟨rfl, rfl, _⟩ := h
          rw [d_pair big _ hq hs]; exact congrArg (List.cons _) ih
        | false =>
          simp only [f16, hq, hs, if_true] at h
          obtain ⟨rfl, rfl, _⟩ := h
          rw [d_bad big _ hq hs]; exact congrArg (List.cons _) ih

def fS (user : Bool) (_ : Unit) : List Int → Option (List Int × Nat × Unit)
  | c :: _ => some ([pt user c], 1, ())
  | [] => none
theorem fS_steps (user : Bool) : Steps (fS user) where
  size := by
    intro s l o k s' h
    match l, h with
    | c :: t, h => simp [fS] at h; simp [← h.2]
  stay := by
    intro s l t r h
    match l, h with
    | c :: u, h => exact h
theorem fS_run (user : Bool) (s : Unit) : ∀ l : List Int, Run (fS user) s l = (decS user l, (), [])
  | [] => rfl
  | c :: t => by
    rw [Run_step (fS_steps user) (s' := ()) (o := [pt user c]) (k := 1) rfl]
    show ([pt user c] ++ (Run (fS user) () t).1, (Run (fS user) () t).2) = _
    rw [fS_run user () t]; rfl

def fX (b : Bool) : List Int → Option (List Int × Nat × Bool)
  | _ :: _ => some (if b then [] else [65533], 1, true)
  | [] => none
theorem fX_steps : Steps fX where
  size := by
    intro s l o k s' h
    match l, h with
    | c :: t, h => simp [fX] at h; simp [← h.2.1]
  stay := by
    intro s l t r h
    match l, h with
    | c :: u, h => exact h
theorem fX_run : ∀ (b : Bool) (l : List Int), Run fX b l = (if b || l.isEmpty then [] else [65533], b || !l.isEmpty, [])
  | b, [] => by cases b <;> rfl
  | b, c :: t => by
    rw [Run_step fX_steps (s' := true) (o := if b then [] else [65533]) (k := 1) rfl]
    show ((if b then [] else [65533]) ++ (Run fX true t).1, (Run fX true t).2) = _
    rw [fX_run true t]
    cases b <;> simp
end Go.Proofs.YtaiinjfnkmidbaaGreatDoor.M

namespace Go.Proofs.YtaiinjfnkmidbaaGreatDoor.M

/-- The code point of a byte that is no 27, by signs (0: plain, 1: Roman, 2: kana). -/
def ksn (g c : Int) : Int := if g = 2 then (if 33 ≤ c ∧ c ≤ 95 then 65344 + c else 65533) else if 127 < c ∨ c = 14 ∨ c = 15 then 65533 else if g = 1 ∧ c = 92 then 165 else if g = 1 ∧ c = 126 then 8254 else c
def bads (fr : Bool) : List Int := if fr then [65533] else []
/-- A step: the signs, and whether an escape stood just ahead. -/
def fk (h : Int × Bool) : List Int → Option (List Int × Nat × (Int × Bool))
  | [] => none
  | c :: t => if c ≠ 27 then some ([ksn h.1 c], 1, (h.1, false)) else match t with
    | [] => none
    | d :: u => if d ≠ 40 then some ([65533], 1, (h.1, false)) else match u with
      | [] => none
      | e :: _ => if e = 66 then some (bads h.2, 3, (0, true)) else if e = 74 then some (bads h.2, 3, (1, true)) else if e = 73 then some (bads h.2, 3, (2, true)) else some ([65533], 1, (h.1, false))
theorem fk_sign (h : Int × Bool) {c : Int} (t : List Int) (hc : c ≠ 27) : fk h (c :: t) = some ([ksn h.1 c], 1, (h.1, false)) := by
  simp only [fk]; rw [if_pos hc]
theorem fk_steps : Steps fk where
  size := by
    intro s l o k s' h
    match l, h with
    | [c], h =>
      simp only [fk] at h
      split at h
      · simp only [Option.some.injEq, Prod.mk.injEq] at h; simp; omega
      · cases h
    | [c, d], h =>
      simp only [fk] at h
      split at h
      · simp only [Option.some.injEq, Prod.mk.injEq] at h; simp; omega
      · split at h
        · simp only [Option.some.injEq, Prod.mk.injEq] at h; simp; omega
        · cases h
    | c :: d :: e :: t, h =>
      simp only [fk] at h
      simp only [List.length_cons]
      split at h
      · simp only [Option.some.injEq, Prod.mk.injEq] at h; omega
      · split at h
        · simp only [Option.some.injEq, Prod.mk.injEq] at h; omega
        · split at h
          · simp only [Option.some.injEq, Prod.mk.injEq] at h; omega
          · split at h
            · simp only [Option.some.injEq, Prod.mk.injEq] at h; omega
            · split at h <;> (simp only [Option.some.injEq, Prod.mk.injEq] at h; omega)
  stay := by
    intro s l t r h
    match l, h with
    | [c], h =>
      simp only [fk] at h
      split at h
      · rename_i hc; rw [List.cons_append, fk_sign s _ hc]; exact h
      · cases h
    | [c, d], h =>
      simp only [fk] at h
      split at h
      · rename_i hc; rw [List.cons_append, fk_sign s _ hc]; exact h
      · rename_i hc
        split at h
        · rename_i hd; show fk s (c :: d :: t) = _; simp only [fk, if_neg hc, if_pos hd]; exact h
        · cases h
    | c :: d :: e :: u, h => exact h

def esc (g : Int) : Int := if g = 0 then 66 else if g = 1 then 74 else 73
def Sg (g : Int) : Prop := g = 0 ∨ g = 1 ∨ g = 2
/-- What is told of what waits at last, and all that a text tells. -/
def kfin (g : Int) : List Int → List Int
  | [] => []
  | [_] => [65533]
  | _ => [65533, ksn g 40]
def kdec (l : List Int) : List Int := (Run fk (0, false) l).1 ++ kfin (Run fk (0, false) l).2.1.1 (Run fk (0, false) l).2.2
theorem Run_nil (h : Int × Bool) : Run fk h [] = ([], h, []) := Run_wait rfl
/-- What waits: nothing, a 27, or that and a 40. -/
theorem fk_waits {h : Int × Bool} {l : List Int} (hw : fk h l = none) : l = [] ∨ l = [27] ∨ l = [27, 40] := by
  match l, hw with
  | [], _ => exact .inl rfl
  | [c], hw =>
    simp only [fk] at hw
    split at hw
    · cases hw
    · rename_i hc; exact .inr (.inl (by simp at hc; rw [hc]))
  | [c, d], hw =>
    simp only [fk] at hw
    split at hw
    · cases hw
    · rename_i hc
      split at hw
      · cases hw
      · rename_i hd; exact .inr (.inr (by simp at hc hd; rw [hc, hd]))
  | c :: d :: e :: t, hw =>
    simp only [fk] at hw
    split at hw
    · cases hw
    · split at hw
      · cases hw
      · split at hw
        · cases hw
        · split at hw
          · cases hw
          · split at hw <;> cases hw

/-! ### encoding -/
def kis (g n : Int) (c : Nat) : Bool := c != 27 && ksn g c == n && n != 65533
def hasK (g n : Int) : Bool := (List.range 128).any (kis g n)
def kby (g n : Int) : Int := (((List.range 128).find? (kis g n)).getD 0 : Nat)
def anyK (n : Int) : Bool := hasK 0 n || hasK 1 n || hasK 2 n
def want (now n : Int) : Int := if hasK now n then now else if hasK 0 n then 0 else if hasK 1 n then 1 else 2
theorem kby_spec {g n : Int} (h : hasK g n = true) : ∃ c : Nat, c < 128 ∧ kby g n = c ∧ c ≠ 27 ∧ ksn g c = n := by
  unfold kby
  cases hf : (List.range 128).find? (kis g n) with
  | none =>
    rw [List.find?_eq_none] at hf
    simp only [hasK, List.any_eq_true] at h
    obtain ⟨c, hc, he⟩ := h
    exact absurd he (hf c hc)
  | some k =>
    have h1 := List.mem_of_find?_eq_some hf
    have h2 := List.find?_some hf
    simp only [kis, Bool.and_eq_true, bne_iff_ne, beq_iff_eq] at h2
    exact ⟨k, by simpa using h1, rfl, h2.1.1, h2.1.2⟩
theorem hasK_iff (g n : Int) : hasK g n = true ↔ ∃ c : Nat, c < 128 ∧ c ≠ 27 ∧ ksn g c = n ∧ n ≠ 65533 := by
  simp only [hasK, List.any_eq_true, List.mem_range, kis, Bool.and_eq_true, bne_iff_ne, beq_iff_eq]
  constructor
  · rintro ⟨c, h1, ⟨h2, h3⟩, h4⟩; exact ⟨c, h1, h2, h3, h4⟩
  · rintro ⟨c, h1, h2, h3, h4⟩; exact ⟨c, h1, ⟨h2, h3⟩, h4⟩
theorem want_sg {now n : Int} (hn : Sg now) : Sg (want now n) := by
  unfold want Sg at *
  split
  · exact hn
  · split
    · exact .inl rfl
    · split
      · exact .inr (.inl rfl)
      · exact .inr (.inr rfl)
theorem want_has {now n : Int} (h : anyK n = true) : hasK (want now n) n = true := by
  simp only [anyK, Bool.or_eq_true] at h
  unfold want
  split
  · assumption
  · split
    · assumption
    · split
      · assumption
      · rcases h with (h | h) | h
        · contradiction
        · contradiction
        · exact h
def kpc (now n : Int) : List Int := (if want now n = now then [] else [27, 40, esc (want now n)]) ++ [kby (want now n) n]
def kst (now : Int) (l : List Int) : Int := l.foldl want now
def kbody : Int → List Int → List Int
  | _, [] => []
  | now, n :: l => kpc now n ++ kbody (want now n) l
def ktail (now : Int) : List Int := if now = 0 then [] else [27, 40, 66]
def kenc (l : List Int) : List Int := kbody 0 l ++ ktail (kst 0 l)
theorem kbody_snoc : ∀ (l : List Int) (now n : Int), kbody now (l ++ [n]) = kbody now l ++ kpc (kst now l) n
  | [], now, n => by simp [kbody, kst]
  | m :: l, now, n => by
    show kpc now m ++ kbody (want now m) (l ++ [n]) = kpc now m ++ kbody (want now m) l ++ kpc (kst (want now m) l) n
    rw [kbody_snoc l, List.append_assoc]
theorem kst_snoc (l : List Int) (now n : Int) : kst now (l ++ [n]) = want (kst now l) n := by simp [kst]
theorem kst_sg : ∀ (l : List Int) {now : Int}, Sg now → Sg (kst now l)
  | [], _, h => h
  | n :: l, now, h => kst_sg l (now := want now n) (want_sg h)
theorem kpc_len (now n : Int) : (kpc now n).length ≤ 4 := by unfold kpc; split <;> simp
theorem kbody_len : ∀ (l : List Int) (now : Int), (kbody now l).length ≤ 4 * l.length
  | [], _ => by simp [kbody]
  | n :: l, now => by
    have h1 := kpc_len now n
    have h2 := kbody_len l (want now n)
    simp only [kbody, List.length_append, List.length_cons]; omega
theorem kenc_len (l : List Int) : (kenc l).length ≤ 4 * l.length + 3 := by
  have := kbody_len l 0
  have : (ktail (kst 0 l)).length ≤ 3 := by unfold ktail; split <;> simp
  simp only [kenc, List.length_append]; omega
/-! ### plain signs -/
def pln (c : Int) : Bool := decide (0 ≤ c ∧ c < 128 ∧ c ≠ 14 ∧ c ≠ 15 ∧ c ≠ 27)
theorem pln_sn {c : Int} (h : pln c = true) : ksn 0 c = c ∧ c ≠ 27 ∧ 0 ≤ c ∧ c < 128 := by
  simp only [pln, decide_eq_true_eq] at h
  refine ⟨?_, by omega, by omega, by omega⟩
  unfold ksn; rw [if_neg (by omega), if_neg (by omega), if_neg (by omega), if_neg (by omega)]
theorem pln_has {c : Int} (h : pln c = true) : hasK 0 c = true := by
  have hs := pln_sn h
  rw [hasK_iff]
  exact ⟨c.toNat, by omega, by omega, by rw [show ((c.toNat : Nat) : Int) = c from by omega]; exact hs.1, by omega⟩
/-! ### escapes behind escapes -/
end Go.Proofs.YtaiinjfnkmidbaaGreatDoor.M

namespace Go.Proofs.YtaiinjfnkmidbaaGreatDoor.M

def tot {σ : Type} (g : σ → List Int → List Int × Nat × σ) : Nat → σ → List Int → List Int × σ
  | 0, s, _ => ([], s)
  | n + 1, s, l => if l = [] then ([], s) else ((g s l).1 ++ (tot g n (g s l).2.2 (l.drop (g s l).2.1)).1, (tot g n (g s l).2.2 (l.drop (g s l).2.1)).2)

structure Whole {σ : Type} (f : σ → List Int → Option (List Int × Nat × σ)) (g : σ → List Int → List Int × Nat × σ) : Prop where
  size : ∀ s l, l ≠ [] → 1 ≤ (g s l).2.1 ∧ (g s l).2.1 ≤ l.length
  take : ∀ s l o k s' n, f s l = some (o, k, s') → k ≤ n → n ≤ l.length → (n = k ∨ ∃ o2 k2 s2, f s' (l.drop k) = some (o2, k2, s2) ∧ k + k2 ≤ n) → g s (l.take n) = (o, k, s')
  all : ∀ s l o k s', f s l = some (o, k, s') → g s l = (o, k, s')

def Tot {σ : Type} (g : σ → List Int → List Int × Nat × σ) (s : σ) (l : List Int) : List Int × σ := tot g l.length s l

section
variable {σ : Type} {f : σ → List Int → Option (List Int × Nat × σ)} {g : σ → List Int → List Int × Nat × σ}
theorem tot_nil (n : Nat) (s : σ) : tot g n s [] = ([], s) := by cases n <;> simp [tot]
theorem Tot_nil (s : σ) : Tot g s [] = ([], s) := tot_nil _ s
theorem tot_fuel (hs : ∀ s l, l ≠ [] → 1 ≤ (g s l).2.1 ∧ (g s l).2.1 ≤ l.length) : ∀ (n m : Nat) (s : σ) (l : List Int), l.length ≤ n → l.length ≤ m → tot g n s l = tot g m s l := by
  intro n
  induction n with
  | zero =>
    intro m s l h1 h2
    have : l = [] := List.eq_nil_of_length_eq_zero (by omega)
    subst this
    rw [tot_nil, tot_nil]
  | succ n ih =>
    intro m s l h1 h2
    by_cases hl : l = []
    · subst hl; rw [tot_nil, tot_nil]
    · have h3 := hs s l hl
      cases m with
      | zero => exact absurd (List.eq_nil_of_length_eq_zero (by omega)) hl
      | succ m =>
        simp only [tot, if_neg hl]
        rw [ih m (g s l).2.2 (l.drop (g s l).2.1) (by simp; omega) (by simp; omega)]
theorem Tot_step (hs : ∀ s l, l ≠ [] → 1 ≤ (g s l).2.1 ∧ (g s l).2.1 ≤ l.length) {s s' : σ} {l o : List Int} {k : Nat} (hl : l ≠ []) (h : g s l = (o, k, s')) : Tot g s l = (o ++ (Tot g s' (l.drop k)).1, (Tot g s' (l.drop k)).2) := by
  have h3 := hs s l hl
  rw [h] at h3
  unfold Tot
  obtain ⟨n, hn⟩ : ∃ n, l.length = n + 1 := ⟨l.length - 1, by simp at h3; omega⟩
  rw [hn]
  simp only [tot, if_neg hl, h]
  rw [tot_fuel hs n (l.drop k).length s' (l.drop k) (by simp at h3; simp; omega) (Nat.le_refl _)]
/-- Up to where something waits. -/
theorem Tot_take (hf : Steps f) (hg : Whole f g) (s : σ) (l : List Int) : ∀ n, n ≤ l.length → (Run f s l).2.2 = l.drop n → Tot g s (l.take n) = ((Run f s l).1, (Run f s l).2.1) := by
  refine Run_ind (C := fun s l => ∀ n, n ≤ l.length → (Run f s l).2.2 = l.drop n → Tot g s (l.take n) = ((Run f s l).1, (Run f s l).2.1)) hf ?_ ?_ s l
  · intro s l h n hn e
    rw [Run_wait h] at e ⊢
    have hl := congrArg List.length e
    simp at hl
    have e0 : l.take n = [] := List.eq_nil_of_length_eq_zero (by simp; omega)
    rw [e0, Tot_nil]
  · intro s l o k s' h ih n hn e
    have hk := hf.size s l o k s' h
    rw [Run_step hf h] at e ⊢
    obtain ⟨m, em, hm⟩ := Run_end hf s' (l.drop k)
    have e' : (Run f s' (l.drop k)).2.2 = l.drop n := e
    have hl := congrArg List.length e'
    rw [em] at hl
    simp at hl hm
    have hkn : k ≤ n := by omega
    have ht := hg.take s l o k s' n h hkn hn (by
      by_cases hq : n = k
      · exact .inl hq
      · refine .inr ?_
        cases hr : f s' (l.drop k) with
        | none => rw [Run_wait hr] at e'; have := congrArg List.length e'; simp at this; omega
        | some r =>
          obtain ⟨o2, k2, s2⟩ := r
          have h2 := hf.size _ _ _ _ _ hr
          rw [Run_step hf hr] at e'
          obtain ⟨m2, em2, hm2⟩ := Run_end hf s2 ((l.drop k).drop k2)
          have e2 : (Run f s2 ((l.drop k).drop k2)).2.2 = l.drop n := e'
          have hl2 := congrArg List.length e2
          rw [em2] at hl2
          simp at hl2 hm2 h2
          exact ⟨o2, k2, s2, rfl, by omega⟩)
    have hne : l.take n ≠ [] := fun h0 => by have := congrArg List.length h0; rw [List.length_take, List.length_nil] at this; omega
    rw [Tot_step hg.size hne ht, List.drop_take, ih (n - k) (by simp; omega) (by rw [e', List.drop_drop]; congr 1; omega)]
theorem Tot_run (hf : Steps f) (hg : Whole f g) (s : σ) (l : List Int) : Tot g s l = ((Run f s l).1 ++ (Tot g (Run f s l).2.1 (Run f s l).2.2).1, (Tot g (Run f s l).2.1 (Run f s l).2.2).2) := by
  refine Run_ind (C := fun s l => Tot g s l = ((Run f s l).1 ++ (Tot g (Run f s l).2.1 (Run f s l).2.2).1, (Tot g (Run f s l).2.1 (Run f s l).2.2).2)) hf ?_ ?_ s l
  · intro s l h; rw [Run_wait h]; simp
  · intro s l o k s' h ih
    have hk := hf.size s l o k s' h
    have ht := hg.all s l o k s' h
    have hne : l ≠ [] := fun h0 => by subst h0; simp at hk; omega
    rw [Run_step hf h, Tot_step hg.size hne ht, ih]
    simp [List.append_assoc]
end

/-! ### the encodings -/
def g8 (_ : Unit) (l : List Int) : List Int × Nat × Unit := ([(nxt l).1], (nxt l).2.1.toNat, ())
theorem g8_size (s : Unit) (l : List Int) (hl : l ≠ []) : 1 ≤ (g8 s l).2.1 ∧ (g8 s l).2.1 ≤ l.length := by
  have := nxt_size' l (List.length_pos_iff.2 hl)
  simp only [g8]; omega
theorem g8_whole : Whole f8 g8 where
  size := g8_size
  take := by
    intro s l o k s' n h hk hn _
    unfold f8 at h
    split at h
    · cases h
    · rename_i hl
      split at h
      · cases h
      · rename_i ho
        have hs := nxt_size' l (List.length_pos_iff.2 hl)
        simp only [Option.some.injEq, Prod.mk.injEq] at h
        obtain ⟨rfl, rfl, _⟩ := h
        have hne : l.take n ≠ [] := fun h0 => by have := congrArg List.length h0; rw [List.length_take, List.length_nil] at this; omega
        have e := nxt_prefix (m := l.take n) (v := l.drop n) (q := (nxt l).1) (j := (nxt l).2.1) hne (by rw [List.take_append_drop, ← Bool.eq_false_iff.2 ho]) (by simp; omega)
        simp only [g8, e.1, e.2]
  all := by
    intro s l o k s' h
    unfold f8 at h
    split at h
    · cases h
    · split at h
      · cases h
      · simp only [Option.some.injEq] at h; exact h
theorem g8_dec (l : List Int) : (Tot g8 () l).1 = dec l := by
  refine piece_ind (C := fun l => (Tot g8 () l).1 = dec l) rfl ?_ l
  intro l hl ih
  rw [Tot_step g8_size (s' := ()) hl rfl, dec_ne hl, ← ih]
  rfl

def g16 (big : Bool) (_ : Unit) (l : List Int) : List Int × Nat × Unit := ([(nx16 big l).1], (nx16 big l).2, ())
theorem g16_size (big : Bool) (s : Unit) (l : List Int) (hl : l ≠ []) : 1 ≤ (g16 big s l).2.1 ∧ (g16 big s l).2.1 ≤ l.length := by
  have := nx16_size big l hl
  simp only [g16]; omega
theorem f16_two {big : Bool} {s s' : Unit} {l o : List Int} {k : Nat} (h : f16 big s l = some (o, k, s')) : 2 ≤ k := by
  match l, h with
  | [a, b], h => simp only [f16] at h; split at h <;> simp at h; omega
  | [a, b, c], h => simp only [f16] at h; split at h <;> simp at h; omega
  | a :: b :: c :: d :: t, h => simp only [f16] at h; split at h <;> (try split at h) <;> simp at h <;> omega
theorem g16_whole (big : Bool) : Whole (f16 big) (g16 big) where
  size := g16_size big
  take := by
    intro s l o k s' n h hk hn hnx
    match l, h with
    | [a, b], h =>
      simp only [f16] at h
      split at h
      · cases h
      · rename_i hq
        simp only [Option.some.injEq, Prod.mk.injEq] at h
        obtain ⟨rfl, rfl, _⟩ := h
        have : n = 2 := by simp at hn; omega
        subst this
        simp [g16, nx16, hq]
    | [a, b, c], h =>
      simp only [f16] at h
      split at h
      · cases h
      · rename_i hq
        simp only [Option.some.injEq, Prod.mk.injEq] at h
        obtain ⟨rfl, rfl, _⟩ := h
        simp at hn
        obtain rfl | rfl : n = 2 ∨ n = 3 := by omega
        · simp [g16, nx16, hq]
        · simp [g16, nx16, hq]
    | a :: b :: c :: d :: t, h =>
      simp only [f16] at h
      split at h
      · rename_i hq
        split at h
        · rename_i hs
          simp only [Option.some.injEq, Prod.mk.injEq] at h
          obtain ⟨rfl, rfl, _⟩ := h
          obtain ⟨m, rfl⟩ : ∃ m, n = m + 4 := ⟨n - 4, by omega⟩
          simp [g16, nx16, hq, hs]
        · rename_i hs
          simp only [Option.some.injEq, Prod.mk.injEq] at h
          obtain ⟨rfl, rfl, _⟩ := h
          obtain rfl | ⟨m, rfl⟩ : n = 2 ∨ ∃ m, n = m + 4 := by
            rcases hnx with h | ⟨o2, k2, s2, h2, h3⟩
            · exact .inl h
            · have := f16_two h2
              exact .inr ⟨n - 4, by omega⟩
          · simp [g16, nx16, hq]
          · simp [g16, nx16, hq, hs]
      · rename_i hq
        simp only [Option.some.injEq, Prod.mk.injEq] at h
        obtain ⟨rfl, rfl, _⟩ := h
        obtain rfl | rfl | ⟨m, rfl⟩ : n = 2 ∨ n = 3 ∨ ∃ m, n = m + 4 := by
          rcases Nat.lt_or_ge n 4 with h | h
          · omega
          · exact .inr (.inr ⟨n - 4, by omega⟩)
        · simp [g16, nx16, hq]
        · simp [g16, nx16, hq]
        · simp [g16, nx16, hq]
  all := by
    intro s l o k s' h
    match l, h with
    | [a, b], h => simp only [f16] at h; split at h <;> simp at h; rename_i hq; simp [g16, nx16, hq, ← h.1, ← h.2]
    | [a, b, c], h => simp only [f16] at h; split at h <;> simp at h; rename_i hq; simp [g16, nx16, hq, ← h.1, ← h.2]
    | a :: b :: c :: d :: t, h =>
      simp only [f16] at h
      split at h
      · rename_i hq
        split at h
        · rename_i hs; simp at h; simp [g16, nx16, hq, hs, ← h.1, ← h.2]
        · rename_i hs; simp at h; simp [g16, nx16, hq, hs, ← h.1, ← h.2]
      · rename_i hq; simp at h; simp [g16, nx16, hq, ← h.1, ← h.2]
theorem g16_dec (big : Bool) : ∀ (n : Nat) (l : List Int), l.length ≤ n → (Tot (g16 big) () l).1 = dec16 big l
  | 0, l, h => by
    have : l = [] := List.eq_nil_of_length_eq_zero (by omega)
    subst this; rfl
  | n + 1, l, h => by
    by_cases hl : l = []
    · subst hl; rfl
    · have hs := nx16_size big l hl
      rw [Tot_step (g16_size big) (s' := ()) hl rfl, dec16_step big hl]
      show (nx16 big l).1 :: (Tot (g16 big) () (l.drop (nx16 big l).2)).1 = _
      rw [g16_dec big n (l.drop (nx16 big l).2) (by simp; omega)]

def gS (user : Bool) (_ : Unit) (l : List Int) : List Int × Nat × Unit := ([pt user (l.headD 0)], 1, ())
theorem one_size {l : List Int} (hl : l ≠ []) : 1 ≤ 1 ∧ 1 ≤ l.length := ⟨Nat.le_refl _, List.length_pos_iff.2 hl⟩
theorem gS_whole (user : Bool) : Whole (fS user) (gS user) where
  size := fun s l hl => one_size hl
  take := by
    intro s l o k s' n h hk hn _
    match l, h with
    | c :: t, h =>
      simp only [fS, Option.some.injEq, Prod.mk.injEq] at h
      obtain ⟨rfl, rfl, _⟩ := h
      obtain ⟨m, rfl⟩ : ∃ m, n = m + 1 := ⟨n - 1, by omega⟩
      rfl
  all := by
    intro s l o k s' h
    match l, h with
    | c :: t, h => simp only [fS, Option.some.injEq] at h; exact h
theorem gS_dec (user : Bool) : ∀ l : List Int, (Tot (gS user) () l).1 = decS user l
  | [] => rfl
  | c :: t => by
    rw [Tot_step (gS_whole user).size (s' := ()) (by simp) rfl]
    show pt user c :: (Tot (gS user) () t).1 = _
    rw [gS_dec user t]; rfl

def gX (b : Bool) (_ : List Int) : List Int × Nat × Bool := (if b then [] else [65533], 1, true)
theorem gX_whole : Whole fX gX where
  size := fun s l hl => one_size hl
  take := by
    intro s l o k s' n h hk hn _
    match l, h with
    | c :: t, h => simp only [fX, Option.some.injEq] at h; exact h
  all := by
    intro s l o k s' h
    match l, h with
    | c :: t, h => simp only [fX, Option.some.injEq] at h; exact h
theorem gX_tot : ∀ (b : Bool) (l : List Int), Tot gX b l = (if b || l.isEmpty then [] else [65533], b || !l.isEmpty)
  | b, [] => by cases b <;> rfl
  | b, c :: t => by
    rw [Tot_step gX_whole.size (s' := true) (o := if b then [] else [65533]) (k := 1) (by simp) rfl]
    show ((if b then [] else [65533]) ++ (Tot gX true t).1, (Tot gX true t).2) = _
    rw [gX_tot true t]
    cases b <;> simp

/-- The escape at the beginning: to which signs it shifts. -/
def kesc : List Int → Option Int
  | a :: b :: c :: _ => if a = 27 ∧ b = 40 then (if c = 66 then some 0 else if c = 74 then some 1 else if c = 73 then some 2 else none) else none
  | _ => none
def kpt (g c : Int) : Int := if c = 27 then 65533 else ksn g c
def gk (h : Int × Bool) (l : List Int) : List Int × Nat × (Int × Bool) := match kesc l with
  | some g => (bads h.2, 3, (g, true))
  | none => ([kpt h.1 (l.headD 0)], 1, (h.1, false))
theorem kesc_len {l : List Int} {g : Int} (h : kesc l = some g) : 3 ≤ l.length ∧ (g = 0 ∨ g = 1 ∨ g = 2) := by
  match l, h with
  | a :: b :: c :: t, h =>
    simp only [kesc] at h
    refine ⟨by simp, ?_⟩
    split at h
    · split at h
      · cases h; simp
      · split at h
        · cases h; simp
        · split at h
          · cases h; simp
          · cases h
    · cases h
theorem gk_size (h : Int × Bool) (l : List Int) (hl : l ≠ []) : 1 ≤ (gk h l).2.1 ∧ (gk h l).2.1 ≤ l.length := by
  unfold gk
  cases he : kesc l with
  | some g => have := kesc_len he; simp; omega
  | none => exact one_size hl
theorem gk_all (s : Int × Bool) (l : List Int) (o : List Int) (k : Nat) (s' : Int × Bool) (h : fk s l = some (o, k, s')) : gk s l = (o, k, s') ∧ (k = 1 ∨ k = 3) ∧ (kesc l = none ↔ k = 1) := by
  match l, h with
  | [c], h =>
    simp only [fk] at h
    split at h
    · rename_i hc; simp only [Option.some.injEq, Prod.mk.injEq] at h; obtain ⟨rfl, rfl, rfl⟩ := h; simp [gk, kesc, kpt, hc]
    · cases h
  | [c, d], h =>
    simp only [fk] at h
    split at h
    · rename_i hc; simp only [Option.some.injEq, Prod.mk.injEq] at h; obtain ⟨rfl, rfl, rfl⟩ := h; simp [gk, kesc, kpt, hc]
    · rename_i hc
      split at h
      · rename_i hd; simp at hc; simp only [Option.some.injEq, Prod.mk.injEq] at h; obtain ⟨rfl, rfl, rfl⟩ := h; simp [gk, kesc, kpt, hc]
      · cases h
  | c :: d :: e :: t, h =>
    simp only [fk] at h
    split at h
    · rename_i hc; simp only [Option.some.injEq, Prod.mk.injEq] at h; obtain ⟨rfl, rfl, rfl⟩ := h; simp [gk, kesc, kpt, hc]
    · rename_i hc
      simp at hc
      split at h
      · rename_i hd; simp only [Option.some.injEq, Prod.mk.injEq] at h; obtain ⟨rfl, rfl, rfl⟩ := h; simp [gk, kesc, kpt, hc, hd]
      · rename_i hd
        simp at hd
        split at h
        · rename_i he; simp only [Option.some.injEq, Prod.mk.injEq] at h; obtain ⟨rfl, rfl, rfl⟩ := h; simp [gk, kesc, hc, hd, he]
        · rename_i he
          split at h
          · rename_i he2; simp only [Option.some.injEq, Prod.mk.injEq] at h; obtain ⟨rfl, rfl, rfl⟩ := h; simp [gk, kesc, hc, hd, he2]
          · rename_i he2
            split at h
            · rename_i he3; simp only [Option.some.injEq, Prod.mk.injEq] at h; obtain ⟨rfl, rfl, rfl⟩ := h; simp [gk, kesc, hc, hd, he3]
            · rename_i he3; simp only [Option.some.injEq, Prod.mk.injEq] at h; obtain ⟨rfl, rfl, rfl⟩ := h; simp [gk, kesc, kpt, hc, hd, he, he2, he3]
theorem kesc_take {l : List Int} {n : Nat} (h : kesc l = none) : kesc (l.take n) = none := by
  match l, n with
  | [], _ => simp [kesc]
  | _, 0 => simp [kesc]
  | [a], n + 1 => simp [kesc]
  | [a, b], n + 1 => cases n <;> simp [kesc]
  | a :: b :: c :: t, 1 => simp [kesc]
  | a :: b :: c :: t, 2 => simp [kesc]
  | a :: b :: c :: t, n + 3 => exact h
theorem gk_whole : Whole fk gk where
  size := gk_size
  take := by
    intro s l o k s' n h hk hn _
    obtain ⟨e, hk2, he⟩ := gk_all s l o k s' h
    rcases hk2 with rfl | rfl
    · have hz := he.2 rfl
      have hz2 := kesc_take (n := n) hz
      rw [← e]
      unfold gk
      rw [hz, hz2]
      match l, n, hk with
      | [], n + 1, _ => rfl
      | c :: t, n + 1, _ => rfl
    · rw [← e]
      match l, n, hk with
      | [], n + 3, _ => rfl
      | [_], n + 3, _ => rfl
      | [_, _], n + 3, _ => rfl
      | a :: b :: c :: t, n + 3, _ => rfl
  all := fun s l o k s' h => (gk_all s l o k s' h).1
/-- All that a text of shifted signs tells. -/
theorem gk_dec (l : List Int) : (Tot gk (0, false) l).1 = kdec l := by
  rw [Tot_run fk_steps gk_whole]
  unfold kdec
  rcases fk_waits (Run_left fk_steps (0, false) l) with h | h | h
  · rw [h, Tot_nil]; rfl
  · rw [h, Tot_step gk_size (s' := ((Run fk (0, false) l).2.1.1, false)) (o := [65533]) (k := 1) (by simp) rfl]; simp [Tot_nil, kfin]
  · rw [h, Tot_step gk_size (s' := ((Run fk (0, false) l).2.1.1, false)) (o := [65533]) (k := 1) (by simp) rfl]
    rw [show ([27, 40] : List Int).drop 1 = [40] from rfl, Tot_step gk_size (s' := ((Run fk (0, false) l).2.1.1, false)) (o := [ksn (Run fk (0, false) l).2.1.1 40]) (k := 1) (by simp) rfl]
    simp [Tot_nil, kfin]
end Go.Proofs.YtaiinjfnkmidbaaGreatDoor.M

namespace Go.Proofs.YtaiinjfnkmidbaaGreatDoor
open Go.RowKit
set_option linter.unusedVariables false

theorem two_of (s : ByteArray) (h : 2 ≤ s.size) : s.data.toList.take 2 = [s[0], s[1]] := by
  obtain ⟨d⟩ := s
  obtain ⟨l⟩ := d
  match l, h with
  | a :: b :: t, h => rfl
theorem lead_eq (s : ByteArray) (h : 2 ≤ s.size) : ((s.extract 0 2).toList == ([27, 40] : List UInt8)) = decide (s[0].toNat = 27 ∧ s[1].toNat = 40) := by
  have e2 : (s.extract 0 2).toList = [s[0], s[1]] := by
    rw [Lib.toList_data, ByteArray.data_extract, ← two_of s h]
    simp
  rw [e2, Bool.eq_iff_iff]
  simp only [beq_iff_eq, decide_eq_true_eq, List.cons.injEq, and_true]
  rw [← UInt8.toNat_inj, ← UInt8.toNat_inj]
  simp

set_option maxHeartbeats 400000 in
set_option maxRecDepth 100000 in
theorem prefix_any (s : ByteArray) (w : World) (h : 2 ≤ s.size) (hm : s.size ≤ maxLen) :
    Calls Tryz.prog 69 #[.string s, .string ⟨#[27, 40]⟩] w fun e w' => e = .returned (.bool (decide (s[0].toNat = 27 ∧ s[1].toNat = 40))) ∧ w' = w := by
  unfold maxLen at hm
  rw [← lead_eq s h]
  have hz : (⟨#[27, 40]⟩ : ByteArray).size = 2 := rfl
  go_enter Tryz.func69, Tryz.ntmps69
  go_wp2
  · go_ret
    refine ⟨?_, rfl⟩
    rfl

theorem index_any (u : UInt8) : Lib.indexByte [66, 74, 73] u = if u = 66 then 0 else if u = 74 then 1 else if u = 73 then 2 else -1 := by
  by_cases h1 : u = 66
  · subst h1; decide
  · by_cases h2 : u = 74
    · subst h2; decide
    · by_cases h3 : u = 73
      · subst h3; decide
      · simp [Lib.indexByte, h1, h2, h3, Ne.symm h1, Ne.symm h2, Ne.symm h3]

set_option maxHeartbeats 400000 in
set_option maxRecDepth 100000 in
theorem indexByte_lib (s : ByteArray) (c : Int) (w : World) :
    Calls Tryz.prog 229 #[.string s, .int .u8 c] w fun e w' => e = .returned (.int .i64 (Lib.indexByte s.data.toList c.toNat.toUInt8)) ∧ w' = w := by
  go_enter Tryz.func229, Tryz.ntmps229
  go_wp2
  rw [run_callFunc_extern Tryz.func237 (by kernel_rfl) (by kernel_rfl) (by kernel_rfl) (e := Extern.BytealgIndexByte.indexByte) (by kernel_rfl), Lib.run_indexByteString]
  simp only [Result.andThen]
  rw [Oper.upon_value]
  go_wp2
  go_ret
  exact ⟨rfl, rfl⟩

/-- Where a byte stands among those that end an escape. -/
def fin3 (c : Int) : Int := if c = 66 then 0 else if c = 74 then 1 else if c = 73 then 2 else -1

set_option maxHeartbeats 400000 in
set_option maxRecDepth 100000 in
theorem indexByte_any (c : Int) (w : World) (h0 : 0 ≤ c) (h1 : c < 256) :
    Calls Tryz.prog 209 #[.string ⟨#[66, 74, 73]⟩, .int .u8 c] w fun e w' => e = .returned (.int .i64 (fin3 c)) ∧ w' = w := by
  have e : Lib.indexByte (⟨#[66, 74, 73]⟩ : ByteArray).data.toList c.toNat.toUInt8 = fin3 c := by
    rw [show (⟨#[66, 74, 73]⟩ : ByteArray).data.toList = [66, 74, 73] from rfl, index_any]
    have hu : ∀ k : Nat, k < 256 → (c.toNat.toUInt8 = UInt8.ofNat k ↔ c = k) := by
      intro k hk
      rw [← UInt8.toNat_inj]
      simp only [Nat.toUInt8_eq, UInt8.toNat_ofNat']
      omega
    have a1 : c.toNat.toUInt8 = 66 ↔ c = 66 := hu 66 (by omega)
    have a2 : c.toNat.toUInt8 = 74 ↔ c = 74 := hu 74 (by omega)
    have a3 : c.toNat.toUInt8 = 73 ↔ c = 73 := hu 73 (by omega)
    unfold fin3
    by_cases b1 : c = 66
    · rw [if_pos b1, if_pos (a1.2 b1)]
    · rw [if_neg b1, if_neg (fun q => b1 (a1.1 q))]
      by_cases b2 : c = 74
      · rw [if_pos b2, if_pos (a2.2 b2)]
      · rw [if_neg b2, if_neg (fun q => b2 (a2.1 q))]
        by_cases b3 : c = 73
        · rw [if_pos b3, if_pos (a3.2 b3)]
        · rw [if_neg b3, if_neg (fun q => b3 (a3.1 q))]
  have H : ∀ w : World, Calls Tryz.prog 229 #[.string ⟨#[66, 74, 73]⟩, .int .u8 c] w fun e w' => e = .returned (.int .i64 (fin3 c)) ∧ w' = w := fun w => (indexByte_lib _ c w).mono fun e' w' h => by rw [e] at h; exact h
  clear e
  go_enter Tryz.func209, Tryz.ntmps209
  go_wp2_with fail
  refine (H _).mono ?_
  rintro e w1 ⟨rfl, hw⟩
  replace hw := hw.symm
  subst hw
  go_wp2_with fail
  go_ret
  exact ⟨rfl, rfl⟩

theorem kesc_three (s : ByteArray) (h : 3 ≤ s.size) : M.kesc (bl s) = if (s[0].toNat = 27 ∧ s[1].toNat = 40) then (if fin3 (s[2].toNat : Int) = -1 then none else some (fin3 (s[2].toNat : Int))) else none := by
  have e : bl s = (s[0].toNat : Int) :: (s[1].toNat : Int) :: (s[2].toNat : Int) :: (bl s).drop 3 := by
    have e0 := bl_drop s 0 (by omega)
    have e1 := bl_drop s 1 (by omega)
    have e2 := bl_drop s 2 (by omega)
    rw [e1, e2] at e0
    simpa using e0
  rw [e]
  simp only [M.kesc, fin3]
  by_cases a : s[0].toNat = 27 ∧ s[1].toNat = 40
  · rw [if_pos (by omega), if_pos a]
    repeat' split
    all_goals first | rfl | omega | (simp_all; done)
  · rw [if_neg (by omega), if_neg a]
theorem kesc_short (s : ByteArray) (h : s.size < 3) : M.kesc (bl s) = none := by
  cases hq : M.kesc (bl s) with
  | none => rfl
  | some g => have := M.kesc_len hq; rw [bl_len] at this; omega

set_option maxHeartbeats 400000 in
set_option maxRecDepth 100000 in
theorem readEscape_any (s : ByteArray) (w : World) (hm : s.size ≤ maxLen) :
    Calls Tryz.prog 223 #[.string s] w fun e w' => (∃ q, e = .returned (.tuple #[.int .i64 q, .bool (M.kesc (bl s)).isSome]) ∧ ∀ g, M.kesc (bl s) = some g → q = g) ∧ w' = w := by
  unfold maxLen at hm
  by_cases h3 : s.size < 3
  · have HK := hide (kesc_short s h3)
    go_enter Tryz.func223, Tryz.ntmps223
    go_wp2_with fail
    go_ret2
    rw [unhide HK]
    exact ⟨⟨_, rfl, fun g h => by cases h⟩, rfl⟩
  · have hz : 3 ≤ s.size := by omega
    have hc := s[2].toNat_lt
    have HK := hide (kesc_three s hz)
    by_cases a : s[0].toNat = 27 ∧ s[1].toNat = 40
    · rw [if_pos a] at HK
      have hp : ∀ w : World, Calls Tryz.prog 69 #[.string s, .string ⟨#[27, 40]⟩] w fun e w' => e = .returned (.bool true) ∧ w' = w := fun w => by
        have := prefix_any s w (by omega) (by unfold maxLen; omega)
        rwa [decide_eq_true a] at this
      obtain ⟨q, hq⟩ : ∃ q, fin3 (s[2].toNat : Int) = q := ⟨_, rfl⟩
      have hi : ∀ w : World, Calls Tryz.prog 209 #[.string ⟨#[66, 74, 73]⟩, .int .u8 (s[2].toNat : Int)] w fun e w' => e = .returned (.int .i64 q) ∧ w' = w := fun w => by
        have := indexByte_any (s[2].toNat : Int) w (by omega) (by omega)
        rwa [hq] at this
      have hb : -1 ≤ q ∧ q ≤ 2 := by
        rw [← hq]; unfold fin3
        (repeat' split) <;> omega
      rw [hq] at HK
      clear hq a
      by_cases h1 : q = -1
      · subst h1
        go_enter Tryz.func223, Tryz.ntmps223
        go_wp2_with fail
        refine (hp _).mono ?_
        rintro e w1 ⟨rfl, hw⟩
        replace hw := hw.symm
        subst hw
        go_wp2_with fail
        refine (hi _).mono ?_
        rintro e w1 ⟨rfl, hw⟩
        replace hw := hw.symm
        subst hw
        go_wp2_with fail
        go_ret2
        rw [unhide HK]
        exact ⟨⟨_, rfl, fun g h => by cases h⟩, rfl⟩
      · rw [if_neg h1] at HK
        have h0 : 0 ≤ q := by omega
        go_enter Tryz.func223, Tryz.ntmps223
        go_wp2_with fail
        refine (hp _).mono ?_
        rintro e w1 ⟨rfl, hw⟩
        replace hw := hw.symm
        subst hw
        go_wp2_with fail
        refine (hi _).mono ?_
        rintro e w1 ⟨rfl, hw⟩
        replace hw := hw.symm
        subst hw
        go_wp2_with fail
        go_ret2
        rw [unhide HK]
        exact ⟨⟨_, rfl, fun g h => Option.some.inj h⟩, rfl⟩
    · rw [if_neg a] at HK
      have hp : ∀ w : World, Calls Tryz.prog 69 #[.string s, .string ⟨#[27, 40]⟩] w fun e w' => e = .returned (.bool false) ∧ w' = w := fun w => by
        have := prefix_any s w (by omega) (by unfold maxLen; omega)
        rwa [decide_eq_false a] at this
      clear a
      go_enter Tryz.func223, Tryz.ntmps223
      go_wp2_with fail
      refine (hp _).mono ?_
      rintro e w1 ⟨rfl, hw⟩
      replace hw := hw.symm
      subst hw
      go_wp2_with fail
      go_ret2
      rw [unhide HK]
      exact ⟨⟨_, rfl, fun g h => by cases h⟩, rfl⟩

set_option maxHeartbeats 400000 in
set_option maxRecDepth 100000 in
theorem pointOf_any (g c : Int) (hg : M.Sg g) (h0 : 0 ≤ c) (h1 : c < 256) (w : World) :
    Calls Tryz.prog 224 #[.int .i64 g, .int .u8 c] w fun e w' => e = .returned (.int .i64 (M.kpt g c)) ∧ w' = w := by
  rcases hg with rfl | rfl | rfl
  · go_enter Tryz.func224, Tryz.ntmps224
    go_wp2
    all_goals (go_ret; refine ⟨ret_int ?_, rfl⟩; try simp only [beq_iff_eq, beq_eq_false_iff_ne] at *)
    all_goals (simp only [M.kpt, M.ksn]; (repeat' split) <;> first | omega | simp_all)
  · go_enter Tryz.func224, Tryz.ntmps224
    go_wp2
    all_goals (go_ret; refine ⟨ret_int ?_, rfl⟩; try simp only [beq_iff_eq, beq_eq_false_iff_ne] at *)
    all_goals (simp only [M.kpt, M.ksn]; (repeat' split) <;> first | omega | simp_all)
  · go_enter Tryz.func224, Tryz.ntmps224
    go_wp2
    all_goals (go_ret; refine ⟨ret_int ?_, rfl⟩; try simp only [beq_iff_eq, beq_eq_false_iff_ne, Bool.and_eq_true, Bool.or_eq_true, decide_eq_true_eq] at *)
    all_goals (simp only [M.kpt, M.ksn]; (repeat' split) <;> first | omega | simp_all)
end Go.Proofs.YtaiinjfnkmidbaaGreatDoor

namespace Go.Proofs.YtaiinjfnkmidbaaGreatDoor
open Go.RowKit
set_option linter.unusedVariables false

/-- An append of integers, at an operation. -/
theorem wp_append_ints {w : World} {o : Oper} {a : Act} {K : Act → World → Prop} {Q : Exit → Act → World → Prop} (s x : Operand)
    (ho : o.op = .call { callee := .builtin .append, args := #[s, x], argTypes := #[31, 31] }) (base : Nat) (v : Value) (xs : List Int) (hs : a.eval s = v)
    (hown : w.ownsRow base 3 1 v xs.length (xs.map (Value.int .i64))) (u : Value) (ys : List Int) (hx : a.eval x = u) (hI : Ints w u ys) (hlen : xs.length + ys.length ≤ 100000) (hbase : base ≤ w.heap.size)
    (h : ∀ ao cap w', w'.ownsRow base 3 1 (.slice ao (xs ++ ys).length cap) (xs ++ ys).length ((xs ++ ys).map (Value.int .i64)) → Below base w w' → K (a.put o.dst (.slice ao (xs ++ ys).length cap)) w') : o.wp Tryz.prog a w K Q := by
  obtain ⟨i0, hi, hz0, hz1, hz2⟩ := info_parts info3
  obtain ⟨ao, cap, rfl, hm, hn, hc⟩ := hI
  cases ao with
  | none =>
    have hy : ys = [] := by
      rcases hc with hc | ⟨b, off, e, _⟩
      · exact hc
      · cases e
    subst hy
    have hcap := hn rfl
    subst hcap
    have hrun := run_append_owned_none (P := Tryz.prog) (w := w) base 31 o.type 3 i0 1 Tryz.underlying31 hi v _ _ hown
    obtain ⟨ao, cap, hsh⟩ := owns_shape hown
    have hK' := h ao cap w (by rw [List.append_nil, ← hsh]; exact hown) (Below.refl _ _)
    rw [List.append_nil, ← hsh] at hK'
    unfold Oper.wp
    simp only [List.length_nil] at hx
    simp [execOp, ho, resolve, invoke, builtin, hs, hx, hrun, Result.andThen]
    exact hK'
  | some ad =>
    refine wp_append_own w s x 31 ho base 3 i0 (.int .i64 0) 1 8 Tryz.underlying31 hi hz0 hz1 hz2 rfl (by decide) v _ _ hs hown ad ys.length cap (ys.map (Value.int .i64)) hx (by simp) ?_ ?_ (by unfold maxLen; omega) (by omega) hbase ?_
    · intro j u hj
      have hjl : j < ys.length := by
        rcases Nat.lt_or_ge j ys.length with h | h
        · exact h
        · simp [List.getElem?_eq_none (show (ys.map (Value.int .i64)).length ≤ j by simpa using h)] at hj
      rcases hc with hc | ⟨b, off, e, hc⟩
      · subst hc; simp at hjl
      · cases e
        have := hc j hjl
        simp [hjl] at hj
        subst hj
        by_cases hj0 : j = 0
        · subst hj0; simpa [Addr.add, hjl] using this
        · simpa [Addr.add, hj0, hjl] using this
    · intro u hu
      simp at hu
      obtain ⟨y, _, rfl⟩ := hu
      rfl
    · intro v' w' h1 h2 _
      have h1' : w'.ownsRow base 3 1 v' (xs ++ ys).length ((xs ++ ys).map (Value.int .i64)) := by simpa using h1
      obtain ⟨ao', cap', hsh⟩ := owns_shape h1'
      subst hsh
      exact h ao' cap' w' h1' ((Below.refl _ _).grown h2 hbase (fun k hk => (hown.lt k hk).1))
/-- The same, at a step of a region that draws its order. -/
theorem step_append_ints {w : World} {ops : Array Oper} {o : Oper} {a : Act} {K : Act → World → Prop} {Q : Exit → Act → World → Prop} {E : Prop} (hgd : o.guard = none) (s x : Operand)
    (ho : o.op = .call { callee := .builtin .append, args := #[s, x], argTypes := #[31, 31] }) (base : Nat) (v : Value) (xs : List Int) (hs : a.eval s = v)
    (hown : w.ownsRow base 3 1 v xs.length (xs.map (Value.int .i64))) (u : Value) (ys : List Int) (hx : a.eval x = u) (hI : Ints w u ys) (hlen : xs.length + ys.length ≤ 100000) (hbase : base ≤ w.heap.size)
    (h : ∀ ao cap w', w'.ownsRow base 3 1 (.slice ao (xs ++ ys).length cap) (xs ++ ys).length ((xs ++ ys).map (Value.int .i64)) → Below base w w' → K (a.put o.dst (.slice ao (xs ++ ys).length cap)) w') :
    if Region.wanted o (yielded ops a.tmps) = true then Oper.wp Tryz.prog o a w K Q else E := by
  have hw : Region.wanted o (yielded ops a.tmps) = true := by simp [Region.wanted, hgd]
  rw [if_pos hw]
  exact wp_append_ints s x ho base v xs hs hown u ys hx hI hlen hbase h
theorem Ints.drewN {w : World} {v : Value} {xs : List Int} (h : Ints w v xs) (n : Nat) : Ints (w.drewN n) v xs := h.below (below_drewN (Below.refl _ _) n)
theorem Ints.drew {w : World} {v : Value} {xs : List Int} (h : Ints w v xs) : Ints w.drew v xs := h.drewN 1

theorem fz_ad {w : World} (o : Obj) {D k : Nat} (hD : D < w.heap.size) (h : w.frozen? ⟨D, k, none⟩ = false) : (w.alloc o).drew.frozen? ⟨D, k, none⟩ = false :=
  ((below_drewN (balloc w o) 1).frozen (p := ⟨D, k, none⟩) hD).trans h
theorem cl_ad {w : World} (o : Obj) {D k : Nat} {x : Value} (hD : D < w.heap.size) (h : w.cell? ⟨D, k, none⟩ = some x) : (w.alloc o).drew.cell? ⟨D, k, none⟩ = some x :=
  ((below_drewN (balloc w o) 1).cell (p := ⟨D, k, none⟩) hD).trans h
theorem owns_set {w : World} {base e size n : Nat} {v : Value} {xs : List Value} (h : w.ownsRow base e size v n xs) (a : Addr) (ha : a.block < base) (u : Value) : (w.setCell a u).ownsRow base e size v n xs := by
  refine ⟨h.1, ?_⟩
  rcases h.2 with hn | ⟨g, cap, cur, rfl, hg, hh, rest⟩
  · exact .inl hn
  · refine .inr ⟨g, cap, cur, rfl, hg, ?_, rest⟩
    rw [Below.heap_setCell _ _ _ _ (by omega)]; exact hh
/-- A teller's cells: its signs, whether an escape stood just ahead, the slice of what it has told. -/
structure Tc (D : Nat) (g : Int) (fr : Bool) (v : Value) (w : World) : Prop where
  c0 : w.cell? ⟨D, 0, none⟩ = some (.int .i64 g)
  c1 : w.cell? ⟨D, 1, none⟩ = some (.bool fr)
  c2 : w.cell? ⟨D, 2, none⟩ = some v
  f0 : w.frozen? ⟨D, 0, none⟩ = false
  f1 : w.frozen? ⟨D, 1, none⟩ = false
  f2 : w.frozen? ⟨D, 2, none⟩ = false
theorem Tc.lt {D : Nat} {g : Int} {fr : Bool} {v : Value} {w : World} (h : Tc D g fr v w) : D < w.heap.size := World.block_lt_of_cell? w _ h.c0
theorem Tc.below {D : Nat} {g : Int} {fr : Bool} {v : Value} {w w2 : World} (h : Tc D g fr v w) (hb : Below (D + 1) w w2) : Tc D g fr v w2 where
  c0 := (hb.cell (p := ⟨D, 0, none⟩) (Nat.lt_succ_self _)).trans h.c0
  c1 := (hb.cell (p := ⟨D, 1, none⟩) (Nat.lt_succ_self _)).trans h.c1
  c2 := (hb.cell (p := ⟨D, 2, none⟩) (Nat.lt_succ_self _)).trans h.c2
  f0 := (hb.frozen (p := ⟨D, 0, none⟩) (Nat.lt_succ_self _)).trans h.f0
  f1 := (hb.frozen (p := ⟨D, 1, none⟩) (Nat.lt_succ_self _)).trans h.f1
  f2 := (hb.frozen (p := ⟨D, 2, none⟩) (Nat.lt_succ_self _)).trans h.f2
theorem Tc.set0 {D : Nat} {g : Int} {fr : Bool} {v : Value} {w : World} (h : Tc D g fr v w) (x : Int) : Tc D x fr v (w.setCell ⟨D, 0, none⟩ (.int .i64 x)) where
  c0 := World.cell?_setCell_same _ _ _ h.c0
  c1 := (World.cell?_setCell_other _ _ _ _ (by simp)).trans h.c1
  c2 := (World.cell?_setCell_other _ _ _ _ (by simp)).trans h.c2
  f0 := by rw [World.frozen?_setCell]; exact h.f0
  f1 := by rw [World.frozen?_setCell]; exact h.f1
  f2 := by rw [World.frozen?_setCell]; exact h.f2
theorem Tc.set1 {D : Nat} {g : Int} {fr : Bool} {v : Value} {w : World} (h : Tc D g fr v w) (x : Bool) : Tc D g x v (w.setCell ⟨D, 1, none⟩ (.bool x)) where
  c0 := (World.cell?_setCell_other _ _ _ _ (by simp)).trans h.c0
  c1 := World.cell?_setCell_same _ _ _ h.c1
  c2 := (World.cell?_setCell_other _ _ _ _ (by simp)).trans h.c2
  f0 := by rw [World.frozen?_setCell]; exact h.f0
  f1 := by rw [World.frozen?_setCell]; exact h.f1
  f2 := by rw [World.frozen?_setCell]; exact h.f2
theorem Tc.set2 {D : Nat} {g : Int} {fr : Bool} {v : Value} {w : World} (h : Tc D g fr v w) (x : Value) : Tc D g fr x (w.setCell ⟨D, 2, none⟩ x) where
  c0 := (World.cell?_setCell_other _ _ _ _ (by simp)).trans h.c0
  c1 := (World.cell?_setCell_other _ _ _ _ (by simp)).trans h.c1
  c2 := World.cell?_setCell_same _ _ _ h.c2
  f0 := by rw [World.frozen?_setCell]; exact h.f0
  f1 := by rw [World.frozen?_setCell]; exact h.f1
  f2 := by rw [World.frozen?_setCell]; exact h.f2
/-- A teller in memory: its cells, and the row of what it has told, all of it behind its own block. -/
def Tl (D : Nat) (g : Int) (fr : Bool) (xs : List Int) (v : Value) (w : World) : Prop := Tc D g fr v w ∧ w.ownsRow (D + 1) 3 1 v xs.length (xs.map (Value.int .i64))
theorem bset {B : Nat} {a w : World} (h : Below B a w) (p : Addr) (u : Value) (hp : B ≤ p.block) : Below B a (w.setCell p u) := h.setCell hp u

set_option maxHeartbeats 800000 in
set_option maxRecDepth 100000 in
theorem next_sign (D : Nat) (g : Int) (fr : Bool) (xs : List Int) (v : Value) (s : ByteArray) (w : World) (hg : M.Sg g) (h0 : 0 < s.size) (hs : s.size ≤ 3003) (hx : xs.length ≤ 50000) (hT : Tl D g fr xs v w) (he : M.kesc (bl s) = none) :
    Calls Tryz.prog 202 #[.pointer (some ⟨D, 0, none⟩), .string s] w fun e w' => ∃ v', e = .returned (.int .i64 1) ∧ Tl D g false (xs ++ [M.kpt g (s[0].toNat : Int)]) v' w' ∧ Below D w w' := by
  have hr : ∀ w : World, Calls Tryz.prog 223 #[.string s] w fun e w' => (∃ q, e = .returned (.tuple #[.int .i64 q, .bool false])) ∧ w' = w := fun w =>
    (readEscape_any s w (by unfold maxLen; omega)).mono fun e w' h => by
      obtain ⟨⟨q, h1, _⟩, h2⟩ := h
      rw [he] at h1
      exact ⟨⟨q, h1⟩, h2⟩
  have hc := s[0].toNat_lt
  obtain ⟨p, HP⟩ : ∃ p, Hid (M.kpt g (s[0].toNat : Int) = p) := ⟨_, hide rfl⟩
  have hpo : ∀ w : World, Calls Tryz.prog 224 #[.int .i64 g, .int .u8 (s[0].toNat : Int)] w fun e w' => e = .returned (.int .i64 p) ∧ w' = w := fun w => by
    have := pointOf_any g (s[0].toNat : Int) hg (by omega) (by omega) w
    rwa [unhide HP] at this
  obtain ⟨hT, ho⟩ := hT
  have HT := hide hT
  obtain ⟨c0, c1, c2, f0, f1, f2⟩ := hT
  have hD := World.block_lt_of_cell? w _ c0
  have hDs : D < w.heap.size := hD
  obtain ⟨ao, cap, hsh⟩ := owns_shape ho
  subst hsh
  have HO := hide ho
  clear he hc
  rw [unhide HP]
  go_enter Tryz.func202, Tryz.ntmps202
  go_wp2_with fail
  refine (hr _).mono ?_
  rintro e w1 ⟨⟨q, rfl⟩, hw⟩
  replace hw := hw.symm
  subst hw
  clear hr ho
  go_wp2_with fail
  go_region_law ((first
      | (refine step_append_ints (by rfl) _ _ (by rfl) (D + 1) _ xs (by rfl) (((unhide HO).alloc _).drew) _ [p] (by rfl) ((one_int _ _).drew) (by simp; omega) (by simp; omega) ?_; intro ao2 cap2 w2 ho2 hb2; have hf2 : w2.frozen? ⟨D, 2, none⟩ = false := (hb2.frozen (p := ⟨D, 2, none⟩) (Nat.lt_succ_self _)).trans (fz_ad _ hDs f2); have hc2 : w2.cell? ⟨D, 2, none⟩ = some (.slice ao xs.length cap) := (hb2.cell (p := ⟨D, 2, none⟩) (Nat.lt_succ_self _)).trans (cl_ad _ hDs c2))
      | (go_simp; go_at_call 224; refine (hpo _).mono ?_; rintro e w1 ⟨rfl, hw⟩; replace hw := hw.symm; subst hw)))
  all_goals
    have HO2 := hide ho2
    have HT2 := hide ((unhide HT).below ((below_drewN ((Below.refl _ _).alloc (show D + 1 ≤ w.heap.size from hDs) _) 1).trans hb2))
    have HB2 := hide ((below_drewN ((Below.refl D w).alloc (Nat.le_of_lt hDs) _) 1).trans (hb2.mono (Nat.le_succ D)))
    have hc1 := (unhide HT2).c1
    have hf1 := (unhide HT2).f1
    clear ho2 hb2
    go_wp2_with fail
    go_ret
    exact ⟨_, rfl, ⟨((unhide HT2).set2 _).set1 false, by simpa using owns_set (owns_set (unhide HO2) ⟨D, 2, none⟩ (Nat.lt_succ_self _) _) ⟨D, 1, none⟩ (Nat.lt_succ_self _) _⟩, bset (bset (unhide HB2) ⟨D, 2, none⟩ _ (Nat.le_refl _)) ⟨D, 1, none⟩ _ (Nat.le_refl _)⟩
end Go.Proofs.YtaiinjfnkmidbaaGreatDoor

namespace Go.Proofs.YtaiinjfnkmidbaaGreatDoor
open Go.RowKit
set_option linter.unusedVariables false

set_option maxHeartbeats 800000 in
set_option maxRecDepth 100000 in
theorem next_esc (D : Nat) (g g' : Int) (fr : Bool) (xs : List Int) (v : Value) (s : ByteArray) (w : World) (h0 : 0 < s.size) (hs : s.size ≤ 3003) (hx : xs.length ≤ 50000) (hT : Tl D g fr xs v w) (he : M.kesc (bl s) = some g') :
    Calls Tryz.prog 202 #[.pointer (some ⟨D, 0, none⟩), .string s] w fun e w' => ∃ v', e = .returned (.int .i64 3) ∧ Tl D g' true (xs ++ M.bads fr) v' w' ∧ Below D w w' := by
  have hr : ∀ w : World, Calls Tryz.prog 223 #[.string s] w fun e w' => e = .returned (.tuple #[.int .i64 g', .bool true]) ∧ w' = w := fun w =>
    (readEscape_any s w (by unfold maxLen; omega)).mono fun e w' h => by
      obtain ⟨⟨q, h1, h3⟩, h2⟩ := h
      rw [he] at h1
      rw [h3 g' he] at h1
      exact ⟨h1, h2⟩
  obtain ⟨hT, ho⟩ := hT
  have HT := hide hT
  obtain ⟨c0, c1, c2, f0, f1, f2⟩ := hT
  have hDs : D < w.heap.size := World.block_lt_of_cell? w _ c0
  obtain ⟨ao, cap, hsh⟩ := owns_shape ho
  subst hsh
  have HO := hide ho
  clear he ho
  cases fr
  · go_enter Tryz.func202, Tryz.ntmps202
    go_wp2_with fail
    refine (hr _).mono ?_
    rintro e w1 ⟨rfl, hw⟩
    replace hw := hw.symm
    subst hw
    clear hr
    go_wp2_with fail
    go_ret
    exact ⟨_, rfl, ⟨((unhide HT).set0 g').set1 true, by simpa [M.bads] using owns_set (owns_set (unhide HO) ⟨D, 0, none⟩ (Nat.lt_succ_self _) _) ⟨D, 1, none⟩ (Nat.lt_succ_self _) _⟩, bset (bset (Below.refl _ _) ⟨D, 0, none⟩ _ (Nat.le_refl _)) ⟨D, 1, none⟩ _ (Nat.le_refl _)⟩
  · go_enter Tryz.func202, Tryz.ntmps202
    go_wp2_with fail
    refine (hr _).mono ?_
    rintro e w1 ⟨rfl, hw⟩
    replace hw := hw.symm
    subst hw
    clear hr
    go_wp2_with (at_builtin; refine append_ints rfl (.tmp 44) (.tmp 45) rfl (D + 1) _ xs rfl (owns_a (unhide HO) _) _ [65533] rfl (one_int _ _) (by simp; omega) (by simp; omega) ?_)
    intro v2 w2 ho2 hb2
    obtain ⟨ao2, cap2, hsh2⟩ := owns_shape ho2
    subst hsh2
    have HO2 := hide ho2
    have HT2 := hide ((unhide HT).below (((Below.refl _ _).alloc (show D + 1 ≤ w.heap.size from hDs) _).trans hb2))
    have HB2 := hide (((Below.refl D w).alloc (Nat.le_of_lt hDs) _).trans (hb2.mono (Nat.le_succ D)))
    obtain ⟨d0, d1, d2, e0, e1, e2⟩ := unhide HT2
    have hDs2 : D < w2.heap.size := World.block_lt_of_cell? w2 _ d0
    clear ho2 hb2
    go_wp2_with fail
    go_ret
    exact ⟨_, rfl, ⟨(((unhide HT2).set2 _).set0 g').set1 true, by simpa [M.bads] using owns_set (owns_set (owns_set (unhide HO2) ⟨D, 2, none⟩ (Nat.lt_succ_self _) _) ⟨D, 0, none⟩ (Nat.lt_succ_self _) _) ⟨D, 1, none⟩ (Nat.lt_succ_self _) _⟩, bset (bset (bset (unhide HB2) ⟨D, 2, none⟩ _ (Nat.le_refl _)) ⟨D, 0, none⟩ _ (Nat.le_refl _)) ⟨D, 1, none⟩ _ (Nat.le_refl _)⟩

theorem next_all (D : Nat) (g : Int) (fr : Bool) (xs : List Int) (v : Value) (s : ByteArray) (w : World) (hg : M.Sg g) (h0 : 0 < s.size) (hs : s.size ≤ 3003) (hx : xs.length ≤ 50000) (hT : Tl D g fr xs v w) {o : List Int} {k : Nat} {g' : Int} {fr' : Bool} (he : M.gk (g, fr) (bl s) = (o, k, (g', fr'))) :
    Calls Tryz.prog 202 #[.pointer (some ⟨D, 0, none⟩), .string s] w fun e w' => ∃ v', e = .returned (.int .i64 (k : Int)) ∧ Tl D g' fr' (xs ++ o) v' w' ∧ Below D w w' := by
  unfold M.gk at he
  cases hq : M.kesc (bl s) with
  | none =>
    rw [hq] at he
    have hh : (bl s).headD 0 = (s[0].toNat : Int) := by rw [bl_0 s h0]; rfl
    simp only [hh, Prod.mk.injEq] at he
    obtain ⟨rfl, rfl, rfl, rfl⟩ := he
    exact next_sign D g fr xs v s w hg h0 hs hx hT hq
  | some q =>
    rw [hq] at he
    simp only [Prod.mk.injEq] at he
    obtain ⟨rfl, rfl, rfl, rfl⟩ := he
    exact next_esc D g q fr xs v s w h0 hs hx hT hq
theorem gk_sg {g : Int} {fr : Bool} (l : List Int) (hg : M.Sg g) : M.Sg (M.gk (g, fr) l).2.2.1 := by
  unfold M.gk
  cases hq : M.kesc l with
  | none => exact hg
  | some q => exact (M.kesc_len hq).2
theorem gk_few (h : Int × Bool) (l : List Int) : (M.gk h l).1.length ≤ (M.gk h l).2.1 := by
  unfold M.gk
  cases hq : M.kesc l with
  | none => simp
  | some q => simp only [M.bads]; split <;> simp

theorem owns_mono {w : World} {base base' e size n : Nat} {v : Value} {xs : List Value} (h : w.ownsRow base e size v n xs) (hb : base' ≤ base) : w.ownsRow base' e size v n xs := by
  refine ⟨h.1, ?_⟩
  rcases h.2 with hn | ⟨g, cap, cur, rfl, hg, rest⟩
  · exact .inl hn
  · exact .inr ⟨g, cap, cur, rfl, by omega, rest⟩
/-- What a round of Tell's loop knows. -/
def InT (g0 : Int) (fr0 : Bool) (s : ByteArray) (D : Nat) (W wr : World) (k : Nat) : Prop :=
  ∃ xs g fr v, Tl D g fr xs v wr ∧ Below D W wr ∧ M.Sg g ∧ xs.length ≤ k ∧ M.Tot M.gk (g0, fr0) (bl s) = (xs ++ (M.Tot M.gk (g, fr) ((bl s).drop k)).1, (M.Tot M.gk (g, fr) ((bl s).drop k)).2)

theorem InT.start (g : Int) (fr : Bool) (s : ByteArray) (D : Nat) (W : World) (hg : M.Sg g) (hT : Tl D g fr [] (.slice none 0 0) W) : InT g fr s D W W 0 :=
  ⟨[], g, fr, _, hT, Below.refl _ _, hg, Nat.le_refl _, rfl⟩

set_option maxHeartbeats 800000 in
set_option maxRecDepth 100000 in
theorem tell_own (g : Int) (fr : Bool) (s : ByteArray) (w : World) (hg : M.Sg g) (hs : s.size ≤ 3003) :
    Calls Tryz.prog 156 #[.agg #[.int .i64 g, .bool fr], .string s] w fun e w' => ∃ v, e = .returned (.tuple #[v, .agg #[.int .i64 (M.Tot M.gk (g, fr) (bl s)).2.1, .bool (M.Tot M.gk (g, fr) (bl s)).2.2]]) ∧ w'.ownsRow w.heap.size 3 1 v (M.Tot M.gk (g, fr) (bl s)).1.length ((M.Tot M.gk (g, fr) (bl s)).1.map (Value.int .i64)) ∧ Below w.heap.size w w' := by
  go_enter Tryz.func156, Tryz.ntmps156
  go_wp2_with fail
  generalize hW : (((w.alloc (Obj.cells #[Value.int IntKind.i64 g, Value.bool fr] 165)).alloc (Obj.cells #[Value.int IntKind.i64 0, Value.bool false] 165)).alloc (Obj.cells #[Value.int IntKind.i64 g, Value.bool fr, Value.slice none 0 0] 192)) = W
  have HT : Hid (InT g fr s (w.heap.size + 1 + 1) W W 0) := hide (InT.start g fr s _ W hg ⟨by subst hW; constructor <;> simp [go_sem], World.ownsRow_nil _ _ _ _⟩)
  have HB : Hid (Below w.heap.size w W) := hide (by subst hW; exact (((Below.refl _ _).alloc (Nat.le_refl _) _).alloc (by simp) _).alloc (by simp; omega) _)
  have HC : Hid (W.cell? ⟨w.heap.size + 1, 0, none⟩ = some (.int .i64 0) ∧ W.cell? ⟨w.heap.size + 1, 1, none⟩ = some (.bool false) ∧ W.frozen? ⟨w.heap.size + 1, 0, none⟩ = false ∧ W.frozen? ⟨w.heap.size + 1, 1, none⟩ = false) := hide (by subst hW; refine ⟨?_, ?_, ?_, ?_⟩ <;> simp [go_sem])
  have hWs : w.heap.size + 3 = W.heap.size := by subst hW; simp
  clear hW
  go_loopw [7] (fun i wr => ∃ k : Nat, k ≤ s.size ∧ i = .int .i64 k ∧ InT g fr s (w.heap.size + 1 + 1) W wr k) (fun i _ => s.size - (intOf i).toNat)
  case atStart => exact ⟨0, by omega, rfl, unhide HT⟩
  case round =>
    obtain ⟨k, hk, rfl, xs, g1, fr1, v, hT, hb, hg1, hxk, hE⟩ := hrel
    clear HT
    have HE := hide hE
    have HBb := hide hb
    have hxs : xs.length ≤ 50000 := by omega
    have hlen : Hid (xs.length ≤ k) := hide hxk
    clear hE hxk
    by_cases hks : k < s.size
    · obtain ⟨o, z, g2, fr2, hq⟩ : ∃ o z g2 fr2, M.gk (g1, fr1) ((bl s).drop k) = (o, z, (g2, fr2)) := ⟨_, _, _, _, rfl⟩
      have hne : (bl s).drop k ≠ [] := fun e => by have := congrArg List.length e; simp [bl_len] at this; omega
      have hz := M.gk_size (g1, fr1) ((bl s).drop k) hne
      have hfew := gk_few (g1, fr1) ((bl s).drop k)
      have hsg := gk_sg (fr := fr1) ((bl s).drop k) hg1
      have hst := M.Tot_step M.gk_size hne hq
      rw [hq] at hz hfew hsg
      simp only [List.length_drop, bl_len] at hz
      have hcall : ∀ w1 : World, w1 = wr → Calls Tryz.prog 202 #[.pointer (some ⟨w.heap.size + 1 + 1, 0, none⟩), .string (s.extract k s.size)] w1 fun e w' => ∃ v', e = .returned (.int .i64 (z : Int)) ∧ Tl (w.heap.size + 1 + 1) g2 fr2 (xs ++ o) v' w' ∧ Below (w.heap.size + 1 + 1) wr w' := by
        rintro _ rfl
        exact next_all _ g1 fr1 xs v (s.extract k s.size) _ hg1 (by simp; omega) (by simp; omega) hxs hT (by rw [bl_extract]; exact hq)
      have hdd : ((bl s).drop k).drop z = (bl s).drop (k + z) := by rw [List.drop_drop]
      have HJ : Hid (∀ v' w', Tl (w.heap.size + 1 + 1) g2 fr2 (xs ++ o) v' w' → Below (w.heap.size + 1 + 1) wr w' → InT g fr s (w.heap.size + 1 + 1) W w' (k + z)) := hide fun v' w' h1 h2 =>
        ⟨xs ++ o, g2, fr2, v', h1, (unhide HBb).trans h2, hsg, by have := unhide hlen; simp at hfew; simp; omega, by rw [unhide HE, hst, hdd]; simp [List.append_assoc]⟩
      have hz1 : 1 ≤ z := hz.1
      have hz2 : z ≤ s.size - k := hz.2
      clear hq hne hz hfew hsg hst hdd hT hb
      go_wp2_with fail
      refine (hcall _ rfl).mono ?_
      rintro e w1 ⟨v', rfl, h1, h2⟩
      have HK := hide (unhide HJ v' w1 h1 h2)
      clear h1 h2 hcall
      go_wp2_with fail
      go_roundw
      case rel => exact ⟨k + z, by omega, by go_num, unhide HK⟩
      case measure => simp [intOf]; omega
    · obtain ⟨hTc, ho⟩ := hT
      have ek : (bl s).drop k = [] := List.drop_of_length_le (by rw [bl_len]; omega)
      rw [ek, M.Tot_nil, List.append_nil] at HE
      obtain ⟨c0, c1, c2, f0, f1, f2⟩ := hTc
      obtain ⟨ao, cap, hsh⟩ := owns_shape ho
      subst hsh
      have HO := hide ho
      obtain ⟨r0, r1, s0, s1⟩ := unhide HC
      have q0 : wr.cell? ⟨w.heap.size + 1, 0, none⟩ = some (.int .i64 0) := (hb.cell (p := ⟨w.heap.size + 1, 0, none⟩) (Nat.lt_succ_self _)).trans r0
      have q1 : wr.cell? ⟨w.heap.size + 1, 1, none⟩ = some (.bool false) := (hb.cell (p := ⟨w.heap.size + 1, 1, none⟩) (Nat.lt_succ_self _)).trans r1
      have t0 : wr.frozen? ⟨w.heap.size + 1, 0, none⟩ = false := (hb.frozen (p := ⟨w.heap.size + 1, 0, none⟩) (Nat.lt_succ_self _)).trans s0
      have t1 : wr.frozen? ⟨w.heap.size + 1, 1, none⟩ = false := (hb.frozen (p := ⟨w.heap.size + 1, 1, none⟩) (Nat.lt_succ_self _)).trans s1
      have HBt := hide ((unhide HB).trans (hb.mono (by omega)))
      have hB1 : w.heap.size + 1 < wr.heap.size := World.block_lt_of_cell? wr _ q0
      have hB2 : w.heap.size + 1 + 1 < wr.heap.size := World.block_lt_of_cell? wr _ c0
      clear ho ek hb r0 r1 s0 s1 HC HB HBb
      go_wp2_with fail
      go_region
      all_goals
        go_wp2_with fail
        refine bodyPost_ret (v := .tuple #[.slice ao xs.length cap, .agg #[.int .i64 g1, .bool fr1]]) (by simp [results, Tryz.results156, go_sem, q0, q1]) rfl ?_
        refine ⟨.slice ao xs.length cap, ?_, ?_, ?_⟩
        · rw [unhide HE]
        · rw [unhide HE]
          exact owns_below (owns_mono (owns_set (owns_set (unhide HO) ⟨w.heap.size + 1, 0, none⟩ (by simp) _) ⟨w.heap.size + 1, 1, none⟩ (by simp) _) (by omega)) (below_drewN (Below.refl _ _) 1)
        · exact below_drewN (bset (bset (unhide HBt) ⟨w.heap.size + 1, 0, none⟩ _ (by simp)) ⟨w.heap.size + 1, 1, none⟩ _ (by simp)) 1

set_option maxHeartbeats 800000 in
set_option maxRecDepth 100000 in
theorem kdec_in (s : ByteArray) (w : World) (hs : s.size ≤ 3000) :
    Calls Tryz.prog 155 #[.string s] w fun e w' => ∃ v, e = .returned v ∧ w'.ownsRow w.heap.size 3 1 v (M.kdec (bl s)).length ((M.kdec (bl s)).map (Value.int .i64)) ∧ Below w.heap.size w w' := by
  have H : ∀ w : World, Calls Tryz.prog 156 #[.agg #[.int .i64 0, .bool false], .string s] w fun e w' => ∃ v g fr, e = .returned (.tuple #[v, .agg #[.int .i64 g, .bool fr]]) ∧ w'.ownsRow w.heap.size 3 1 v (M.kdec (bl s)).length ((M.kdec (bl s)).map (Value.int .i64)) ∧ Below w.heap.size w w' := fun w =>
    (tell_own 0 false s w (.inl rfl) (by omega)).mono fun e w' h => by
      obtain ⟨v, h1, h2, h3⟩ := h
      rw [M.gk_dec] at h2
      exact ⟨v, _, _, h1, h2, h3⟩
  go_enter Tryz.func155, Tryz.ntmps155
  go_wp2_with fail
  refine (H _).mono ?_
  rintro e w1 ⟨v, g, fr, rfl, hI, hb⟩
  have HI := hide hI
  have HB := hide hb
  obtain ⟨ao, cap, rfl⟩ := owns_shape hI
  clear hb H hI
  go_wp2_with fail
  go_ret
  exact ⟨_, rfl, owns_a (unhide HI) _, bstep (unhide HB) (balloc _ _)⟩

set_option maxHeartbeats 400000 in
set_option maxRecDepth 100000 in
theorem kdecode_own (s : ByteArray) (w : World) (hs : s.size ≤ 3000) :
    Calls Tryz.prog 92 #[.string s] w fun e w' => ∃ v, e = .returned (.tuple #[v, .int .i64 0]) ∧ w'.ownsRow w.heap.size 3 1 v (M.kdec (bl s)).length ((M.kdec (bl s)).map (Value.int .i64)) ∧ Below w.heap.size w w' := by
  go_enter Tryz.func92, Tryz.ntmps92
  go_wp2_with (first | (go_at_call 155; refine (kdec_in _ _ hs).mono ?_; rintro e w1 ⟨v, rfl, hI, hb⟩; have HI := hide hI; have HB := hide hb; obtain ⟨ao, cap, rfl⟩ := owns_shape hI; clear hb hI) | go_in)
  go_ret2
  exact ⟨_, rfl, unhide HI, unhide HB⟩
theorem kdecode_any (s : ByteArray) (w : World) (hs : s.size ≤ 3000) :
    Calls Tryz.prog 92 #[.string s] w fun e w' => ∃ v, e = .returned (.tuple #[v, .int .i64 0]) ∧ Ints w' v (M.kdec (bl s)) ∧ Below w.heap.size w w' :=
  (kdecode_own s w hs).mono fun e w' h => by
    obtain ⟨v, h1, h2, h3⟩ := h
    exact ⟨v, h1, Ints.of_owns h2, h3⟩

set_option maxHeartbeats 400000 in
set_option maxRecDepth 100000 in
theorem kdecode_long (s : ByteArray) (w : World) (hs : 3000 < s.size) (hm : s.size ≤ maxLen) :
    Calls Tryz.prog 92 #[.string s] w fun e w' => e = .returned (.tuple #[.slice none 0 0, .int .i64 2]) ∧ w' = w := by
  unfold maxLen at hm
  go_enter Tryz.func92, Tryz.ntmps92
  go_wp2
  go_ret2
  exact ⟨rfl, rfl⟩
end Go.Proofs.YtaiinjfnkmidbaaGreatDoor

namespace Go.Proofs.YtaiinjfnkmidbaaGreatDoor
open Go.RowKit
set_option linter.unusedVariables false

namespace M
/-- The one byte that can be a code point's, by signs. -/
def bo (g n : Int) : Int := if g = 2 then n - 65344 else if g = 1 ∧ n = 165 then 92 else if g = 1 ∧ n = 8254 then 126 else n
theorem bo_ksn {g c n : Int} (hg : Sg g) (h0 : 0 ≤ c) (h1 : c < 128) (h27 : c ≠ 27) (hk : ksn g c = n) (hn : n ≠ 65533) : bo g n = c := by
  subst hk
  rcases hg with rfl | rfl | rfl <;> (simp only [ksn, bo] at *; (repeat' split at hn) <;> (repeat' split) <;> first | omega | simp_all)
theorem hasK_bo {g n : Int} (hg : Sg g) : hasK g n = true ↔ 0 ≤ bo g n ∧ bo g n < 128 ∧ kpt g (bo g n) = n := by
  rw [hasK_iff]
  constructor
  · rintro ⟨c, h1, h2, h3, h4⟩
    have e := bo_ksn hg (by omega) (by omega) (by omega) h3 h4
    rw [e]
    refine ⟨by omega, by omega, ?_⟩
    unfold kpt; rw [if_neg (by omega)]; exact h3
  · rintro ⟨h1, h2, h3⟩
    have hq : bo g n ≠ 27 ∧ n ≠ 65533 := by
      unfold kpt ksn at h3
      rcases hg with rfl | rfl | rfl <;> (simp only [bo] at *; (repeat' split at h3) <;> (try split at h1) <;> first | omega | (constructor <;> omega) | simp_all)
    refine ⟨(bo g n).toNat, by omega, by omega, ?_, hq.2⟩
    rw [show (((bo g n).toNat : Nat) : Int) = bo g n from by omega]
    unfold kpt at h3; rw [if_neg hq.1] at h3; exact h3
theorem kby_bo {g n : Int} (hg : Sg g) (h : hasK g n = true) : kby g n = bo g n := by
  obtain ⟨c, h1, h2, h3, h4⟩ := kby_spec h
  obtain ⟨_, _, _, _, h5⟩ := (hasK_iff g n).1 h
  rw [h2, bo_ksn hg (by omega) (by omega) (by omega) h4 h5]
end M

/-- Is an integer one of Go's? -/
def Gi (n : Int) : Prop := -9223372036854775808 ≤ n ∧ n ≤ 9223372036854775807

set_option maxHeartbeats 1000000 in
set_option maxRecDepth 100000 in
theorem byteOf_no (g n : Int) (hg : M.Sg g) (hn : Gi n) (hb : M.bo g n < 0 ∨ 128 ≤ M.bo g n) (w : World) :
    Calls Tryz.prog 235 #[.int .i64 g, .int .i64 n] w fun e w' => e = .returned (.tuple #[.int .u8 0, .bool false]) ∧ w' = w := by
  unfold Gi at hn
  rcases hg with rfl | rfl | rfl
  · have hb' : n < 0 ∨ 128 ≤ n := hb
    clear hb
    rcases hb' with hb | hb
    · go_enter Tryz.func235, Tryz.ntmps235
      go_wp2
      go_ret2
      exact ⟨rfl, rfl⟩
    · go_enter Tryz.func235, Tryz.ntmps235
      go_wp2
      go_ret2
      exact ⟨rfl, rfl⟩
  · have h1 : n ≠ 165 := fun h => by subst h; simp [M.bo] at hb
    have h2 : n ≠ 8254 := fun h => by subst h; simp [M.bo] at hb
    have hb' : n < 0 ∨ 128 ≤ n := by simpa [M.bo, h1, h2] using hb
    have e1 : (n == 165) = false := by simp [h1]
    have e2 : (n == 8254) = false := by simp [h2]
    clear hb
    rcases hb' with hb | hb
    · go_enter Tryz.func235, Tryz.ntmps235
      go_wp2
      go_ret2
      exact ⟨rfl, rfl⟩
    · go_enter Tryz.func235, Tryz.ntmps235
      go_wp2
      go_ret2
      exact ⟨rfl, rfl⟩
  · have hb' : n < 65344 ∨ 65472 ≤ n := by simp only [M.bo, if_true] at hb; omega
    clear hb
    rcases hb' with hb | hb
    · by_cases hlo : -9223372036854710431 ≤ n
      · go_enter Tryz.func235, Tryz.ntmps235
        go_wp2
        go_ret2
        exact ⟨rfl, rfl⟩
      · obtain ⟨v, hv⟩ : ∃ v, wrap64 (wrap64 (n - 65377) + 33) = v := ⟨_, rfl⟩
        have hvb : v < 0 ∨ 128 ≤ v := by rw [← hv]; unfold wrap64; omega
        rcases hvb with hvb | hvb
        · go_enter Tryz.func235, Tryz.ntmps235
          go_wp2
          go_ret2
          exact ⟨rfl, rfl⟩
        · go_enter Tryz.func235, Tryz.ntmps235
          go_wp2
          go_ret2
          exact ⟨rfl, rfl⟩
    · go_enter Tryz.func235, Tryz.ntmps235
      go_wp2
      go_ret2
      exact ⟨rfl, rfl⟩

set_option maxHeartbeats 1000000 in
set_option maxRecDepth 100000 in
theorem byteOf_yes (g n b : Int) (hg : M.Sg g) (hb : M.bo g n = b) (hb0 : 0 ≤ b) (hb1 : b < 128) (hp : M.kpt g b = n) (w : World) :
    Calls Tryz.prog 235 #[.int .i64 g, .int .i64 n] w fun e w' => e = .returned (.tuple #[.int .u8 b, .bool true]) ∧ w' = w := by
  have hpo : ∀ (w : World), Calls Tryz.prog 224 #[.int .i64 g, .int .u8 b] w fun e w' => e = .returned (.int .i64 n) ∧ w' = w := fun w => by
    have := pointOf_any g b hg (by omega) (by omega) w
    rwa [hp] at this
  clear hp
  rcases hg with rfl | rfl | rfl
  · have e : n = b := hb
    subst e
    clear hb
    go_enter Tryz.func235, Tryz.ntmps235
    go_wp2_with fail
    refine (hpo _).mono ?_
    rintro e w1 ⟨rfl, hw⟩
    replace hw := hw.symm
    subst hw
    clear hpo
    go_wp2_with fail
    go_ret2
    exact ⟨rfl, rfl⟩
  · by_cases h1 : n = 165
    · subst h1
      have e : b = 92 := hb.symm
      subst e
      clear hb hb0 hb1
      go_enter Tryz.func235, Tryz.ntmps235
      go_wp2_with fail
      refine (hpo _).mono ?_
      rintro e w1 ⟨rfl, hw⟩
      replace hw := hw.symm
      subst hw
      clear hpo
      go_wp2_with fail
      go_ret2
      exact ⟨rfl, rfl⟩
    · by_cases h2 : n = 8254
      · subst h2
        have e : b = 126 := hb.symm
        subst e
        clear hb hb0 hb1 h1
        go_enter Tryz.func235, Tryz.ntmps235
        go_wp2_with fail
        refine (hpo _).mono ?_
        rintro e w1 ⟨rfl, hw⟩
        replace hw := hw.symm
        subst hw
        clear hpo
        go_wp2_with fail
        go_ret2
        exact ⟨rfl, rfl⟩
      · have e : n = b := by simpa [M.bo, h1, h2] using hb
        subst e
        have e1 : (n == 165) = false := by simp [h1]
        have e2 : (n == 8254) = false := by simp [h2]
        clear hb h1 h2
        go_enter Tryz.func235, Tryz.ntmps235
        go_wp2_with fail
        refine (hpo _).mono ?_
        rintro e w1 ⟨rfl, hw⟩
        replace hw := hw.symm
        subst hw
        clear hpo
        go_wp2_with fail
        go_ret2
        exact ⟨rfl, rfl⟩
  · have e : n = b + 65344 := by simp only [M.bo, if_true] at hb; omega
    have hpo' : ∀ (w : World), Calls Tryz.prog 224 #[.int .i64 2, .int .u8 (n - 65377 + 33)] w fun e w' => e = .returned (.int .i64 n) ∧ w' = w := by
      rw [show n - 65377 + 33 = b from by omega]; exact hpo
    have HN := hide (show n - 65377 + 33 = b from by omega)
    have hn0 : 65344 ≤ n := by omega
    have hn1 : n < 65472 := by omega
    clear hpo e hb hb0 hb1
    go_enter Tryz.func235, Tryz.ntmps235
    go_wp2_with fail
    refine (hpo' _).mono ?_
    rintro e w1 ⟨rfl, hw⟩
    replace hw := hw.symm
    subst hw
    clear hpo'
    go_wp2_with fail
    go_ret2
    exact ⟨by rw [← unhide HN]; rfl, rfl⟩

set_option maxHeartbeats 1000000 in
set_option maxRecDepth 100000 in
theorem byteOf_not (g n b p : Int) (hg : M.Sg g) (hb : M.bo g n = b) (hb0 : 0 ≤ b) (hb1 : b < 128) (hp : M.kpt g b = p) (hq : (p != n) = true) (w : World) :
    Calls Tryz.prog 235 #[.int .i64 g, .int .i64 n] w fun e w' => e = .returned (.tuple #[.int .u8 0, .bool false]) ∧ w' = w := by
  have hpo : ∀ (w : World), Calls Tryz.prog 224 #[.int .i64 g, .int .u8 b] w fun e w' => e = .returned (.int .i64 p) ∧ w' = w := fun w => by
    have := pointOf_any g b hg (by omega) (by omega) w
    rwa [hp] at this
  clear hp
  rcases hg with rfl | rfl | rfl
  · have e : n = b := hb
    subst e
    clear hb
    go_enter Tryz.func235, Tryz.ntmps235
    go_wp2_with fail
    refine (hpo _).mono ?_
    rintro e w1 ⟨rfl, hw⟩
    replace hw := hw.symm
    subst hw
    clear hpo
    go_wp2_with fail
    go_ret2
    exact ⟨rfl, rfl⟩
  · by_cases h1 : n = 165
    · subst h1
      have e : b = 92 := hb.symm
      subst e
      clear hb hb0 hb1
      go_enter Tryz.func235, Tryz.ntmps235
      go_wp2_with fail
      refine (hpo _).mono ?_
      rintro e w1 ⟨rfl, hw⟩
      replace hw := hw.symm
      subst hw
      clear hpo
      go_wp2_with fail
      go_ret2
      exact ⟨rfl, rfl⟩
    · by_cases h2 : n = 8254
      · subst h2
        have e : b = 126 := hb.symm
        subst e
        clear hb hb0 hb1 h1
        go_enter Tryz.func235, Tryz.ntmps235
        go_wp2_with fail
        refine (hpo _).mono ?_
        rintro e w1 ⟨rfl, hw⟩
        replace hw := hw.symm
        subst hw
        clear hpo
        go_wp2_with fail
        go_ret2
        exact ⟨rfl, rfl⟩
      · have e : n = b := by simpa [M.bo, h1, h2] using hb
        subst e
        have e1 : (n == 165) = false := by simp [h1]
        have e2 : (n == 8254) = false := by simp [h2]
        clear hb h1 h2
        go_enter Tryz.func235, Tryz.ntmps235
        go_wp2_with fail
        refine (hpo _).mono ?_
        rintro e w1 ⟨rfl, hw⟩
        replace hw := hw.symm
        subst hw
        clear hpo
        go_wp2_with fail
        go_ret2
        exact ⟨rfl, rfl⟩
  · have e : n = b + 65344 := by simp only [M.bo, if_true] at hb; omega
    have hpo' : ∀ (w : World), Calls Tryz.prog 224 #[.int .i64 2, .int .u8 (n - 65377 + 33)] w fun e w' => e = .returned (.int .i64 p) ∧ w' = w := by
      rw [show n - 65377 + 33 = b from by omega]; exact hpo
    have HN := hide (show n - 65377 + 33 = b from by omega)
    have hn0 : 65344 ≤ n := by omega
    have hn1 : n < 65472 := by omega
    clear hpo e hb hb0 hb1
    go_enter Tryz.func235, Tryz.ntmps235
    go_wp2_with fail
    refine (hpo' _).mono ?_
    rintro e w1 ⟨rfl, hw⟩
    replace hw := hw.symm
    subst hw
    clear hpo'
    go_wp2_with fail
    go_ret2
    exact ⟨rfl, rfl⟩

theorem byteOf_any (g n : Int) (hg : M.Sg g) (hn : Gi n) (w : World) :
    Calls Tryz.prog 235 #[.int .i64 g, .int .i64 n] w fun e w' => e = .returned (.tuple #[.int .u8 (if M.hasK g n then M.kby g n else 0), .bool (M.hasK g n)]) ∧ w' = w := by
  have hB := M.hasK_bo (n := n) hg
  by_cases hr : 0 ≤ M.bo g n ∧ M.bo g n < 128
  · by_cases hk : M.kpt g (M.bo g n) = n
    · have h1 := hB.2 ⟨hr.1, hr.2, hk⟩
      rw [h1, if_pos rfl, M.kby_bo hg h1]
      exact byteOf_yes g n _ hg rfl hr.1 hr.2 hk w
    · have h1 : M.hasK g n = false := Bool.eq_false_iff.2 (fun h => hk (hB.1 h).2.2)
      rw [h1]
      exact byteOf_not g n _ _ hg rfl hr.1 hr.2 rfl (by simpa using hk) w
  · have h1 : M.hasK g n = false := Bool.eq_false_iff.2 (fun h => hr ⟨(hB.1 h).1, (hB.1 h).2.1⟩)
    rw [h1]
    exact byteOf_no g n hg hn (by omega) w

set_option maxHeartbeats 400000 in
set_option maxRecDepth 100000 in
theorem escapeTo_any (g : Int) (hg : M.Sg g) (w : World) :
    Calls Tryz.prog 221 #[.int .i64 g] w fun e w' => e = .returned (.string (strOfNums [27, 40, M.esc g])) ∧ w' = w := by
  have hz : (⟨#[66, 74, 73]⟩ : ByteArray).size = 3 := rfl
  rcases hg with rfl | rfl | rfl
  · have HE : Hid ((⟨#[27, 40]⟩ : ByteArray) ++ (⟨#[66, 74, 73]⟩ : ByteArray).extract 0 1 = strOfNums [27, 40, M.esc 0]) := hide (by decide)
    go_enter Tryz.func221, Tryz.ntmps221
    go_wp2
    go_ret
    exact ⟨by rw [← unhide HE]; rfl, rfl⟩
  · have HE : Hid ((⟨#[27, 40]⟩ : ByteArray) ++ (⟨#[66, 74, 73]⟩ : ByteArray).extract 1 2 = strOfNums [27, 40, M.esc 1]) := hide (by decide)
    go_enter Tryz.func221, Tryz.ntmps221
    go_wp2
    go_ret
    exact ⟨by rw [← unhide HE]; rfl, rfl⟩
  · have HE : Hid ((⟨#[27, 40]⟩ : ByteArray) ++ (⟨#[66, 74, 73]⟩ : ByteArray).extract 2 3 = strOfNums [27, 40, M.esc 2]) := hide (by decide)
    go_enter Tryz.func221, Tryz.ntmps221
    go_wp2
    go_ret
    exact ⟨by rw [← unhide HE]; rfl, rfl⟩
end Go.Proofs.YtaiinjfnkmidbaaGreatDoor
