/- The contract of encoder.Encode in one: bytes and error of any list; and a law on 'append(v, u...)' for up to 4000000 integers. Condition: strconv.Itoa answers numerals in that world. -/
import Derived.Test.YthhjfedegbldfadDoorEE
import Derived.WalkKit
import Derived.ProofKit
import Derived.BigQuiet
import Derived.Deep.QuietTactic
import Derived.WalkSmall
import Derived.Laws.BitsLemmas
import Derived.Laws.BytesArg
import Derived.Laws.AppendOwnNone
namespace Go.Proofs.YthhjfedegbldfadDoor
open Go.RowKit
set_option linter.unusedVariables false

theorem append_intsL {w : World} {ops : Array Oper} {rest : List Oper} {o : Oper} {a : Act} {Q : Exit → Act → World → Prop} (hw : Region.wanted o (yielded ops a.tmps) = true) (s x : Operand)
    (ho : o.op = .call { callee := .builtin .append, args := #[s, x], argTypes := #[22, 22] }) (base : Nat) (v : Value) (xs : List Int) (hs : a.eval s = v)
    (hown : w.ownsRow base 3 1 v xs.length (xs.map (Value.int .i64))) (u : Value) (ys : List Int) (hx : a.eval x = u) (hI : Ints w u ys) (hlen : xs.length + ys.length ≤ 4000000) (hbase : base ≤ w.heap.size)
    (h : ∀ v' w', w'.ownsRow base 3 1 v' (xs ++ ys).length ((xs ++ ys).map (Value.int .i64)) → Below base w w' → wpList Tryd.prog ops Q rest (a.put o.dst v') w') : wpList Tryd.prog ops Q (o :: rest) a w := by
  obtain ⟨i0, hi, hz0, hz1, hz2⟩ := info_parts info3
  obtain ⟨ao, cap, rfl, hm, hn, hc⟩ := hI
  refine BigFrame.wpList_want hw fun K hK => ?_
  cases ao with
  | none =>
    have hy : ys = [] := by
      rcases hc with hc | ⟨b, off, e, _⟩
      · exact hc
      · cases e
    subst hy
    have hcap := hn rfl
    subst hcap
    have hrun := run_append_owned_none (P := Tryd.prog) (w := w) base 22 o.type 3 i0 1 Tryd.underlying22 hi v _ _ hown
    have hK' := hK _ _ (h v w (by simpa using hown) (Below.refl _ _))
    unfold Oper.wp
    simp only [List.length_nil] at hx
    simp [execOp, ho, resolve, invoke, builtin, hs, hx, hrun, Result.andThen]
    exact hK'
  | some ad =>
    refine wp_append_own w s x 22 ho base 3 i0 (.int .i64 0) 1 8 Tryd.underlying22 hi hz0 hz1 hz2 rfl (by decide) v _ _ hs hown ad ys.length cap (ys.map (Value.int .i64)) hx (by simp) ?_ ?_ (by unfold maxLen; omega) (by omega) hbase ?_
    · intro j u hj
      have hjl : j < ys.length := by
        rcases Nat.lt_or_ge j ys.length with h | h
        · exact h
        · simp [List.getElem?_eq_none (show (ys.map (Value.int .i64)).length ≤ j by simpa using h)] at hj
      rcases hc with hc | ⟨b, off, e, hc⟩
      · subst hc; simp at hjl
      · cases e
        have := hc j hjl
        simp [hjl] at hj
        subst hj
        by_cases hj0 : j = 0
        · subst hj0; simpa [Addr.add, hjl] using this
        · simpa [Addr.add, hj0, hjl] using this
    · intro u hu
      simp at hu
      obtain ⟨y, _, rfl⟩ := hu
      rfl
    · intro v' w' h1 h2 _
      refine hK _ _ (h v' w' (by simpa using h1) ((Below.refl _ _).grown h2 hbase (fun k hk => (hown.lt k hk).1)))

theorem empty_row (w : World) : (w.alloc (.cells #[] 3)).ownsRow w.heap.size 3 1 (.slice (some ⟨w.heap.size, 0, none⟩) 0 0) ([] : List Int).length (([] : List Int).map (Value.int .i64)) :=
  ⟨by simp, .inr ⟨w.heap.size, 0, #[], rfl, Nat.le_refl _, heap_alloc_new _ _, Nat.le_refl _, by simp [maxLen], by simp, by simp⟩⟩

/-- What Encode answers of an encoding. -/
def encP (n mode : Int) (xs : List Int) : ByteArray × Int :=
  if 3000 < xs.length then (⟨#[]⟩, 2) else if xs.all M.sclr = false then (⟨#[]⟩, 3) else if mode = 1 ∨ xs.all (M.hasE n) = true then (strOfNums (M.encB n (M.ptsE n xs)), 0) else (⟨#[]⟩, 5)
theorem encP_ok {n mode : Int} {xs : List Int} (h1 : xs.length ≤ 3000) (h2 : xs.all M.sclr = true) : resW n mode xs = .tuple #[.string (encP n mode xs).1, .int .i64 (encP n mode xs).2] := by
  have e : encP n mode xs = if mode = 1 ∨ xs.all (M.hasE n) = true then (strOfNums (M.encB n (M.ptsE n xs)), 0) else (⟨#[]⟩, 5) := by unfold encP; rw [if_neg (by omega), if_neg (by simp [h2])]
  rw [e]
  unfold resW
  split <;> rfl
theorem Enc_all (n mode : Int) {v : Value} {xs : List Int} (w : World) (hT : Tb w) (hn : 1 ≤ n ∧ n ≤ 7) (hm : mode = 0 ∨ mode = 1) (hI : Ints w v xs) :
    Calls Tryd.prog 9 #[.int .i64 n, .int .i64 mode, v] w fun e w' => e = .returned (.tuple #[.string (encP n mode xs).1, .int .i64 (encP n mode xs).2]) ∧ Below w.heap.size w w' := by
  by_cases h1 : xs.length ≤ 3000
  · cases h2 : xs.all M.sclr
    · have e : encP n mode xs = (⟨#[]⟩, 3) := by unfold encP; rw [if_neg (by omega), if_pos h2]
      rw [e]
      exact Enc_range n mode w hn hm hI h1 h2
    · rw [← encP_ok h1 h2]
      exact Enc_ok n mode w hT hn hm hI h1 h2
  · have e : encP n mode xs = (⟨#[]⟩, 2) := by unfold encP; rw [if_pos (by omega)]
    rw [e]
    obtain ⟨ao, cap, rfl, hx, -, -⟩ := hI
    exact Enc_many n mode ao xs.length cap w hn hm (by omega) hx
/-- What the four answers have to do with each other. -/
def Told (n : Int) (A B C S : ByteArray) (e f g h : Int) : Prop :=
  (e ≠ 0 ∧ h ≠ 0 ∧ h ≠ 5 ∧ A = ⟨#[]⟩) ∨
  (e = 0 ∧ ((h = 0 ∧ S = A) ∨ h = 5) ∧ (f ≠ 0 ∨ (f = 0 ∧ g ≠ 0) ∨ (f = 0 ∧ g = 0 ∧ n = 6) ∨ (f = 0 ∧ g = 0 ∧ n ≠ 6 ∧ C = A ++ B ∧ A.size ≤ 40000 ∧ B.size ≤ 40000)))
theorem encB_few {n : Int} (h : n ≠ 6) {xs : List Int} (h1 : xs.length ≤ 3000) (h2 : xs.all M.sclr = true) : (strOfNums (M.encB n (M.ptsE n xs))).size ≤ 40000 := by
  rw [strOfNums_size]
  have hp := pts_few (n := n) h2 h1
  by_cases h4 : n = 4
  · subst h4; show (M.encS false _).length ≤ _; rw [M.encS_len]; omega
  · by_cases h5 : n = 5
    · subst h5; show (M.encS true _).length ≤ _; rw [M.encS_len]; omega
    · have e : M.encB n (M.ptsE n xs) = M.enc (M.ptsE n xs) := by unfold M.encB; rw [if_neg h4, if_neg h5, if_neg h]
      have e2 : M.ptsE n xs = xs := M.ptsE_all n xs (List.all_eq_true.2 fun x _ => by unfold M.hasE; rw [if_neg h4, if_neg h5, if_neg h])
      rw [e, e2]
      have := M.enc_len xs
      omega
theorem told_is (n : Int) (ys zs : List Int) : Told n (encP n 1 ys).1 (encP n 1 zs).1 (encP n 1 (ys ++ zs)).1 (encP n 0 ys).1 (encP n 1 ys).2 (encP n 1 zs).2 (encP n 1 (ys ++ zs)).2 (encP n 0 ys).2 := by
  have P2 : ∀ m xs, 3000 < List.length xs → encP n m xs = (⟨#[]⟩, 2) := fun m xs h => by unfold encP; rw [if_pos h]
  have P3 : ∀ m (xs : List Int), xs.length ≤ 3000 → xs.all M.sclr = false → encP n m xs = (⟨#[]⟩, 3) := fun m xs h h' => by unfold encP; rw [if_neg (by omega), if_pos h']
  have P0 : ∀ (xs : List Int), xs.length ≤ 3000 → xs.all M.sclr = true → encP n 1 xs = (strOfNums (M.encB n (M.ptsE n xs)), 0) := fun xs h h' => by unfold encP; rw [if_neg (by omega), if_neg (by simp [h']), if_pos (.inl rfl)]
  by_cases hy : ys.length ≤ 3000
  · cases hs : ys.all M.sclr
    · rw [P3 1 ys hy hs, P3 0 ys hy hs]; exact .inl ⟨by decide, by decide, by decide, rfl⟩
    · refine .inr ⟨by rw [P0 ys hy hs], ?_, ?_⟩
      · rw [P0 ys hy hs]
        cases hh : ys.all (M.hasE n)
        · refine .inr ?_
          unfold encP; rw [if_neg (by omega), if_neg (by simp [hs]), if_neg (by simp [hh])]
        · refine .inl ?_
          unfold encP; rw [if_neg (by omega), if_neg (by simp [hs]), if_pos (.inr hh)]
          exact ⟨rfl, rfl⟩
      · by_cases hz : zs.length ≤ 3000
        · cases hs' : zs.all M.sclr
          · rw [P3 1 zs hz hs']; exact .inl (by decide)
          · refine .inr ?_
            rw [P0 zs hz hs', P0 ys hy hs]
            by_cases hw : (ys ++ zs).length ≤ 3000
            · have ha : (ys ++ zs).all M.sclr = true := by rw [List.all_append, hs, hs']; rfl
              rw [P0 _ hw ha]
              by_cases h6 : n = 6
              · exact .inr (.inl ⟨rfl, rfl, h6⟩)
              · exact .inr (.inr ⟨rfl, rfl, h6, by rw [M.ptsE_app, M.encB_app h6, ← str_app], encB_few h6 hy hs, encB_few h6 hz hs'⟩)
            · rw [P2 1 _ (by omega)]; exact .inl ⟨rfl, by decide⟩
        · rw [P2 1 zs (by omega)]; exact .inl (by decide)
  · rw [P2 1 ys (by omega), P2 0 ys (by omega)]; exact .inl ⟨by decide, by decide, by decide, rfl⟩
end Go.Proofs.YthhjfedegbldfadDoor
