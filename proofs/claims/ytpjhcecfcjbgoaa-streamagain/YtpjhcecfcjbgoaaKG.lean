/- An append that may write in place, and slices that lie apart from it: they read as before. Conditions stand at each law. -/
import Derived.Test.YtpjhcecfcjbgoaaKC
import Derived.Maps.AppendAt
namespace Go.Proofs.Ytpjhcecfcjbgoaa
open Go.RowKit
set_option linter.unusedVariables false

/-- A slice that holds something lies in another block than a row. -/
def Apart (u v : Value) : Prop := ∀ b off n c, u = .slice (some ⟨b, off, none⟩) n c → 0 < n → v.ownBlock ≠ some b
theorem Apart.of_owns {w : World} {B e size n : Nat} {u v : Value} {xs : List Value} (h : w.ownsRow B e size u n xs) (hv : ∀ g, v.ownBlock = some g → g < B) : Apart u v := by
  intro b off n' c hu hn hb
  have := hv b hb
  rcases h.2 with ⟨rfl, _⟩ | ⟨g, cap, cur, rfl, hg, _⟩
  · cases hu
  · injection hu with e _ _
    injection e with e
    injection e with e _ _
    omega
theorem owns_lt {w : World} {B e size n : Nat} {v : Value} {xs : List Value} (h : w.ownsRow B e size v n xs) : ∀ g, v.ownBlock = some g → g < w.heap.size := fun g hg => (h.lt g hg).2
theorem append_far {w : World} {ops : Array Oper} {rest : List Oper} {o : Oper} {a : Act} {Q : Exit → Act → World → Prop} (hw : Region.wanted o (yielded ops a.tmps) = true) (s x : Operand)
    (ho : o.op = .call { callee := .builtin .append, args := #[s, x], argTypes := #[28, 28] }) (base : Nat) (v : Value) (xs : List Int) (hs : a.eval s = v)
    (hown : w.ownsRow base 3 1 v xs.length (xs.map (Value.int .i64))) (ad : Addr) (ys : List Int) (cap : Nat) (hx : a.eval x = .slice (some ad) ys.length cap) (hI : Ints w (.slice (some ad) ys.length cap) ys) (hlen : xs.length + ys.length ≤ 100000) (hbase : base ≤ w.heap.size)
    (h : ∀ ao cap w', w'.ownsRow base 3 1 (.slice ao (xs ++ ys).length cap) (xs ++ ys).length ((xs ++ ys).map (Value.int .i64)) → Below base w w' → (∀ u zs, Ints w u zs → Apart u v → Ints w' u zs ∧ Apart u (.slice ao (xs ++ ys).length cap)) →
      wpList Try.prog ops Q rest (a.put o.dst (.slice ao (xs ++ ys).length cap)) w') : wpList Try.prog ops Q (o :: rest) a w := by
  obtain ⟨i0, hi, hz0, hz1, hz2⟩ := info_parts info3
  obtain ⟨ao, cap', hsh, hm, hn, hc⟩ := hI
  injection hsh with e1 e2 e3
  subst e1 e3
  refine BigFrame.wpList_want hw fun K hK => ?_
  obtain ⟨v', w', hr, h2, h3, h4, h5⟩ := run_append_own_at (P := Try.prog) w base 28 o.type 3 i0 (.int .i64 0) 1 8 Try.underlying28 hi hz0 hz1 hz2 rfl (by decide) v _ _ hown ad ys.length cap (ys.map (Value.int .i64)) (by simp) (by
    intro j u hj
    have hjl : j < ys.length := by
      rcases Nat.lt_or_ge j ys.length with h | h
      · exact h
      · simp [List.getElem?_eq_none (show (ys.map (Value.int .i64)).length ≤ j by simpa using h)] at hj
    rcases hc with hc | ⟨b, off, e, hc⟩
    · subst hc; simp at hjl
    · cases e
      have := hc j hjl
      simp [hjl] at hj
      subst hj
      by_cases hj0 : j = 0
      · subst hj0; simpa [Addr.add, hjl] using this
      · simpa [Addr.add, hj0, hjl] using this) (by
    intro u hu
    simp at hu
    obtain ⟨y, _, rfl⟩ := hu
    rfl) (by unfold maxLen; omega) (by omega) hbase
  have h2' : w'.ownsRow base 3 1 v' (xs ++ ys).length ((xs ++ ys).map (Value.int .i64)) := by simpa using h2
  obtain ⟨ao', cap2, hsh'⟩ := owns_shape h2'
  subst hsh'
  have hfar : ∀ u zs, Ints w u zs → Apart u v → Ints w' u zs ∧ Apart u (.slice ao' (xs ++ ys).length cap2) := by
    intro u zs hu ha
    obtain ⟨au, cu, rfl, hm, hn, hcc⟩ := hu
    rcases hcc with rfl | ⟨b, off, rfl, hcc⟩
    · exact ⟨⟨au, cu, rfl, hm, hn, .inl rfl⟩, fun b off n c e hn => by injection e with _ e _; simp at e; omega⟩
    · refine ⟨⟨_, cu, rfl, hm, hn, ?_⟩, ?_⟩
      · by_cases hz : zs = []
        · exact .inl hz
        · have hp : 0 < zs.length := List.length_pos_iff.2 hz
          refine .inr ⟨b, off, rfl, fun i hi => ?_⟩
          rw [h3.cell_far ⟨b, off + i, none⟩ (World.block_lt_of_cell? w _ (hcc i hi)) (fun e => ha b off _ _ rfl hp e.symm)]
          exact hcc i hi
      · intro b' off' n' c' e hn' hb'
        injection e with e e2 e3
        injection e with e
        injection e with e _ _
        subst e e2
        have hlt := World.block_lt_of_cell? w _ (hcc 0 hn')
        rcases h5 with h5 | h5
        · exact ha b off _ _ rfl hn' (h5 ▸ hb')
        · rw [h5] at hb'
          injection hb' with hb'
          simp at hlt
          omega
  unfold Oper.wp execOp
  simp only [ho, resolve, invoke, builtin, Sem.run_bind, Sem.run_pure, Result.andThen_ok, List.map_toArray, List.map_cons, List.map_nil, hs, hx, hr]
  exact hK _ _ (h ao' cap2 w' h2' ((Below.refl _ _).grown h3 hbase (fun k hk => (hown.lt k hk).1)) hfar)
end Go.Proofs.Ytpjhcecfcjbgoaa
