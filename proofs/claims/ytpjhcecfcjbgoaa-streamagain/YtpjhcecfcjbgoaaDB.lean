/- The contract of a decoder's tell where signs are shifted, and of tell whatever the encoding. What was there below its own block is as it was. -/
import Derived.Test.YtpjhcecfcjbgoaaDA
import Derived.Test.YtpjhcecfcjbgoaaKG
namespace Go.Proofs.Ytpjhcecfcjbgoaa
open Go.RowKit
set_option linter.unusedVariables false

theorem append_keep {w : World} {ops : Array Oper} {rest : List Oper} {o : Oper} {a : Act} {Q : Exit → Act → World → Prop} (hw : Region.wanted o (yielded ops a.tmps) = true) (s x : Operand)
    (ho : o.op = .call { callee := .builtin .append, args := #[s, x], argTypes := #[28, 28] }) (base : Nat) (v : Value) (xs : List Int) (hs : a.eval s = v)
    (hown : w.ownsRow base 3 1 v xs.length (xs.map (Value.int .i64))) (u : Value) (ys : List Int) (hx : a.eval x = u) (hI : Ints w u ys) (hlen : xs.length + ys.length ≤ 100000) (hbase : base ≤ w.heap.size)
    (h : ∀ ao cap w', w'.ownsRow base 3 1 (.slice ao (xs ++ ys).length cap) (xs ++ ys).length ((xs ++ ys).map (Value.int .i64)) → Below base w w' → (∀ b k, b < w.heap.size → v.ownBlock ≠ some b → w'.cell? ⟨b, k, none⟩ = w.cell? ⟨b, k, none⟩) →
      wpList Try.prog ops Q rest (a.put o.dst (.slice ao (xs ++ ys).length cap)) w') : wpList Try.prog ops Q (o :: rest) a w := by
  obtain ⟨i0, hi, hz0, hz1, hz2⟩ := info_parts info3
  obtain ⟨ao, cap, rfl, hm, hn, hc⟩ := hI
  refine BigFrame.wpList_want hw fun K hK => ?_
  cases ao with
  | none =>
    have hy : ys = [] := by
      rcases hc with hc | ⟨b, off, e, _⟩
      · exact hc
      · cases e
    subst hy
    have hcap := hn rfl
    subst hcap
    have hrun := run_append_owned_none (P := Try.prog) (w := w) base 28 o.type 3 i0 1 Try.underlying28 hi v _ _ hown
    obtain ⟨ao, cap, hsh⟩ := owns_shape hown
    have hK' := hK _ _ (h ao cap w (by rw [List.append_nil, ← hsh]; exact hown) (Below.refl _ _) (fun _ _ _ _ => rfl))
    rw [List.append_nil, ← hsh] at hK'
    unfold Oper.wp
    simp only [List.length_nil] at hx
    simp [execOp, ho, resolve, invoke, builtin, hs, hx, hrun, Result.andThen]
    exact hK'
  | some ad =>
    refine wp_append_own w s x 28 ho base 3 i0 (.int .i64 0) 1 8 Try.underlying28 hi hz0 hz1 hz2 rfl (by decide) v _ _ hs hown ad ys.length cap (ys.map (Value.int .i64)) hx (by simp) ?_ ?_ (by unfold maxLen; omega) (by omega) hbase ?_
    · intro j u hj
      have hjl : j < ys.length := by
        rcases Nat.lt_or_ge j ys.length with h | h
        · exact h
        · simp [List.getElem?_eq_none (show (ys.map (Value.int .i64)).length ≤ j by simpa using h)] at hj
      rcases hc with hc | ⟨b, off, e, hc⟩
      · subst hc; simp at hjl
      · cases e
        have := hc j hjl
        simp [hjl] at hj
        subst hj
        by_cases hj0 : j = 0
        · subst hj0; simpa [Addr.add, hjl] using this
        · simpa [Addr.add, hj0, hjl] using this
    · intro u hu
      simp at hu
      obtain ⟨y, _, rfl⟩ := hu
      rfl
    · intro v' w' h1 h2 _
      have h1' : w'.ownsRow base 3 1 v' (xs ++ ys).length ((xs ++ ys).map (Value.int .i64)) := by simpa using h1
      obtain ⟨ao', cap', hsh⟩ := owns_shape h1'
      subst hsh
      exact hK _ _ (h ao' cap' w' h1' ((Below.refl _ _).grown h2 hbase (fun k hk => (hown.lt k hk).1)) (fun b k hb hne => h2.cell_far ⟨b, k, none⟩ hb (fun e => hne e.symm)))
theorem tot_few : ∀ (n : Nat) (l : List Int) (h : Int × Bool), l.length ≤ n → (M.Tot M.gk h l).1.length ≤ l.length
  | 0, l, h, hl => by
    have : l = [] := List.eq_nil_of_length_eq_zero (by omega)
    subst this; simp [M.Tot_nil]
  | n + 1, l, h, hl => by
    by_cases h0 : l = []
    · subst h0; simp [M.Tot_nil]
    · have hs := M.gk_size h l h0
      have hf := gk_few h l
      rw [M.Tot_step M.gk_size (s' := (M.gk h l).2.2) (o := (M.gk h l).1) (k := (M.gk h l).2.1) h0 rfl]
      have := tot_few n (l.drop (M.gk h l).2.1) (M.gk h l).2.2 (by simp; omega)
      simp only [List.length_append]
      rw [List.length_drop] at this
      omega
set_option maxHeartbeats 3000000 in
set_option maxRecDepth 100000 in
theorem tell_kana (D : Nat) (r : ByteArray) (t : M.St) (xs : List Int) (s : ByteArray) (w : World) (hg : M.Sg t.1) (hs : s.size ≤ 3003) (hx : xs.length ≤ 20000) (hD : Dl D 6 r t xs w) :
    Calls Try.prog 22 #[.pointer (some ⟨D, 0, none⟩), .string s] w fun e' w' => e' = .returned (.tuple #[]) ∧ Told D 6 r t xs (bl s) w w' := by
  obtain ⟨g, fr, st⟩ := t
  have H := fun w => tell_own g fr s w hg hs
  obtain ⟨L, g2, fr2, hT⟩ : ∃ L g2 fr2, M.Tot M.gk (g, fr) (bl s) = (L, (g2, fr2)) := ⟨_, _, _, rfl⟩
  have hll : L.length ≤ 3003 := by
    have := tot_few s.size (bl s) (g, fr) (by rw [bl_len]; exact Nat.le_refl _)
    rw [hT, bl_len] at this
    exact Nat.le_trans this hs
  have HE : Hid (M.TE 6 (g, fr, st) (bl s) = (L, (g2, fr2, st))) := hide (by rw [M.TE_K]; show ((M.Tot M.gk (g, fr) (bl s)).1, _, _, st) = _; rw [hT])
  rw [hT] at H
  obtain ⟨v, hC, ho⟩ := hD
  have HC := hide hC
  obtain ⟨c0, c1, c2, c3, c4, c5, f0, f1, f2, f3, f4, f5⟩ := hC
  have hDs : D < w.heap.size := World.block_lt_of_cell? w _ c0
  obtain ⟨ao, cap, hsh⟩ := owns_shape ho
  subst hsh
  have HO := hide ho
  clear ho hT hg
  go_enter Try.func22, Try.ntmps22
  go_wp2_with fail
  go_region_law ((go_simp; go_at_call 31; refine (H _).mono ?_; rintro e' w1 ⟨u, rfl, hI, hb⟩; obtain ⟨au, cu, hsu⟩ := owns_shape hI; subst hsu; (first
      | (have HW : Hid (Below w.heap.size w w1) := hide ((below_drewN (Below.refl _ w) 1).trans hb); have HI : Hid (w1.ownsRow w.heap.size 3 1 (.slice au L.length cu) L.length (L.map (Value.int .i64))) := hide hI)
      | (have HW : Hid (Below w.heap.size w w1) := hide ((below_drewN ((Below.refl _ w).alloc (Nat.le_refl _) _) 1).trans (hb.mono (by simp))); have HI : Hid (w1.ownsRow (w.heap.size + 1) 3 1 (.slice au L.length cu) L.length (L.map (Value.int .i64))) := hide (by simpa using hI); have q0 : w1.cell? ⟨w.heap.size, 0, none⟩ = some (.int .i64 0) := (hb.cell (p := ⟨w.heap.size, 0, none⟩) (by simp)).trans (by simp [go_sem]); have q1 : w1.cell? ⟨w.heap.size, 1, none⟩ = some (.bool false) := (hb.cell (p := ⟨w.heap.size, 1, none⟩) (by simp)).trans (by simp [go_sem]); have r0 : w1.frozen? ⟨w.heap.size, 0, none⟩ = false := (hb.frozen (p := ⟨w.heap.size, 0, none⟩) (by simp)).trans (by simp [go_sem]); have r1 : w1.frozen? ⟨w.heap.size, 1, none⟩ = false := (hb.frozen (p := ⟨w.heap.size, 1, none⟩) (by simp)).trans (by simp [go_sem]); have hq : w.heap.size < w1.heap.size := World.block_lt_of_cell? w1 _ q0)); clear hI hb))
  all_goals first
    | (skip
       have y0 : ((w1.setCell { block := w.heap.size, off := 0 } (Value.int IntKind.i64 g2)).setCell { block := w.heap.size, off := 1 } (Value.bool fr2)).cell? ⟨w.heap.size, 0, none⟩ = some (.int .i64 g2) := (World.cell?_setCell_other _ _ _ _ (by simp)).trans (World.cell?_setCell_same _ _ _ q0)
       have y1 : ((w1.setCell { block := w.heap.size, off := 0 } (Value.int IntKind.i64 g2)).setCell { block := w.heap.size, off := 1 } (Value.bool fr2)).cell? ⟨w.heap.size, 1, none⟩ = some (.bool fr2) := World.cell?_setCell_same _ _ _ ((World.cell?_setCell_other _ _ _ _ (by simp)).trans q1)
       have HX : Hid (Below w.heap.size w ((w1.setCell { block := w.heap.size, off := 0 } (Value.int IntKind.i64 g2)).setCell { block := w.heap.size, off := 1 } (Value.bool fr2))) := hide (bset (bset (unhide HW) ⟨w.heap.size, 0, none⟩ _ (Nat.le_refl _)) ⟨w.heap.size, 1, none⟩ _ (Nat.le_refl _))
       have HIX : Hid (Ints ((w1.setCell { block := w.heap.size, off := 0 } (Value.int IntKind.i64 g2)).setCell { block := w.heap.size, off := 1 } (Value.bool fr2)) (.slice au L.length cu) L) := hide (Ints.of_owns (owns_set (owns_set (unhide HI) ⟨w.heap.size, 0, none⟩ (Nat.lt_succ_self _) _) ⟨w.heap.size, 1, none⟩ (Nat.lt_succ_self _) _))
       have hBX : w.heap.size < ((w1.setCell { block := w.heap.size, off := 0 } (Value.int IntKind.i64 g2)).setCell { block := w.heap.size, off := 1 } (Value.bool fr2)).heap.size := World.block_lt_of_cell? _ _ y0
       generalize ((w1.setCell { block := w.heap.size, off := 0 } (Value.int IntKind.i64 g2)).setCell { block := w.heap.size, off := 1 } (Value.bool fr2)) = X at *
       have HCX := hide ((unhide HC).below ((unhide HX).mono hDs))
       have HOX := hide (owns_below (unhide HO) (unhide HX))
       have hne : (Value.slice ao xs.length cap).ownBlock ≠ some w.heap.size := fun h => by have h1 := owns_lt (unhide HO) _ h; have h2 := (unhide HW).size; omega
       have hzX := (unhide HX).size
       obtain ⟨d0, d1, d2, d3, d4, d5, k0, k1, k2, k3, k4, k5⟩ := unhide HCX
       go_wp2_with (at_builtin; refine append_keep rfl (.tmp 54) (.tmp 55) rfl (D + 1) _ xs rfl (unhide HOX) _ L rfl (unhide HIX) (by omega) (by omega) ?_)
       intro ao2 cap2 w2 ho2 hb2 hk2
       have HC2 := hide ((unhide HCX).below hb2)
       have HO2 : Hid (w2.ownsRow (D + 1) 3 1 (.slice ao2 (xs.length + L.length) cap2) (xs ++ L).length ((xs ++ L).map (Value.int .i64))) := hide (by simpa using ho2)
       have HB2 := hide (((unhide HX).mono (Nat.le_of_lt hDs)).trans (hb2.mono (Nat.le_succ D)))
       have z0 : w2.cell? ⟨w.heap.size, 0, none⟩ = some (.int .i64 g2) := (hk2 w.heap.size 0 hBX hne).trans y0
       have z1 : w2.cell? ⟨w.heap.size, 1, none⟩ = some (.bool fr2) := (hk2 w.heap.size 1 hBX hne).trans y1
       have hDB : D ≠ w.heap.size := by have h2 := (unhide HW).size; omega
       have hDB' : ¬ w.heap.size = D := fun h => hDB h.symm
       obtain ⟨i0, i1, i2, i3, i4, i5, j0, j1, j2, j3, j4, j5⟩ := unhide HC2
       have hD2 : D < w2.heap.size := World.block_lt_of_cell? w2 _ i0
       have hB2 : w.heap.size < w2.heap.size := World.block_lt_of_cell? w2 _ z0
       clear ho2 hb2 hk2 y0 y1 hne
       go_wp2_with fail
       go_region
       all_goals
         go_wp2_with fail
         go_end0
         refine ⟨rfl, ⟨_, by rw [unhide HE]; exact (((((unhide HC2).set5 _).set2 _).set3 _).below (below_drewN (Below.refl _ _) 1)), ?_⟩, below_drewN (bset (bset (bset (unhide HB2) ⟨D, 5, none⟩ _ (Nat.le_refl _)) ⟨D, 2, none⟩ _ (Nat.le_refl _)) ⟨D, 3, none⟩ _ (Nat.le_refl _)) 1⟩
         rw [unhide HE]
         exact owns_below (owns_set (owns_set (owns_set (unhide HO2) ⟨D, 5, none⟩ (Nat.lt_succ_self _) _) ⟨D, 2, none⟩ (Nat.lt_succ_self _) _) ⟨D, 3, none⟩ (Nat.lt_succ_self _) _) (below_drewN (Below.refl _ _) 1))
    | (skip
       have y0 : (w1.alloc (Obj.cells #[Value.int IntKind.i64 g2, Value.bool fr2] 56)).cell? ⟨w1.heap.size, 0, none⟩ = some (.int .i64 g2) := by simp [go_sem]
       have y1 : (w1.alloc (Obj.cells #[Value.int IntKind.i64 g2, Value.bool fr2] 56)).cell? ⟨w1.heap.size, 1, none⟩ = some (.bool fr2) := by simp [go_sem]
       have HX : Hid (Below w.heap.size w (w1.alloc (Obj.cells #[Value.int IntKind.i64 g2, Value.bool fr2] 56))) := hide (bstep (unhide HW) (balloc _ _))
       have HIX : Hid (Ints (w1.alloc (Obj.cells #[Value.int IntKind.i64 g2, Value.bool fr2] 56)) (.slice au L.length cu) L) := hide ((Ints.of_owns (unhide HI)).below (balloc _ _))
       have hBX : w1.heap.size < (w1.alloc (Obj.cells #[Value.int IntKind.i64 g2, Value.bool fr2] 56)).heap.size := by simp
       generalize w1.alloc (Obj.cells #[Value.int IntKind.i64 g2, Value.bool fr2] 56) = X at *
       have HCX := hide ((unhide HC).below ((unhide HX).mono hDs))
       have HOX := hide (owns_below (unhide HO) (unhide HX))
       have hne : (Value.slice ao xs.length cap).ownBlock ≠ some w1.heap.size := fun h => by have h1 := owns_lt (unhide HO) _ h; have h2 := (unhide HW).size; omega
       have hzX := (unhide HX).size
       obtain ⟨d0, d1, d2, d3, d4, d5, k0, k1, k2, k3, k4, k5⟩ := unhide HCX
       go_wp2_with (at_builtin; refine append_keep rfl (.tmp 54) (.tmp 55) rfl (D + 1) _ xs rfl (unhide HOX) _ L rfl (unhide HIX) (by omega) (by omega) ?_)
       intro ao2 cap2 w2 ho2 hb2 hk2
       have HC2 := hide ((unhide HCX).below hb2)
       have HO2 : Hid (w2.ownsRow (D + 1) 3 1 (.slice ao2 (xs.length + L.length) cap2) (xs ++ L).length ((xs ++ L).map (Value.int .i64))) := hide (by simpa using ho2)
       have HB2 := hide (((unhide HX).mono (Nat.le_of_lt hDs)).trans (hb2.mono (Nat.le_succ D)))
       have z0 : w2.cell? ⟨w1.heap.size, 0, none⟩ = some (.int .i64 g2) := (hk2 w1.heap.size 0 hBX hne).trans y0
       have z1 : w2.cell? ⟨w1.heap.size, 1, none⟩ = some (.bool fr2) := (hk2 w1.heap.size 1 hBX hne).trans y1
       have hDB : D ≠ w1.heap.size := by have h2 := (unhide HW).size; omega
       have hDB' : ¬ w1.heap.size = D := fun h => hDB h.symm
       obtain ⟨i0, i1, i2, i3, i4, i5, j0, j1, j2, j3, j4, j5⟩ := unhide HC2
       have hD2 : D < w2.heap.size := World.block_lt_of_cell? w2 _ i0
       have hB2 : w1.heap.size < w2.heap.size := World.block_lt_of_cell? w2 _ z0
       clear ho2 hb2 hk2 y0 y1 hne
       go_wp2_with fail
       go_region
       all_goals
         go_wp2_with fail
         go_end0
         refine ⟨rfl, ⟨_, by rw [unhide HE]; exact (((((unhide HC2).set5 _).set2 _).set3 _).below (below_drewN (Below.refl _ _) 1)), ?_⟩, below_drewN (bset (bset (bset (unhide HB2) ⟨D, 5, none⟩ _ (Nat.le_refl _)) ⟨D, 2, none⟩ _ (Nat.le_refl _)) ⟨D, 3, none⟩ _ (Nat.le_refl _)) 1⟩
         rw [unhide HE]
         exact owns_below (owns_set (owns_set (owns_set (unhide HO2) ⟨D, 5, none⟩ (Nat.lt_succ_self _) _) ⟨D, 2, none⟩ (Nat.lt_succ_self _) _) ⟨D, 3, none⟩ (Nat.lt_succ_self _) _) (below_drewN (Below.refl _ _) 1))
end Go.Proofs.Ytpjhcecfcjbgoaa
