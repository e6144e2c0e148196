/- The contracts of shift's teller: next tells what stands at the beginning of a text, and Tell a whole text, from whatever signs; kana.Decode. What was there below the teller's own block is as it was. -/
import Derived.Test.YtpjhcecfcjbgoaaKA
import Derived.Deep.RegionHeld3
import Derived.Deep.AppendLies
import Derived.Deep.RegionLaw
namespace Go.Proofs.Ytpjhcecfcjbgoaa
open Go.RowKit
set_option linter.unusedVariables false

/-- An append of integers, at an operation. -/
theorem wp_append_ints {w : World} {o : Oper} {a : Act} {K : Act → World → Prop} {Q : Exit → Act → World → Prop} (s x : Operand)
    (ho : o.op = .call { callee := .builtin .append, args := #[s, x], argTypes := #[28, 28] }) (base : Nat) (v : Value) (xs : List Int) (hs : a.eval s = v)
    (hown : w.ownsRow base 3 1 v xs.length (xs.map (Value.int .i64))) (u : Value) (ys : List Int) (hx : a.eval x = u) (hI : Ints w u ys) (hlen : xs.length + ys.length ≤ 100000) (hbase : base ≤ w.heap.size)
    (h : ∀ ao cap w', w'.ownsRow base 3 1 (.slice ao (xs ++ ys).length cap) (xs ++ ys).length ((xs ++ ys).map (Value.int .i64)) → Below base w w' → K (a.put o.dst (.slice ao (xs ++ ys).length cap)) w') : o.wp Try.prog a w K Q := by
  obtain ⟨i0, hi, hz0, hz1, hz2⟩ := info_parts info3
  obtain ⟨ao, cap, rfl, hm, hn, hc⟩ := hI
  cases ao with
  | none =>
    have hy : ys = [] := by
      rcases hc with hc | ⟨b, off, e, _⟩
      · exact hc
      · cases e
    subst hy
    have hcap := hn rfl
    subst hcap
    have hrun := run_append_owned_none (P := Try.prog) (w := w) base 28 o.type 3 i0 1 Try.underlying28 hi v _ _ hown
    obtain ⟨ao, cap, hsh⟩ := owns_shape hown
    have hK' := h ao cap w (by rw [List.append_nil, ← hsh]; exact hown) (Below.refl _ _)
    rw [List.append_nil, ← hsh] at hK'
    unfold Oper.wp
    simp only [List.length_nil] at hx
    simp [execOp, ho, resolve, invoke, builtin, hs, hx, hrun, Result.andThen]
    exact hK'
  | some ad =>
    refine wp_append_own w s x 28 ho base 3 i0 (.int .i64 0) 1 8 Try.underlying28 hi hz0 hz1 hz2 rfl (by decide) v _ _ hs hown ad ys.length cap (ys.map (Value.int .i64)) hx (by simp) ?_ ?_ (by unfold maxLen; omega) (by omega) hbase ?_
    · intro j u hj
      have hjl : j < ys.length := by
        rcases Nat.lt_or_ge j ys.length with h | h
        · exact h
        · simp [List.getElem?_eq_none (show (ys.map (Value.int .i64)).length ≤ j by simpa using h)] at hj
      rcases hc with hc | ⟨b, off, e, hc⟩
      · subst hc; simp at hjl
      · cases e
        have := hc j hjl
        simp [hjl] at hj
        subst hj
        by_cases hj0 : j = 0
        · subst hj0; simpa [Addr.add, hjl] using this
        · simpa [Addr.add, hj0, hjl] using this
    · intro u hu
      simp at hu
      obtain ⟨y, _, rfl⟩ := hu
      rfl
    · intro v' w' h1 h2 _
      have h1' : w'.ownsRow base 3 1 v' (xs ++ ys).length ((xs ++ ys).map (Value.int .i64)) := by simpa using h1
      obtain ⟨ao', cap', hsh⟩ := owns_shape h1'
      subst hsh
      exact h ao' cap' w' h1' ((Below.refl _ _).grown h2 hbase (fun k hk => (hown.lt k hk).1))
/-- The same, at a step of a region that draws its order. -/
theorem step_append_ints {w : World} {ops : Array Oper} {o : Oper} {a : Act} {K : Act → World → Prop} {Q : Exit → Act → World → Prop} {E : Prop} (hgd : o.guard = none) (s x : Operand)
    (ho : o.op = .call { callee := .builtin .append, args := #[s, x], argTypes := #[28, 28] }) (base : Nat) (v : Value) (xs : List Int) (hs : a.eval s = v)
    (hown : w.ownsRow base 3 1 v xs.length (xs.map (Value.int .i64))) (u : Value) (ys : List Int) (hx : a.eval x = u) (hI : Ints w u ys) (hlen : xs.length + ys.length ≤ 100000) (hbase : base ≤ w.heap.size)
    (h : ∀ ao cap w', w'.ownsRow base 3 1 (.slice ao (xs ++ ys).length cap) (xs ++ ys).length ((xs ++ ys).map (Value.int .i64)) → Below base w w' → K (a.put o.dst (.slice ao (xs ++ ys).length cap)) w') :
    if Region.wanted o (yielded ops a.tmps) = true then Oper.wp Try.prog o a w K Q else E := by
  have hw : Region.wanted o (yielded ops a.tmps) = true := by simp [Region.wanted, hgd]
  rw [if_pos hw]
  exact wp_append_ints s x ho base v xs hs hown u ys hx hI hlen hbase h
theorem Ints.drewN {w : World} {v : Value} {xs : List Int} (h : Ints w v xs) (n : Nat) : Ints (w.drewN n) v xs := h.below (below_drewN (Below.refl _ _) n)
theorem Ints.drew {w : World} {v : Value} {xs : List Int} (h : Ints w v xs) : Ints w.drew v xs := h.drewN 1

theorem fz_ad {w : World} (o : Obj) {D k : Nat} (hD : D < w.heap.size) (h : w.frozen? ⟨D, k, none⟩ = false) : (w.alloc o).drew.frozen? ⟨D, k, none⟩ = false :=
  ((below_drewN (balloc w o) 1).frozen (p := ⟨D, k, none⟩) hD).trans h
theorem cl_ad {w : World} (o : Obj) {D k : Nat} {x : Value} (hD : D < w.heap.size) (h : w.cell? ⟨D, k, none⟩ = some x) : (w.alloc o).drew.cell? ⟨D, k, none⟩ = some x :=
  ((below_drewN (balloc w o) 1).cell (p := ⟨D, k, none⟩) hD).trans h
theorem owns_set {w : World} {base e size n : Nat} {v : Value} {xs : List Value} (h : w.ownsRow base e size v n xs) (a : Addr) (ha : a.block < base) (u : Value) : (w.setCell a u).ownsRow base e size v n xs := by
  refine ⟨h.1, ?_⟩
  rcases h.2 with hn | ⟨g, cap, cur, rfl, hg, hh, rest⟩
  · exact .inl hn
  · refine .inr ⟨g, cap, cur, rfl, hg, ?_, rest⟩
    rw [Below.heap_setCell _ _ _ _ (by omega)]; exact hh
/-- A teller's cells: its signs, whether an escape stood just ahead, the slice of what it has told. -/
structure Tc (D : Nat) (g : Int) (fr : Bool) (v : Value) (w : World) : Prop where
  c0 : w.cell? ⟨D, 0, none⟩ = some (.int .i64 g)
  c1 : w.cell? ⟨D, 1, none⟩ = some (.bool fr)
  c2 : w.cell? ⟨D, 2, none⟩ = some v
  f0 : w.frozen? ⟨D, 0, none⟩ = false
  f1 : w.frozen? ⟨D, 1, none⟩ = false
  f2 : w.frozen? ⟨D, 2, none⟩ = false
theorem Tc.lt {D : Nat} {g : Int} {fr : Bool} {v : Value} {w : World} (h : Tc D g fr v w) : D < w.heap.size := World.block_lt_of_cell? w _ h.c0
theorem Tc.below {D : Nat} {g : Int} {fr : Bool} {v : Value} {w w2 : World} (h : Tc D g fr v w) (hb : Below (D + 1) w w2) : Tc D g fr v w2 where
  c0 := (hb.cell (p := ⟨D, 0, none⟩) (Nat.lt_succ_self _)).trans h.c0
  c1 := (hb.cell (p := ⟨D, 1, none⟩) (Nat.lt_succ_self _)).trans h.c1
  c2 := (hb.cell (p := ⟨D, 2, none⟩) (Nat.lt_succ_self _)).trans h.c2
  f0 := (hb.frozen (p := ⟨D, 0, none⟩) (Nat.lt_succ_self _)).trans h.f0
  f1 := (hb.frozen (p := ⟨D, 1, none⟩) (Nat.lt_succ_self _)).trans h.f1
  f2 := (hb.frozen (p := ⟨D, 2, none⟩) (Nat.lt_succ_self _)).trans h.f2
theorem Tc.set0 {D : Nat} {g : Int} {fr : Bool} {v : Value} {w : World} (h : Tc D g fr v w) (x : Int) : Tc D x fr v (w.setCell ⟨D, 0, none⟩ (.int .i64 x)) where
  c0 := World.cell?_setCell_same _ _ _ h.c0
  c1 := (World.cell?_setCell_other _ _ _ _ (by simp)).trans h.c1
  c2 := (World.cell?_setCell_other _ _ _ _ (by simp)).trans h.c2
  f0 := by rw [World.frozen?_setCell]; exact h.f0
  f1 := by rw [World.frozen?_setCell]; exact h.f1
  f2 := by rw [World.frozen?_setCell]; exact h.f2
theorem Tc.set1 {D : Nat} {g : Int} {fr : Bool} {v : Value} {w : World} (h : Tc D g fr v w) (x : Bool) : Tc D g x v (w.setCell ⟨D, 1, none⟩ (.bool x)) where
  c0 := (World.cell?_setCell_other _ _ _ _ (by simp)).trans h.c0
  c1 := World.cell?_setCell_same _ _ _ h.c1
  c2 := (World.cell?_setCell_other _ _ _ _ (by simp)).trans h.c2
  f0 := by rw [World.frozen?_setCell]; exact h.f0
  f1 := by rw [World.frozen?_setCell]; exact h.f1
  f2 := by rw [World.frozen?_setCell]; exact h.f2
theorem Tc.set2 {D : Nat} {g : Int} {fr : Bool} {v : Value} {w : World} (h : Tc D g fr v w) (x : Value) : Tc D g fr x (w.setCell ⟨D, 2, none⟩ x) where
  c0 := (World.cell?_setCell_other _ _ _ _ (by simp)).trans h.c0
  c1 := (World.cell?_setCell_other _ _ _ _ (by simp)).trans h.c1
  c2 := World.cell?_setCell_same _ _ _ h.c2
  f0 := by rw [World.frozen?_setCell]; exact h.f0
  f1 := by rw [World.frozen?_setCell]; exact h.f1
  f2 := by rw [World.frozen?_setCell]; exact h.f2
/-- A teller in memory: its cells, and the row of what it has told, all of it behind its own block. -/
def Tl (D : Nat) (g : Int) (fr : Bool) (xs : List Int) (v : Value) (w : World) : Prop := Tc D g fr v w ∧ w.ownsRow (D + 1) 3 1 v xs.length (xs.map (Value.int .i64))
theorem bset {B : Nat} {a w : World} (h : Below B a w) (p : Addr) (u : Value) (hp : B ≤ p.block) : Below B a (w.setCell p u) := h.setCell hp u

set_option maxHeartbeats 800000 in
set_option maxRecDepth 100000 in
theorem next_sign (D : Nat) (g : Int) (fr : Bool) (xs : List Int) (v : Value) (s : ByteArray) (w : World) (hg : M.Sg g) (h0 : 0 < s.size) (hs : s.size ≤ 3003) (hx : xs.length ≤ 50000) (hT : Tl D g fr xs v w) (he : M.kesc (bl s) = none) :
    Calls Try.prog 45 #[.pointer (some ⟨D, 0, none⟩), .string s] w fun e w' => ∃ v', e = .returned (.int .i64 1) ∧ Tl D g false (xs ++ [M.kpt g (s[0].toNat : Int)]) v' w' ∧ Below D w w' := by
  have hr : ∀ w : World, Calls Try.prog 52 #[.string s] w fun e w' => (∃ q, e = .returned (.tuple #[.int .i64 q, .bool false])) ∧ w' = w := fun w =>
    (readEscape_any s w (by unfold maxLen; omega)).mono fun e w' h => by
      obtain ⟨⟨q, h1, _⟩, h2⟩ := h
      rw [he] at h1
      exact ⟨⟨q, h1⟩, h2⟩
  have hc := s[0].toNat_lt
  obtain ⟨p, HP⟩ : ∃ p, Hid (M.kpt g (s[0].toNat : Int) = p) := ⟨_, hide rfl⟩
  have hpo : ∀ w : World, Calls Try.prog 53 #[.int .i64 g, .int .u8 (s[0].toNat : Int)] w fun e w' => e = .returned (.int .i64 p) ∧ w' = w := fun w => by
    have := pointOf_any g (s[0].toNat : Int) hg (by omega) (by omega) w
    rwa [unhide HP] at this
  obtain ⟨hT, ho⟩ := hT
  have HT := hide hT
  obtain ⟨c0, c1, c2, f0, f1, f2⟩ := hT
  have hD := World.block_lt_of_cell? w _ c0
  have hDs : D < w.heap.size := hD
  obtain ⟨ao, cap, hsh⟩ := owns_shape ho
  subst hsh
  have HO := hide ho
  clear he hc
  rw [unhide HP]
  go_enter Try.func45, Try.ntmps45
  go_wp2_with fail
  refine (hr _).mono ?_
  rintro e w1 ⟨⟨q, rfl⟩, hw⟩
  replace hw := hw.symm
  subst hw
  clear hr ho
  go_wp2_with fail
  go_region_law ((first
      | (refine step_append_ints (by rfl) _ _ (by rfl) (D + 1) _ xs (by rfl) (((unhide HO).alloc _).drew) _ [p] (by rfl) ((one_int _ _).drew) (by simp; omega) (by simp; omega) ?_; intro ao2 cap2 w2 ho2 hb2; have hf2 : w2.frozen? ⟨D, 2, none⟩ = false := (hb2.frozen (p := ⟨D, 2, none⟩) (Nat.lt_succ_self _)).trans (fz_ad _ hDs f2); have hc2 : w2.cell? ⟨D, 2, none⟩ = some (.slice ao xs.length cap) := (hb2.cell (p := ⟨D, 2, none⟩) (Nat.lt_succ_self _)).trans (cl_ad _ hDs c2))
      | (go_simp; go_at_call 53; refine (hpo _).mono ?_; rintro e w1 ⟨rfl, hw⟩; replace hw := hw.symm; subst hw)))
  all_goals
    have HO2 := hide ho2
    have HT2 := hide ((unhide HT).below ((below_drewN ((Below.refl _ _).alloc (show D + 1 ≤ w.heap.size from hDs) _) 1).trans hb2))
    have HB2 := hide ((below_drewN ((Below.refl D w).alloc (Nat.le_of_lt hDs) _) 1).trans (hb2.mono (Nat.le_succ D)))
    have hc1 := (unhide HT2).c1
    have hf1 := (unhide HT2).f1
    clear ho2 hb2
    go_wp2_with fail
    go_ret
    exact ⟨_, rfl, ⟨((unhide HT2).set2 _).set1 false, by simpa using owns_set (owns_set (unhide HO2) ⟨D, 2, none⟩ (Nat.lt_succ_self _) _) ⟨D, 1, none⟩ (Nat.lt_succ_self _) _⟩, bset (bset (unhide HB2) ⟨D, 2, none⟩ _ (Nat.le_refl _)) ⟨D, 1, none⟩ _ (Nat.le_refl _)⟩
end Go.Proofs.Ytpjhcecfcjbgoaa
