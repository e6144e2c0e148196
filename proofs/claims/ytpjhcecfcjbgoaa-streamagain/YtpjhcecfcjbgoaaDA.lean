/- A decoder of streams in memory, and the contract of its tell: what it has told, and its state then, by the plain function; what was there below its own block is as it was. -/
import Derived.Test.YtpjhcecfcjbgoaaSY
import Derived.Test.YtpjhcecfcjbgoaaLC
import Derived.Deep.RegionLaw
namespace Go.Proofs.Ytpjhcecfcjbgoaa
open Go.RowKit
set_option linter.unusedVariables false

/-- A decoder's cells: its encoding, what waits, signs, whether an escape stood just ahead, whether it has stopped, the slice of what it has told. -/
structure Dc (D : Nat) (e : Int) (r : ByteArray) (g : Int) (fr st : Bool) (v : Value) (w : World) : Prop where
  c0 : w.cell? ⟨D, 0, none⟩ = some (.int .i64 e)
  c1 : w.cell? ⟨D, 1, none⟩ = some (.string r)
  c2 : w.cell? ⟨D, 2, none⟩ = some (.int .i64 g)
  c3 : w.cell? ⟨D, 3, none⟩ = some (.bool fr)
  c4 : w.cell? ⟨D, 4, none⟩ = some (.bool st)
  c5 : w.cell? ⟨D, 5, none⟩ = some v
  f0 : w.frozen? ⟨D, 0, none⟩ = false
  f1 : w.frozen? ⟨D, 1, none⟩ = false
  f2 : w.frozen? ⟨D, 2, none⟩ = false
  f3 : w.frozen? ⟨D, 3, none⟩ = false
  f4 : w.frozen? ⟨D, 4, none⟩ = false
  f5 : w.frozen? ⟨D, 5, none⟩ = false
theorem Dc.lt {D : Nat} {e : Int} {r : ByteArray} {g : Int} {fr st : Bool} {v : Value} {w : World} (h : Dc D e r g fr st v w) : D < w.heap.size := World.block_lt_of_cell? w _ h.c0
theorem Dc.below {D : Nat} {e : Int} {r : ByteArray} {g : Int} {fr st : Bool} {v : Value} {w : World} {w2 : World} (h : Dc D e r g fr st v w) (hb : Below (D + 1) w w2) : Dc D e r g fr st v w2 where
  c0 := (hb.cell (p := ⟨D, 0, none⟩) (Nat.lt_succ_self _)).trans h.c0
  c1 := (hb.cell (p := ⟨D, 1, none⟩) (Nat.lt_succ_self _)).trans h.c1
  c2 := (hb.cell (p := ⟨D, 2, none⟩) (Nat.lt_succ_self _)).trans h.c2
  c3 := (hb.cell (p := ⟨D, 3, none⟩) (Nat.lt_succ_self _)).trans h.c3
  c4 := (hb.cell (p := ⟨D, 4, none⟩) (Nat.lt_succ_self _)).trans h.c4
  c5 := (hb.cell (p := ⟨D, 5, none⟩) (Nat.lt_succ_self _)).trans h.c5
  f0 := (hb.frozen (p := ⟨D, 0, none⟩) (Nat.lt_succ_self _)).trans h.f0
  f1 := (hb.frozen (p := ⟨D, 1, none⟩) (Nat.lt_succ_self _)).trans h.f1
  f2 := (hb.frozen (p := ⟨D, 2, none⟩) (Nat.lt_succ_self _)).trans h.f2
  f3 := (hb.frozen (p := ⟨D, 3, none⟩) (Nat.lt_succ_self _)).trans h.f3
  f4 := (hb.frozen (p := ⟨D, 4, none⟩) (Nat.lt_succ_self _)).trans h.f4
  f5 := (hb.frozen (p := ⟨D, 5, none⟩) (Nat.lt_succ_self _)).trans h.f5
theorem Dc.set0 {D : Nat} {e : Int} {r : ByteArray} {g : Int} {fr st : Bool} {v : Value} {w : World} (h : Dc D e r g fr st v w) (x : Int) : Dc D x r g fr st v (w.setCell ⟨D, 0, none⟩ (.int .i64 x)) where
  c0 := World.cell?_setCell_same _ _ _ h.c0
  c1 := (World.cell?_setCell_other _ _ _ _ (by simp)).trans h.c1
  c2 := (World.cell?_setCell_other _ _ _ _ (by simp)).trans h.c2
  c3 := (World.cell?_setCell_other _ _ _ _ (by simp)).trans h.c3
  c4 := (World.cell?_setCell_other _ _ _ _ (by simp)).trans h.c4
  c5 := (World.cell?_setCell_other _ _ _ _ (by simp)).trans h.c5
  f0 := by rw [World.frozen?_setCell]; exact h.f0
  f1 := by rw [World.frozen?_setCell]; exact h.f1
  f2 := by rw [World.frozen?_setCell]; exact h.f2
  f3 := by rw [World.frozen?_setCell]; exact h.f3
  f4 := by rw [World.frozen?_setCell]; exact h.f4
  f5 := by rw [World.frozen?_setCell]; exact h.f5
theorem Dc.set1 {D : Nat} {e : Int} {r : ByteArray} {g : Int} {fr st : Bool} {v : Value} {w : World} (h : Dc D e r g fr st v w) (x : ByteArray) : Dc D e x g fr st v (w.setCell ⟨D, 1, none⟩ (.string x)) where
  c0 := (World.cell?_setCell_other _ _ _ _ (by simp)).trans h.c0
  c1 := World.cell?_setCell_same _ _ _ h.c1
  c2 := (World.cell?_setCell_other _ _ _ _ (by simp)).trans h.c2
  c3 := (World.cell?_setCell_other _ _ _ _ (by simp)).trans h.c3
  c4 := (World.cell?_setCell_other _ _ _ _ (by simp)).trans h.c4
  c5 := (World.cell?_setCell_other _ _ _ _ (by simp)).trans h.c5
  f0 := by rw [World.frozen?_setCell]; exact h.f0
  f1 := by rw [World.frozen?_setCell]; exact h.f1
  f2 := by rw [World.frozen?_setCell]; exact h.f2
  f3 := by rw [World.frozen?_setCell]; exact h.f3
  f4 := by rw [World.frozen?_setCell]; exact h.f4
  f5 := by rw [World.frozen?_setCell]; exact h.f5
theorem Dc.set2 {D : Nat} {e : Int} {r : ByteArray} {g : Int} {fr st : Bool} {v : Value} {w : World} (h : Dc D e r g fr st v w) (x : Int) : Dc D e r x fr st v (w.setCell ⟨D, 2, none⟩ (.int .i64 x)) where
  c0 := (World.cell?_setCell_other _ _ _ _ (by simp)).trans h.c0
  c1 := (World.cell?_setCell_other _ _ _ _ (by simp)).trans h.c1
  c2 := World.cell?_setCell_same _ _ _ h.c2
  c3 := (World.cell?_setCell_other _ _ _ _ (by simp)).trans h.c3
  c4 := (World.cell?_setCell_other _ _ _ _ (by simp)).trans h.c4
  c5 := (World.cell?_setCell_other _ _ _ _ (by simp)).trans h.c5
  f0 := by rw [World.frozen?_setCell]; exact h.f0
  f1 := by rw [World.frozen?_setCell]; exact h.f1
  f2 := by rw [World.frozen?_setCell]; exact h.f2
  f3 := by rw [World.frozen?_setCell]; exact h.f3
  f4 := by rw [World.frozen?_setCell]; exact h.f4
  f5 := by rw [World.frozen?_setCell]; exact h.f5
theorem Dc.set3 {D : Nat} {e : Int} {r : ByteArray} {g : Int} {fr st : Bool} {v : Value} {w : World} (h : Dc D e r g fr st v w) (x : Bool) : Dc D e r g x st v (w.setCell ⟨D, 3, none⟩ (.bool x)) where
  c0 := (World.cell?_setCell_other _ _ _ _ (by simp)).trans h.c0
  c1 := (World.cell?_setCell_other _ _ _ _ (by simp)).trans h.c1
  c2 := (World.cell?_setCell_other _ _ _ _ (by simp)).trans h.c2
  c3 := World.cell?_setCell_same _ _ _ h.c3
  c4 := (World.cell?_setCell_other _ _ _ _ (by simp)).trans h.c4
  c5 := (World.cell?_setCell_other _ _ _ _ (by simp)).trans h.c5
  f0 := by rw [World.frozen?_setCell]; exact h.f0
  f1 := by rw [World.frozen?_setCell]; exact h.f1
  f2 := by rw [World.frozen?_setCell]; exact h.f2
  f3 := by rw [World.frozen?_setCell]; exact h.f3
  f4 := by rw [World.frozen?_setCell]; exact h.f4
  f5 := by rw [World.frozen?_setCell]; exact h.f5
theorem Dc.set4 {D : Nat} {e : Int} {r : ByteArray} {g : Int} {fr st : Bool} {v : Value} {w : World} (h : Dc D e r g fr st v w) (x : Bool) : Dc D e r g fr x v (w.setCell ⟨D, 4, none⟩ (.bool x)) where
  c0 := (World.cell?_setCell_other _ _ _ _ (by simp)).trans h.c0
  c1 := (World.cell?_setCell_other _ _ _ _ (by simp)).trans h.c1
  c2 := (World.cell?_setCell_other _ _ _ _ (by simp)).trans h.c2
  c3 := (World.cell?_setCell_other _ _ _ _ (by simp)).trans h.c3
  c4 := World.cell?_setCell_same _ _ _ h.c4
  c5 := (World.cell?_setCell_other _ _ _ _ (by simp)).trans h.c5
  f0 := by rw [World.frozen?_setCell]; exact h.f0
  f1 := by rw [World.frozen?_setCell]; exact h.f1
  f2 := by rw [World.frozen?_setCell]; exact h.f2
  f3 := by rw [World.frozen?_setCell]; exact h.f3
  f4 := by rw [World.frozen?_setCell]; exact h.f4
  f5 := by rw [World.frozen?_setCell]; exact h.f5
theorem Dc.set5 {D : Nat} {e : Int} {r : ByteArray} {g : Int} {fr st : Bool} {v : Value} {w : World} (h : Dc D e r g fr st v w) (x : Value) : Dc D e r g fr st x (w.setCell ⟨D, 5, none⟩ (x)) where
  c0 := (World.cell?_setCell_other _ _ _ _ (by simp)).trans h.c0
  c1 := (World.cell?_setCell_other _ _ _ _ (by simp)).trans h.c1
  c2 := (World.cell?_setCell_other _ _ _ _ (by simp)).trans h.c2
  c3 := (World.cell?_setCell_other _ _ _ _ (by simp)).trans h.c3
  c4 := (World.cell?_setCell_other _ _ _ _ (by simp)).trans h.c4
  c5 := World.cell?_setCell_same _ _ _ h.c5
  f0 := by rw [World.frozen?_setCell]; exact h.f0
  f1 := by rw [World.frozen?_setCell]; exact h.f1
  f2 := by rw [World.frozen?_setCell]; exact h.f2
  f3 := by rw [World.frozen?_setCell]; exact h.f3
  f4 := by rw [World.frozen?_setCell]; exact h.f4
  f5 := by rw [World.frozen?_setCell]; exact h.f5
/-- A decoder in memory: its cells, and the row of what it has told, all of it behind its own block. -/
def Dl (D : Nat) (e : Int) (r : ByteArray) (t : M.St) (xs : List Int) (w : World) : Prop := ∃ v, Dc D e r t.1 t.2.1 t.2.2 v w ∧ w.ownsRow (D + 1) 3 1 v xs.length (xs.map (Value.int .i64))
/-- What tell answers: nothing. -/
def Told (D : Nat) (e : Int) (r : ByteArray) (t : M.St) (xs : List Int) (l : List Int) (w w' : World) : Prop := Dl D e r (M.TE e t l).2 (xs ++ (M.TE e t l).1) w' ∧ Below D w w'

set_option maxHeartbeats 800000 in
set_option maxRecDepth 100000 in
theorem tell_plain (D : Nat) (e : Int) (r : ByteArray) (t : M.St) (xs : List Int) (s : ByteArray) (w : World) (he : 1 ≤ e ∧ e ≤ 5) (hs : s.size ≤ 3000) (hx : xs.length ≤ 20000) (hE : (M.TE e t (bl s)) = (M.decE e (bl s), t)) (hl : (M.decE e (bl s)).length ≤ 3000) (hD : Dl D e r t xs w) :
    Calls Try.prog 22 #[.pointer (some ⟨D, 0, none⟩), .string s] w fun e' w' => e' = .returned (.tuple #[]) ∧ Told D e r t xs (bl s) w w' := by
  obtain ⟨v, hC, ho⟩ := hD
  have HC := hide hC
  obtain ⟨c0, c1, c2, c3, c4, c5, f0, f1, f2, f3, f4, f5⟩ := hC
  have hDs : D < w.heap.size := World.block_lt_of_cell? w _ c0
  obtain ⟨ao, cap, hsh⟩ := owns_shape ho
  subst hsh
  have HO := hide ho
  have HE := hide hE
  have e6 : (e == 6) = false := by simp; omega
  have e7 : (e == 7) = false := by simp; omega
  have H := fun w => sdecode_any e s w (by omega) hs
  generalize M.decE e (bl s) = L at *
  clear ho hE
  go_enter Try.func22, Try.ntmps22
  go_wp2_with fail
  refine (H _).mono ?_
  rintro e' w1 ⟨u, rfl, hI, hb⟩
  obtain ⟨au, cu, hsu, -⟩ := id hI
  subst hsu
  have HI := hide hI
  have HB := hide hb
  have HC1 := hide ((unhide HC).below (hb.mono hDs))
  have HO1 := hide (owns_below (unhide HO) hb)
  have hz := hb.size
  obtain ⟨d0, d1, d2, d3, d4, d5, k0, k1, k2, k3, k4, k5⟩ := unhide HC1
  clear hI hb H
  go_wp2_with (at_builtin; refine append_ints rfl (.tmp 27) (.tmp 28) rfl (D + 1) _ xs rfl (unhide HO1) _ L rfl (unhide HI) (by omega) (by omega) ?_)
  intro v2 w2 ho2 hb2
  obtain ⟨ao2, cap2, hsh2⟩ := owns_shape ho2
  subst hsh2
  have HC2 := hide ((unhide HC1).below hb2)
  have HO2 := hide ho2
  have HB2 := hide (((unhide HB).mono (Nat.le_of_lt hDs)).trans (hb2.mono (Nat.le_succ D)))
  obtain ⟨i0, i1, i2, i3, i4, i5, j0, j1, j2, j3, j4, j5⟩ := unhide HC2
  have hD2 : D < w2.heap.size := World.block_lt_of_cell? w2 _ i0
  clear ho2 hb2
  go_wp2_with fail
  go_end0
  refine ⟨rfl, ⟨_, by rw [unhide HE]; exact (unhide HC2).set5 _, ?_⟩, bset (unhide HB2) ⟨D, 5, none⟩ _ (Nat.le_refl _)⟩
  rw [unhide HE]
  exact owns_set (by simpa using unhide HO2) ⟨D, 5, none⟩ (Nat.lt_succ_self _) _

set_option maxHeartbeats 1600000 in
set_option maxRecDepth 100000 in
theorem tell_stopped (D : Nat) (r : ByteArray) (t : M.St) (xs : List Int) (s : ByteArray) (w : World) (ht : t.2.2 = true) (hD : Dl D 7 r t xs w) :
    Calls Try.prog 22 #[.pointer (some ⟨D, 0, none⟩), .string s] w fun e' w' => e' = .returned (.tuple #[]) ∧ Told D 7 r t xs (bl s) w w' := by
  have HT : Hid (Told D 7 r t xs (bl s) w w) := hide (by
    unfold Told
    rw [M.TE_X, ht]
    refine ⟨?_, Below.refl _ _⟩
    have e1 : (t.1, t.2.1, true || !(bl s).isEmpty) = t := by rw [Bool.true_or, ← ht]
    rw [e1, Bool.true_or, if_pos rfl, List.append_nil]
    exact hD)
  obtain ⟨v, hC, ho⟩ := hD
  obtain ⟨c0, c1, c2, c3, c4, c5, f0, f1, f2, f3, f4, f5⟩ := hC
  rw [ht] at c4
  have hDs : D < w.heap.size := World.block_lt_of_cell? w _ c0
  clear ho
  go_enter Try.func22, Try.ntmps22
  go_wp2_with fail
  go_end0
  exact ⟨rfl, unhide HT⟩

set_option maxHeartbeats 1600000 in
set_option maxRecDepth 100000 in
theorem tell_stop (D : Nat) (r : ByteArray) (t : M.St) (xs : List Int) (s : ByteArray) (w : World) (hx : xs.length ≤ 20000) (ht : t.2.2 = false) (hD : Dl D 7 r t xs w) :
    Calls Try.prog 22 #[.pointer (some ⟨D, 0, none⟩), .string s] w fun e' w' => e' = .returned (.tuple #[]) ∧ Told D 7 r t xs (bl s) w w' := by
  have hie : (bl s).isEmpty = decide (s.size = 0) := by rw [← bl_len, Bool.eq_iff_iff]; simp [List.isEmpty_iff]
  obtain ⟨L, hL⟩ : ∃ L, (if s.size = 0 then [] else [(65533 : Int)]) = L := ⟨_, rfl⟩
  have H := fun w => stop_any s w
  have hll : L.length ≤ 1 := by rw [← hL]; split <;> simp
  obtain ⟨q, hq⟩ : ∃ q, s.toList.isEmpty = q := ⟨_, rfl⟩
  have hq2 : q = decide (s.size = 0) := by rw [← hq, isEmpty_size]
  have HE : Hid (M.TE 7 t (bl s) = (L, (t.1, t.2.1, !q))) := hide (by
    rw [M.TE_X, ht, hie, hq2, ← hL, Bool.false_or, Bool.false_or]
    simp only [decide_eq_true_eq])
  rw [hL] at H
  clear hL hie hq2
  obtain ⟨v, hC, ho⟩ := hD
  have HC := hide hC
  obtain ⟨c0, c1, c2, c3, c4, c5, f0, f1, f2, f3, f4, f5⟩ := hC
  rw [ht] at c4
  have hDs : D < w.heap.size := World.block_lt_of_cell? w _ c0
  obtain ⟨ao, cap, hsh⟩ := owns_shape ho
  subst hsh
  have HO := hide ho
  clear ho
  go_enter Try.func22, Try.ntmps22
  go_wp2_with fail
  go_region_law ((first
      | (refine step_append_ints (by rfl) _ _ (by rfl) (D + 1) _ xs (by rfl) (unhide HO1) _ L (by rfl) (unhide HI) (by omega) (by omega) ?_; intro ao2 cap2 w2 ho2 hb2; have HC2 := hide ((unhide HC1).below hb2); have HO2 := hide ho2; have HB2 := hide ((unhide HB).trans (hb2.mono (Nat.le_succ D))); obtain ⟨i0, i1, i2, i3, i4, i5, j0, j1, j2, j3, j4, j5⟩ := unhide HC2; have hD2 : D < w2.heap.size := World.block_lt_of_cell? w2 _ i0; clear ho2 hb2)
      | (go_simp; go_at_call 18; refine (H _).mono ?_; rintro e' w1 ⟨u, rfl, hI, hb⟩; obtain ⟨au, cu, hsu⟩ := owns_shape hI; subst hsu; have HI := hide (Ints.of_owns hI); have HB : Hid (Below D w w1) := hide ((below_drewN (Below.refl D w) 1).trans (hb.mono (Nat.le_of_lt hDs))); have HC1 := hide ((unhide HC).below ((below_drewN (Below.refl _ w) 1).trans (hb.mono hDs))); have HO1 := hide (owns_below (owns_below (unhide HO) (below_drewN (Below.refl _ w) 1)) hb); have hz : w.heap.size ≤ w1.heap.size := hb.size; obtain ⟨d0, d1, d2, d3, d4, d5, k0, k1, k2, k3, k4, k5⟩ := unhide HC1; clear hI hb)))
  all_goals
    clear H
    go_wp2_with fail
    go_end0
    refine ⟨rfl, ⟨_, by rw [unhide HE]; exact ((unhide HC2).set5 _).set4 _, ?_⟩, bset (bset (unhide HB2) ⟨D, 5, none⟩ _ (Nat.le_refl _)) ⟨D, 4, none⟩ _ (Nat.le_refl _)⟩
    rw [unhide HE]
    exact owns_set (owns_set (by simpa using unhide HO2) ⟨D, 5, none⟩ (Nat.lt_succ_self _) _) ⟨D, 4, none⟩ (Nat.lt_succ_self _) _
end Go.Proofs.Ytpjhcecfcjbgoaa
