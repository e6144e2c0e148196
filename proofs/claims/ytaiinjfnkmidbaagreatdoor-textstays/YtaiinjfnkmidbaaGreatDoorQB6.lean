/- Laws that the statements of this seat lean on, part 6 (FO FB6 LayP LayT LT MathJ PB FP6 MK ML LF LG): each a contract of a function, or a plain fact; conditions stand at each. -/
import Derived.Lib.IndexMore
import Derived.Lib.SlTrimSet
import Derived.Lib.Strings
import Derived.Shelf.Small.Strs
import Derived.Shelf.Strings.Prefix
import Derived.Shelf.Strings.Shaped
import Derived.Shelf.Strings.SlTrimAscii
import Derived.Test.YtaiinjfnkmidbaaGreatDoorProg
import Derived.Test.YtaiinjfnkmidbaaGreatDoorQB5
namespace Go.Proofs.YtaiinjfnkmidbaaGreatDoor
open Go.RowKit
set_option linter.unusedVariables false

/-- What FeedOf answers: what is told, and the state then. -/
def FedR (e : Int) (r : ByteArray) (t : M.St) (p : ByteArray) (last : Bool) (w : World) (e' : Ending) (w' : World) : Prop :=
  ∃ v r' t' L, e' = .returned (.tuple #[v, sv e r' t']) ∧ w'.ownsRow w.heap.size 3 1 v L.length (L.map (Value.int .i64)) ∧ Below w.heap.size w w' ∧
    (last = false → L = (M.RE e t (bl r ++ bl p)).1 ∧ bl r' = (M.RE e t (bl r ++ bl p)).2.2 ∧ t' = (M.RE e t (bl r ++ bl p)).2.1) ∧
    (last = true → L = (M.TE e t (bl r ++ bl p)).1 ∧ r' = ⟨#[]⟩ ∧ t' = M.st0)
theorem Sc.set4 {B : Nat} {e : Int} {r : ByteArray} {t : M.St} {w : World} (h : Sc B e r t w) (x : Bool) : Sc B e r (t.1, t.2.1, x) (w.setCell ⟨B, 4, none⟩ (.bool x)) where
  c0 := (World.cell?_setCell_other _ _ _ _ (by simp)).trans h.c0
  c1 := (World.cell?_setCell_other _ _ _ _ (by simp)).trans h.c1
  c2 := (World.cell?_setCell_other _ _ _ _ (by simp)).trans h.c2
  c3 := (World.cell?_setCell_other _ _ _ _ (by simp)).trans h.c3
  c4 := World.cell?_setCell_same _ _ _ h.c4
  f0 := by rw [World.frozen?_setCell]; exact h.f0
  f1 := by rw [World.frozen?_setCell]; exact h.f1
  f2 := by rw [World.frozen?_setCell]; exact h.f2
  f3 := by rw [World.frozen?_setCell]; exact h.f3
  f4 := by rw [World.frozen?_setCell]; exact h.f4
theorem fin_some {l : List Int} (h : l ≠ []) : M.fin l = [65533] := by unfold M.fin; rw [if_neg h]
theorem one_set (w1 : World) (a : Addr) (u : Value) (x : Int) : Ints ((w1.setCell a u).alloc (.cells #[.int .i64 x] 3)) (.slice (some ⟨w1.heap.size, 0, none⟩) 1 1) [x] := by
  have h := one_int (w1.setCell a u) x
  have e : (w1.setCell a u).heap.size = w1.heap.size := by simp
  rw [e] at h
  exact h
theorem bl_nil {r : ByteArray} (h : r.size = 0) : bl r = [] := List.eq_nil_of_length_eq_zero (by rw [bl_len]; exact h)

set_option maxHeartbeats 3000000 in
set_option maxRecDepth 100000 in
theorem feedOf_1_more (r : ByteArray) (t : M.St) (p : ByteArray) (w : World) (hs : r.size + p.size ≤ 3300) :
    Calls Tryz.prog 57 #[sv 1 r t, .string p, .bool false] w (FedR 1 r t p false w) := by
  obtain ⟨s, hcat⟩ : ∃ s, r ++ p = s := ⟨_, rfl⟩
  have hsz : s.size ≤ 3300 := by rw [← hcat, ByteArray.size_append]; exact hs
  have HBL : Hid (bl r ++ bl p = bl s) := hide (by rw [← hcat, bl_app])
  have hcat2 : (r.append p) = s := hcat
  unfold sv
  have H := fun w => decRef_any s w hsz
  obtain ⟨L, HL⟩ : ∃ L, Hid ((M.Run M.f8 () (bl s)).1 = L) := ⟨_, hide rfl⟩
  have hLen : L.length ≤ 3300 := by
    have := M.RE_out (e := 1) (by omega) t (bl s)
    rw [M.RE_8, bl_len] at this
    simp only at this
    rw [unhide HL] at this
    omega
  go_enter Tryz.func57, Tryz.ntmps57
  go_wp2_with fail
  refine (H _).mono ?_
  rintro e' w1 ⟨v, rr, rfl, hI, hb, hrr⟩
  rw [unhide HL] at hI
  obtain ⟨av, cv, hsv⟩ := owns_shape hI
  subst hsv
  have HI : Hid (w1.ownsRow (w.heap.size + 2) 3 1 (.slice av L.length cv) L.length (L.map (Value.int .i64))) := hide (by simpa using hI)
  have HB : Hid (Below w.heap.size w w1) := hide (bstep (bstep (balloc _ _) (balloc _ _)) hb)
  have H0 : Hid (Sc w.heap.size 1 r t w1) := hide (Sc.below (w := ((w.alloc (.cells #[.int .i64 1, .string r, .int .i64 t.1, .bool t.2.1, .bool t.2.2] 23)).alloc (.cells #[.int .i64 0, .string ⟨#[]⟩, .int .i64 0, .bool false, .bool false] 23))) (by constructor <;> simp [go_sem]) hb (by simp; omega))
  have H1 : Hid (Rc (w.heap.size + 1) w1) := hide (Rc.below (w := ((w.alloc (.cells #[.int .i64 1, .string r, .int .i64 t.1, .bool t.2.1, .bool t.2.2] 23)).alloc (.cells #[.int .i64 0, .string ⟨#[]⟩, .int .i64 0, .bool false, .bool false] 23))) (by constructor <;> simp [go_sem]) hb (by simp))
  have HRR := hide hrr
  clear hI hb hrr H hcat hcat2
  obtain ⟨a0, a1, a2, a3, a4, x0, x1, x2, x3, x4⟩ := unhide H0
  obtain ⟨b0, b1, b2, b3, b4, y0, y1, y2, y3, y4⟩ := unhide H1
  have hl0 : w.heap.size < w1.heap.size := World.block_lt_of_cell? w1 _ a0
  have hl1 : w.heap.size + 1 < w1.heap.size := World.block_lt_of_cell? w1 _ b0
  go_wp2_with fail
  have hX0 : Sc w.heap.size 1 rr t (w1.setCell ⟨w.heap.size, 1, none⟩ (.string rr)) := (unhide H0).set1 rr
  have hX1 : Rc (w.heap.size + 1) (w1.setCell ⟨w.heap.size, 1, none⟩ (.string rr)) := (unhide H1).far _ _ (by simp)
  have HX := hide (owns_set (unhide HI) ⟨w.heap.size, 1, none⟩ (by simp) (.string rr))
  have HY := hide (bset (unhide HB) ⟨w.heap.size, 1, none⟩ (.string rr) (Nat.le_refl _))
  clear a0 a1 a2 a3 a4 x0 x1 x2 x3 x4 b0 b1 b2 b3 b4 y0 y1 y2 y3 y4 hl0 hl1
  generalize w1.setCell ⟨w.heap.size, 1, none⟩ (.string rr) = X at *
  have hlx := hX0.lt
  obtain ⟨a0, a1, a2, a3, a4, -, -, -, -, -⟩ := hX0
  obtain ⟨b0, b1, b2, b3, b4, y0, y1, y2, y3, y4⟩ := hX1
  have hly : w.heap.size + 1 < X.heap.size := World.block_lt_of_cell? X _ b0
  skip
  go_region
  all_goals
    go_wp2_with fail
    refine bodyPost_ret (v := .tuple #[.slice av L.length cv, .agg #[.int .i64 1, .string rr, .int .i64 t.1, .bool t.2.1, .bool t.2.2]]) (by simp [results, Tryz.results57, go_sem, b0, b1, b2, b3, b4]) rfl ?_
    refine ⟨.slice av L.length cv, rr, t, L, rfl, ?_, ?_, ?_, ?_⟩
    · exact owns_mono (o_drew (oset5 (e := 1) (r := rr) (t := t) (unhide HX) (by omega))) (by omega)
    · exact b_drew (bset5 (e := 1) (r := rr) (t := t) (unhide HY) (by omega))
    · intro _; rw [unhide HBL, M.RE_8]; exact ⟨(unhide HL).symm, unhide HRR, rfl⟩
    · intro h; cases h

set_option maxHeartbeats 3000000 in
set_option maxRecDepth 100000 in
theorem feedOf_1_last (r : ByteArray) (t : M.St) (p : ByteArray) (w : World) (hs : r.size + p.size ≤ 3300) :
    Calls Tryz.prog 57 #[sv 1 r t, .string p, .bool true] w (FedR 1 r t p true w) := by
  obtain ⟨s, hcat⟩ : ∃ s, r ++ p = s := ⟨_, rfl⟩
  have hsz : s.size ≤ 3300 := by rw [← hcat, ByteArray.size_append]; exact hs
  have HBL : Hid (bl r ++ bl p = bl s) := hide (by rw [← hcat, bl_app])
  have hcat2 : (r.append p) = s := hcat
  unfold sv
  have H := fun w => decRef_any s w hsz
  obtain ⟨L, HL⟩ : ∃ L, Hid ((M.Run M.f8 () (bl s)).1 = L) := ⟨_, hide rfl⟩
  have hLen : L.length ≤ 3300 := by
    have := M.RE_out (e := 1) (by omega) t (bl s)
    rw [M.RE_8, bl_len] at this
    simp only at this
    rw [unhide HL] at this
    omega
  go_enter Tryz.func57, Tryz.ntmps57
  go_wp2_with fail
  refine (H _).mono ?_
  rintro e' w1 ⟨v, rr, rfl, hI, hb, hrr⟩
  rw [unhide HL] at hI
  obtain ⟨av, cv, hsv⟩ := owns_shape hI
  subst hsv
  have HI : Hid (w1.ownsRow (w.heap.size + 2) 3 1 (.slice av L.length cv) L.length (L.map (Value.int .i64))) := hide (by simpa using hI)
  have HB : Hid (Below w.heap.size w w1) := hide (bstep (bstep (balloc _ _) (balloc _ _)) hb)
  have H0 : Hid (Sc w.heap.size 1 r t w1) := hide (Sc.below (w := ((w.alloc (.cells #[.int .i64 1, .string r, .int .i64 t.1, .bool t.2.1, .bool t.2.2] 23)).alloc (.cells #[.int .i64 0, .string ⟨#[]⟩, .int .i64 0, .bool false, .bool false] 23))) (by constructor <;> simp [go_sem]) hb (by simp; omega))
  have H1 : Hid (Rc (w.heap.size + 1) w1) := hide (Rc.below (w := ((w.alloc (.cells #[.int .i64 1, .string r, .int .i64 t.1, .bool t.2.1, .bool t.2.2] 23)).alloc (.cells #[.int .i64 0, .string ⟨#[]⟩, .int .i64 0, .bool false, .bool false] 23))) (by constructor <;> simp [go_sem]) hb (by simp))
  have HRR := hide hrr
  clear hI hb hrr H hcat hcat2
  by_cases h0 : rr.size = 0
  · have he : rr.toList.isEmpty = true := by rw [isEmpty_size]; simp [h0]
    obtain ⟨a0, a1, a2, a3, a4, x0, x1, x2, x3, x4⟩ := unhide H0
    obtain ⟨b0, b1, b2, b3, b4, y0, y1, y2, y3, y4⟩ := unhide H1
    have hl0 : w.heap.size < w1.heap.size := World.block_lt_of_cell? w1 _ a0
    have hl1 : w.heap.size + 1 < w1.heap.size := World.block_lt_of_cell? w1 _ b0
    go_wp2_with fail
    have hX0 : Sc w.heap.size 1 ⟨#[]⟩ M.st0 ((((((w1.setCell ⟨w.heap.size, 1, none⟩ (.string rr)).setCell ⟨w.heap.size, 0, none⟩ (.int .i64 1)).setCell ⟨w.heap.size, 1, none⟩ (.string ⟨#[]⟩)).setCell ⟨w.heap.size, 2, none⟩ (.int .i64 0)).setCell ⟨w.heap.size, 3, none⟩ (.bool false)).setCell ⟨w.heap.size, 4, none⟩ (.bool false)) := ((unhide H0).set1 rr).rc 1 ⟨#[]⟩ M.st0
    have hX1 : Rc (w.heap.size + 1) ((((((w1.setCell ⟨w.heap.size, 1, none⟩ (.string rr)).setCell ⟨w.heap.size, 0, none⟩ (.int .i64 1)).setCell ⟨w.heap.size, 1, none⟩ (.string ⟨#[]⟩)).setCell ⟨w.heap.size, 2, none⟩ (.int .i64 0)).setCell ⟨w.heap.size, 3, none⟩ (.bool false)).setCell ⟨w.heap.size, 4, none⟩ (.bool false)) := ((((((unhide H1).far _ _ (by simp)).far _ _ (by simp)).far _ _ (by simp)).far _ _ (by simp)).far _ _ (by simp)).far _ _ (by simp)
    have HX : Hid (((((((w1.setCell ⟨w.heap.size, 1, none⟩ (.string rr)).setCell ⟨w.heap.size, 0, none⟩ (.int .i64 1)).setCell ⟨w.heap.size, 1, none⟩ (.string ⟨#[]⟩)).setCell ⟨w.heap.size, 2, none⟩ (.int .i64 0)).setCell ⟨w.heap.size, 3, none⟩ (.bool false)).setCell ⟨w.heap.size, 4, none⟩ (.bool false)).ownsRow (w.heap.size + 2) 3 1 (.slice av L.length cv) L.length (L.map (Value.int .i64))) := hide (oset5 (t := M.st0) (owns_set (unhide HI) ⟨w.heap.size, 1, none⟩ (by simp) (.string rr)) (by omega))
    have HY : Hid (Below w.heap.size w ((((((w1.setCell ⟨w.heap.size, 1, none⟩ (.string rr)).setCell ⟨w.heap.size, 0, none⟩ (.int .i64 1)).setCell ⟨w.heap.size, 1, none⟩ (.string ⟨#[]⟩)).setCell ⟨w.heap.size, 2, none⟩ (.int .i64 0)).setCell ⟨w.heap.size, 3, none⟩ (.bool false)).setCell ⟨w.heap.size, 4, none⟩ (.bool false))) := hide (bset5 (t := M.st0) (bset (unhide HB) ⟨w.heap.size, 1, none⟩ (.string rr) (Nat.le_refl _)) (by omega))
    clear a0 a1 a2 a3 a4 x0 x1 x2 x3 x4 b0 b1 b2 b3 b4 y0 y1 y2 y3 y4 hl0 hl1
    generalize (((((w1.setCell ⟨w.heap.size, 1, none⟩ (.string rr)).setCell ⟨w.heap.size, 0, none⟩ (.int .i64 1)).setCell ⟨w.heap.size, 1, none⟩ (.string ⟨#[]⟩)).setCell ⟨w.heap.size, 2, none⟩ (.int .i64 0)).setCell ⟨w.heap.size, 3, none⟩ (.bool false)).setCell ⟨w.heap.size, 4, none⟩ (.bool false) = X at *
    have hlx := hX0.lt
    obtain ⟨a0, a1, a2, a3, a4, -, -, -, -, -⟩ := hX0
    obtain ⟨b0, b1, b2, b3, b4, y0, y1, y2, y3, y4⟩ := hX1
    have hly : w.heap.size + 1 < X.heap.size := World.block_lt_of_cell? X _ b0
    unfold M.st0 at a2 a3 a4
    go_region
    all_goals
      go_wp2_with fail
      refine bodyPost_ret (v := .tuple #[.slice av L.length cv, .agg #[.int .i64 1, .string ⟨#[]⟩, .int .i64 M.st0.1, .bool M.st0.2.1, .bool M.st0.2.2]]) (by simp [results, Tryz.results57, go_sem, b0, b1, b2, b3, b4, M.st0]) rfl ?_
      refine ⟨.slice av L.length cv, ⟨#[]⟩, M.st0, L, rfl, ?_, ?_, ?_, ?_⟩
      · exact owns_mono (o_drew (oset5 (e := 1) (r := ⟨#[]⟩) (t := M.st0) (unhide HX) (by omega))) (by omega)
      · exact b_drew (bset5 (e := 1) (r := ⟨#[]⟩) (t := M.st0) (unhide HY) (by omega))
      · intro h; cases h
      · intro _; refine ⟨?_, rfl, rfl⟩; rw [unhide HBL, M.TE_8 t (bl s)]; show L = M.dec (bl s); rw [← M.f8_dec, unhide HL, ← unhide HRR, bl_nil h0]; simp [M.fin]

  · have he : rr.toList.isEmpty = false := by rw [isEmpty_size]; simp [h0]
    obtain ⟨a0, a1, a2, a3, a4, x0, x1, x2, x3, x4⟩ := unhide H0
    obtain ⟨b0, b1, b2, b3, b4, y0, y1, y2, y3, y4⟩ := unhide H1
    have hl0 : w.heap.size < w1.heap.size := World.block_lt_of_cell? w1 _ a0
    have hl1 : w.heap.size + 1 < w1.heap.size := World.block_lt_of_cell? w1 _ b0
    have HIs := hide (owns_a (owns_set (unhide HI) ⟨w.heap.size, 1, none⟩ (by simp) (.string rr)) (.cells #[.int .i64 65533] 3))
    have HO1 := hide (one_set w1 ⟨w.heap.size, 1, none⟩ (.string rr) 65533)
    go_wp2_with (at_builtin; refine append_ints rfl (.tmp 80) (.tmp 81) rfl (w.heap.size + 2) _ L rfl (unhide HIs) _ [65533] rfl (unhide HO1) (by simp; omega) (by simp; omega) ?_)
    intro v2 w2 ho2 hb2
    obtain ⟨av2, cv2, hsv2⟩ := owns_shape ho2
    subst hsv2
    have hz2 : w.heap.size + 2 ≤ (w1.setCell ⟨w.heap.size, 1, none⟩ (.string rr)).heap.size := by simp; omega
    have hb3 := ((Below.refl (w.heap.size + 2) (w1.setCell ⟨w.heap.size, 1, none⟩ (.string rr))).alloc hz2 (.cells #[.int .i64 65533] 3)).trans hb2
    have H0' := hide (((unhide H0).set1 rr).below hb3 (by omega))
    have H1' : Hid (Rc (w.heap.size + 1) w2) := hide (((unhide H1).far ⟨w.heap.size, 1, none⟩ (.string rr) (by simp)).below hb3 (by omega))
    have HB' := hide ((bset (unhide HB) ⟨w.heap.size, 1, none⟩ (.string rr) (Nat.le_refl _)).trans (hb3.mono (by omega)))
    have HI' : Hid (w2.ownsRow (w.heap.size + 2) 3 1 (.slice av2 (L.length + 1) cv2) (L ++ [65533]).length ((L ++ [65533]).map (Value.int .i64))) := hide (by simpa using ho2)
    clear a0 a1 a2 a3 a4 x0 x1 x2 x3 x4 b0 b1 b2 b3 b4 y0 y1 y2 y3 y4 hl0 hl1
    clear ho2 hb2 hb3 H0 H1 HB HI HIs HO1 hz2
    have H0 := H0'
    have H1 := H1'
    have HB := HB'
    have HI := HI'
    clear H0' H1' HB' HI'
    obtain ⟨a0, a1, a2, a3, a4, x0, x1, x2, x3, x4⟩ := unhide H0
    obtain ⟨b0, b1, b2, b3, b4, y0, y1, y2, y3, y4⟩ := unhide H1
    have hl0 : w.heap.size < w2.heap.size := World.block_lt_of_cell? w2 _ a0
    have hl1 : w.heap.size + 1 < w2.heap.size := World.block_lt_of_cell? w2 _ b0
    go_wp2_with fail
    have hX0 : Sc w.heap.size 1 ⟨#[]⟩ M.st0 (((((w2.setCell ⟨w.heap.size, 0, none⟩ (.int .i64 1)).setCell ⟨w.heap.size, 1, none⟩ (.string ⟨#[]⟩)).setCell ⟨w.heap.size, 2, none⟩ (.int .i64 0)).setCell ⟨w.heap.size, 3, none⟩ (.bool false)).setCell ⟨w.heap.size, 4, none⟩ (.bool false)) := (unhide H0).rc 1 ⟨#[]⟩ M.st0
    have hX1 : Rc (w.heap.size + 1) (((((w2.setCell ⟨w.heap.size, 0, none⟩ (.int .i64 1)).setCell ⟨w.heap.size, 1, none⟩ (.string ⟨#[]⟩)).setCell ⟨w.heap.size, 2, none⟩ (.int .i64 0)).setCell ⟨w.heap.size, 3, none⟩ (.bool false)).setCell ⟨w.heap.size, 4, none⟩ (.bool false)) := (((((unhide H1).far _ _ (by simp)).far _ _ (by simp)).far _ _ (by simp)).far _ _ (by simp)).far _ _ (by simp)
    have HX : Hid ((((((w2.setCell ⟨w.heap.size, 0, none⟩ (.int .i64 1)).setCell ⟨w.heap.size, 1, none⟩ (.string ⟨#[]⟩)).setCell ⟨w.heap.size, 2, none⟩ (.int .i64 0)).setCell ⟨w.heap.size, 3, none⟩ (.bool false)).setCell ⟨w.heap.size, 4, none⟩ (.bool false)).ownsRow (w.heap.size + 2) 3 1 (.slice av2 (L.length + 1) cv2) (L ++ [65533]).length ((L ++ [65533]).map (Value.int .i64))) := hide (oset5 (t := M.st0) (unhide HI) (by omega))
    have HY : Hid (Below w.heap.size w (((((w2.setCell ⟨w.heap.size, 0, none⟩ (.int .i64 1)).setCell ⟨w.heap.size, 1, none⟩ (.string ⟨#[]⟩)).setCell ⟨w.heap.size, 2, none⟩ (.int .i64 0)).setCell ⟨w.heap.size, 3, none⟩ (.bool false)).setCell ⟨w.heap.size, 4, none⟩ (.bool false))) := hide (bset5 (t := M.st0) (unhide HB) (by omega))
    clear a0 a1 a2 a3 a4 x0 x1 x2 x3 x4 b0 b1 b2 b3 b4 y0 y1 y2 y3 y4 hl0 hl1
    generalize (((((w2.setCell ⟨w.heap.size, 0, none⟩ (.int .i64 1)).setCell ⟨w.heap.size, 1, none⟩ (.string ⟨#[]⟩)).setCell ⟨w.heap.size, 2, none⟩ (.int .i64 0)).setCell ⟨w.heap.size, 3, none⟩ (.bool false)).setCell ⟨w.heap.size, 4, none⟩ (.bool false)) = X at *
    have hlx := hX0.lt
    obtain ⟨a0, a1, a2, a3, a4, -, -, -, -, -⟩ := hX0
    obtain ⟨b0, b1, b2, b3, b4, y0, y1, y2, y3, y4⟩ := hX1
    have hly : w.heap.size + 1 < X.heap.size := World.block_lt_of_cell? X _ b0
    unfold M.st0 at a2 a3 a4
    go_region
    all_goals
      go_wp2_with fail
      refine bodyPost_ret (v := .tuple #[.slice av2 (L.length + 1) cv2, .agg #[.int .i64 1, .string ⟨#[]⟩, .int .i64 M.st0.1, .bool M.st0.2.1, .bool M.st0.2.2]]) (by simp [results, Tryz.results57, go_sem, b0, b1, b2, b3, b4, M.st0]) rfl ?_
      refine ⟨.slice av2 (L.length + 1) cv2, ⟨#[]⟩, M.st0, (L ++ [65533]), rfl, ?_, ?_, ?_, ?_⟩
      · exact owns_mono (o_drew (oset5 (e := 1) (r := ⟨#[]⟩) (t := M.st0) (unhide HX) (by omega))) (by omega)
      · exact b_drew (bset5 (e := 1) (r := ⟨#[]⟩) (t := M.st0) (unhide HY) (by omega))
      · intro h; cases h
      · intro _; refine ⟨?_, rfl, rfl⟩; rw [unhide HBL, M.TE_8 t (bl s)]; show L ++ [65533] = M.dec (bl s); rw [← M.f8_dec, unhide HL, ← unhide HRR, fin_some (fun q => h0 (by rw [← bl_len, q]; rfl))]

set_option maxHeartbeats 3000000 in
set_option maxRecDepth 100000 in
theorem feedOf_2_more (r : ByteArray) (t : M.St) (p : ByteArray) (w : World) (hs : r.size + p.size ≤ 3300) :
    Calls Tryz.prog 57 #[sv 2 r t, .string p, .bool false] w (FedR 2 r t p false w) := by
  obtain ⟨s, hcat⟩ : ∃ s, r ++ p = s := ⟨_, rfl⟩
  have hsz : s.size ≤ 3300 := by rw [← hcat, ByteArray.size_append]; exact hs
  have HBL : Hid (bl r ++ bl p = bl s) := hide (by rw [← hcat, bl_app])
  have hcat2 : (r.append p) = s := hcat
  unfold sv
  have H := fun w => decRef16_any false s w hsz
  obtain ⟨L, HL⟩ : ∃ L, Hid ((M.Run (M.f16 false) () (bl s)).1 = L) := ⟨_, hide rfl⟩
  have hLen : L.length ≤ 3300 := by
    have := M.RE_out (e := 2) (by omega) t (bl s)
    rw [M.RE_16l, bl_len] at this
    simp only at this
    rw [unhide HL] at this
    omega
  go_enter Tryz.func57, Tryz.ntmps57
  go_wp2_with fail
  refine (H _).mono ?_
  rintro e' w1 ⟨v, rr, rfl, hI, hb, hrr⟩
  rw [unhide HL] at hI
  obtain ⟨av, cv, hsv⟩ := owns_shape hI
  subst hsv
  have HI : Hid (w1.ownsRow (w.heap.size + 2) 3 1 (.slice av L.length cv) L.length (L.map (Value.int .i64))) := hide (by simpa using hI)
  have HB : Hid (Below w.heap.size w w1) := hide (bstep (bstep (balloc _ _) (balloc _ _)) hb)
  have H0 : Hid (Sc w.heap.size 2 r t w1) := hide (Sc.below (w := ((w.alloc (.cells #[.int .i64 2, .string r, .int .i64 t.1, .bool t.2.1, .bool t.2.2] 23)).alloc (.cells #[.int .i64 0, .string ⟨#[]⟩, .int .i64 0, .bool false, .bool false] 23))) (by constructor <;> simp [go_sem]) hb (by simp; omega))
  have H1 : Hid (Rc (w.heap.size + 1) w1) := hide (Rc.below (w := ((w.alloc (.cells #[.int .i64 2, .string r, .int .i64 t.1, .bool t.2.1, .bool t.2.2] 23)).alloc (.cells #[.int .i64 0, .string ⟨#[]⟩, .int .i64 0, .bool false, .bool false] 23))) (by constructor <;> simp [go_sem]) hb (by simp))
  have HRR := hide hrr
  clear hI hb hrr H hcat hcat2
  obtain ⟨a0, a1, a2, a3, a4, x0, x1, x2, x3, x4⟩ := unhide H0
  obtain ⟨b0, b1, b2, b3, b4, y0, y1, y2, y3, y4⟩ := unhide H1
  have hl0 : w.heap.size < w1.heap.size := World.block_lt_of_cell? w1 _ a0
  have hl1 : w.heap.size + 1 < w1.heap.size := World.block_lt_of_cell? w1 _ b0
  go_wp2_with fail
  have hX0 : Sc w.heap.size 2 rr t (w1.setCell ⟨w.heap.size, 1, none⟩ (.string rr)) := (unhide H0).set1 rr
  have hX1 : Rc (w.heap.size + 1) (w1.setCell ⟨w.heap.size, 1, none⟩ (.string rr)) := (unhide H1).far _ _ (by simp)
  have HX := hide (owns_set (unhide HI) ⟨w.heap.size, 1, none⟩ (by simp) (.string rr))
  have HY := hide (bset (unhide HB) ⟨w.heap.size, 1, none⟩ (.string rr) (Nat.le_refl _))
  clear a0 a1 a2 a3 a4 x0 x1 x2 x3 x4 b0 b1 b2 b3 b4 y0 y1 y2 y3 y4 hl0 hl1
  generalize w1.setCell ⟨w.heap.size, 1, none⟩ (.string rr) = X at *
  have hlx := hX0.lt
  obtain ⟨a0, a1, a2, a3, a4, -, -, -, -, -⟩ := hX0
  obtain ⟨b0, b1, b2, b3, b4, y0, y1, y2, y3, y4⟩ := hX1
  have hly : w.heap.size + 1 < X.heap.size := World.block_lt_of_cell? X _ b0
  skip
  go_region
  all_goals
    go_wp2_with fail
    refine bodyPost_ret (v := .tuple #[.slice av L.length cv, .agg #[.int .i64 2, .string rr, .int .i64 t.1, .bool t.2.1, .bool t.2.2]]) (by simp [results, Tryz.results57, go_sem, b0, b1, b2, b3, b4]) rfl ?_
    refine ⟨.slice av L.length cv, rr, t, L, rfl, ?_, ?_, ?_, ?_⟩
    · exact owns_mono (o_drew (oset5 (e := 2) (r := rr) (t := t) (unhide HX) (by omega))) (by omega)
    · exact b_drew (bset5 (e := 2) (r := rr) (t := t) (unhide HY) (by omega))
    · intro _; rw [unhide HBL, M.RE_16l]; exact ⟨(unhide HL).symm, unhide HRR, rfl⟩
    · intro h; cases h

set_option maxHeartbeats 3000000 in
set_option maxRecDepth 100000 in
theorem feedOf_2_last (r : ByteArray) (t : M.St) (p : ByteArray) (w : World) (hs : r.size + p.size ≤ 3300) :
    Calls Tryz.prog 57 #[sv 2 r t, .string p, .bool true] w (FedR 2 r t p true w) := by
  obtain ⟨s, hcat⟩ : ∃ s, r ++ p = s := ⟨_, rfl⟩
  have hsz : s.size ≤ 3300 := by rw [← hcat, ByteArray.size_append]; exact hs
  have HBL : Hid (bl r ++ bl p = bl s) := hide (by rw [← hcat, bl_app])
  have hcat2 : (r.append p) = s := hcat
  unfold sv
  have H := fun w => decRef16_any false s w hsz
  obtain ⟨L, HL⟩ : ∃ L, Hid ((M.Run (M.f16 false) () (bl s)).1 = L) := ⟨_, hide rfl⟩
  have hLen : L.length ≤ 3300 := by
    have := M.RE_out (e := 2) (by omega) t (bl s)
    rw [M.RE_16l, bl_len] at this
    simp only at this
    rw [unhide HL] at this
    omega
  go_enter Tryz.func57, Tryz.ntmps57
  go_wp2_with fail
  refine (H _).mono ?_
  rintro e' w1 ⟨v, rr, rfl, hI, hb, hrr⟩
  rw [unhide HL] at hI
  obtain ⟨av, cv, hsv⟩ := owns_shape hI
  subst hsv
  have HI : Hid (w1.ownsRow (w.heap.size + 2) 3 1 (.slice av L.length cv) L.length (L.map (Value.int .i64))) := hide (by simpa using hI)
  have HB : Hid (Below w.heap.size w w1) := hide (bstep (bstep (balloc _ _) (balloc _ _)) hb)
  have H0 : Hid (Sc w.heap.size 2 r t w1) := hide (Sc.below (w := ((w.alloc (.cells #[.int .i64 2, .string r, .int .i64 t.1, .bool t.2.1, .bool t.2.2] 23)).alloc (.cells #[.int .i64 0, .string ⟨#[]⟩, .int .i64 0, .bool false, .bool false] 23))) (by constructor <;> simp [go_sem]) hb (by simp; omega))
  have H1 : Hid (Rc (w.heap.size + 1) w1) := hide (Rc.below (w := ((w.alloc (.cells #[.int .i64 2, .string r, .int .i64 t.1, .bool t.2.1, .bool t.2.2] 23)).alloc (.cells #[.int .i64 0, .string ⟨#[]⟩, .int .i64 0, .bool false, .bool false] 23))) (by constructor <;> simp [go_sem]) hb (by simp))
  have HRR := hide hrr
  clear hI hb hrr H hcat hcat2
  by_cases h0 : rr.size = 0
  · have he : rr.toList.isEmpty = true := by rw [isEmpty_size]; simp [h0]
    obtain ⟨a0, a1, a2, a3, a4, x0, x1, x2, x3, x4⟩ := unhide H0
    obtain ⟨b0, b1, b2, b3, b4, y0, y1, y2, y3, y4⟩ := unhide H1
    have hl0 : w.heap.size < w1.heap.size := World.block_lt_of_cell? w1 _ a0
    have hl1 : w.heap.size + 1 < w1.heap.size := World.block_lt_of_cell? w1 _ b0
    go_wp2_with fail
    have hX0 : Sc w.heap.size 2 ⟨#[]⟩ M.st0 ((((((w1.setCell ⟨w.heap.size, 1, none⟩ (.string rr)).setCell ⟨w.heap.size, 0, none⟩ (.int .i64 2)).setCell ⟨w.heap.size, 1, none⟩ (.string ⟨#[]⟩)).setCell ⟨w.heap.size, 2, none⟩ (.int .i64 0)).setCell ⟨w.heap.size, 3, none⟩ (.bool false)).setCell ⟨w.heap.size, 4, none⟩ (.bool false)) := ((unhide H0).set1 rr).rc 2 ⟨#[]⟩ M.st0
    have hX1 : Rc (w.heap.size + 1) ((((((w1.setCell ⟨w.heap.size, 1, none⟩ (.string rr)).setCell ⟨w.heap.size, 0, none⟩ (.int .i64 2)).setCell ⟨w.heap.size, 1, none⟩ (.string ⟨#[]⟩)).setCell ⟨w.heap.size, 2, none⟩ (.int .i64 0)).setCell ⟨w.heap.size, 3, none⟩ (.bool false)).setCell ⟨w.heap.size, 4, none⟩ (.bool false)) := ((((((unhide H1).far _ _ (by simp)).far _ _ (by simp)).far _ _ (by simp)).far _ _ (by simp)).far _ _ (by simp)).far _ _ (by simp)
    have HX : Hid (((((((w1.setCell ⟨w.heap.size, 1, none⟩ (.string rr)).setCell ⟨w.heap.size, 0, none⟩ (.int .i64 2)).setCell ⟨w.heap.size, 1, none⟩ (.string ⟨#[]⟩)).setCell ⟨w.heap.size, 2, none⟩ (.int .i64 0)).setCell ⟨w.heap.size, 3, none⟩ (.bool false)).setCell ⟨w.heap.size, 4, none⟩ (.bool false)).ownsRow (w.heap.size + 2) 3 1 (.slice av L.length cv) L.length (L.map (Value.int .i64))) := hide (oset5 (t := M.st0) (owns_set (unhide HI) ⟨w.heap.size, 1, none⟩ (by simp) (.string rr)) (by omega))
    have HY : Hid (Below w.heap.size w ((((((w1.setCell ⟨w.heap.size, 1, none⟩ (.string rr)).setCell ⟨w.heap.size, 0, none⟩ (.int .i64 2)).setCell ⟨w.heap.size, 1, none⟩ (.string ⟨#[]⟩)).setCell ⟨w.heap.size, 2, none⟩ (.int .i64 0)).setCell ⟨w.heap.size, 3, none⟩ (.bool false)).setCell ⟨w.heap.size, 4, none⟩ (.bool false))) := hide (bset5 (t := M.st0) (bset (unhide HB) ⟨w.heap.size, 1, none⟩ (.string rr) (Nat.le_refl _)) (by omega))
    clear a0 a1 a2 a3 a4 x0 x1 x2 x3 x4 b0 b1 b2 b3 b4 y0 y1 y2 y3 y4 hl0 hl1
    generalize (((((w1.setCell ⟨w.heap.size, 1, none⟩ (.string rr)).setCell ⟨w.heap.size, 0, none⟩ (.int .i64 2)).setCell ⟨w.heap.size, 1, none⟩ (.string ⟨#[]⟩)).setCell ⟨w.heap.size, 2, none⟩ (.int .i64 0)).setCell ⟨w.heap.size, 3, none⟩ (.bool false)).setCell ⟨w.heap.size, 4, none⟩ (.bool false) = X at *
    have hlx := hX0.lt
    obtain ⟨a0, a1, a2, a3, a4, -, -, -, -, -⟩ := hX0
    obtain ⟨b0, b1, b2, b3, b4, y0, y1, y2, y3, y4⟩ := hX1
    have hly : w.heap.size + 1 < X.heap.size := World.block_lt_of_cell? X _ b0
    unfold M.st0 at a2 a3 a4
    go_region
    all_goals
      go_wp2_with fail
      refine bodyPost_ret (v := .tuple #[.slice av L.length cv, .agg #[.int .i64 2, .string ⟨#[]⟩, .int .i64 M.st0.1, .bool M.st0.2.1, .bool M.st0.2.2]]) (by simp [results, Tryz.results57, go_sem, b0, b1, b2, b3, b4, M.st0]) rfl ?_
      refine ⟨.slice av L.length cv, ⟨#[]⟩, M.st0, L, rfl, ?_, ?_, ?_, ?_⟩
      · exact owns_mono (o_drew (oset5 (e := 2) (r := ⟨#[]⟩) (t := M.st0) (unhide HX) (by omega))) (by omega)
      · exact b_drew (bset5 (e := 2) (r := ⟨#[]⟩) (t := M.st0) (unhide HY) (by omega))
      · intro h; cases h
      · intro _; refine ⟨?_, rfl, rfl⟩; rw [unhide HBL, (show M.TE 2 t (bl s) = (M.dec16 false (bl s), t) from M.TE_16 false t (bl s))]; show L = M.dec16 false (bl s); rw [← M.f16_dec false, unhide HL, ← unhide HRR, bl_nil h0]; simp [M.fin]

  · have he : rr.toList.isEmpty = false := by rw [isEmpty_size]; simp [h0]
    obtain ⟨a0, a1, a2, a3, a4, x0, x1, x2, x3, x4⟩ := unhide H0
    obtain ⟨b0, b1, b2, b3, b4, y0, y1, y2, y3, y4⟩ := unhide H1
    have hl0 : w.heap.size < w1.heap.size := World.block_lt_of_cell? w1 _ a0
    have hl1 : w.heap.size + 1 < w1.heap.size := World.block_lt_of_cell? w1 _ b0
    have HIs := hide (owns_a (owns_set (unhide HI) ⟨w.heap.size, 1, none⟩ (by simp) (.string rr)) (.cells #[.int .i64 65533] 3))
    have HO1 := hide (one_set w1 ⟨w.heap.size, 1, none⟩ (.string rr) 65533)
    go_wp2_with (at_builtin; refine append_ints rfl (.tmp 80) (.tmp 81) rfl (w.heap.size + 2) _ L rfl (unhide HIs) _ [65533] rfl (unhide HO1) (by simp; omega) (by simp; omega) ?_)
    intro v2 w2 ho2 hb2
    obtain ⟨av2, cv2, hsv2⟩ := owns_shape ho2
    subst hsv2
    have hz2 : w.heap.size + 2 ≤ (w1.setCell ⟨w.heap.size, 1, none⟩ (.string rr)).heap.size := by simp; omega
    have hb3 := ((Below.refl (w.heap.size + 2) (w1.setCell ⟨w.heap.size, 1, none⟩ (.string rr))).alloc hz2 (.cells #[.int .i64 65533] 3)).trans hb2
    have H0' := hide (((unhide H0).set1 rr).below hb3 (by omega))
    have H1' : Hid (Rc (w.heap.size + 1) w2) := hide (((unhide H1).far ⟨w.heap.size, 1, none⟩ (.string rr) (by simp)).below hb3 (by omega))
    have HB' := hide ((bset (unhide HB) ⟨w.heap.size, 1, none⟩ (.string rr) (Nat.le_refl _)).trans (hb3.mono (by omega)))
    have HI' : Hid (w2.ownsRow (w.heap.size + 2) 3 1 (.slice av2 (L.length + 1) cv2) (L ++ [65533]).length ((L ++ [65533]).map (Value.int .i64))) := hide (by simpa using ho2)
    clear a0 a1 a2 a3 a4 x0 x1 x2 x3 x4 b0 b1 b2 b3 b4 y0 y1 y2 y3 y4 hl0 hl1
    clear ho2 hb2 hb3 H0 H1 HB HI HIs HO1 hz2
    have H0 := H0'
    have H1 := H1'
    have HB := HB'
    have HI := HI'
    clear H0' H1' HB' HI'
    obtain ⟨a0, a1, a2, a3, a4, x0, x1, x2, x3, x4⟩ := unhide H0
    obtain ⟨b0, b1, b2, b3, b4, y0, y1, y2, y3, y4⟩ := unhide H1
    have hl0 : w.heap.size < w2.heap.size := World.block_lt_of_cell? w2 _ a0
    have hl1 : w.heap.size + 1 < w2.heap.size := World.block_lt_of_cell? w2 _ b0
    go_wp2_with fail
    have hX0 : Sc w.heap.size 2 ⟨#[]⟩ M.st0 (((((w2.setCell ⟨w.heap.size, 0, none⟩ (.int .i64 2)).setCell ⟨w.heap.size, 1, none⟩ (.string ⟨#[]⟩)).setCell ⟨w.heap.size, 2, none⟩ (.int .i64 0)).setCell ⟨w.heap.size, 3, none⟩ (.bool false)).setCell ⟨w.heap.size, 4, none⟩ (.bool false)) := (unhide H0).rc 2 ⟨#[]⟩ M.st0
    have hX1 : Rc (w.heap.size + 1) (((((w2.setCell ⟨w.heap.size, 0, none⟩ (.int .i64 2)).setCell ⟨w.heap.size, 1, none⟩ (.string ⟨#[]⟩)).setCell ⟨w.heap.size, 2, none⟩ (.int .i64 0)).setCell ⟨w.heap.size, 3, none⟩ (.bool false)).setCell ⟨w.heap.size, 4, none⟩ (.bool false)) := (((((unhide H1).far _ _ (by simp)).far _ _ (by simp)).far _ _ (by simp)).far _ _ (by simp)).far _ _ (by simp)
    have HX : Hid ((((((w2.setCell ⟨w.heap.size, 0, none⟩ (.int .i64 2)).setCell ⟨w.heap.size, 1, none⟩ (.string ⟨#[]⟩)).setCell ⟨w.heap.size, 2, none⟩ (.int .i64 0)).setCell ⟨w.heap.size, 3, none⟩ (.bool false)).setCell ⟨w.heap.size, 4, none⟩ (.bool false)).ownsRow (w.heap.size + 2) 3 1 (.slice av2 (L.length + 1) cv2) (L ++ [65533]).length ((L ++ [65533]).map (Value.int .i64))) := hide (oset5 (t := M.st0) (unhide HI) (by omega))
    have HY : Hid (Below w.heap.size w (((((w2.setCell ⟨w.heap.size, 0, none⟩ (.int .i64 2)).setCell ⟨w.heap.size, 1, none⟩ (.string ⟨#[]⟩)).setCell ⟨w.heap.size, 2, none⟩ (.int .i64 0)).setCell ⟨w.heap.size, 3, none⟩ (.bool false)).setCell ⟨w.heap.size, 4, none⟩ (.bool false))) := hide (bset5 (t := M.st0) (unhide HB) (by omega))
    clear a0 a1 a2 a3 a4 x0 x1 x2 x3 x4 b0 b1 b2 b3 b4 y0 y1 y2 y3 y4 hl0 hl1
    generalize (((((w2.setCell ⟨w.heap.size, 0, none⟩ (.int .i64 2)).setCell ⟨w.heap.size, 1, none⟩ (.string ⟨#[]⟩)).setCell ⟨w.heap.size, 2, none⟩ (.int .i64 0)).setCell ⟨w.heap.size, 3, none⟩ (.bool false)).setCell ⟨w.heap.size, 4, none⟩ (.bool false)) = X at *
    have hlx := hX0.lt
    obtain ⟨a0, a1, a2, a3, a4, -, -, -, -, -⟩ := hX0
    obtain ⟨b0, b1, b2, b3, b4, y0, y1, y2, y3, y4⟩ := hX1
    have hly : w.heap.size + 1 < X.heap.size := World.block_lt_of_cell? X _ b0
    unfold M.st0 at a2 a3 a4
    go_region
    all_goals
      go_wp2_with fail
      refine bodyPost_ret (v := .tuple #[.slice av2 (L.length + 1) cv2, .agg #[.int .i64 2, .string ⟨#[]⟩, .int .i64 M.st0.1, .bool M.st0.2.1, .bool M.st0.2.2]]) (by simp [results, Tryz.results57, go_sem, b0, b1, b2, b3, b4, M.st0]) rfl ?_
      refine ⟨.slice av2 (L.length + 1) cv2, ⟨#[]⟩, M.st0, (L ++ [65533]), rfl, ?_, ?_, ?_, ?_⟩
      · exact owns_mono (o_drew (oset5 (e := 2) (r := ⟨#[]⟩) (t := M.st0) (unhide HX) (by omega))) (by omega)
      · exact b_drew (bset5 (e := 2) (r := ⟨#[]⟩) (t := M.st0) (unhide HY) (by omega))
      · intro h; cases h
      · intro _; refine ⟨?_, rfl, rfl⟩; rw [unhide HBL, (show M.TE 2 t (bl s) = (M.dec16 false (bl s), t) from M.TE_16 false t (bl s))]; show L ++ [65533] = M.dec16 false (bl s); rw [← M.f16_dec false, unhide HL, ← unhide HRR, fin_some (fun q => h0 (by rw [← bl_len, q]; rfl))]

set_option maxHeartbeats 3000000 in
set_option maxRecDepth 100000 in
theorem feedOf_3_more (r : ByteArray) (t : M.St) (p : ByteArray) (w : World) (hs : r.size + p.size ≤ 3300) :
    Calls Tryz.prog 57 #[sv 3 r t, .string p, .bool false] w (FedR 3 r t p false w) := by
  obtain ⟨s, hcat⟩ : ∃ s, r ++ p = s := ⟨_, rfl⟩
  have hsz : s.size ≤ 3300 := by rw [← hcat, ByteArray.size_append]; exact hs
  have HBL : Hid (bl r ++ bl p = bl s) := hide (by rw [← hcat, bl_app])
  have hcat2 : (r.append p) = s := hcat
  unfold sv
  have H := fun w => decRef16_any true s w hsz
  obtain ⟨L, HL⟩ : ∃ L, Hid ((M.Run (M.f16 true) () (bl s)).1 = L) := ⟨_, hide rfl⟩
  have hLen : L.length ≤ 3300 := by
    have := M.RE_out (e := 3) (by omega) t (bl s)
    rw [M.RE_16b, bl_len] at this
    simp only at this
    rw [unhide HL] at this
    omega
  go_enter Tryz.func57, Tryz.ntmps57
  go_wp2_with fail
  refine (H _).mono ?_
  rintro e' w1 ⟨v, rr, rfl, hI, hb, hrr⟩
  rw [unhide HL] at hI
  obtain ⟨av, cv, hsv⟩ := owns_shape hI
  subst hsv
  have HI : Hid (w1.ownsRow (w.heap.size + 2) 3 1 (.slice av L.length cv) L.length (L.map (Value.int .i64))) := hide (by simpa using hI)
  have HB : Hid (Below w.heap.size w w1) := hide (bstep (bstep (balloc _ _) (balloc _ _)) hb)
  have H0 : Hid (Sc w.heap.size 3 r t w1) := hide (Sc.below (w := ((w.alloc (.cells #[.int .i64 3, .string r, .int .i64 t.1, .bool t.2.1, .bool t.2.2] 23)).alloc (.cells #[.int .i64 0, .string ⟨#[]⟩, .int .i64 0, .bool false, .bool false] 23))) (by constructor <;> simp [go_sem]) hb (by simp; omega))
  have H1 : Hid (Rc (w.heap.size + 1) w1) := hide (Rc.below (w := ((w.alloc (.cells #[.int .i64 3, .string r, .int .i64 t.1, .bool t.2.1, .bool t.2.2] 23)).alloc (.cells #[.int .i64 0, .string ⟨#[]⟩, .int .i64 0, .bool false, .bool false] 23))) (by constructor <;> simp [go_sem]) hb (by simp))
  have HRR := hide hrr
  clear hI hb hrr H hcat hcat2
  obtain ⟨a0, a1, a2, a3, a4, x0, x1, x2, x3, x4⟩ := unhide H0
  obtain ⟨b0, b1, b2, b3, b4, y0, y1, y2, y3, y4⟩ := unhide H1
  have hl0 : w.heap.size < w1.heap.size := World.block_lt_of_cell? w1 _ a0
  have hl1 : w.heap.size + 1 < w1.heap.size := World.block_lt_of_cell? w1 _ b0
  go_wp2_with fail
  have hX0 : Sc w.heap.size 3 rr t (w1.setCell ⟨w.heap.size, 1, none⟩ (.string rr)) := (unhide H0).set1 rr
  have hX1 : Rc (w.heap.size + 1) (w1.setCell ⟨w.heap.size, 1, none⟩ (.string rr)) := (unhide H1).far _ _ (by simp)
  have HX := hide (owns_set (unhide HI) ⟨w.heap.size, 1, none⟩ (by simp) (.string rr))
  have HY := hide (bset (unhide HB) ⟨w.heap.size, 1, none⟩ (.string rr) (Nat.le_refl _))
  clear a0 a1 a2 a3 a4 x0 x1 x2 x3 x4 b0 b1 b2 b3 b4 y0 y1 y2 y3 y4 hl0 hl1
  generalize w1.setCell ⟨w.heap.size, 1, none⟩ (.string rr) = X at *
  have hlx := hX0.lt
  obtain ⟨a0, a1, a2, a3, a4, -, -, -, -, -⟩ := hX0
  obtain ⟨b0, b1, b2, b3, b4, y0, y1, y2, y3, y4⟩ := hX1
  have hly : w.heap.size + 1 < X.heap.size := World.block_lt_of_cell? X _ b0
  skip
  go_region
  all_goals
    go_wp2_with fail
    refine bodyPost_ret (v := .tuple #[.slice av L.length cv, .agg #[.int .i64 3, .string rr, .int .i64 t.1, .bool t.2.1, .bool t.2.2]]) (by simp [results, Tryz.results57, go_sem, b0, b1, b2, b3, b4]) rfl ?_
    refine ⟨.slice av L.length cv, rr, t, L, rfl, ?_, ?_, ?_, ?_⟩
    · exact owns_mono (o_drew (oset5 (e := 3) (r := rr) (t := t) (unhide HX) (by omega))) (by omega)
    · exact b_drew (bset5 (e := 3) (r := rr) (t := t) (unhide HY) (by omega))
    · intro _; rw [unhide HBL, M.RE_16b]; exact ⟨(unhide HL).symm, unhide HRR, rfl⟩
    · intro h; cases h

set_option maxHeartbeats 3000000 in
set_option maxRecDepth 100000 in
theorem feedOf_3_last (r : ByteArray) (t : M.St) (p : ByteArray) (w : World) (hs : r.size + p.size ≤ 3300) :
    Calls Tryz.prog 57 #[sv 3 r t, .string p, .bool true] w (FedR 3 r t p true w) := by
  obtain ⟨s, hcat⟩ : ∃ s, r ++ p = s := ⟨_, rfl⟩
  have hsz : s.size ≤ 3300 := by rw [← hcat, ByteArray.size_append]; exact hs
  have HBL : Hid (bl r ++ bl p = bl s) := hide (by rw [← hcat, bl_app])
  have hcat2 : (r.append p) = s := hcat
  unfold sv
  have H := fun w => decRef16_any true s w hsz
  obtain ⟨L, HL⟩ : ∃ L, Hid ((M.Run (M.f16 true) () (bl s)).1 = L) := ⟨_, hide rfl⟩
  have hLen : L.length ≤ 3300 := by
    have := M.RE_out (e := 3) (by omega) t (bl s)
    rw [M.RE_16b, bl_len] at this
    simp only at this
    rw [unhide HL] at this
    omega
  go_enter Tryz.func57, Tryz.ntmps57
  go_wp2_with fail
  refine (H _).mono ?_
  rintro e' w1 ⟨v, rr, rfl, hI, hb, hrr⟩
  rw [unhide HL] at hI
  obtain ⟨av, cv, hsv⟩ := owns_shape hI
  subst hsv
  have HI : Hid (w1.ownsRow (w.heap.size + 2) 3 1 (.slice av L.length cv) L.length (L.map (Value.int .i64))) := hide (by simpa using hI)
  have HB : Hid (Below w.heap.size w w1) := hide (bstep (bstep (balloc _ _) (balloc _ _)) hb)
  have H0 : Hid (Sc w.heap.size 3 r t w1) := hide (Sc.below (w := ((w.alloc (.cells #[.int .i64 3, .string r, .int .i64 t.1, .bool t.2.1, .bool t.2.2] 23)).alloc (.cells #[.int .i64 0, .string ⟨#[]⟩, .int .i64 0, .bool false, .bool false] 23))) (by constructor <;> simp [go_sem]) hb (by simp; omega))
  have H1 : Hid (Rc (w.heap.size + 1) w1) := hide (Rc.below (w := ((w.alloc (.cells #[.int .i64 3, .string r, .int .i64 t.1, .bool t.2.1, .bool t.2.2] 23)).alloc (.cells #[.int .i64 0, .string ⟨#[]⟩, .int .i64 0, .bool false, .bool false] 23))) (by constructor <;> simp [go_sem]) hb (by simp))
  have HRR := hide hrr
  clear hI hb hrr H hcat hcat2
  by_cases h0 : rr.size = 0
  · have he : rr.toList.isEmpty = true := by rw [isEmpty_size]; simp [h0]
    obtain ⟨a0, a1, a2, a3, a4, x0, x1, x2, x3, x4⟩ := unhide H0
    obtain ⟨b0, b1, b2, b3, b4, y0, y1, y2, y3, y4⟩ := unhide H1
    have hl0 : w.heap.size < w1.heap.size := World.block_lt_of_cell? w1 _ a0
    have hl1 : w.heap.size + 1 < w1.heap.size := World.block_lt_of_cell? w1 _ b0
    go_wp2_with fail
    have hX0 : Sc w.heap.size 3 ⟨#[]⟩ M.st0 ((((((w1.setCell ⟨w.heap.size, 1, none⟩ (.string rr)).setCell ⟨w.heap.size, 0, none⟩ (.int .i64 3)).setCell ⟨w.heap.size, 1, none⟩ (.string ⟨#[]⟩)).setCell ⟨w.heap.size, 2, none⟩ (.int .i64 0)).setCell ⟨w.heap.size, 3, none⟩ (.bool false)).setCell ⟨w.heap.size, 4, none⟩ (.bool false)) := ((unhide H0).set1 rr).rc 3 ⟨#[]⟩ M.st0
    have hX1 : Rc (w.heap.size + 1) ((((((w1.setCell ⟨w.heap.size, 1, none⟩ (.string rr)).setCell ⟨w.heap.size, 0, none⟩ (.int .i64 3)).setCell ⟨w.heap.size, 1, none⟩ (.string ⟨#[]⟩)).setCell ⟨w.heap.size, 2, none⟩ (.int .i64 0)).setCell ⟨w.heap.size, 3, none⟩ (.bool false)).setCell ⟨w.heap.size, 4, none⟩ (.bool false)) := ((((((unhide H1).far _ _ (by simp)).far _ _ (by simp)).far _ _ (by simp)).far _ _ (by simp)).far _ _ (by simp)).far _ _ (by simp)
    have HX : Hid (((((((w1.setCell ⟨w.heap.size, 1, none⟩ (.string rr)).setCell ⟨w.heap.size, 0, none⟩ (.int .i64 3)).setCell ⟨w.heap.size, 1, none⟩ (.string ⟨#[]⟩)).setCell ⟨w.heap.size, 2, none⟩ (.int .i64 0)).setCell ⟨w.heap.size, 3, none⟩ (.bool false)).setCell ⟨w.heap.size, 4, none⟩ (.bool false)).ownsRow (w.heap.size + 2) 3 1 (.slice av L.length cv) L.length (L.map (Value.int .i64))) := hide (oset5 (t := M.st0) (owns_set (unhide HI) ⟨w.heap.size, 1, none⟩ (by simp) (.string rr)) (by omega))
    have HY : Hid (Below w.heap.size w ((((((w1.setCell ⟨w.heap.size, 1, none⟩ (.string rr)).setCell ⟨w.heap.size, 0, none⟩ (.int .i64 3)).setCell ⟨w.heap.size, 1, none⟩ (.string ⟨#[]⟩)).setCell ⟨w.heap.size, 2, none⟩ (.int .i64 0)).setCell ⟨w.heap.size, 3, none⟩ (.bool false)).setCell ⟨w.heap.size, 4, none⟩ (.bool false))) := hide (bset5 (t := M.st0) (bset (unhide HB) ⟨w.heap.size, 1, none⟩ (.string rr) (Nat.le_refl _)) (by omega))
    clear a0 a1 a2 a3 a4 x0 x1 x2 x3 x4 b0 b1 b2 b3 b4 y0 y1 y2 y3 y4 hl0 hl1
    generalize (((((w1.setCell ⟨w.heap.size, 1, none⟩ (.string rr)).setCell ⟨w.heap.size, 0, none⟩ (.int .i64 3)).setCell ⟨w.heap.size, 1, none⟩ (.string ⟨#[]⟩)).setCell ⟨w.heap.size, 2, none⟩ (.int .i64 0)).setCell ⟨w.heap.size, 3, none⟩ (.bool false)).setCell ⟨w.heap.size, 4, none⟩ (.bool false) = X at *
    have hlx := hX0.lt
    obtain ⟨a0, a1, a2, a3, a4, -, -, -, -, -⟩ := hX0
    obtain ⟨b0, b1, b2, b3, b4, y0, y1, y2, y3, y4⟩ := hX1
    have hly : w.heap.size + 1 < X.heap.size := World.block_lt_of_cell? X _ b0
    unfold M.st0 at a2 a3 a4
    go_region
    all_goals
      go_wp2_with fail
      refine bodyPost_ret (v := .tuple #[.slice av L.length cv, .agg #[.int .i64 3, .string ⟨#[]⟩, .int .i64 M.st0.1, .bool M.st0.2.1, .bool M.st0.2.2]]) (by simp [results, Tryz.results57, go_sem, b0, b1, b2, b3, b4, M.st0]) rfl ?_
      refine ⟨.slice av L.length cv, ⟨#[]⟩, M.st0, L, rfl, ?_, ?_, ?_, ?_⟩
      · exact owns_mono (o_drew (oset5 (e := 3) (r := ⟨#[]⟩) (t := M.st0) (unhide HX) (by omega))) (by omega)
      · exact b_drew (bset5 (e := 3) (r := ⟨#[]⟩) (t := M.st0) (unhide HY) (by omega))
      · intro h; cases h
      · intro _; refine ⟨?_, rfl, rfl⟩; rw [unhide HBL, (show M.TE 3 t (bl s) = (M.dec16 true (bl s), t) from M.TE_16 true t (bl s))]; show L = M.dec16 true (bl s); rw [← M.f16_dec true, unhide HL, ← unhide HRR, bl_nil h0]; simp [M.fin]

  · have he : rr.toList.isEmpty = false := by rw [isEmpty_size]; simp [h0]
    obtain ⟨a0, a1, a2, a3, a4, x0, x1, x2, x3, x4⟩ := unhide H0
    obtain ⟨b0, b1, b2, b3, b4, y0, y1, y2, y3, y4⟩ := unhide H1
    have hl0 : w.heap.size < w1.heap.size := World.block_lt_of_cell? w1 _ a0
    have hl1 : w.heap.size + 1 < w1.heap.size := World.block_lt_of_cell? w1 _ b0
    have HIs := hide (owns_a (owns_set (unhide HI) ⟨w.heap.size, 1, none⟩ (by simp) (.string rr)) (.cells #[.int .i64 65533] 3))
    have HO1 := hide (one_set w1 ⟨w.heap.size, 1, none⟩ (.string rr) 65533)
    go_wp2_with (at_builtin; refine append_ints rfl (.tmp 80) (.tmp 81) rfl (w.heap.size + 2) _ L rfl (unhide HIs) _ [65533] rfl (unhide HO1) (by simp; omega) (by simp; omega) ?_)
    intro v2 w2 ho2 hb2
    obtain ⟨av2, cv2, hsv2⟩ := owns_shape ho2
    subst hsv2
    have hz2 : w.heap.size + 2 ≤ (w1.setCell ⟨w.heap.size, 1, none⟩ (.string rr)).heap.size := by simp; omega
    have hb3 := ((Below.refl (w.heap.size + 2) (w1.setCell ⟨w.heap.size, 1, none⟩ (.string rr))).alloc hz2 (.cells #[.int .i64 65533] 3)).trans hb2
    have H0' := hide (((unhide H0).set1 rr).below hb3 (by omega))
    have H1' : Hid (Rc (w.heap.size + 1) w2) := hide (((unhide H1).far ⟨w.heap.size, 1, none⟩ (.string rr) (by simp)).below hb3 (by omega))
    have HB' := hide ((bset (unhide HB) ⟨w.heap.size, 1, none⟩ (.string rr) (Nat.le_refl _)).trans (hb3.mono (by omega)))
    have HI' : Hid (w2.ownsRow (w.heap.size + 2) 3 1 (.slice av2 (L.length + 1) cv2) (L ++ [65533]).length ((L ++ [65533]).map (Value.int .i64))) := hide (by simpa using ho2)
    clear a0 a1 a2 a3 a4 x0 x1 x2 x3 x4 b0 b1 b2 b3 b4 y0 y1 y2 y3 y4 hl0 hl1
    clear ho2 hb2 hb3 H0 H1 HB HI HIs HO1 hz2
    have H0 := H0'
    have H1 := H1'
    have HB := HB'
    have HI := HI'
    clear H0' H1' HB' HI'
    obtain ⟨a0, a1, a2, a3, a4, x0, x1, x2, x3, x4⟩ := unhide H0
    obtain ⟨b0, b1, b2, b3, b4, y0, y1, y2, y3, y4⟩ := unhide H1
    have hl0 : w.heap.size < w2.heap.size := World.block_lt_of_cell? w2 _ a0
    have hl1 : w.heap.size + 1 < w2.heap.size := World.block_lt_of_cell? w2 _ b0
    go_wp2_with fail
    have hX0 : Sc w.heap.size 3 ⟨#[]⟩ M.st0 (((((w2.setCell ⟨w.heap.size, 0, none⟩ (.int .i64 3)).setCell ⟨w.heap.size, 1, none⟩ (.string ⟨#[]⟩)).setCell ⟨w.heap.size, 2, none⟩ (.int .i64 0)).setCell ⟨w.heap.size, 3, none⟩ (.bool false)).setCell ⟨w.heap.size, 4, none⟩ (.bool false)) := (unhide H0).rc 3 ⟨#[]⟩ M.st0
    have hX1 : Rc (w.heap.size + 1) (((((w2.setCell ⟨w.heap.size, 0, none⟩ (.int .i64 3)).setCell ⟨w.heap.size, 1, none⟩ (.string ⟨#[]⟩)).setCell ⟨w.heap.size, 2, none⟩ (.int .i64 0)).setCell ⟨w.heap.size, 3, none⟩ (.bool false)).setCell ⟨w.heap.size, 4, none⟩ (.bool false)) := (((((unhide H1).far _ _ (by simp)).far _ _ (by simp)).far _ _ (by simp)).far _ _ (by simp)).far _ _ (by simp)
    have HX : Hid ((((((w2.setCell ⟨w.heap.size, 0, none⟩ (.int .i64 3)).setCell ⟨w.heap.size, 1, none⟩ (.string ⟨#[]⟩)).setCell ⟨w.heap.size, 2, none⟩ (.int .i64 0)).setCell ⟨w.heap.size, 3, none⟩ (.bool false)).setCell ⟨w.heap.size, 4, none⟩ (.bool false)).ownsRow (w.heap.size + 2) 3 1 (.slice av2 (L.length + 1) cv2) (L ++ [65533]).length ((L ++ [65533]).map (Value.int .i64))) := hide (oset5 (t := M.st0) (unhide HI) (by omega))
    have HY : Hid (Below w.heap.size w (((((w2.setCell ⟨w.heap.size, 0, none⟩ (.int .i64 3)).setCell ⟨w.heap.size, 1, none⟩ (.string ⟨#[]⟩)).setCell ⟨w.heap.size, 2, none⟩ (.int .i64 0)).setCell ⟨w.heap.size, 3, none⟩ (.bool false)).setCell ⟨w.heap.size, 4, none⟩ (.bool false))) := hide (bset5 (t := M.st0) (unhide HB) (by omega))
    clear a0 a1 a2 a3 a4 x0 x1 x2 x3 x4 b0 b1 b2 b3 b4 y0 y1 y2 y3 y4 hl0 hl1
    generalize (((((w2.setCell ⟨w.heap.size, 0, none⟩ (.int .i64 3)).setCell ⟨w.heap.size, 1, none⟩ (.string ⟨#[]⟩)).setCell ⟨w.heap.size, 2, none⟩ (.int .i64 0)).setCell ⟨w.heap.size, 3, none⟩ (.bool false)).setCell ⟨w.heap.size, 4, none⟩ (.bool false)) = X at *
    have hlx := hX0.lt
    obtain ⟨a0, a1, a2, a3, a4, -, -, -, -, -⟩ := hX0
    obtain ⟨b0, b1, b2, b3, b4, y0, y1, y2, y3, y4⟩ := hX1
    have hly : w.heap.size + 1 < X.heap.size := World.block_lt_of_cell? X _ b0
    unfold M.st0 at a2 a3 a4
    go_region
    all_goals
      go_wp2_with fail
      refine bodyPost_ret (v := .tuple #[.slice av2 (L.length + 1) cv2, .agg #[.int .i64 3, .string ⟨#[]⟩, .int .i64 M.st0.1, .bool M.st0.2.1, .bool M.st0.2.2]]) (by simp [results, Tryz.results57, go_sem, b0, b1, b2, b3, b4, M.st0]) rfl ?_
      refine ⟨.slice av2 (L.length + 1) cv2, ⟨#[]⟩, M.st0, (L ++ [65533]), rfl, ?_, ?_, ?_, ?_⟩
      · exact owns_mono (o_drew (oset5 (e := 3) (r := ⟨#[]⟩) (t := M.st0) (unhide HX) (by omega))) (by omega)
      · exact b_drew (bset5 (e := 3) (r := ⟨#[]⟩) (t := M.st0) (unhide HY) (by omega))
      · intro h; cases h
      · intro _; refine ⟨?_, rfl, rfl⟩; rw [unhide HBL, (show M.TE 3 t (bl s) = (M.dec16 true (bl s), t) from M.TE_16 true t (bl s))]; show L ++ [65533] = M.dec16 true (bl s); rw [← M.f16_dec true, unhide HL, ← unhide HRR, fin_some (fun q => h0 (by rw [← bl_len, q]; rfl))]

set_option maxHeartbeats 3000000 in
set_option maxRecDepth 100000 in
theorem feedOf_4_more (r : ByteArray) (t : M.St) (p : ByteArray) (w : World) (hs : r.size + p.size ≤ 3300) :
    Calls Tryz.prog 57 #[sv 4 r t, .string p, .bool false] w (FedR 4 r t p false w) := by
  obtain ⟨s, hcat⟩ : ∃ s, r ++ p = s := ⟨_, rfl⟩
  have hsz : s.size ≤ 3300 := by rw [← hcat, ByteArray.size_append]; exact hs
  have HBL : Hid (bl r ++ bl p = bl s) := hide (by rw [← hcat, bl_app])
  have hcat2 : (r.append p) = s := hcat
  unfold sv
  have H := fun w => decRefS_any false s w hsz
  obtain ⟨L, HL⟩ : ∃ L, Hid (M.decS false (bl s) = L) := ⟨_, hide rfl⟩
  rw [unhide HL] at H
  go_enter Tryz.func57, Tryz.ntmps57
  go_wp2_with fail
  refine (H _).mono ?_
  rintro e' w1 ⟨v, rfl, hI, hb⟩
  obtain ⟨av, cv, hsv⟩ := owns_shape hI
  subst hsv
  have HI : Hid (w1.ownsRow (w.heap.size + 2) 3 1 (.slice av L.length cv) L.length (L.map (Value.int .i64))) := hide (by simpa using hI)
  have HB : Hid (Below w.heap.size w w1) := hide (bstep (bstep (balloc _ _) (balloc _ _)) hb)
  have H0 : Hid (Sc w.heap.size 4 r t w1) := hide (Sc.below (w := ((w.alloc (.cells #[.int .i64 4, .string r, .int .i64 t.1, .bool t.2.1, .bool t.2.2] 23)).alloc (.cells #[.int .i64 0, .string ⟨#[]⟩, .int .i64 0, .bool false, .bool false] 23))) (by constructor <;> simp [go_sem]) hb (by simp; omega))
  have H1 : Hid (Rc (w.heap.size + 1) w1) := hide (Rc.below (w := ((w.alloc (.cells #[.int .i64 4, .string r, .int .i64 t.1, .bool t.2.1, .bool t.2.2] 23)).alloc (.cells #[.int .i64 0, .string ⟨#[]⟩, .int .i64 0, .bool false, .bool false] 23))) (by constructor <;> simp [go_sem]) hb (by simp))
  clear hI hb H hcat hcat2
  obtain ⟨a0, a1, a2, a3, a4, x0, x1, x2, x3, x4⟩ := unhide H0
  obtain ⟨b0, b1, b2, b3, b4, y0, y1, y2, y3, y4⟩ := unhide H1
  have hl0 : w.heap.size < w1.heap.size := World.block_lt_of_cell? w1 _ a0
  have hl1 : w.heap.size + 1 < w1.heap.size := World.block_lt_of_cell? w1 _ b0
  go_wp2_with fail
  have hX0 : Sc w.heap.size 4 ⟨#[]⟩ t (w1.setCell ⟨w.heap.size, 1, none⟩ (.string ⟨#[]⟩)) := (unhide H0).set1 ⟨#[]⟩
  have hX1 : Rc (w.heap.size + 1) (w1.setCell ⟨w.heap.size, 1, none⟩ (.string ⟨#[]⟩)) := (unhide H1).far _ _ (by simp)
  have HX := hide (owns_set (unhide HI) ⟨w.heap.size, 1, none⟩ (by simp) (.string ⟨#[]⟩))
  have HY := hide (bset (unhide HB) ⟨w.heap.size, 1, none⟩ (.string ⟨#[]⟩) (Nat.le_refl _))
  clear a0 a1 a2 a3 a4 x0 x1 x2 x3 x4 b0 b1 b2 b3 b4 y0 y1 y2 y3 y4 hl0 hl1
  generalize w1.setCell ⟨w.heap.size, 1, none⟩ (.string ⟨#[]⟩) = X at *
  have hlx := hX0.lt
  obtain ⟨a0, a1, a2, a3, a4, -, -, -, -, -⟩ := hX0
  obtain ⟨b0, b1, b2, b3, b4, y0, y1, y2, y3, y4⟩ := hX1
  have hly : w.heap.size + 1 < X.heap.size := World.block_lt_of_cell? X _ b0
  skip
  go_region
  all_goals
    go_wp2_with fail
    refine bodyPost_ret (v := .tuple #[.slice av L.length cv, .agg #[.int .i64 4, .string ⟨#[]⟩, .int .i64 t.1, .bool t.2.1, .bool t.2.2]]) (by simp [results, Tryz.results57, go_sem, b0, b1, b2, b3, b4]) rfl ?_
    refine ⟨.slice av L.length cv, ⟨#[]⟩, t, L, rfl, ?_, ?_, ?_, ?_⟩
    · exact owns_mono (o_drew (oset5 (e := 4) (r := ⟨#[]⟩) (t := t) (unhide HX) (by omega))) (by omega)
    · exact b_drew (bset5 (e := 4) (r := ⟨#[]⟩) (t := t) (unhide HY) (by omega))
    · intro _; rw [unhide HBL, M.RE_L]; exact ⟨(unhide HL).symm, rfl, rfl⟩
    · intro h; cases h

set_option maxHeartbeats 3000000 in
set_option maxRecDepth 100000 in
theorem feedOf_4_last (r : ByteArray) (t : M.St) (p : ByteArray) (w : World) (hs : r.size + p.size ≤ 3300) :
    Calls Tryz.prog 57 #[sv 4 r t, .string p, .bool true] w (FedR 4 r t p true w) := by
  obtain ⟨s, hcat⟩ : ∃ s, r ++ p = s := ⟨_, rfl⟩
  have hsz : s.size ≤ 3300 := by rw [← hcat, ByteArray.size_append]; exact hs
  have HBL : Hid (bl r ++ bl p = bl s) := hide (by rw [← hcat, bl_app])
  have hcat2 : (r.append p) = s := hcat
  unfold sv
  have H := fun w => decRefS_any false s w hsz
  obtain ⟨L, HL⟩ : ∃ L, Hid (M.decS false (bl s) = L) := ⟨_, hide rfl⟩
  rw [unhide HL] at H
  go_enter Tryz.func57, Tryz.ntmps57
  go_wp2_with fail
  refine (H _).mono ?_
  rintro e' w1 ⟨v, rfl, hI, hb⟩
  obtain ⟨av, cv, hsv⟩ := owns_shape hI
  subst hsv
  have HI : Hid (w1.ownsRow (w.heap.size + 2) 3 1 (.slice av L.length cv) L.length (L.map (Value.int .i64))) := hide (by simpa using hI)
  have HB : Hid (Below w.heap.size w w1) := hide (bstep (bstep (balloc _ _) (balloc _ _)) hb)
  have H0 : Hid (Sc w.heap.size 4 r t w1) := hide (Sc.below (w := ((w.alloc (.cells #[.int .i64 4, .string r, .int .i64 t.1, .bool t.2.1, .bool t.2.2] 23)).alloc (.cells #[.int .i64 0, .string ⟨#[]⟩, .int .i64 0, .bool false, .bool false] 23))) (by constructor <;> simp [go_sem]) hb (by simp; omega))
  have H1 : Hid (Rc (w.heap.size + 1) w1) := hide (Rc.below (w := ((w.alloc (.cells #[.int .i64 4, .string r, .int .i64 t.1, .bool t.2.1, .bool t.2.2] 23)).alloc (.cells #[.int .i64 0, .string ⟨#[]⟩, .int .i64 0, .bool false, .bool false] 23))) (by constructor <;> simp [go_sem]) hb (by simp))
  clear hI hb H hcat hcat2
  obtain ⟨a0, a1, a2, a3, a4, x0, x1, x2, x3, x4⟩ := unhide H0
  obtain ⟨b0, b1, b2, b3, b4, y0, y1, y2, y3, y4⟩ := unhide H1
  have hl0 : w.heap.size < w1.heap.size := World.block_lt_of_cell? w1 _ a0
  have hl1 : w.heap.size + 1 < w1.heap.size := World.block_lt_of_cell? w1 _ b0
  go_wp2_with fail
  have hX0 : Sc w.heap.size 4 ⟨#[]⟩ M.st0 ((((((w1.setCell ⟨w.heap.size, 1, none⟩ (.string ⟨#[]⟩)).setCell ⟨w.heap.size, 0, none⟩ (.int .i64 4)).setCell ⟨w.heap.size, 1, none⟩ (.string ⟨#[]⟩)).setCell ⟨w.heap.size, 2, none⟩ (.int .i64 0)).setCell ⟨w.heap.size, 3, none⟩ (.bool false)).setCell ⟨w.heap.size, 4, none⟩ (.bool false)) := ((unhide H0).set1 ⟨#[]⟩).rc 4 ⟨#[]⟩ M.st0
  have hX1 : Rc (w.heap.size + 1) ((((((w1.setCell ⟨w.heap.size, 1, none⟩ (.string ⟨#[]⟩)).setCell ⟨w.heap.size, 0, none⟩ (.int .i64 4)).setCell ⟨w.heap.size, 1, none⟩ (.string ⟨#[]⟩)).setCell ⟨w.heap.size, 2, none⟩ (.int .i64 0)).setCell ⟨w.heap.size, 3, none⟩ (.bool false)).setCell ⟨w.heap.size, 4, none⟩ (.bool false)) := ((((((unhide H1).far _ _ (by simp)).far _ _ (by simp)).far _ _ (by simp)).far _ _ (by simp)).far _ _ (by simp)).far _ _ (by simp)
  have HX : Hid (((((((w1.setCell ⟨w.heap.size, 1, none⟩ (.string ⟨#[]⟩)).setCell ⟨w.heap.size, 0, none⟩ (.int .i64 4)).setCell ⟨w.heap.size, 1, none⟩ (.string ⟨#[]⟩)).setCell ⟨w.heap.size, 2, none⟩ (.int .i64 0)).setCell ⟨w.heap.size, 3, none⟩ (.bool false)).setCell ⟨w.heap.size, 4, none⟩ (.bool false)).ownsRow (w.heap.size + 2) 3 1 (.slice av L.length cv) L.length (L.map (Value.int .i64))) := hide (oset5 (t := M.st0) (owns_set (unhide HI) ⟨w.heap.size, 1, none⟩ (by simp) (.string ⟨#[]⟩)) (by omega))
  have HY : Hid (Below w.heap.size w ((((((w1.setCell ⟨w.heap.size, 1, none⟩ (.string ⟨#[]⟩)).setCell ⟨w.heap.size, 0, none⟩ (.int .i64 4)).setCell ⟨w.heap.size, 1, none⟩ (.string ⟨#[]⟩)).setCell ⟨w.heap.size, 2, none⟩ (.int .i64 0)).setCell ⟨w.heap.size, 3, none⟩ (.bool false)).setCell ⟨w.heap.size, 4, none⟩ (.bool false))) := hide (bset5 (t := M.st0) (bset (unhide HB) ⟨w.heap.size, 1, none⟩ (.string ⟨#[]⟩) (Nat.le_refl _)) (by omega))
  clear a0 a1 a2 a3 a4 x0 x1 x2 x3 x4 b0 b1 b2 b3 b4 y0 y1 y2 y3 y4 hl0 hl1
  generalize (((((w1.setCell ⟨w.heap.size, 1, none⟩ (.string ⟨#[]⟩)).setCell ⟨w.heap.size, 0, none⟩ (.int .i64 4)).setCell ⟨w.heap.size, 1, none⟩ (.string ⟨#[]⟩)).setCell ⟨w.heap.size, 2, none⟩ (.int .i64 0)).setCell ⟨w.heap.size, 3, none⟩ (.bool false)).setCell ⟨w.heap.size, 4, none⟩ (.bool false) = X at *
  have hlx := hX0.lt
  obtain ⟨a0, a1, a2, a3, a4, -, -, -, -, -⟩ := hX0
  obtain ⟨b0, b1, b2, b3, b4, y0, y1, y2, y3, y4⟩ := hX1
  have hly : w.heap.size + 1 < X.heap.size := World.block_lt_of_cell? X _ b0
  unfold M.st0 at a2 a3 a4
  go_region
  all_goals
    go_wp2_with fail
    refine bodyPost_ret (v := .tuple #[.slice av L.length cv, .agg #[.int .i64 4, .string ⟨#[]⟩, .int .i64 M.st0.1, .bool M.st0.2.1, .bool M.st0.2.2]]) (by simp [results, Tryz.results57, go_sem, b0, b1, b2, b3, b4, M.st0]) rfl ?_
    refine ⟨.slice av L.length cv, ⟨#[]⟩, M.st0, L, rfl, ?_, ?_, ?_, ?_⟩
    · exact owns_mono (o_drew (oset5 (e := 4) (r := ⟨#[]⟩) (t := M.st0) (unhide HX) (by omega))) (by omega)
    · exact b_drew (bset5 (e := 4) (r := ⟨#[]⟩) (t := M.st0) (unhide HY) (by omega))
    · intro h; cases h
    · intro _; refine ⟨?_, rfl, rfl⟩; rw [unhide HBL, (show M.TE 4 t (bl s) = (M.decS false (bl s), t) from M.TE_S false t (bl s))]; exact (unhide HL).symm

set_option maxHeartbeats 3000000 in
set_option maxRecDepth 100000 in
theorem feedOf_5_more (r : ByteArray) (t : M.St) (p : ByteArray) (w : World) (hs : r.size + p.size ≤ 3300) :
    Calls Tryz.prog 57 #[sv 5 r t, .string p, .bool false] w (FedR 5 r t p false w) := by
  obtain ⟨s, hcat⟩ : ∃ s, r ++ p = s := ⟨_, rfl⟩
  have hsz : s.size ≤ 3300 := by rw [← hcat, ByteArray.size_append]; exact hs
  have HBL : Hid (bl r ++ bl p = bl s) := hide (by rw [← hcat, bl_app])
  have hcat2 : (r.append p) = s := hcat
  unfold sv
  have H := fun w => decRefS_any true s w hsz
  obtain ⟨L, HL⟩ : ∃ L, Hid (M.decS true (bl s) = L) := ⟨_, hide rfl⟩
  rw [unhide HL] at H
  go_enter Tryz.func57, Tryz.ntmps57
  go_wp2_with fail
  refine (H _).mono ?_
  rintro e' w1 ⟨v, rfl, hI, hb⟩
  obtain ⟨av, cv, hsv⟩ := owns_shape hI
  subst hsv
  have HI : Hid (w1.ownsRow (w.heap.size + 2) 3 1 (.slice av L.length cv) L.length (L.map (Value.int .i64))) := hide (by simpa using hI)
  have HB : Hid (Below w.heap.size w w1) := hide (bstep (bstep (balloc _ _) (balloc _ _)) hb)
  have H0 : Hid (Sc w.heap.size 5 r t w1) := hide (Sc.below (w := ((w.alloc (.cells #[.int .i64 5, .string r, .int .i64 t.1, .bool t.2.1, .bool t.2.2] 23)).alloc (.cells #[.int .i64 0, .string ⟨#[]⟩, .int .i64 0, .bool false, .bool false] 23))) (by constructor <;> simp [go_sem]) hb (by simp; omega))
  have H1 : Hid (Rc (w.heap.size + 1) w1) := hide (Rc.below (w := ((w.alloc (.cells #[.int .i64 5, .string r, .int .i64 t.1, .bool t.2.1, .bool t.2.2] 23)).alloc (.cells #[.int .i64 0, .string ⟨#[]⟩, .int .i64 0, .bool false, .bool false] 23))) (by constructor <;> simp [go_sem]) hb (by simp))
  clear hI hb H hcat hcat2
  obtain ⟨a0, a1, a2, a3, a4, x0, x1, x2, x3, x4⟩ := unhide H0
  obtain ⟨b0, b1, b2, b3, b4, y0, y1, y2, y3, y4⟩ := unhide H1
  have hl0 : w.heap.size < w1.heap.size := World.block_lt_of_cell? w1 _ a0
  have hl1 : w.heap.size + 1 < w1.heap.size := World.block_lt_of_cell? w1 _ b0
  go_wp2_with fail
  have hX0 : Sc w.heap.size 5 ⟨#[]⟩ t (w1.setCell ⟨w.heap.size, 1, none⟩ (.string ⟨#[]⟩)) := (unhide H0).set1 ⟨#[]⟩
  have hX1 : Rc (w.heap.size + 1) (w1.setCell ⟨w.heap.size, 1, none⟩ (.string ⟨#[]⟩)) := (unhide H1).far _ _ (by simp)
  have HX := hide (owns_set (unhide HI) ⟨w.heap.size, 1, none⟩ (by simp) (.string ⟨#[]⟩))
  have HY := hide (bset (unhide HB) ⟨w.heap.size, 1, none⟩ (.string ⟨#[]⟩) (Nat.le_refl _))
  clear a0 a1 a2 a3 a4 x0 x1 x2 x3 x4 b0 b1 b2 b3 b4 y0 y1 y2 y3 y4 hl0 hl1
  generalize w1.setCell ⟨w.heap.size, 1, none⟩ (.string ⟨#[]⟩) = X at *
  have hlx := hX0.lt
  obtain ⟨a0, a1, a2, a3, a4, -, -, -, -, -⟩ := hX0
  obtain ⟨b0, b1, b2, b3, b4, y0, y1, y2, y3, y4⟩ := hX1
  have hly : w.heap.size + 1 < X.heap.size := World.block_lt_of_cell? X _ b0
  skip
  go_region
  all_goals
    go_wp2_with fail
    refine bodyPost_ret (v := .tuple #[.slice av L.length cv, .agg #[.int .i64 5, .string ⟨#[]⟩, .int .i64 t.1, .bool t.2.1, .bool t.2.2]]) (by simp [results, Tryz.results57, go_sem, b0, b1, b2, b3, b4]) rfl ?_
    refine ⟨.slice av L.length cv, ⟨#[]⟩, t, L, rfl, ?_, ?_, ?_, ?_⟩
    · exact owns_mono (o_drew (oset5 (e := 5) (r := ⟨#[]⟩) (t := t) (unhide HX) (by omega))) (by omega)
    · exact b_drew (bset5 (e := 5) (r := ⟨#[]⟩) (t := t) (unhide HY) (by omega))
    · intro _; rw [unhide HBL, M.RE_U]; exact ⟨(unhide HL).symm, rfl, rfl⟩
    · intro h; cases h

set_option maxHeartbeats 3000000 in
set_option maxRecDepth 100000 in
theorem feedOf_5_last (r : ByteArray) (t : M.St) (p : ByteArray) (w : World) (hs : r.size + p.size ≤ 3300) :
    Calls Tryz.prog 57 #[sv 5 r t, .string p, .bool true] w (FedR 5 r t p true w) := by
  obtain ⟨s, hcat⟩ : ∃ s, r ++ p = s := ⟨_, rfl⟩
  have hsz : s.size ≤ 3300 := by rw [← hcat, ByteArray.size_append]; exact hs
  have HBL : Hid (bl r ++ bl p = bl s) := hide (by rw [← hcat, bl_app])
  have hcat2 : (r.append p) = s := hcat
  unfold sv
  have H := fun w => decRefS_any true s w hsz
  obtain ⟨L, HL⟩ : ∃ L, Hid (M.decS true (bl s) = L) := ⟨_, hide rfl⟩
  rw [unhide HL] at H
  go_enter Tryz.func57, Tryz.ntmps57
  go_wp2_with fail
  refine (H _).mono ?_
  rintro e' w1 ⟨v, rfl, hI, hb⟩
  obtain ⟨av, cv, hsv⟩ := owns_shape hI
  subst hsv
  have HI : Hid (w1.ownsRow (w.heap.size + 2) 3 1 (.slice av L.length cv) L.length (L.map (Value.int .i64))) := hide (by simpa using hI)
  have HB : Hid (Below w.heap.size w w1) := hide (bstep (bstep (balloc _ _) (balloc _ _)) hb)
  have H0 : Hid (Sc w.heap.size 5 r t w1) := hide (Sc.below (w := ((w.alloc (.cells #[.int .i64 5, .string r, .int .i64 t.1, .bool t.2.1, .bool t.2.2] 23)).alloc (.cells #[.int .i64 0, .string ⟨#[]⟩, .int .i64 0, .bool false, .bool false] 23))) (by constructor <;> simp [go_sem]) hb (by simp; omega))
  have H1 : Hid (Rc (w.heap.size + 1) w1) := hide (Rc.below (w := ((w.alloc (.cells #[.int .i64 5, .string r, .int .i64 t.1, .bool t.2.1, .bool t.2.2] 23)).alloc (.cells #[.int .i64 0, .string ⟨#[]⟩, .int .i64 0, .bool false, .bool false] 23))) (by constructor <;> simp [go_sem]) hb (by simp))
  clear hI hb H hcat hcat2
  obtain ⟨a0, a1, a2, a3, a4, x0, x1, x2, x3, x4⟩ := unhide H0
  obtain ⟨b0, b1, b2, b3, b4, y0, y1, y2, y3, y4⟩ := unhide H1
  have hl0 : w.heap.size < w1.heap.size := World.block_lt_of_cell? w1 _ a0
  have hl1 : w.heap.size + 1 < w1.heap.size := World.block_lt_of_cell? w1 _ b0
  go_wp2_with fail
  have hX0 : Sc w.heap.size 5 ⟨#[]⟩ M.st0 ((((((w1.setCell ⟨w.heap.size, 1, none⟩ (.string ⟨#[]⟩)).setCell ⟨w.heap.size, 0, none⟩ (.int .i64 5)).setCell ⟨w.heap.size, 1, none⟩ (.string ⟨#[]⟩)).setCell ⟨w.heap.size, 2, none⟩ (.int .i64 0)).setCell ⟨w.heap.size, 3, none⟩ (.bool false)).setCell ⟨w.heap.size, 4, none⟩ (.bool false)) := ((unhide H0).set1 ⟨#[]⟩).rc 5 ⟨#[]⟩ M.st0
  have hX1 : Rc (w.heap.size + 1) ((((((w1.setCell ⟨w.heap.size, 1, none⟩ (.string ⟨#[]⟩)).setCell ⟨w.heap.size, 0, none⟩ (.int .i64 5)).setCell ⟨w.heap.size, 1, none⟩ (.string ⟨#[]⟩)).setCell ⟨w.heap.size, 2, none⟩ (.int .i64 0)).setCell ⟨w.heap.size, 3, none⟩ (.bool false)).setCell ⟨w.heap.size, 4, none⟩ (.bool false)) := ((((((unhide H1).far _ _ (by simp)).far _ _ (by simp)).far _ _ (by simp)).far _ _ (by simp)).far _ _ (by simp)).far _ _ (by simp)
  have HX : Hid (((((((w1.setCell ⟨w.heap.size, 1, none⟩ (.string ⟨#[]⟩)).setCell ⟨w.heap.size, 0, none⟩ (.int .i64 5)).setCell ⟨w.heap.size, 1, none⟩ (.string ⟨#[]⟩)).setCell ⟨w.heap.size, 2, none⟩ (.int .i64 0)).setCell ⟨w.heap.size, 3, none⟩ (.bool false)).setCell ⟨w.heap.size, 4, none⟩ (.bool false)).ownsRow (w.heap.size + 2) 3 1 (.slice av L.length cv) L.length (L.map (Value.int .i64))) := hide (oset5 (t := M.st0) (owns_set (unhide HI) ⟨w.heap.size, 1, none⟩ (by simp) (.string ⟨#[]⟩)) (by omega))
  have HY : Hid (Below w.heap.size w ((((((w1.setCell ⟨w.heap.size, 1, none⟩ (.string ⟨#[]⟩)).setCell ⟨w.heap.size, 0, none⟩ (.int .i64 5)).setCell ⟨w.heap.size, 1, none⟩ (.string ⟨#[]⟩)).setCell ⟨w.heap.size, 2, none⟩ (.int .i64 0)).setCell ⟨w.heap.size, 3, none⟩ (.bool false)).setCell ⟨w.heap.size, 4, none⟩ (.bool false))) := hide (bset5 (t := M.st0) (bset (unhide HB) ⟨w.heap.size, 1, none⟩ (.string ⟨#[]⟩) (Nat.le_refl _)) (by omega))
  clear a0 a1 a2 a3 a4 x0 x1 x2 x3 x4 b0 b1 b2 b3 b4 y0 y1 y2 y3 y4 hl0 hl1
  generalize (((((w1.setCell ⟨w.heap.size, 1, none⟩ (.string ⟨#[]⟩)).setCell ⟨w.heap.size, 0, none⟩ (.int .i64 5)).setCell ⟨w.heap.size, 1, none⟩ (.string ⟨#[]⟩)).setCell ⟨w.heap.size, 2, none⟩ (.int .i64 0)).setCell ⟨w.heap.size, 3, none⟩ (.bool false)).setCell ⟨w.heap.size, 4, none⟩ (.bool false) = X at *
  have hlx := hX0.lt
  obtain ⟨a0, a1, a2, a3, a4, -, -, -, -, -⟩ := hX0
  obtain ⟨b0, b1, b2, b3, b4, y0, y1, y2, y3, y4⟩ := hX1
  have hly : w.heap.size + 1 < X.heap.size := World.block_lt_of_cell? X _ b0
  unfold M.st0 at a2 a3 a4
  go_region
  all_goals
    go_wp2_with fail
    refine bodyPost_ret (v := .tuple #[.slice av L.length cv, .agg #[.int .i64 5, .string ⟨#[]⟩, .int .i64 M.st0.1, .bool M.st0.2.1, .bool M.st0.2.2]]) (by simp [results, Tryz.results57, go_sem, b0, b1, b2, b3, b4, M.st0]) rfl ?_
    refine ⟨.slice av L.length cv, ⟨#[]⟩, M.st0, L, rfl, ?_, ?_, ?_, ?_⟩
    · exact owns_mono (o_drew (oset5 (e := 5) (r := ⟨#[]⟩) (t := M.st0) (unhide HX) (by omega))) (by omega)
    · exact b_drew (bset5 (e := 5) (r := ⟨#[]⟩) (t := M.st0) (unhide HY) (by omega))
    · intro h; cases h
    · intro _; refine ⟨?_, rfl, rfl⟩; rw [unhide HBL, (show M.TE 5 t (bl s) = (M.decS true (bl s), t) from M.TE_S true t (bl s))]; exact (unhide HL).symm
end Go.Proofs.YtaiinjfnkmidbaaGreatDoor

namespace Go.Proofs.YtaiinjfnkmidbaaGreatDoor
open Go.RowKit
set_option linter.unusedVariables false

/-- A front in memory. -/
structure Fb (B : Nat) (f : Fr) (w : World) : Prop where
  c0 : w.cell? ⟨B, 0, none⟩ = some (.string f.L)
  c1 : w.cell? ⟨B, 1, none⟩ = some (.int .i64 f.enc)
  c2 : w.cell? ⟨B, 2, none⟩ = some (.int .i64 f.why)
  c3 : w.cell? ⟨B, 3, none⟩ = some (.string f.W)
  c4 : w.cell? ⟨B, 4, none⟩ = some (.int .i64 f.e)
  c5 : w.cell? ⟨B, 5, none⟩ = some (.string f.r)
  c6 : w.cell? ⟨B, 6, none⟩ = some (.int .i64 f.t.1)
  c7 : w.cell? ⟨B, 7, none⟩ = some (.bool f.t.2.1)
  c8 : w.cell? ⟨B, 8, none⟩ = some (.bool f.t.2.2)
  f0 : w.frozen? ⟨B, 0, none⟩ = false
  f1 : w.frozen? ⟨B, 1, none⟩ = false
  f2 : w.frozen? ⟨B, 2, none⟩ = false
  f3 : w.frozen? ⟨B, 3, none⟩ = false
  f4 : w.frozen? ⟨B, 4, none⟩ = false
  f5 : w.frozen? ⟨B, 5, none⟩ = false
  f6 : w.frozen? ⟨B, 6, none⟩ = false
  f7 : w.frozen? ⟨B, 7, none⟩ = false
  f8 : w.frozen? ⟨B, 8, none⟩ = false
theorem Fb.below {B D : Nat} {f : Fr} {w w2 : World} (h : Fb B f w) (hb : Below D w w2) (hB : B < D) : Fb B f w2 where
  c0 := (hb.cell (p := ⟨B, 0, none⟩) hB).trans h.c0
  c1 := (hb.cell (p := ⟨B, 1, none⟩) hB).trans h.c1
  c2 := (hb.cell (p := ⟨B, 2, none⟩) hB).trans h.c2
  c3 := (hb.cell (p := ⟨B, 3, none⟩) hB).trans h.c3
  c4 := (hb.cell (p := ⟨B, 4, none⟩) hB).trans h.c4
  c5 := (hb.cell (p := ⟨B, 5, none⟩) hB).trans h.c5
  c6 := (hb.cell (p := ⟨B, 6, none⟩) hB).trans h.c6
  c7 := (hb.cell (p := ⟨B, 7, none⟩) hB).trans h.c7
  c8 := (hb.cell (p := ⟨B, 8, none⟩) hB).trans h.c8
  f0 := (hb.frozen (p := ⟨B, 0, none⟩) hB).trans h.f0
  f1 := (hb.frozen (p := ⟨B, 1, none⟩) hB).trans h.f1
  f2 := (hb.frozen (p := ⟨B, 2, none⟩) hB).trans h.f2
  f3 := (hb.frozen (p := ⟨B, 3, none⟩) hB).trans h.f3
  f4 := (hb.frozen (p := ⟨B, 4, none⟩) hB).trans h.f4
  f5 := (hb.frozen (p := ⟨B, 5, none⟩) hB).trans h.f5
  f6 := (hb.frozen (p := ⟨B, 6, none⟩) hB).trans h.f6
  f7 := (hb.frozen (p := ⟨B, 7, none⟩) hB).trans h.f7
  f8 := (hb.frozen (p := ⟨B, 8, none⟩) hB).trans h.f8
theorem Fb.lt {B : Nat} {f : Fr} {w : World} (h : Fb B f w) : B < w.heap.size := World.block_lt_of_cell? w _ h.c0
theorem Fb.on {B : Nat} {f : Fr} {w w2 : World} (h : Fb B f w) (hb : Below w.heap.size w w2) : Fb B f w2 := h.below hb h.lt
theorem Fb.alloc {B : Nat} {f : Fr} {w : World} (h : Fb B f w) (o : Obj) : Fb B f (w.alloc o) := h.on (balloc _ _)
theorem Fb.new (w : World) (f : Fr) : Fb w.heap.size f (w.alloc (.cells #[.string f.L, .int .i64 f.enc, .int .i64 f.why, .string f.W, .int .i64 f.e, .string f.r, .int .i64 f.t.1, .bool f.t.2.1, .bool f.t.2.2] 25)) := by constructor <;> simp [go_sem]
theorem Fb.far {B : Nat} {f : Fr} {w : World} (h : Fb B f w) (a : Addr) (u : Value) (ha : a.block ≠ B) : Fb B f (w.setCell a u) where
  c0 := (World.cell?_setCell_other _ _ _ _ (by intro e; exact ha (by rw [e]))).trans h.c0
  c1 := (World.cell?_setCell_other _ _ _ _ (by intro e; exact ha (by rw [e]))).trans h.c1
  c2 := (World.cell?_setCell_other _ _ _ _ (by intro e; exact ha (by rw [e]))).trans h.c2
  c3 := (World.cell?_setCell_other _ _ _ _ (by intro e; exact ha (by rw [e]))).trans h.c3
  c4 := (World.cell?_setCell_other _ _ _ _ (by intro e; exact ha (by rw [e]))).trans h.c4
  c5 := (World.cell?_setCell_other _ _ _ _ (by intro e; exact ha (by rw [e]))).trans h.c5
  c6 := (World.cell?_setCell_other _ _ _ _ (by intro e; exact ha (by rw [e]))).trans h.c6
  c7 := (World.cell?_setCell_other _ _ _ _ (by intro e; exact ha (by rw [e]))).trans h.c7
  c8 := (World.cell?_setCell_other _ _ _ _ (by intro e; exact ha (by rw [e]))).trans h.c8
  f0 := by rw [World.frozen?_setCell]; exact h.f0
  f1 := by rw [World.frozen?_setCell]; exact h.f1
  f2 := by rw [World.frozen?_setCell]; exact h.f2
  f3 := by rw [World.frozen?_setCell]; exact h.f3
  f4 := by rw [World.frozen?_setCell]; exact h.f4
  f5 := by rw [World.frozen?_setCell]; exact h.f5
  f6 := by rw [World.frozen?_setCell]; exact h.f6
  f7 := by rw [World.frozen?_setCell]; exact h.f7
  f8 := by rw [World.frozen?_setCell]; exact h.f8
theorem Fb.set0 {B : Nat} {f : Fr} {w : World} (h : Fb B f w) (x : ByteArray) : Fb B { f with L := x } (w.setCell ⟨B, 0, none⟩ (.string x)) where
  c0 := World.cell?_setCell_same _ _ _ h.c0
  c1 := (World.cell?_setCell_other _ _ _ _ (by simp)).trans h.c1
  c2 := (World.cell?_setCell_other _ _ _ _ (by simp)).trans h.c2
  c3 := (World.cell?_setCell_other _ _ _ _ (by simp)).trans h.c3
  c4 := (World.cell?_setCell_other _ _ _ _ (by simp)).trans h.c4
  c5 := (World.cell?_setCell_other _ _ _ _ (by simp)).trans h.c5
  c6 := (World.cell?_setCell_other _ _ _ _ (by simp)).trans h.c6
  c7 := (World.cell?_setCell_other _ _ _ _ (by simp)).trans h.c7
  c8 := (World.cell?_setCell_other _ _ _ _ (by simp)).trans h.c8
  f0 := by rw [World.frozen?_setCell]; exact h.f0
  f1 := by rw [World.frozen?_setCell]; exact h.f1
  f2 := by rw [World.frozen?_setCell]; exact h.f2
  f3 := by rw [World.frozen?_setCell]; exact h.f3
  f4 := by rw [World.frozen?_setCell]; exact h.f4
  f5 := by rw [World.frozen?_setCell]; exact h.f5
  f6 := by rw [World.frozen?_setCell]; exact h.f6
  f7 := by rw [World.frozen?_setCell]; exact h.f7
  f8 := by rw [World.frozen?_setCell]; exact h.f8
theorem Fb.set1 {B : Nat} {f : Fr} {w : World} (h : Fb B f w) (x : Int) : Fb B { f with enc := x } (w.setCell ⟨B, 1, none⟩ (.int .i64 x)) where
  c0 := (World.cell?_setCell_other _ _ _ _ (by simp)).trans h.c0
  c1 := World.cell?_setCell_same _ _ _ h.c1
  c2 := (World.cell?_setCell_other _ _ _ _ (by simp)).trans h.c2
  c3 := (World.cell?_setCell_other _ _ _ _ (by simp)).trans h.c3
  c4 := (World.cell?_setCell_other _ _ _ _ (by simp)).trans h.c4
  c5 := (World.cell?_setCell_other _ _ _ _ (by simp)).trans h.c5
  c6 := (World.cell?_setCell_other _ _ _ _ (by simp)).trans h.c6
  c7 := (World.cell?_setCell_other _ _ _ _ (by simp)).trans h.c7
  c8 := (World.cell?_setCell_other _ _ _ _ (by simp)).trans h.c8
  f0 := by rw [World.frozen?_setCell]; exact h.f0
  f1 := by rw [World.frozen?_setCell]; exact h.f1
  f2 := by rw [World.frozen?_setCell]; exact h.f2
  f3 := by rw [World.frozen?_setCell]; exact h.f3
  f4 := by rw [World.frozen?_setCell]; exact h.f4
  f5 := by rw [World.frozen?_setCell]; exact h.f5
  f6 := by rw [World.frozen?_setCell]; exact h.f6
  f7 := by rw [World.frozen?_setCell]; exact h.f7
  f8 := by rw [World.frozen?_setCell]; exact h.f8
theorem Fb.set2 {B : Nat} {f : Fr} {w : World} (h : Fb B f w) (x : Int) : Fb B { f with why := x } (w.setCell ⟨B, 2, none⟩ (.int .i64 x)) where
  c0 := (World.cell?_setCell_other _ _ _ _ (by simp)).trans h.c0
  c1 := (World.cell?_setCell_other _ _ _ _ (by simp)).trans h.c1
  c2 := World.cell?_setCell_same _ _ _ h.c2
  c3 := (World.cell?_setCell_other _ _ _ _ (by simp)).trans h.c3
  c4 := (World.cell?_setCell_other _ _ _ _ (by simp)).trans h.c4
  c5 := (World.cell?_setCell_other _ _ _ _ (by simp)).trans h.c5
  c6 := (World.cell?_setCell_other _ _ _ _ (by simp)).trans h.c6
  c7 := (World.cell?_setCell_other _ _ _ _ (by simp)).trans h.c7
  c8 := (World.cell?_setCell_other _ _ _ _ (by simp)).trans h.c8
  f0 := by rw [World.frozen?_setCell]; exact h.f0
  f1 := by rw [World.frozen?_setCell]; exact h.f1
  f2 := by rw [World.frozen?_setCell]; exact h.f2
  f3 := by rw [World.frozen?_setCell]; exact h.f3
  f4 := by rw [World.frozen?_setCell]; exact h.f4
  f5 := by rw [World.frozen?_setCell]; exact h.f5
  f6 := by rw [World.frozen?_setCell]; exact h.f6
  f7 := by rw [World.frozen?_setCell]; exact h.f7
  f8 := by rw [World.frozen?_setCell]; exact h.f8
theorem Fb.set3 {B : Nat} {f : Fr} {w : World} (h : Fb B f w) (x : ByteArray) : Fb B { f with W := x } (w.setCell ⟨B, 3, none⟩ (.string x)) where
  c0 := (World.cell?_setCell_other _ _ _ _ (by simp)).trans h.c0
  c1 := (World.cell?_setCell_other _ _ _ _ (by simp)).trans h.c1
  c2 := (World.cell?_setCell_other _ _ _ _ (by simp)).trans h.c2
  c3 := World.cell?_setCell_same _ _ _ h.c3
  c4 := (World.cell?_setCell_other _ _ _ _ (by simp)).trans h.c4
  c5 := (World.cell?_setCell_other _ _ _ _ (by simp)).trans h.c5
  c6 := (World.cell?_setCell_other _ _ _ _ (by simp)).trans h.c6
  c7 := (World.cell?_setCell_other _ _ _ _ (by simp)).trans h.c7
  c8 := (World.cell?_setCell_other _ _ _ _ (by simp)).trans h.c8
  f0 := by rw [World.frozen?_setCell]; exact h.f0
  f1 := by rw [World.frozen?_setCell]; exact h.f1
  f2 := by rw [World.frozen?_setCell]; exact h.f2
  f3 := by rw [World.frozen?_setCell]; exact h.f3
  f4 := by rw [World.frozen?_setCell]; exact h.f4
  f5 := by rw [World.frozen?_setCell]; exact h.f5
  f6 := by rw [World.frozen?_setCell]; exact h.f6
  f7 := by rw [World.frozen?_setCell]; exact h.f7
  f8 := by rw [World.frozen?_setCell]; exact h.f8
theorem Fb.set4 {B : Nat} {f : Fr} {w : World} (h : Fb B f w) (x : Int) : Fb B { f with e := x } (w.setCell ⟨B, 4, none⟩ (.int .i64 x)) where
  c0 := (World.cell?_setCell_other _ _ _ _ (by simp)).trans h.c0
  c1 := (World.cell?_setCell_other _ _ _ _ (by simp)).trans h.c1
  c2 := (World.cell?_setCell_other _ _ _ _ (by simp)).trans h.c2
  c3 := (World.cell?_setCell_other _ _ _ _ (by simp)).trans h.c3
  c4 := World.cell?_setCell_same _ _ _ h.c4
  c5 := (World.cell?_setCell_other _ _ _ _ (by simp)).trans h.c5
  c6 := (World.cell?_setCell_other _ _ _ _ (by simp)).trans h.c6
  c7 := (World.cell?_setCell_other _ _ _ _ (by simp)).trans h.c7
  c8 := (World.cell?_setCell_other _ _ _ _ (by simp)).trans h.c8
  f0 := by rw [World.frozen?_setCell]; exact h.f0
  f1 := by rw [World.frozen?_setCell]; exact h.f1
  f2 := by rw [World.frozen?_setCell]; exact h.f2
  f3 := by rw [World.frozen?_setCell]; exact h.f3
  f4 := by rw [World.frozen?_setCell]; exact h.f4
  f5 := by rw [World.frozen?_setCell]; exact h.f5
  f6 := by rw [World.frozen?_setCell]; exact h.f6
  f7 := by rw [World.frozen?_setCell]; exact h.f7
  f8 := by rw [World.frozen?_setCell]; exact h.f8
theorem Fb.set5 {B : Nat} {f : Fr} {w : World} (h : Fb B f w) (x : ByteArray) : Fb B { f with r := x } (w.setCell ⟨B, 5, none⟩ (.string x)) where
  c0 := (World.cell?_setCell_other _ _ _ _ (by simp)).trans h.c0
  c1 := (World.cell?_setCell_other _ _ _ _ (by simp)).trans h.c1
  c2 := (World.cell?_setCell_other _ _ _ _ (by simp)).trans h.c2
  c3 := (World.cell?_setCell_other _ _ _ _ (by simp)).trans h.c3
  c4 := (World.cell?_setCell_other _ _ _ _ (by simp)).trans h.c4
  c5 := World.cell?_setCell_same _ _ _ h.c5
  c6 := (World.cell?_setCell_other _ _ _ _ (by simp)).trans h.c6
  c7 := (World.cell?_setCell_other _ _ _ _ (by simp)).trans h.c7
  c8 := (World.cell?_setCell_other _ _ _ _ (by simp)).trans h.c8
  f0 := by rw [World.frozen?_setCell]; exact h.f0
  f1 := by rw [World.frozen?_setCell]; exact h.f1
  f2 := by rw [World.frozen?_setCell]; exact h.f2
  f3 := by rw [World.frozen?_setCell]; exact h.f3
  f4 := by rw [World.frozen?_setCell]; exact h.f4
  f5 := by rw [World.frozen?_setCell]; exact h.f5
  f6 := by rw [World.frozen?_setCell]; exact h.f6
  f7 := by rw [World.frozen?_setCell]; exact h.f7
  f8 := by rw [World.frozen?_setCell]; exact h.f8
end Go.Proofs.YtaiinjfnkmidbaaGreatDoor

namespace Go.Proofs
open Go.Shelf
def Tryz.lays137_ren : Go.Shelf.Ren := ⟨fun | 137 => 209 | 217 => 229 | 266 => 237 | n => n, fun | 9 => 9 | 5 => 5 | 3 => 3 | n => n, fun | n => n⟩
theorem Tryz.lays137 : Go.Proofs.Lays.n137 Tryz.prog Tryz.lays137_ren := {
  mixed := by kernel_rfl
  f137 := Tryz.func209.trans (congrArg some (by kernel_rfl))
  f217 := Tryz.func229.trans (congrArg some (by kernel_rfl))
  f266 := Tryz.func237.trans (congrArg some (by kernel_rfl))
  t3 := Tryz.underlying3
  a3 := Tryz.isAgg3
  z3 := Tryz.sizeOf3
  v3 := Tryz.zeroValue3
  t5 := Tryz.underlying5
  a5 := Tryz.isAgg5
  z5 := Tryz.sizeOf5
  v5 := Tryz.zeroValue5
  t9 := Tryz.underlying9
  a9 := Tryz.isAgg9
  z9 := Tryz.sizeOf9
  v9 := Tryz.zeroValue9 }
def Tryz.lays99_ren : Go.Shelf.Ren := ⟨fun | 99 => 69 | 206 => 133 | n => n, fun | 9 => 9 | 4 => 4 | 3 => 3 | n => n, fun | n => n⟩
theorem Tryz.lays99 : Go.Proofs.Lays.n99 Tryz.prog Tryz.lays99_ren := {
  mixed := by kernel_rfl
  f99 := Tryz.func69.trans (congrArg some (by kernel_rfl))
  f206 := Tryz.func133.trans (congrArg some (by kernel_rfl))
  t3 := Tryz.underlying3
  a3 := Tryz.isAgg3
  z3 := Tryz.sizeOf3
  v3 := Tryz.zeroValue3
  t4 := Tryz.underlying4
  a4 := Tryz.isAgg4
  z4 := Tryz.sizeOf4
  v4 := Tryz.zeroValue4
  t9 := Tryz.underlying9
  a9 := Tryz.isAgg9
  z9 := Tryz.sizeOf9
  v9 := Tryz.zeroValue9 }
def Tryz.laysM143_ren : Go.Shelf.Ren := ⟨fun | 143 => 218 | 219 => 234 | 217 => 229 | 225 => 240 | 224 => 239 | 267 => 241 | 266 => 237 | 314 => 246 | n => n, fun | 9 => 9 | 3 => 3 | 4 => 4 | 5 => 5 | 46 => 186 | 146 => 224 | 51 => 223 | n => n, fun | 1 => 2 | n => n⟩
theorem Tryz.laysM143 : Go.Proofs.LaysM.n143 Tryz.prog Tryz.laysM143_ren := {
  mixed := by kernel_rfl
  f143 := Tryz.func218.trans (congrArg some (by kernel_rfl))
  f217 := Tryz.func229.trans (congrArg some (by kernel_rfl))
  f219 := Tryz.func234.trans (congrArg some (by kernel_rfl))
  f224 := Tryz.func239.trans (congrArg some (by kernel_rfl))
  f225 := Tryz.func240.trans (congrArg some (by kernel_rfl))
  f266 := Tryz.func237.trans (congrArg some (by kernel_rfl))
  f267 := Tryz.func241.trans (congrArg some (by kernel_rfl))
  f314 := Tryz.func246.trans (congrArg some (by kernel_rfl))
  t3 := Tryz.underlying3
  a3 := Tryz.isAgg3
  z3 := Tryz.sizeOf3
  v3 := Tryz.zeroValue3
  t4 := Tryz.underlying4
  a4 := Tryz.isAgg4
  z4 := Tryz.sizeOf4
  v4 := Tryz.zeroValue4
  t5 := Tryz.underlying5
  a5 := Tryz.isAgg5
  z5 := Tryz.sizeOf5
  v5 := Tryz.zeroValue5
  t9 := Tryz.underlying9
  a9 := Tryz.isAgg9
  z9 := Tryz.sizeOf9
  v9 := Tryz.zeroValue9
  t46 := Tryz.underlying186
  a46 := Tryz.isAgg186
  z46 := Tryz.sizeOf186
  v46 := Tryz.zeroValue186
  t51 := Tryz.underlying223
  a51 := Tryz.isAgg223
  z51 := Tryz.sizeOf223
  v51 := Tryz.zeroValue223
  t146 := Tryz.underlying224
  a146 := Tryz.isAgg224
  z146 := Tryz.sizeOf224
  v146 := Tryz.zeroValue224
  g1 := by kernel_rfl
  i3 := by kernel_rfl
  i4 := by kernel_rfl
  i5 := by kernel_rfl
  i9 := by kernel_rfl
  i46 := by kernel_rfl
  i51 := by kernel_rfl
  i146 := by kernel_rfl
  m1 := by kernel_rfl
  s1_3 := fun w h => Go.Proofs.cell_of_shapedOpen_int (zero := #[.int .i64 0]) (t := 3) h (of_decide_eq_true (by kernel_rfl)) (by kernel_rfl) rfl (by kernel_rfl) (by kernel_rfl) Tryz.underlying3 }
end Go.Proofs

namespace Go.Proofs
open Go.Shelf
def Tryz.lays160_ren : Go.Shelf.Ren := ⟨fun | 160 => 134 | 232 => 180 | 231 => 179 | 227 => 181 | 234 => 183 | 233 => 182 | 236 => 185 | 235 => 184 | 228 => 214 | 271 => 217 | 151 => 216 | 197 => 215 | 120 => 233 | 152 => 232 | 260 => 231 | 137 => 209 | 119 => 238 | 224 => 239 | 225 => 240 | 217 => 229 | 266 => 237 | n => n, fun | 9 => 9 | 4 => 4 | 3 => 3 | 5 => 5 | 117 => 181 | 116 => 180 | 0 => 0 | 124 => 184 | 21 => 21 | 105 => 195 | 46 => 186 | 119 => 212 | 139 => 215 | 138 => 214 | n => n, fun | 3 => 0 | 4 => 1 | n => n⟩
theorem Tryz.lays160 : Go.Proofs.Lays.n160 Tryz.prog Tryz.lays160_ren := {
  mixed := by kernel_rfl
  f119 := Tryz.func238.trans (congrArg some (by kernel_rfl))
  f120 := Tryz.func233.trans (congrArg some (by kernel_rfl))
  f137 := Tryz.func209.trans (congrArg some (by kernel_rfl))
  f151 := Tryz.func216.trans (congrArg some (by kernel_rfl))
  f152 := Tryz.func232.trans (congrArg some (by kernel_rfl))
  f160 := Tryz.func134.trans (congrArg some (by kernel_rfl))
  f197 := Tryz.func215.trans (congrArg some (by kernel_rfl))
  f217 := Tryz.func229.trans (congrArg some (by kernel_rfl))
  f224 := Tryz.func239.trans (congrArg some (by kernel_rfl))
  f225 := Tryz.func240.trans (congrArg some (by kernel_rfl))
  f227 := Tryz.func181.trans (congrArg some (by kernel_rfl))
  f228 := Tryz.func214.trans (congrArg some (by kernel_rfl))
  f231 := Tryz.func179.trans (congrArg some (by kernel_rfl))
  f232 := Tryz.func180.trans (congrArg some (by kernel_rfl))
  f233 := Tryz.func182.trans (congrArg some (by kernel_rfl))
  f234 := Tryz.func183.trans (congrArg some (by kernel_rfl))
  f235 := Tryz.func184.trans (congrArg some (by kernel_rfl))
  f236 := Tryz.func185.trans (congrArg some (by kernel_rfl))
  f260 := Tryz.func231.trans (congrArg some (by kernel_rfl))
  f266 := Tryz.func237.trans (congrArg some (by kernel_rfl))
  f271 := Tryz.func217.trans (congrArg some (by kernel_rfl))
  t0 := Tryz.underlying0
  a0 := Tryz.isAgg0
  z0 := Tryz.sizeOf0
  v0 := Tryz.zeroValue0
  t3 := Tryz.underlying3
  a3 := Tryz.isAgg3
  z3 := Tryz.sizeOf3
  v3 := Tryz.zeroValue3
  t4 := Tryz.underlying4
  a4 := Tryz.isAgg4
  z4 := Tryz.sizeOf4
  v4 := Tryz.zeroValue4
  t5 := Tryz.underlying5
  a5 := Tryz.isAgg5
  z5 := Tryz.sizeOf5
  v5 := Tryz.zeroValue5
  t9 := Tryz.underlying9
  a9 := Tryz.isAgg9
  z9 := Tryz.sizeOf9
  v9 := Tryz.zeroValue9
  t21 := Tryz.underlying21
  a21 := Tryz.isAgg21
  z21 := Tryz.sizeOf21
  v21 := Tryz.zeroValue21
  t46 := Tryz.underlying186
  a46 := Tryz.isAgg186
  z46 := Tryz.sizeOf186
  v46 := Tryz.zeroValue186
  t105 := Tryz.underlying195
  a105 := Tryz.isAgg195
  z105 := Tryz.sizeOf195
  v105 := Tryz.zeroValue195
  t116 := Tryz.underlying180
  a116 := Tryz.isAgg180
  z116 := Tryz.sizeOf180
  t117 := Tryz.underlying181
  a117 := Tryz.isAgg181
  z117 := Tryz.sizeOf181
  v117 := Tryz.zeroValue181
  t119 := Tryz.underlying212
  a119 := Tryz.isAgg212
  z119 := Tryz.sizeOf212
  t124 := Tryz.underlying184
  a124 := Tryz.isAgg184
  z124 := Tryz.sizeOf184
  v124 := Tryz.zeroValue184
  t138 := Tryz.underlying214
  a138 := Tryz.isAgg214
  z138 := Tryz.sizeOf214
  v138 := Tryz.zeroValue214
  t139 := Tryz.underlying215
  a139 := Tryz.isAgg215
  z139 := Tryz.sizeOf215
  v139 := Tryz.zeroValue215
  g3 := by kernel_rfl
  g4 := by kernel_rfl }
end Go.Proofs

namespace Go.Proofs.YtaiinjfnkmidbaaGreatDoor
open Go.RowKit
set_option linter.unusedVariables false

theorem wh_byte (u : UInt8) : ([9, 10, 12, 13, 32] : List UInt8).contains u = wh (u.toNat : Int) := by
  revert u
  have : ∀ n : Fin 256, ([9, 10, 12, 13, 32] : List UInt8).contains (UInt8.ofNat n.val) = wh ((UInt8.ofNat n.val).toNat : Int) := by decide +kernel
  intro u
  have h := this ⟨u.toNat, u.toNat_lt⟩
  simpa using h

theorem dropWhile_bl (l : List UInt8) : (l.dropWhile (fun u => ([9, 10, 12, 13, 32] : List UInt8).contains u)).map (fun u => (u.toNat : Int)) = (l.map (fun u => (u.toNat : Int))).dropWhile wh := by
  induction l with
  | nil => rfl
  | cons u t ih =>
    have h := wh_byte u
    by_cases hw : wh (u.toNat : Int) = true
    · rw [List.map_cons, List.dropWhile_cons_of_pos hw, List.dropWhile_cons_of_pos (by rw [h]; exact hw), ih]
    · rw [List.map_cons, List.dropWhile_cons_of_neg hw, List.dropWhile_cons_of_neg (by rw [h]; exact hw), List.map_cons]

/-- The library's trimming is ours. -/
theorem trim_lib (s : ByteArray) : (⟨(Lib.trimS s.data.toList [9, 10, 12, 13, 32]).toArray⟩ : ByteArray) = strOfNums (trI (bl s)) := by
  have e : bl ⟨(Lib.trimS s.data.toList [9, 10, 12, 13, 32]).toArray⟩ = trI (bl s) := by
    unfold bl trI
    rw [rT_eq]
    show (Lib.trimS s.data.toList [9, 10, 12, 13, 32]).map _ = _
    unfold Lib.trimS Lib.trimLeftS Lib.trimRightS
    rw [dropWhile_bl, List.map_reverse, dropWhile_bl, List.map_reverse]
  rw [← e, str_bl]

theorem trimLib (s : ByteArray) (w : World) (hs : s.size ≤ 3000) :
    Calls Tryz.prog 134 #[.string s, .string ⟨#[9, 10, 12, 13, 32]⟩] w fun e w' => e = .returned (.string (strOfNums (trI (bl s)))) ∧ Below w.heap.size w w' := by
  have h := Any.strings_Trim_laid Tryz.lays160 (by kernel_rfl) s ⟨#[9, 10, 12, 13, 32]⟩ w (by omega) (by decide) (ascii_of_all (by decide))
  rw [show (⟨#[9, 10, 12, 13, 32]⟩ : ByteArray).data.toList = [9, 10, 12, 13, 32] from rfl, trim_lib] at h
  exact h

set_option maxHeartbeats 400000 in
set_option maxRecDepth 100000 in
theorem trim_any (s : ByteArray) (w : World) (hs : s.size ≤ 3000) :
    Calls Tryz.prog 73 #[.string s] w fun e w' => e = .returned (.string (strOfNums (trI (bl s)))) ∧ Below w.heap.size w w' := by
  have hcon := trimLib s w hs
  generalize strOfNums (trI (bl s)) = r at hcon ⊢
  have HC := hide hcon
  clear hcon
  go_enter Tryz.func73, Tryz.ntmps73
  go_wp2_with fail
  refine (unhide HC).mono ?_
  rintro e w1 ⟨rfl, hb⟩
  go_wp2_with fail
  go_ret
  exact ⟨rfl, hb⟩

end Go.Proofs.YtaiinjfnkmidbaaGreatDoor

namespace Go.Proofs.YtaiinjfnkmidbaaGreatDoor
open Go.RowKit

/-- Does one of some bytes stand at a place? -/
def stn (l : List Int) (k : Nat) (m : List Int) : Bool := decide (k < l.length) && m.contains (l.getD k 0)
theorem stn_one (l : List Int) (k : Nat) (x : Int) : stn l k [x] = true ↔ k < l.length ∧ l.getD k 0 = x := by
  unfold stn; simp
theorem stn_two (l : List Int) (k : Nat) (x y : Int) : stn l k [x, y] = true ↔ k < l.length ∧ (l.getD k 0 = x ∨ l.getD k 0 = y) := by
  unfold stn; simp
/-- What stands from a quote up to the next same one. -/
def qtI (l : List Int) (a : Nat) : List Int × Nat × Bool :=
  if l.length ≤ run (pNot (l.getD a 0)) l (a + 1) then ([], run (pNot (l.getD a 0)) l (a + 1), false) else (cut l (a + 1) (run (pNot (l.getD a 0)) l (a + 1)), run (pNot (l.getD a 0)) l (a + 1) + 1, true)
/-- A value behind a name. -/
def valI (l : List Int) (a : Nat) : List Int × Nat × Bool :=
  if stn l (run wh l a) [61] = false then ([], run wh l a, true)
  else if stn l (run wh l (run wh l a + 1)) [34, 39] = true then qtI l (run wh l (run wh l a + 1))
  else (cut l (run wh l (run wh l a + 1)) (run pVal l (run wh l (run wh l a + 1))), run pVal l (run wh l (run wh l a + 1)), true)
theorem valI_le {l : List Int} {a : Nat} (h : a ≤ l.length) : (valI l a).2.1 ≤ l.length ∧ (valI l a).1.length ≤ l.length := by
  have h1 := run_le wh l h
  unfold valI
  split
  · exact ⟨h1, by simp⟩
  · rename_i c
    have c' := (stn_one l _ 61).1 (by simpa using c)
    have h2 := run_le wh l (i := run wh l a + 1) (by omega)
    split
    · rename_i q
      have q' := (stn_two l _ 34 39).1 q
      have h3 := run_le (pNot (l.getD (run wh l (run wh l a + 1)) 0)) l (i := run wh l (run wh l a + 1) + 1) (by omega)
      unfold qtI
      split
      · exact ⟨h3, by simp⟩
      · exact ⟨by simp only; omega, by simp only; rw [cut_len h3]; omega⟩
    · have h3 := run_le pVal l h2
      exact ⟨h3, by simp only; rw [cut_len h3]; omega⟩
theorem attrI_val {l : List Int} {k a0 a1 : Nat} (h0 : run pAhead l k = a0) (h : ¬ (l.length ≤ a0 ∨ l.getD a0 0 = 62)) (h1 : run pName l (a0 + 1) = a1) :
    attrI l k = if (valI l a1).2.2 = true then ((fdI (cut l a0 a1), fdI (valI l a1).1), (valI l a1).2.1, true) else (([], []), (valI l a1).2.1, false) := by
  by_cases c2 : stn l (run wh l a1) [61] = true
  · have c2' := (stn_one l _ 61).1 c2
    by_cases c3 : stn l (run wh l (run wh l a1 + 1)) [34, 39] = true
    · have c3' := (stn_two l _ 34 39).1 c3
      have hv : valI l a1 = qtI l (run wh l (run wh l a1 + 1)) := by unfold valI; rw [if_neg (by simp [c2]), if_pos c3]
      rw [hv, attrI_3 h0 h h1 rfl (by omega) rfl c3' rfl]
      unfold qtI
      split
      · rfl
      · rfl
    · have c3' : ¬ (run wh l (run wh l a1 + 1) < l.length ∧ (l.getD (run wh l (run wh l a1 + 1)) 0 = 34 ∨ l.getD (run wh l (run wh l a1 + 1)) 0 = 39)) := fun e => c3 ((stn_two l _ 34 39).2 e)
      have hv : valI l a1 = (cut l (run wh l (run wh l a1 + 1)) (run pVal l (run wh l (run wh l a1 + 1))), run pVal l (run wh l (run wh l a1 + 1)), true) := by unfold valI; rw [if_neg (by simp [c2]), if_neg c3]
      rw [hv, attrI_4 h0 h h1 rfl (by omega) rfl c3' rfl]
      rfl
  · have c2' : ¬ (run wh l a1 < l.length ∧ l.getD (run wh l a1) 0 = 61) := fun e => c2 ((stn_one l _ 61).2 e)
    have hv : valI l a1 = ([], run wh l a1, true) := by unfold valI; rw [if_pos (by simpa using c2)]
    rw [hv, attrI_2 h0 h h1 rfl (by omega)]
    rfl

theorem run_fd {p : Int → Bool} (hp : ∀ c, p (fI c) = p c) (l : List Int) (k : Nat) : run p (fdI l) k = run p l k := by
  unfold run fdI
  rw [← List.map_drop, List.takeWhile_map, List.length_map]
  congr 2
  have : p ∘ fI = p := by funext c; exact hp c
  rw [this]
theorem getD_fd (l : List Int) (k : Nat) : (fdI l).getD k 0 = fI (l.getD k 0) := by
  unfold fdI
  rw [List.getD_eq_getElem?_getD, List.getElem?_map, List.getD_eq_getElem?_getD]
  cases l[k]? with
  | none => rfl
  | some x => rfl
theorem cut_fd (l : List Int) (i j : Nat) : cut (fdI l) i j = fdI (cut l i j) := by
  unfold cut fdI; rw [← List.map_drop, ← List.map_take]
theorem bgn_fd (l : List Int) (k : Nat) (m : List Int) : bgn (fdI l) k m = bgn l k m := by
  unfold bgn
  rw [fd_len, cut_fd, fd_fd]
theorem fI_low (c x : Int) (h : x < 97) (h' : x < 65 ∨ 90 < x) : (fI c = x) = (c = x) := by
  apply propext; unfold fI; split <;> omega
theorem cut_byt {l : List Int} (h : Byt l) (i j : Nat) : Byt (cut l i j) := by
  intro x hx
  unfold cut at hx
  exact h x (List.mem_of_mem_drop (List.mem_of_mem_take hx))
theorem fnd_fd {x : List Int} (h : Byt x) : fnd (fdI x) = fnd x := by
  unfold fnd findI
  rw [bl_str _ (fd_byt h), bl_str _ h, fd_tr, fd_fd]
theorem pSemi_fI (c : Int) : pSemi (fI c) = pSemi c := by
  unfold pSemi
  rw [wh_fI]
  congr 2
  rw [Bool.eq_iff_iff, beq_iff_eq, beq_iff_eq, fI_low c 59 (by decide) (.inl (by decide))]
theorem pNot_fI {q : Int} (hq : q = 34 ∨ q = 39) (c : Int) : pNot q (fI c) = pNot q c := by
  unfold pNot
  congr 1
  rw [Bool.eq_iff_iff, beq_iff_eq, beq_iff_eq, fI_low c q (by omega) (.inl (by omega))]
theorem chs_fd {l : List Int} (hl : Byt l) : ∀ n k, chs n (fdI l) k = chs n l k
  | 0, k => rfl
  | n + 1, k => by
    unfold chs
    rw [fd_len, bgn_fd]
    have q61 : ∀ c, (fI c ≠ 61) = (c ≠ 61) := fun c => by show (¬ fI c = 61) = ¬ (c = 61); rw [fI_low c 61 (by decide) (.inl (by decide))]
    simp only [run_fd wh_fI, getD_fd, q61, fI_low _ 34 (by decide) (.inl (by decide)), fI_low _ 39 (by decide) (.inl (by decide))]
    split
    · rfl
    · split
      · exact chs_fd hl n _
      · split
        · exact chs_fd hl n _
        · split
          · rename_i hq
            have e : fI (l.getD (run wh l (run wh l (k + 7) + 1)) 0) = l.getD (run wh l (run wh l (k + 7) + 1)) 0 := by
              unfold fI; rw [if_neg (by omega)]
            rw [e, run_fd (pNot_fI hq.2), cut_fd, fnd_fd (cut_byt hl _ _)]
          · rw [run_fd pSemi_fI, cut_fd, fnd_fd (cut_byt hl _ _)]
theorem chsI_fd {l : List Int} (hl : Byt l) : chsI (fdI l) = chsI l := by
  unfold chsI chsF; rw [fd_len, chs_fd hl]

/-- Does a text stand at a place, letter by letter? -/
def bg0 (l : List Int) (k : Nat) (m : List Int) : Bool := decide (m <+: l.drop k)
theorem pre_map : ∀ (a b : List UInt8), a.isPrefixOf b = decide ((a.map (fun u => (u.toNat : Int))) <+: (b.map (fun u => (u.toNat : Int))))
  | [], b => by simp
  | x :: a, [] => by simp
  | x :: a, y :: b => by
    rw [List.isPrefixOf_cons_cons, pre_map a b, Bool.eq_iff_iff]
    simp only [Bool.and_eq_true, beq_iff_eq, decide_eq_true_eq, List.map_cons, List.cons_prefix_cons]
    constructor
    · rintro ⟨rfl, h⟩; exact ⟨rfl, h⟩
    · rintro ⟨h1, h⟩; exact ⟨UInt8.toNat_inj.1 (by omega), h⟩
theorem occ_bl (s m : ByteArray) (k j : Nat) : Lib.occAt (s.extract k s.size).data.toList m.data.toList j = bg0 (bl s) (k + j) (bl m) := by
  unfold Lib.occAt bg0
  rw [pre_map]
  congr 1
  have : (s.extract k s.size).data.toList.map (fun u => (u.toNat : Int)) = (bl s).drop k := bl_extract s k
  rw [List.map_drop, this, List.drop_drop]
  rfl
theorem has_bl (s m : ByteArray) : Lib.hasPrefix s.data.toList m.data.toList = bg0 (bl s) 0 (bl m) := by
  unfold Lib.hasPrefix bg0
  rw [pre_map]; rfl
theorem bg0_drop (l : List Int) (k j : Nat) (m : List Int) : bg0 (l.drop k) j m = bg0 l (k + j) m := by unfold bg0; rw [List.drop_drop]
theorem bg0_cut {l m : List Int} {k : Nat} (hm : m ≠ []) : bg0 l k m = decide (k + m.length ≤ l.length ∧ cut l k (k + m.length) = m) := by
  unfold bg0 cut
  rw [Bool.eq_iff_iff, decide_eq_true_eq, decide_eq_true_eq, List.prefix_iff_eq_take, show k + m.length - k = m.length from by omega]
  constructor
  · intro h
    have hl : m.length = (List.take m.length (List.drop k l)).length := by rw [← h]
    rw [List.length_take, List.length_drop] at hl
    have : 0 < m.length := List.length_pos_iff.2 hm
    exact ⟨by omega, h.symm⟩
  · rintro ⟨_, h⟩; exact h.symm
theorem bg0_fold {l m : List Int} {k : Nat} (hm : m ≠ []) (hl : fdI l = l) : bg0 l k m = bgn l k m := by
  rw [bg0_cut hm]
  unfold bgn
  rw [← cut_fd, hl]
theorem fd_low : ∀ (x m : List Int), (∀ y ∈ m, y < 97 ∧ (y < 65 ∨ 90 < y)) → ((fdI x = m) ↔ (x = m))
  | [], [], _ => by simp [fdI]
  | [], y :: m, _ => by simp [fdI]
  | c :: x, [], _ => by simp [fdI]
  | c :: x, y :: m, h => by
    have ih := fd_low x m (fun z hz => h z (List.mem_cons_of_mem _ hz))
    have h1 := h y (List.mem_cons_self ..)
    unfold fdI at ih ⊢
    rw [List.map_cons, List.cons.injEq, List.cons.injEq, fI_low c y h1.1 h1.2, ih]
theorem bg0_low {l m : List Int} {k : Nat} (hm : m ≠ []) (h : ∀ y ∈ m, y < 97 ∧ (y < 65 ∨ 90 < y)) : bg0 l k m = bgn l k m := by
  rw [bg0_cut hm]
  unfold bgn
  rw [Bool.eq_iff_iff, decide_eq_true_eq, decide_eq_true_eq, fd_low _ _ h]
theorem valI_byt {l : List Int} (h : Byt l) (a : Nat) : Byt (valI l a).1 := by
  unfold valI
  split
  · intro x hx; simp at hx
  · split
    · unfold qtI
      split
      · intro x hx; simp at hx
      · exact cut_byt h _ _
    · exact cut_byt h _ _
/-- What strings.Index says of what stands from a place on. -/
theorem idx_bl (s m : ByteArray) (k : Nat) (hk : k ≤ s.size) :
    (Lib.index (s.extract k s.size).data.toList m.data.toList = -1 ∧ ∀ j, k ≤ j → j ≤ s.size → bg0 (bl s) j (bl m) = false) ∨
    (∃ i : Nat, Lib.index (s.extract k s.size).data.toList m.data.toList = i ∧ k + i ≤ s.size ∧ bg0 (bl s) (k + i) (bl m) = true ∧ ∀ j, j < i → bg0 (bl s) (k + j) (bl m) = false) := by
  have hlen : (s.extract k s.size).data.toList.length = s.size - k := by
    have := congrArg List.length (bl_extract s k)
    rw [bl_len, List.length_drop, bl_len] at this
    simp
  rcases Lib.index_spec (s.extract k s.size).data.toList m.data.toList with ⟨h1, h2⟩ | ⟨i, h1, h2, h3, h4⟩
  · refine .inl ⟨h1, fun j hj hj' => ?_⟩
    have := h2 (j - k) (by omega)
    rw [occ_bl, show k + (j - k) = j from by omega] at this
    exact this
  · refine .inr ⟨i, h1, by omega, by rw [← occ_bl]; exact h3, fun j hj => ?_⟩
    rw [← occ_bl]; exact h4 j hj

/-- The label behind the = at a place: its encoding. -/
def tailI (l : List Int) (a : Nat) : Int :=
  if stn l (run wh l (a + 1)) [34, 39] = true then fnd (qtI l (run wh l (a + 1))).1 else fnd (cut l (run wh l (a + 1)) (run pSemi l (run wh l (a + 1))))
theorem fnd_nil : fnd [] = 0 := by decide +kernel
theorem chsJ_skip {l : List Int} {k : Nat} : ∀ i : Nat, k + i ≤ l.length → (∀ j, j < i → bgn l (k + j) csL = false) → chsF l k = chsF l (k + i)
  | 0, _, _ => rfl
  | i + 1, h, hj => by
    rw [chsJ_skip i (by omega) (fun j h' => hj j (by omega)), chsF_no (by omega) (hj i (by omega))]
    rfl
theorem chsF_zero {l : List Int} {k : Nat} (hk : k ≤ l.length) (hj : ∀ j, k ≤ j → j ≤ l.length → bgn l j csL = false) : chsF l k = 0 := by
  rw [chsJ_skip (l.length - k) (by omega) (fun j h => hj _ (by omega) (by omega))]
  exact chsF_end (by omega)
theorem chsF_tail {l : List Int} {k a : Nat} (hk : k < l.length) (h : bgn l k csL = true) (h1 : run wh l (k + 7) = a) (h' : stn l a [61] = true) : chsF l k = tailI l a := by
  have h'' := (stn_one l a 61).1 h'
  unfold tailI
  by_cases c : stn l (run wh l (a + 1)) [34, 39] = true
  · rw [if_pos c, chsF_quote hk h h1 (by omega) rfl ((stn_two l _ 34 39).1 c) rfl]
    unfold qtI
    split
    · exact fnd_nil.symm
    · rfl
  · rw [if_neg c, chsF_bare hk h h1 (by omega) rfl (fun e => c ((stn_two l _ 34 39).2 e)) rfl]
theorem chsF_pass {l : List Int} {k a : Nat} (hk : k < l.length) (h : bgn l k csL = true) (h1 : run wh l (k + 7) = a) (h' : stn l a [61] = false) : chsF l k = chsF l a := by
  refine chsF_none hk h h1 ?_
  have : ¬ (a < l.length ∧ l.getD a 0 = 61) := fun e => by rw [(stn_one l a 61).2 e] at h'; cases h'
  omega
end Go.Proofs.YtaiinjfnkmidbaaGreatDoor

namespace Go.Proofs.YtaiinjfnkmidbaaGreatDoor
open Go.RowKit
set_option linter.unusedVariables false

/-- The library's variable MaxLen holds an integer. -/
def Mx (w : World) : Prop := ∃ m, w.cell? ⟨Tryz.laysM143_ren.g 1, 0, none⟩ = some (.int .i64 m)
theorem Mx.below {w w' : World} (h : Mx w) (hb : Below w.heap.size w w') : Mx w' := by
  obtain ⟨m, hm⟩ := h
  exact ⟨m, (hb.cell (World.block_lt_of_cell? w _ hm)).trans hm⟩
theorem mx_shaped {w : World} (h : w.ShapedOpen Tryz.prog) : Mx w := Tryz.laysM143.s1_3 w h
theorem bIndex_any (s m : ByteArray) (w : World) (hs : s.size ≤ 3000) (hM : Mx w) :
    Calls Tryz.prog 218 #[.string s, .string m] w fun e w' => e = .returned (.int .i64 (Lib.index s.data.toList m.data.toList)) ∧ w' = w := by
  obtain ⟨c, hc⟩ := hM
  exact Any.strings_Index { Tryz.laysM143 with } s m c w (by omega) hc
theorem hasPre_any (s m : ByteArray) (w : World) :
    Calls Tryz.prog 69 #[.string s, .string m] w fun e w' => e = .returned (.bool (bg0 (bl s) 0 (bl m))) ∧ w' = w := by
  have h := Any.strings_HasPrefix Tryz.lays99 s m w
  rw [has_bl] at h
  exact h

theorem indexByte_has : ∀ (l : List UInt8) (c : UInt8), decide (0 ≤ Lib.indexByte l c) = l.contains c
  | [], c => by simp [Lib.indexByte]
  | b :: l, c => by
    have ih := indexByte_has l c
    have hg := Lib.indexByte_ge l c
    unfold Lib.indexByte
    rw [List.contains_cons, ← ih]
    by_cases h : b = c
    · subst h; simp
    · have h1 : (b == c) = false := by simpa using h
      have h2 : (c == b) = false := by simpa using fun e => h e.symm
      rw [h1, h2]
      by_cases h3 : Lib.indexByte l c = -1
      · rw [h3]; rfl
      · have h4 : (Lib.indexByte l c == -1) = false := by simpa using h3
        rw [h4]
        simp
        omega
theorem contains_bl (m : List UInt8) (c : Int) (h : 0 ≤ c ∧ c < 256) : m.contains c.toNat.toUInt8 = (m.map (fun u => (u.toNat : Int))).contains c := by
  have e : (c.toNat.toUInt8.toNat : Int) = c := by
    show ((UInt8.ofNat c.toNat).toNat : Int) = c
    rw [UInt8.toNat_ofNat']; omega
  rw [Bool.eq_iff_iff, List.contains_iff_mem, List.contains_iff_mem, List.mem_map]
  constructor
  · intro hm; exact ⟨_, hm, e⟩
  · rintro ⟨u, hu, h1⟩
    have : u = c.toNat.toUInt8 := UInt8.toNat_inj.1 (by omega)
    rw [← this]; exact hu
theorem bIndexByte_any (m : ByteArray) (c : Int) (w : World) (h : 0 ≤ c ∧ c < 256) :
    Calls Tryz.prog 209 #[.string m, .int .u8 c] w fun e w' => (∃ r : Int, e = .returned (.int .i64 r) ∧ decide (0 ≤ r) = (bl m).contains c) ∧ w' = w := by
  refine (Any.strings_IndexByte Tryz.lays137 m c w).mono fun e w' hh => ?_
  obtain ⟨h1, h2⟩ := hh
  exact ⟨⟨_, h1, by rw [indexByte_has, contains_bl _ _ h]; rfl⟩, h2⟩

theorem wh_has (c : Int) : (bl ⟨#[9, 10, 12, 13, 32]⟩).contains c = wh c := by
  rw [show bl ⟨#[9, 10, 12, 13, 32]⟩ = [9, 10, 12, 13, 32] from by decide, Bool.eq_iff_iff]
  unfold wh
  simp
  omega
set_option maxHeartbeats 400000 in
set_option maxRecDepth 100000 in
theorem white_any (c : Int) (w : World) (h : 0 ≤ c ∧ c < 256) :
    Calls Tryz.prog 165 #[.int .u8 c] w fun e w' => e = .returned (.bool (wh c)) ∧ w' = w := by
  have HI := hide (fun w => bIndexByte_any ⟨#[9, 10, 12, 13, 32]⟩ c w h)
  rw [wh_has] at HI
  go_enter Tryz.func165, Tryz.ntmps165
  go_wp2_with fail
  refine (unhide HI _).mono ?_
  rintro e w1 ⟨⟨r, rfl, hr⟩, hw⟩
  replace hw := hw.symm
  subst hw
  have HR := hide hr
  clear hr HI
  go_wp2_with fail
  go_ret
  exact ⟨ret_bool (by rw [← unhide HR]), rfl⟩
set_option maxHeartbeats 400000 in
set_option maxRecDepth 100000 in
theorem stands_any (s : ByteArray) (k : Nat) (m : ByteArray) (w : World) (hk : k ≤ 4000) (hs : s.size ≤ 3000) :
    Calls Tryz.prog 190 #[.string s, .int .i64 (k : Int), .string m] w fun e w' => e = .returned (.bool (stn (bl s) k (bl m))) ∧ w' = w := by
  by_cases hlt : k < s.size
  · have hcb := u8_lt s hlt
    have HI := hide (fun w => bIndexByte_any m (s[k].toNat : Int) w hcb)
    have HS : Hid (stn (bl s) k (bl m) = (bl m).contains (s[k].toNat : Int)) := hide (by unfold stn; rw [decide_eq_true (by rw [bl_len]; exact hlt), bl_at hlt]; rfl)
    go_enter Tryz.func190, Tryz.ntmps190
    go_wp2_with fail
    refine (unhide HI _).mono ?_
    rintro e w1 ⟨⟨r, rfl, hr⟩, hw⟩
    replace hw := hw.symm
    subst hw
    have HR := hide hr
    clear hr HI
    go_wp2_with fail
    go_ret
    exact ⟨ret_bool (by rw [unhide HS, ← unhide HR]), rfl⟩
  · have HS : Hid (stn (bl s) k (bl m) = false) := hide (by unfold stn; rw [decide_eq_false (by rw [bl_len]; exact hlt)]; rfl)
    go_enter Tryz.func190, Tryz.ntmps190
    go_wp2_with fail
    go_ret
    exact ⟨ret_bool (by rw [unhide HS]), rfl⟩
set_option maxHeartbeats 800000 in
set_option maxRecDepth 100000 in
theorem while0 (F : Nat) (p : Int → Bool) (s : ByteArray) (k0 : Nat) (w : World) (hk0 : k0 ≤ s.size) (hs : s.size ≤ 3000) (hE : ∀ args w, (callFunc F args).run Tryz.prog w = .ok (.enter F args) w)
    (H : ∀ (c : Int) (w : World), 0 ≤ c ∧ c < 256 → Calls Tryz.prog F #[.int .u8 c] w fun e w' => e = .returned (.bool (p c)) ∧ w' = w) :
    Calls Tryz.prog 163 #[.string s, .int .i64 (k0 : Int), .func (Fn.func F) #[] #[]] w fun e w' => e = .returned (.int .i64 (run p (bl s) k0 : Int)) ∧ w' = w := by
  have hl := hide (bl_len s)
  have HH := hide H
  clear H
  go_enter Tryz.func163, Tryz.ntmps163
  go_wp2_with fail
  go_loop [1] (fun i => ∃ k : Nat, i = .int .i64 k ∧ k ≤ s.size ∧ Hid (run p (bl s) k = run p (bl s) k0)) (fun i => s.size - (intOf i).toNat)
  case atStart => exact ⟨k0, rfl, hk0, hide rfl⟩
  case round =>
    obtain ⟨k, rfl, hk, HR⟩ := hrel
    by_cases hlt : k < s.size
    · have hcb := u8_lt s hlt
      have HG := hide (bl_at hlt)
      obtain ⟨c, hcc⟩ : ∃ c : Int, (s[k].toNat : Int) = c := ⟨_, rfl⟩
      rw [hcc] at hcb HG
      have HC := hide (fun w => unhide HH c w hcb)
      cases hp : p c
      · rw [hp] at HC
        have HE : Hid (run p (bl s) k0 = k) := hide (by rw [← unhide HR, run_stop (by rw [unhide hl]; exact hlt) (by rw [unhide HG]; exact hp)])
        clear hp
        go_wp2_with fail
        refine (unhide HC _).mono ?_
        rintro e wz ⟨rfl, hwz⟩
        replace hwz := hwz.symm
        subst hwz
        go_wp2_with fail
        go_ret
        exact ⟨by rw [unhide HE]; rfl, rfl⟩
      · rw [hp] at HC
        have HR' : Hid (run p (bl s) (k + 1) = run p (bl s) k0) := hide (by rw [← run_step (by rw [unhide hl]; exact hlt) (by rw [unhide HG]; exact hp), unhide HR])
        clear hp
        go_wp2_with fail
        refine (unhide HC _).mono ?_
        rintro e wz ⟨rfl, hwz⟩
        replace hwz := hwz.symm
        subst hwz
        go_wp2_with fail
        go_round
        case rel => exact ⟨k + 1, by go_num, by omega, HR'⟩
        case measure => simp [intOf]; omega
    · have HE : Hid (run p (bl s) k0 = k) := hide (by rw [← unhide HR, run_end (by rw [unhide hl]; omega)])
      go_wp2_with fail
      go_ret
      exact ⟨by rw [unhide HE]; rfl, rfl⟩
end Go.Proofs.YtaiinjfnkmidbaaGreatDoor

namespace Go.Proofs.YtaiinjfnkmidbaaGreatDoor
open Go.RowKit
set_option linter.unusedVariables false

def ChSays : Prop := ∀ (L s : ByteArray) (w : World), L.size ≤ 3000 → s.size ≤ 3000 → Mx w → Calls Tryz.prog 12 #[.string L, .string s] w fun e w' => e = .returned (.tuple #[.int .i64 (chI L (bl s)).1, .int .i64 (chI L (bl s)).2.1, .int .i64 (chI L (bl s)).2.2, .int .i64 0]) ∧ Below w.heap.size w w'
def ChErrs : Prop := ∀ (L s : ByteArray) (w : World), L.size ≤ maxLen → s.size ≤ maxLen → (3000 < L.size ∨ 3000 < s.size) → Mx w → Calls Tryz.prog 12 #[.string L, .string s] w fun e w' => e = .returned (.tuple #[.int .i64 0, .int .i64 0, .int .i64 0, .int .i64 2]) ∧ Below w.heap.size w w'
def DcSays : Prop := ∀ (L s : ByteArray) (w : World), L.size ≤ 3000 → s.size ≤ 3000 → Mx w → Calls Tryz.prog 23 #[.string L, .string s] w fun e w' => ∃ v, e = .returned (.tuple #[v, .int .i64 (chI L (bl s)).1, .int .i64 (chI L (bl s)).2.1, .int .i64 0]) ∧ w'.ownsRow w.heap.size 3 1 v (whI L (bl s)).length ((whI L (bl s)).map (Value.int .i64)) ∧ Below w.heap.size w w'
def DcErrs : Prop := ∀ (L s : ByteArray) (w : World), L.size ≤ maxLen → s.size ≤ maxLen → (3000 < L.size ∨ 3000 < s.size) → Mx w → Calls Tryz.prog 23 #[.string L, .string s] w fun e w' => ∃ v, e = .returned (.tuple #[v, .int .i64 0, .int .i64 0, .int .i64 2]) ∧ Ints w' v [] ∧ Below w.heap.size w w'

def u8N : ByteArray := ⟨#[117, 116, 102, 45, 56]⟩
end Go.Proofs.YtaiinjfnkmidbaaGreatDoor

namespace Go.Proofs.YtaiinjfnkmidbaaGreatDoor
open Go.RowKit
set_option linter.unusedVariables false

/-- The marks: an encoding, and its bytes. -/
def mks : List (Int × ByteArray) := [(1, ⟨#[239, 187, 191]⟩), (3, ⟨#[254, 255]⟩), (2, ⟨#[255, 254]⟩)]
def fmk (q : Int × ByteArray → Bool) : List (Int × ByteArray) → Int × ByteArray
  | [] => (0, ⟨#[]⟩)
  | x :: t => if q x then x else fmk q t
/-- The marks lie at block b. -/
def MTab (w : World) (b : Nat) : Prop :=
  ∀ i (h : i < mks.length), w.cell? ⟨b, i * 2, none⟩ = some (.int .i64 mks[i].1) ∧ w.cell? ⟨b, i * 2 + 1, none⟩ = some (.string mks[i].2)

set_option maxHeartbeats 1000000 in
set_option maxRecDepth 100000 in
theorem marks_any (w : World) : Calls Tryz.prog 132 #[] w fun e w' => e = .returned (.slice (some ⟨w.heap.size, 0, none⟩) 3 3) ∧ MTab w' w.heap.size ∧ w.heap.size < w'.heap.size ∧ Below w.heap.size w w' := by
  go_enter Tryz.func132, Tryz.ntmps132
  go_wp2
  go_ret
  refine ⟨rfl, ?_, by simp, balloc _ _⟩
  intro i h
  match i, h with
  | 0, _ => constructor <;> (rw [World.cell?_alloc_at _ _ _ _ rfl]; rfl)
  | 1, _ => constructor <;> (rw [World.cell?_alloc_at _ _ _ _ rfl]; rfl)
  | 2, _ => constructor <;> (rw [World.cell?_alloc_at _ _ _ _ rfl]; rfl)

set_option maxHeartbeats 1000000 in
set_option maxRecDepth 100000 in
theorem firstM (F : Nat) (q : Int × ByteArray → Bool) (B : Nat) (x0 : Value) (w : World) (hc : w.cell? ⟨B, 0, none⟩ = some x0) (hE : ∀ args w, (callFunc F args).run Tryz.prog w = .ok (.enter F args) w)
    (H : ∀ (m : Int) (a : ByteArray) (w' : World), (m, a) ∈ mks → w'.cell? ⟨B, 0, none⟩ = some x0 → Calls Tryz.prog F #[.agg #[.int .i64 m, .string a], .pointer (some ⟨B, 0, none⟩)] w' fun e w'' => e = .returned (.bool (q (m, a))) ∧ Below w'.heap.size w' w'') :
    Calls Tryz.prog 67 #[.func (Fn.func F) #[] #[.pointer (some ⟨B, 0, none⟩)]] w fun e w' =>
      e = .returned (.agg #[.int .i64 (fmk q mks).1, .string (fmk q mks).2]) ∧ Below w.heap.size w w' := by
  have hB := World.block_lt_of_cell? w _ hc
  simp only at hB
  have HH := hide H
  clear H
  go_enter Tryz.func67, Tryz.ntmps67
  go_wp2_with fail
  refine (marks_any _).mono ?_
  rintro e w3 ⟨rfl, ht, hz3, hb3⟩
  simp only [World.size_alloc] at hz3
  have r0 : w3.cell? ⟨w.heap.size, 0, none⟩ = some (.int .i64 0) := by rw [hb3.cell (p := ⟨w.heap.size, 0, none⟩) (by simp)]; simp
  have r1 : w3.cell? ⟨w.heap.size, 1, none⟩ = some (.string ⟨#[]⟩) := by rw [hb3.cell (p := ⟨w.heap.size, 1, none⟩) (by simp)]; simp
  have q0 : w3.frozen? ⟨w.heap.size, 0, none⟩ = false := by rw [hb3.frozen (p := ⟨w.heap.size, 0, none⟩) (by simp)]; simp
  have q1 : w3.frozen? ⟨w.heap.size, 1, none⟩ = false := by rw [hb3.frozen (p := ⟨w.heap.size, 1, none⟩) (by simp)]; simp
  have c0 : w3.cell? ⟨B, 0, none⟩ = some x0 := (hb3.cell (p := ⟨B, 0, none⟩) (by simp; omega)).trans ((World.cell?_alloc_lt _ _ _ hB).trans hc)
  have HB3 : Hid (Below w.heap.size w w3) := hide (bstep (balloc _ _) hb3)
  have HT := hide ht
  have HM : Hid (mks.length = 3) := hide rfl
  simp only [World.size_alloc] at HT ⊢
  clear ht hb3
  go_wp2_with fail
  go_loopw [7] (fun i wr => ∃ k : Nat, k ≤ 3 ∧ i = .int .i64 k ∧ Below w3.heap.size w3 wr ∧ Hid (fmk q mks = fmk q (mks.drop k))) (fun i _ => 3 - (intOf i).toNat)
  case atStart => exact ⟨0, by omega, rfl, Below.refl _ _, rfl⟩
  case round =>
    obtain ⟨k, hk, rfl, hbr, HL⟩ := hrel
    have hsz := hbr.size
    replace r0 := (hbr.cell (p := ⟨w.heap.size, 0, none⟩) (by simp; omega)).trans r0
    replace r1 := (hbr.cell (p := ⟨w.heap.size, 1, none⟩) (by simp; omega)).trans r1
    replace q0 := (hbr.frozen (p := ⟨w.heap.size, 0, none⟩) (by simp; omega)).trans q0
    replace q1 := (hbr.frozen (p := ⟨w.heap.size, 1, none⟩) (by simp; omega)).trans q1
    replace c0 := (hbr.cell (p := ⟨B, 0, none⟩) (by simp; omega)).trans c0
    by_cases hlt : k < 3
    · have hlm : k < mks.length := hlt
      have ht := (unhide HT) k hlm
      have c1 := (hbr.cell (p := ⟨w.heap.size + 1, k * 2, none⟩) (by simp; omega)).trans ht.1
      have c2 := (hbr.cell (p := ⟨w.heap.size + 1, k * 2 + 1, none⟩) (by simp; omega)).trans ht.2
      have HD : Hid (fmk q (mks.drop k) = if q mks[k] then mks[k] else fmk q (mks.drop (k + 1))) := by
        show _ = _
        rw [List.drop_eq_getElem_cons hlm]; rfl
      have HIn : Hid (mks[k] ∈ mks) := hide (List.getElem_mem _)
      obtain ⟨la, lb, HA⟩ : ∃ la lb, Hid (mks[k] = (la, lb)) := ⟨mks[k].1, mks[k].2, hide rfl⟩
      rw [unhide HA] at c1 c2 HD HIn
      simp only at c1 c2
      clear ht
      go_wp2_with fail
      refine (unhide HH la lb _ (unhide HIn) (by rw [World.cell?_alloc_lt _ _ _ (by simp; omega)]; exact c0)).mono ?_
      rintro e w2 ⟨rfl, hb2⟩
      have hs2 := hb2.size
      simp at hs2
      have d0 : w2.cell? ⟨wr.heap.size, 0, none⟩ = some (.int .i64 la) := by rw [hb2.cell (p := ⟨wr.heap.size, 0, none⟩) (by simp)]; simp
      have d1 : w2.cell? ⟨wr.heap.size, 1, none⟩ = some (.string lb) := by rw [hb2.cell (p := ⟨wr.heap.size, 1, none⟩) (by simp)]; simp
      have hbz := bstep (balloc wr (.cells #[.int .i64 la, .string lb] 98)) hb2
      replace r0 := (hbz.cell (p := ⟨w.heap.size, 0, none⟩) (by simp; omega)).trans r0
      replace r1 := (hbz.cell (p := ⟨w.heap.size, 1, none⟩) (by simp; omega)).trans r1
      replace q0 := (hbz.frozen (p := ⟨w.heap.size, 0, none⟩) (by simp; omega)).trans q0
      replace q1 := (hbz.frozen (p := ⟨w.heap.size, 1, none⟩) (by simp; omega)).trans q1
      have HR := hide (bstep hbr hbz)
      obtain ⟨z, HQ⟩ : ∃ z, Hid (q (la, lb) = z) := ⟨_, hide rfl⟩
      rw [unhide HQ] at HD ⊢
      clear c0 c1 c2 hbr hb2 hbz
      cases z
      · have HL' : Hid (fmk q mks = fmk q (mks.drop (k + 1))) := by
          show _ = _
          rw [unhide HL, unhide HD]; simp
        go_wp2_with fail
        go_roundw
        case rel => exact ⟨k + 1, by omega, by go_num, unhide HR, HL'⟩
        case measure => simp [intOf]; omega
      · have HL' : Hid (fmk q mks = (la, lb)) := by
          show _ = _
          rw [unhide HL, unhide HD]; simp
        have hzz : w.heap.size < w2.heap.size := by omega
        go_wp2_with fail
        refine bodyPost_ret (v := .agg #[.int .i64 la, .string lb]) (by simp [results, Tryz.results67, go_sem, r0, r1]) rfl ⟨by rw [unhide HL'], ?_⟩
        exact ((bstep (unhide HB3) (unhide HR)).setCell (Nat.le_refl _) _).setCell (Nat.le_refl _) _
    · have ek : k = 3 := by omega
      have HL' : Hid (fmk q mks = (0, ⟨#[]⟩)) := by
        show _ = _
        rw [unhide HL, ek]; rfl
      have hzz : w.heap.size < wr.heap.size := by omega
      have HR := hide hbr
      clear hbr
      go_wp2_with fail
      refine bodyPost_ret (v := .agg #[.int .i64 0, .string ⟨#[]⟩]) (by simp [results, Tryz.results67, go_sem, r0, r1]) rfl ⟨by rw [unhide HL'], ?_⟩
      exact ((bstep (unhide HB3) (unhide HR)).setCell (Nat.le_refl _) _).setCell (Nat.le_refl _) _

/-- strings.HasPrefix. -/
def hasP (s p : ByteArray) : Bool := decide (bl p <+: bl s)
theorem hasP_at (s p : ByteArray) (h : p.size ≤ s.size) : ((s.extract 0 p.size).toList == p.toList) = hasP s p := by
  unfold hasP
  rw [Bool.eq_iff_iff, beq_iff_eq, decide_eq_true_eq, List.prefix_iff_eq_take, bl_len, ← bl_take]
  constructor
  · intro e
    have : s.extract 0 p.size = p := by
      apply ByteArray.ext
      apply Array.ext'
      rw [← Lib.toList_data, ← Lib.toList_data, e]
    rw [this]
  · intro e
    have : s.extract 0 p.size = p := by rw [← str_bl (s.extract 0 p.size), ← e, str_bl]
    rw [this]
theorem hasP_short (s p : ByteArray) (h : s.size < p.size) : hasP s p = false := by
  unfold hasP
  rw [decide_eq_false_iff_not]
  intro hs
  have := hs.length_le
  rw [bl_len, bl_len] at this
  omega
set_option maxHeartbeats 400000 in
set_option maxRecDepth 100000 in
theorem hasPrefix_any (s p : ByteArray) (w : World) (hm : s.size ≤ maxLen) (hp : p.size ≤ maxLen) :
    Calls Tryz.prog 69 #[.string s, .string p] w fun e w' => e = .returned (.bool (hasP s p)) ∧ w' = w := by
  unfold maxLen at hm hp
  by_cases h : p.size ≤ s.size
  · have HE := hide (hasP_at s p h)
    go_enter Tryz.func69, Tryz.ntmps69
    go_wp2
    go_ret
    refine ⟨?_, rfl⟩
    rw [← unhide HE]
    first | rfl | done
  · have HE := hide (hasP_short s p (by omega))
    go_enter Tryz.func69, Tryz.ntmps69
    go_wp2
    go_ret
    refine ⟨?_, rfl⟩
    rw [unhide HE]
    first | rfl | done

theorem mks_size {m : Int} {a : ByteArray} (h : (m, a) ∈ mks) : a.size ≤ 3 := by
  unfold mks at h
  simp only [List.mem_cons, Prod.mk.injEq, List.not_mem_nil, or_false] at h
  rcases h with ⟨_, rfl⟩ | ⟨_, rfl⟩ | ⟨_, rfl⟩ <;> decide
set_option maxHeartbeats 400000 in
set_option maxRecDepth 100000 in
theorem sniffIs (s : ByteArray) (hs : s.size ≤ maxLen) (B : Nat) (m : Int) (a : ByteArray) (w : World) (hm : (m, a) ∈ mks) (hc : w.cell? ⟨B, 0, none⟩ = some (.string s)) :
    Calls Tryz.prog 68 #[.agg #[.int .i64 m, .string a], .pointer (some ⟨B, 0, none⟩)] w fun e w'' => e = .returned (.bool (hasP s a)) ∧ Below w.heap.size w w'' := by
  have hl := World.block_lt_of_cell? w _ hc
  simp only at hl
  have H := fun w => hasPrefix_any s a w hs (by have := mks_size hm; unfold maxLen; omega)
  go_enter Tryz.func68, Tryz.ntmps68
  go_wp2_with fail
  refine (H _).mono ?_
  rintro e w1 ⟨rfl, hw⟩
  replace hw := hw.symm
  subst hw
  go_wp2_with fail
  go_ret
  exact ⟨rfl, balloc _ _⟩
set_option maxHeartbeats 400000 in
set_option maxRecDepth 100000 in
theorem putIs (n : Int) (B : Nat) (m : Int) (a : ByteArray) (w : World) (hm : (m, a) ∈ mks) (hc : w.cell? ⟨B, 0, none⟩ = some (.int .i64 n)) :
    Calls Tryz.prog 122 #[.agg #[.int .i64 m, .string a], .pointer (some ⟨B, 0, none⟩)] w fun e w'' => e = .returned (.bool (m == n)) ∧ Below w.heap.size w w'' := by
  have hl := World.block_lt_of_cell? w _ hc
  simp only at hl
  go_enter Tryz.func122, Tryz.ntmps122
  go_wp2
  go_ret
  exact ⟨rfl, balloc _ _⟩

theorem mfield_0 (x : ByteArray) (r : Int) (w : World) : Sem.run Tryz.prog (Instr.field 98 (.agg #[.int .i64 r, .string x]) 0) w = .ok (.int .i64 r) w := by
  kernel_rfl
theorem mfield_1 (x : ByteArray) (r : Int) (w : World) : Sem.run Tryz.prog (Instr.field 98 (.agg #[.int .i64 r, .string x]) 1) w = .ok (.string x) w := by
  kernel_rfl

theorem fmk_sniff (s : ByteArray) : ((fmk (fun x => hasP s x.2) mks).1, ((fmk (fun x => hasP s x.2) mks).2.size : Int)) = M.sn (bl s) := by
  have b1 : bl ⟨#[239, 187, 191]⟩ = [239, 187, 191] := by decide
  have b2 : bl ⟨#[254, 255]⟩ = [254, 255] := by decide
  have b3 : bl ⟨#[255, 254]⟩ = [255, 254] := by decide
  unfold M.sn mks fmk fmk fmk fmk hasP
  simp only [b1, b2, b3, decide_eq_true_eq]
  split
  · rfl
  · split
    · rfl
    · split <;> rfl
theorem fmk_put (n : Int) : bl (fmk (fun x => x.1 == n) mks).2 = M.mkL n ∧ (fmk (fun x => x.1 == n) mks).2.size ≤ 3 := by
  unfold M.mkL mks fmk fmk fmk fmk
  by_cases h1 : n = 1
  · subst h1; decide
  · by_cases h2 : n = 2
    · subst h2; decide
    · by_cases h3 : n = 3
      · subst h3; decide
      · have e1 : ((1 : Int) == n) = false := by simp; omega
        have e2 : ((3 : Int) == n) = false := by simp; omega
        have e3 : ((2 : Int) == n) = false := by simp; omega
        simp only [e1, e2, e3, h1, h2, h3]
        decide
end Go.Proofs.YtaiinjfnkmidbaaGreatDoor

namespace Go.Proofs.YtaiinjfnkmidbaaGreatDoor
open Go.RowKit
set_option linter.unusedVariables false

theorem enterSniff : ∀ args w, (callFunc 68 args).run Tryz.prog w = .ok (.enter 68 args) w := enters_of Tryz.func68 (by kernel_rfl) rfl
theorem enterPut : ∀ args w, (callFunc 122 args).run Tryz.prog w = .ok (.enter 122 args) w := enters_of Tryz.func122 (by kernel_rfl) rfl

set_option maxHeartbeats 400000 in
set_option maxRecDepth 100000 in
theorem Sniff_any (s : ByteArray) (w : World) (hs : s.size ≤ maxLen) :
    Calls Tryz.prog 28 #[.string s] w fun e w' => e = .returned (.tuple #[.int .i64 (M.sn (bl s)).1, .int .i64 (M.sn (bl s)).2]) ∧ Below w.heap.size w w' := by
  have hc : (w.alloc (.cells #[.string s] 9)).cell? ⟨w.heap.size, 0, none⟩ = some (.string s) := by simp
  have HP := hide (firstM 68 (fun x => hasP s x.2) w.heap.size (.string s) _ hc enterSniff (fun m a w' h1 h2 => sniffIs s hs _ m a w' h1 h2))
  have HE := hide (fmk_sniff s)
  have HB := hide (balloc w (.cells #[.string s] 9))
  generalize fmk (fun x => hasP s x.2) mks = r at *
  generalize M.sn (bl s) = t at *
  obtain ⟨r1, r2⟩ := r
  obtain ⟨t1, t2⟩ := t
  have HE1 : Hid (r1 = t1) := hide (congrArg Prod.fst (unhide HE))
  have HE2 : Hid ((r2.size : Int) = t2) := hide (congrArg Prod.snd (unhide HE))
  clear hc hs HE
  go_enter Tryz.func28, Tryz.ntmps28
  go_wp2_with fail
  refine (unhide HP).mono ?_
  rintro e w4 ⟨rfl, hb4⟩
  have hf0 := @mfield_0
  have hf1 := @mfield_1
  have HB4 := hide hb4
  clear hb4
  go_wp2_with fail
  go_region
  all_goals
    go_wp2_with fail
    go_ret2
    refine ⟨?_, below_drewN (bstep (bstep (unhide HB) (unhide HB4)) (balloc _ _)) 1⟩
    rw [← unhide HE1, ← unhide HE2]
    rfl

set_option maxHeartbeats 400000 in
set_option maxRecDepth 100000 in
theorem putIn (r1 : Int) (r2 s : ByteArray) (B : Nat) (w : World) (hs : s.size ≤ 3000) (hr : r2.size ≤ 3) (hc0 : w.cell? ⟨B, 0, none⟩ = some (.int .i64 r1)) (hc1 : w.cell? ⟨B, 1, none⟩ = some (.string r2)) :
    Calls Tryz.prog 124 #[.string s, .pointer (some ⟨B, 0, none⟩)] w fun e w' => e = .returned (.string (r2 ++ s)) ∧ Below w.heap.size w w' := by
  have hl := World.block_lt_of_cell? w _ hc1
  simp only at hl
  have H := fun w => clone_any (r2 ++ s) w (by rw [ByteArray.size_append]; omega)
  go_enter Tryz.func124, Tryz.ntmps124
  go_wp2_with fail
  refine (H _).mono ?_
  rintro e w1 ⟨rfl, hb⟩
  have HB := hide hb
  clear hb
  go_wp2_with fail
  go_ret
  exact ⟨rfl, unhide HB⟩

set_option maxHeartbeats 800000 in
set_option maxRecDepth 100000 in
theorem Put_any (n : Int) (s : ByteArray) (w : World) (hn : 1 ≤ n ∧ n ≤ 7) (hs : s.size ≤ 3000) :
    Calls Tryz.prog 61 #[.int .i64 n, .string s] w fun e w' => ∃ t, e = .returned (.tuple #[.string t, .int .i64 0]) ∧ bl t = M.mkL n ++ bl s ∧ Below w.heap.size w w' := by
  have HN := hide (fun w => Name_yes n w hn)
  generalize nameI n = nam at HN
  have HE := hide (fmk_put n)
  have HF := hide (fun (w : World) (B : Nat) (hc : w.cell? ⟨B, 0, none⟩ = some (.int .i64 n)) => firstM 122 (fun x => x.1 == n) B (.int .i64 n) w hc enterPut (fun m a w' h1 h2 => putIs n _ m a w' h1 h2))
  generalize fmk (fun x => x.1 == n) mks = r at *
  obtain ⟨r1, r2⟩ := r
  simp only at HE HF
  clear hn
  go_enter Tryz.func61, Tryz.ntmps61
  go_wp2_with fail
  refine (unhide HN _).mono ?_
  rintro e w1 ⟨rfl, hb1⟩
  have hz1 := hb1.size
  simp only [World.size_alloc] at hz1
  have hcs : w1.cell? ⟨w.heap.size, 0, none⟩ = some (.int .i64 n) := by rw [hb1.cell (p := ⟨w.heap.size, 0, none⟩) (by simp)]; simp
  have HB1 := hide (bstep (balloc w (.cells #[.int .i64 n] 3)) hb1)
  clear hb1 HN
  go_wp2_with fail
  refine (unhide HF _ _ hcs).mono ?_
  rintro e w4 ⟨rfl, hb4⟩
  have hf0 := @mfield_0
  have hf1 := @mfield_1
  have hz4 := hb4.size
  have HB4 := hide (bstep (unhide HB1) hb4)
  clear hb4
  have hr3 := (unhide HE).2
  go_wp2_with (first | (go_at_call 124; refine (putIn r1 r2 s _ _ hs hr3 (by simp) (by simp)).mono ?_; rintro e w5 ⟨rfl, hb5⟩; have HB5 := hide hb5; clear hb5) | (go_at_call 123; go_in))
  go_ret2
  refine ⟨_, rfl, ?_, bstep (bstep (unhide HB4) (balloc _ _)) (unhide HB5)⟩
  rw [bl_app, (unhide HE).1]

end Go.Proofs.YtaiinjfnkmidbaaGreatDoor

namespace Go.Proofs.YtaiinjfnkmidbaaGreatDoor
open Go.RowKit
set_option linter.unusedVariables false

/-- The bytes of a text, the first k of them folded. -/
def fkd (s : ByteArray) (k j : Nat) : Int := if j < k then fI ((bl s).getD j 0) else (bl s).getD j 0
/-- What a round of fold knows. -/
def InFd (s : ByteArray) (B : Nat) (w wr : World) (k : Nat) : Prop :=
  B < wr.heap.size ∧ Below B w wr ∧ (∀ j, j < s.size → wr.cell? ⟨B, j, none⟩ = some (.int .u8 (fkd s k j))) ∧ ∀ j, j < s.size → wr.frozen? ⟨B, j, none⟩ = false

theorem bytesRow_fd (s : ByteArray) (cap j : Nat) (h : j < s.size) : (bytesRow s cap)[j]? = some (.int .u8 ((bl s).getD j 0)) := by
  have hb := bl_get s j h
  rw [List.getD_eq_getElem?_getD, hb]
  unfold bytesRow
  rw [Array.getElem?_append_left (by simp; exact h)]
  simp [h]
  rfl

theorem InFd.start (s : ByteArray) (w : World) (cap : Nat) :
    InFd s w.heap.size w (w.drew.alloc (.cells (bytesRow s cap) 5 ((bytesRow s cap).size, (bytesRow s cap).size + 1))) 0 := by
  have hsz : s.size ≤ (bytesRow s cap).size := by unfold bytesRow; simp
  refine ⟨by simp, ((Below.refl _ _).drew).alloc (Nat.le_refl _) _, fun j hj => ?_, fun j hj => ?_⟩
  · have := World.cell?_alloc_mark w.drew (bytesRow s cap) 5 ((bytesRow s cap).size, (bytesRow s cap).size + 1) j
    rw [show (⟨w.heap.size, j, none⟩ : Addr) = ⟨w.drew.heap.size, j, none⟩ from rfl, this, bytesRow_fd s cap j hj]
    simp [fkd]
  · have hh : (w.drew.alloc (.cells (bytesRow s cap) 5 ((bytesRow s cap).size, (bytesRow s cap).size + 1))).heap[w.heap.size]? = some (.cells (bytesRow s cap) 5 ((bytesRow s cap).size, (bytesRow s cap).size + 1)) := heap_alloc_new w.drew _
    simp only [World.frozen?, hh]
    simp
    omega

theorem InFd.set {s : ByteArray} {B : Nat} {w wr : World} {k : Nat} (h : InFd s B w wr k) (hk : k < s.size) : InFd s B w (wr.setCell ⟨B, k, none⟩ (.int .u8 (fI ((bl s).getD k 0)))) (k + 1) := by
  obtain ⟨h1, h2, h3, h4⟩ := h
  refine ⟨by simpa [World.setCell] using h1, h2.setCell (Nat.le_refl _) _, fun j hj => ?_, fun j hj => by rw [World.frozen?_setCell]; exact h4 j hj⟩
  by_cases e : j = k
  · subst e
    rw [World.cell?_setCell_same _ _ _ (h3 j hj)]
    simp [fkd]
  · rw [World.cell?_setCell_other _ _ _ _ (by intro e'; exact e (by simpa using congrArg Addr.off e'.symm)), h3 j hj]
    unfold fkd
    by_cases g : j < k
    · rw [if_pos g, if_pos (by omega)]
    · rw [if_neg g, if_neg (by omega)]
theorem InFd.keep {s : ByteArray} {B : Nat} {w wr : World} {k : Nat} (h : InFd s B w wr k) (hk : k < s.size) (hf : fI ((bl s).getD k 0) = (bl s).getD k 0) : InFd s B w wr (k + 1) := by
  obtain ⟨h1, h2, h3, h4⟩ := h
  refine ⟨h1, h2, fun j hj => ?_, h4⟩
  rw [h3 j hj]
  unfold fkd
  by_cases e : j = k
  · subst e; rw [if_neg (Nat.lt_irrefl _), if_pos (by omega), hf]
  · by_cases g : j < k
    · rw [if_pos g, if_pos (by omega)]
    · rw [if_neg g, if_neg (by omega)]

theorem conv_folded {s : ByteArray} {B cap : Nat} {w wr : World} (h : InFd s B w wr s.size) : (convert 151 9 (.slice (some ⟨B, 0, none⟩) s.size cap)).run Tryz.prog wr = .ok (.string (strOfNums (fdI (bl s)))) wr := by
  refine run_convert_bytes_arg wr 151 5 Tryz.underlying151 Tryz.underlying5 B 0 s.size cap (fdI (bl s)) (by rw [fd_len, bl_len]) (fun i hi => ?_) 9 Tryz.underlying9
  rw [Nat.zero_add, h.2.2.1 i hi]
  have hi' : i < (bl s).length := by rw [bl_len]; exact hi
  simp [fkd, hi, fdI, hi']

set_option maxHeartbeats 400000 in
set_option maxRecDepth 100000 in
theorem fold_any (s : ByteArray) (w : World) (hs : s.size ≤ 3000) :
    Calls Tryz.prog 72 #[.string s] w fun e w' => e = .returned (.string (strOfNums (fdI (bl s)))) ∧ Below w.heap.size w w' := by
  have hcv := run_bytes_of_string (P := Tryz.prog) w 9 151 5 s Tryz.underlying9 Tryz.underlying151 Tryz.underlying5
  have HS := fun cap => InFd.start s w cap
  generalize grownCap w s.size 0 5 = cap at hcv
  have HS' := hide (HS cap)
  clear HS
  generalize hrow : bytesRow s cap = row at hcv HS'
  clear hrow
  go_enter Tryz.func72, Tryz.ntmps72
  go_wp2_with fail
  clear hcv
  go_loopw [10] (fun i wr => ∃ k : Nat, k ≤ s.size ∧ i = .int .i64 k ∧ InFd s w.heap.size w wr k) (fun i _ => s.size - (intOf i).toNat)
  case atStart => exact ⟨0, by omega, rfl, unhide HS'⟩
  case round =>
    obtain ⟨k, hk, rfl, hI⟩ := hrel
    clear HS'
    by_cases hlt : k < s.size
    · have hc := hI.2.2.1 k hlt
      have hf := hI.2.2.2 k hlt
      have e : fkd s k k = (bl s).getD k 0 := by simp [fkd]
      rw [e] at hc
      clear e
      have hbt : 0 ≤ (bl s).getD k 0 ∧ (bl s).getD k 0 ≤ 255 := bl_byt s _ (by simp [bl_len, hlt])
      have HK := hide (fun h => hI.keep hlt h)
      have HT := hide (hI.set hlt)
      clear hI
      obtain ⟨c, HC⟩ : ∃ c, Hid ((bl s).getD k 0 = c) := ⟨_, rfl⟩
      rw [unhide HC] at hc hbt HK HT
      by_cases h1 : 65 ≤ c ∧ c ≤ 90
      · have e : fI c = c + 32 := by unfold fI; rw [if_pos h1]
        rw [e] at HT
        clear e
        obtain ⟨h10, h11⟩ := h1
        go_wp2_with fail
        go_roundw
        case rel => exact ⟨k + 1, by omega, by go_num, by first | exact unhide HT | (have := unhide HT; rw [show c + 32 = c - 65 + 97 from by omega] at this; exact this)⟩
        case measure => simp [intOf]; omega
      · have e : fI c = c := by unfold fI; rw [if_neg h1]
        have HK' := hide (unhide HK e)
        clear e HK HT
        rcases (show c < 65 ∨ (65 ≤ c ∧ 90 < c) from by omega) with g | ⟨g, g'⟩
        all_goals
          go_wp2_with fail
          go_roundw
          case rel => exact ⟨k + 1, by omega, by go_num, unhide HK'⟩
          case measure => simp [intOf]; omega
    · have ek : k = s.size := by omega
      subst ek
      have hcv := conv_folded (cap := cap) hI
      have HB := hide hI.2.1
      clear hI
      go_wp2_with fail
      go_ret
      exact ⟨rfl, unhide HB⟩
end Go.Proofs.YtaiinjfnkmidbaaGreatDoor

namespace Go.Proofs.YtaiinjfnkmidbaaGreatDoor
open Go.RowKit
set_option linter.unusedVariables false

set_option maxHeartbeats 400000 in
set_option maxRecDepth 100000 in
theorem isName_any (a n : ByteArray) (m : Int) (B : Nat) (w : World) (hc : w.cell? ⟨B, 0, none⟩ = some (.string n)) :
    Calls Tryz.prog 76 #[.agg #[.string a, .int .i64 m], .pointer (some ⟨B, 0, none⟩)] w fun e w' => e = .returned (.bool (a == n)) ∧ Below w.heap.size w w' := by
  have hl := World.block_lt_of_cell? w _ hc
  simp only at hl
  have hbq := hide (beq_toListBytes a n)
  go_enter Tryz.func76, Tryz.ntmps76
  go_wp2
  go_ret
  exact ⟨by rw [unhide hbq]; rfl, balloc _ _⟩

set_option maxHeartbeats 1000000 in
set_option maxRecDepth 100000 in
theorem first_name (l : List (ByteArray × Int)) (n : ByteArray) (b B cap : Nat) (w : World) (hl : l.length ≤ 100) (ht : Tab w b l) (hbw : b < w.heap.size) (hc : w.cell? ⟨B, 0, none⟩ = some (.string n)) :
    Calls Tryz.prog 74 #[.slice (some ⟨b, 0, none⟩) l.length cap, .func (Fn.func 76) #[] #[.pointer (some ⟨B, 0, none⟩)]] w fun e w' =>
      ∃ x, e = .returned (.agg #[.string x, .int .i64 (lk l n)]) ∧ Below w.heap.size w w' := by
  have hB := World.block_lt_of_cell? w _ hc
  simp only at hB
  have HT := hide ht
  clear ht
  go_enter Tryz.func74, Tryz.ntmps74
  go_wp2_with fail
  go_loopw [9] (fun i wr => ∃ k : Nat, k ≤ l.length ∧ i = .int .i64 k ∧ Below (w.heap.size + 1) (w.alloc (.cells #[.string ⟨#[]⟩, .int .i64 0] 103)) wr ∧ Hid (lk l n = lk (l.drop k) n)) (fun i _ => l.length - (intOf i).toNat)
  case atStart => exact ⟨0, by omega, rfl, Below.refl _ _, rfl⟩
  case round =>
    obtain ⟨k, hk, rfl, hbr, HL⟩ := hrel
    have hsz := hbr.size
    simp at hsz
    have r0 : wr.cell? ⟨w.heap.size, 0, none⟩ = some (.string ⟨#[]⟩) := by rw [hbr.cell (p := ⟨w.heap.size, 0, none⟩) (by simp)]; simp
    have r1 : wr.cell? ⟨w.heap.size, 1, none⟩ = some (.int .i64 0) := by rw [hbr.cell (p := ⟨w.heap.size, 1, none⟩) (by simp)]; simp
    have q0 : wr.frozen? ⟨w.heap.size, 0, none⟩ = false := by rw [hbr.frozen (p := ⟨w.heap.size, 0, none⟩) (by simp)]; simp
    have q1 : wr.frozen? ⟨w.heap.size, 1, none⟩ = false := by rw [hbr.frozen (p := ⟨w.heap.size, 1, none⟩) (by simp)]; simp
    by_cases hlt : k < l.length
    · have ht := (unhide HT) k hlt
      have c1 : wr.cell? ⟨b, k * 2, none⟩ = some (.string l[k].1) := ((hbr.cell (p := ⟨b, k * 2, none⟩) (by simp; omega)).trans (World.cell?_alloc_lt _ _ _ hbw)).trans ht.1
      have c2 : wr.cell? ⟨b, k * 2 + 1, none⟩ = some (.int .i64 l[k].2) := ((hbr.cell (p := ⟨b, k * 2 + 1, none⟩) (by simp; omega)).trans (World.cell?_alloc_lt _ _ _ hbw)).trans ht.2
      have c3 : wr.cell? ⟨B, 0, none⟩ = some (.string n) := ((hbr.cell (p := ⟨B, 0, none⟩) (by simp; omega)).trans (World.cell?_alloc_lt _ _ _ hB)).trans hc
      have HD : Hid (lk (l.drop k) n = if (l[k].1 == n) then l[k].2 else lk (l.drop (k + 1)) n) := by
        show _ = _
        rw [List.drop_eq_getElem_cons hlt]; rfl
      obtain ⟨la, HA⟩ : ∃ la, Hid (l[k].1 = la) := ⟨l[k].1, rfl⟩
      obtain ⟨lb, HB⟩ : ∃ lb, Hid (l[k].2 = lb) := ⟨l[k].2, rfl⟩
      rw [unhide HA] at c1 HD
      rw [unhide HB] at c2 HD
      clear ht
      go_wp2_with fail
      refine (isName_any _ _ _ B _ (by rw [World.cell?_alloc_lt _ _ _ (by simp; omega)]; exact c3)).mono ?_
      rintro e w2 ⟨rfl, hb2⟩
      have hs2 := hb2.size
      simp at hs2
      have d0 : w2.cell? ⟨wr.heap.size, 0, none⟩ = some (.string la) := by rw [hb2.cell (p := ⟨wr.heap.size, 0, none⟩) (by simp)]; simp
      have d1 : w2.cell? ⟨wr.heap.size, 1, none⟩ = some (.int .i64 lb) := by rw [hb2.cell (p := ⟨wr.heap.size, 1, none⟩) (by simp)]; simp
      have s0 : w2.cell? ⟨w.heap.size, 0, none⟩ = some (.string ⟨#[]⟩) := by rw [hb2.cell (p := ⟨w.heap.size, 0, none⟩) (by simp; omega), World.cell?_alloc_lt _ _ _ (by simp; omega)]; exact r0
      have s1 : w2.cell? ⟨w.heap.size, 1, none⟩ = some (.int .i64 0) := by rw [hb2.cell (p := ⟨w.heap.size, 1, none⟩) (by simp; omega), World.cell?_alloc_lt _ _ _ (by simp; omega)]; exact r1
      have t0 : w2.frozen? ⟨w.heap.size, 0, none⟩ = false := by exact ((hb2.frozen (p := ⟨w.heap.size, 0, none⟩) (by simp; omega)).trans ((balloc wr _).frozen (p := ⟨w.heap.size, 0, none⟩) (by simp; omega))).trans q0
      have t1 : w2.frozen? ⟨w.heap.size, 1, none⟩ = false := by exact ((hb2.frozen (p := ⟨w.heap.size, 1, none⟩) (by simp; omega)).trans ((balloc wr _).frozen (p := ⟨w.heap.size, 1, none⟩) (by simp; omega))).trans q1
      have HR : Below (w.heap.size + 1) (w.alloc (.cells #[.string ⟨#[]⟩, .int .i64 0] 103)) w2 := (hbr.alloc (by omega) _).trans (hb2.mono (by simp; omega))
      obtain ⟨q, HQ⟩ : ∃ q, Hid ((la == n) = q) := ⟨_, rfl⟩
      rw [unhide HQ] at HD ⊢
      clear c1 c2 c3 r0 r1 q0 q1 hbr hb2
      cases q
      · have HL' : Hid (lk l n = lk (l.drop (k + 1)) n) := by
          show _ = _
          rw [unhide HL, unhide HD]; simp
        go_wp2_with fail
        go_roundw
        case rel => exact ⟨k + 1, by omega, by go_num, HR, HL'⟩
        case measure => simp [intOf]; omega
      · have HL' : Hid (lk l n = lb) := by
          show _ = _
          rw [unhide HL, unhide HD]; simp
        have hzz : w.heap.size < w2.heap.size := by omega
        go_wp2_with fail
        refine bodyPost_ret (v := .agg #[.string la, .int .i64 lb]) (by simp [results, Tryz.results74, go_sem, s0, s1]) rfl ⟨la, by rw [unhide HL'], ?_⟩
        exact ((((Below.refl w.heap.size w).alloc (Nat.le_refl _) _).trans (HR.mono (by omega))).setCell (Nat.le_refl _) _).setCell (Nat.le_refl _) _
    · have ek : k = l.length := by omega
      have HL' : Hid (lk l n = 0) := by
        show _ = _
        rw [unhide HL, ek, List.drop_length]; rfl
      have hzz : w.heap.size < wr.heap.size := by omega
      go_wp2_with fail
      refine bodyPost_ret (v := .agg #[.string ⟨#[]⟩, .int .i64 0]) (by simp [results, Tryz.results74, go_sem, r0, r1]) rfl ⟨⟨#[]⟩, by rw [unhide HL'], ?_⟩
      exact ((((Below.refl w.heap.size w).alloc (Nat.le_refl _) _).trans (hbr.mono (by omega))).setCell (Nat.le_refl _) _).setCell (Nat.le_refl _) _

theorem ftr_any (s : ByteArray) (w : World) (hs : s.size ≤ 3000) :
    Calls Tryz.prog 72 #[.string (strOfNums (trI (bl s)))] w fun e w' => e = .returned (.string (strOfNums (fdI (trI (bl s))))) ∧ Below w.heap.size w w' := by
  have := fold_any (strOfNums (trI (bl s))) w (tr_size s hs)
  rw [bl_str _ (tr_byt (bl_byt s))] at this
  exact this

set_option maxHeartbeats 1000000 in
set_option maxRecDepth 100000 in
theorem find1_any (s : ByteArray) (w : World) (hs : s.size ≤ 3000) :
    Calls Tryz.prog 71 #[.string s] w fun e w' => e = .returned (.int .i64 (findI s)) ∧ Below w.heap.size w w' := by
  have HT := hide (fun w => trim_any s w hs)
  have HF := hide (fun w => ftr_any s w hs)
  unfold findI
  generalize strOfNums (fdI (trI (bl s))) = n at *
  generalize strOfNums (trI (bl s)) = t at *
  go_enter Tryz.func71, Tryz.ntmps71
  go_wp2_with fail
  refine (unhide HT _).mono ?_
  rintro e w1 ⟨rfl, hb1⟩
  go_wp2_with fail
  refine (unhide HF _).mono ?_
  rintro e w2 ⟨rfl, hb2⟩
  go_wp2_with fail
  refine (Labels_any _).mono ?_
  rintro e w3 ⟨rfl, hw⟩
  replace hw := hw.symm
  subst hw
  have hT : Tab ((w2.alloc (.cells #[.string n] 9)).alloc (.cells (tabCells labs) 103)) (w2.heap.size + 1) labs := by
    have e : (w2.alloc (.cells #[.string n] 9)).heap.size = w2.heap.size + 1 := by simp
    rw [← e]; exact Tab.new _ _ _
  have hC : ((w2.alloc (.cells #[.string n] 9)).alloc (.cells (tabCells labs) 103)).cell? ⟨w2.heap.size, 0, none⟩ = some (.string n) := by
    rw [World.cell?_alloc_lt _ _ _ (by simp)]; simp
  have HP := hide (first_name labs n (w2.heap.size + 1) w2.heap.size 22 _ (by decide) hT (by simp) hC)
  have HB := hide (bstep (bstep (bstep hb1 hb2) (balloc _ (.cells #[.string n] 9))) (balloc _ (.cells (tabCells labs) 103)))
  rw [show labs.length = 22 from rfl] at HP
  generalize tabCells labs = tc at *
  clear hT hC hb1 hb2 HT HF
  go_wp2_with fail
  refine (unhide HP).mono ?_
  rintro e w4 ⟨x, rfl, hb4⟩
  have hf0 := @field_0
  have hf1 := @field_1
  go_wp2_with fail
  go_ret
  exact ⟨rfl, bstep (unhide HB) hb4⟩

set_option maxHeartbeats 400000 in
set_option maxRecDepth 100000 in
theorem Find_ok (s : ByteArray) (w : World) (hs : s.size ≤ 3000) :
    Calls Tryz.prog 29 #[.string s] w fun e w' => e = .returned (.tuple #[.int .i64 (findI s), .int .i64 0]) ∧ Below w.heap.size w w' := by
  have HC := hide (fun w => find1_any s w hs)
  generalize findI s = r at HC ⊢
  go_enter Tryz.func29, Tryz.ntmps29
  go_wp2_with (first | (go_at_call 71; refine (unhide HC _).mono ?_; rintro e w1 ⟨rfl, hb⟩) | go_in)
  go_ret2
  exact ⟨rfl, by assumption⟩

set_option maxHeartbeats 400000 in
set_option maxRecDepth 100000 in
theorem Find_long (s : ByteArray) (w : World) (hs : 3000 < s.size) (hm : s.size ≤ maxLen) :
    Calls Tryz.prog 29 #[.string s] w fun e w' => e = .returned (.tuple #[.int .i64 0, .int .i64 2]) ∧ w' = w := by
  unfold maxLen at hm
  go_enter Tryz.func29, Tryz.ntmps29
  go_wp2
  go_ret2
  exact ⟨rfl, rfl⟩

end Go.Proofs.YtaiinjfnkmidbaaGreatDoor
