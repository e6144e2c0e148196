/- The contracts of the reference's FeedOf and DecodeOf: what is told of bytes that came, of each encoding and from any right state, and the state then; nothing that was there is written. -/
import Derived.Test.YthhjfedegbldfacRN
import Derived.Test.YthhjfedegbldfacRW
import Derived.Test.YthhjfedegbldfacR8
import Derived.Test.YthhjfedegbldfacR16
import Derived.Test.YthhjfedegbldfacRS
namespace Go.Proofs.Ythhjfedegbldfac
open Go.RowKit
set_option linter.unusedVariables false

/-- What FeedOf answers: what is told, and the state then. -/
def FedR (e : Int) (r : ByteArray) (t : M.St) (p : ByteArray) (last : Bool) (w : World) (e' : Ending) (w' : World) : Prop :=
  ∃ v r' t' L, e' = .returned (.tuple #[v, sv e r' t']) ∧ w'.ownsRow w.heap.size 3 1 v L.length (L.map (Value.int .i64)) ∧ Below w.heap.size w w' ∧
    (last = false → L = (M.RE e t (bl r ++ bl p)).1 ∧ bl r' = (M.RE e t (bl r ++ bl p)).2.2 ∧ t' = (M.RE e t (bl r ++ bl p)).2.1) ∧
    (last = true → L = (M.TE e t (bl r ++ bl p)).1 ∧ r' = ⟨#[]⟩ ∧ t' = M.st0)
theorem Sc.set4 {B : Nat} {e : Int} {r : ByteArray} {t : M.St} {w : World} (h : Sc B e r t w) (x : Bool) : Sc B e r (t.1, t.2.1, x) (w.setCell ⟨B, 4, none⟩ (.bool x)) where
  c0 := (World.cell?_setCell_other _ _ _ _ (by simp)).trans h.c0
  c1 := (World.cell?_setCell_other _ _ _ _ (by simp)).trans h.c1
  c2 := (World.cell?_setCell_other _ _ _ _ (by simp)).trans h.c2
  c3 := (World.cell?_setCell_other _ _ _ _ (by simp)).trans h.c3
  c4 := World.cell?_setCell_same _ _ _ h.c4
  f0 := by rw [World.frozen?_setCell]; exact h.f0
  f1 := by rw [World.frozen?_setCell]; exact h.f1
  f2 := by rw [World.frozen?_setCell]; exact h.f2
  f3 := by rw [World.frozen?_setCell]; exact h.f3
  f4 := by rw [World.frozen?_setCell]; exact h.f4
theorem fin_some {l : List Int} (h : l ≠ []) : M.fin l = [65533] := by unfold M.fin; rw [if_neg h]
theorem one_set (w1 : World) (a : Addr) (u : Value) (x : Int) : Ints ((w1.setCell a u).alloc (.cells #[.int .i64 x] 3)) (.slice (some ⟨w1.heap.size, 0, none⟩) 1 1) [x] := by
  have h := one_int (w1.setCell a u) x
  have e : (w1.setCell a u).heap.size = w1.heap.size := by simp
  rw [e] at h
  exact h
theorem bl_nil {r : ByteArray} (h : r.size = 0) : bl r = [] := List.eq_nil_of_length_eq_zero (by rw [bl_len]; exact h)

set_option maxHeartbeats 3000000 in
set_option maxRecDepth 100000 in
theorem feedOf_1_more (r : ByteArray) (t : M.St) (p : ByteArray) (w : World) (hs : r.size + p.size ≤ 3003) :
    Calls Try.prog 22 #[sv 1 r t, .string p, .bool false] w (FedR 1 r t p false w) := by
  obtain ⟨s, hcat⟩ : ∃ s, r ++ p = s := ⟨_, rfl⟩
  have hsz : s.size ≤ 3003 := by rw [← hcat, ByteArray.size_append]; exact hs
  have HBL : Hid (bl r ++ bl p = bl s) := hide (by rw [← hcat, bl_app])
  have hcat2 : (r.append p) = s := hcat
  unfold sv
  have H := fun w => decRef_any s w hsz
  obtain ⟨L, HL⟩ : ∃ L, Hid ((M.Run M.f8 () (bl s)).1 = L) := ⟨_, hide rfl⟩
  have hLen : L.length ≤ 3003 := by
    have := M.RE_out (e := 1) (by omega) t (bl s)
    rw [M.RE_8, bl_len] at this
    simp only at this
    rw [unhide HL] at this
    omega
  go_enter Try.func22, Try.ntmps22
  go_wp2_with fail
  refine (H _).mono ?_
  rintro e' w1 ⟨v, rr, rfl, hI, hb, hrr⟩
  rw [unhide HL] at hI
  obtain ⟨av, cv, hsv⟩ := owns_shape hI
  subst hsv
  have HI : Hid (w1.ownsRow (w.heap.size + 2) 3 1 (.slice av L.length cv) L.length (L.map (Value.int .i64))) := hide (by simpa using hI)
  have HB : Hid (Below w.heap.size w w1) := hide (bstep (bstep (balloc _ _) (balloc _ _)) hb)
  have H0 : Hid (Sc w.heap.size 1 r t w1) := hide (Sc.below (w := ((w.alloc (.cells #[.int .i64 1, .string r, .int .i64 t.1, .bool t.2.1, .bool t.2.2] 40)).alloc (.cells #[.int .i64 0, .string ⟨#[]⟩, .int .i64 0, .bool false, .bool false] 40))) (by constructor <;> simp [go_sem]) hb (by simp; omega))
  have H1 : Hid (Rc (w.heap.size + 1) w1) := hide (Rc.below (w := ((w.alloc (.cells #[.int .i64 1, .string r, .int .i64 t.1, .bool t.2.1, .bool t.2.2] 40)).alloc (.cells #[.int .i64 0, .string ⟨#[]⟩, .int .i64 0, .bool false, .bool false] 40))) (by constructor <;> simp [go_sem]) hb (by simp))
  have HRR := hide hrr
  clear hI hb hrr H hcat hcat2
  obtain ⟨a0, a1, a2, a3, a4, x0, x1, x2, x3, x4⟩ := unhide H0
  obtain ⟨b0, b1, b2, b3, b4, y0, y1, y2, y3, y4⟩ := unhide H1
  have hl0 : w.heap.size < w1.heap.size := World.block_lt_of_cell? w1 _ a0
  have hl1 : w.heap.size + 1 < w1.heap.size := World.block_lt_of_cell? w1 _ b0
  go_wp2_with fail
  have hX0 : Sc w.heap.size 1 rr t (w1.setCell ⟨w.heap.size, 1, none⟩ (.string rr)) := (unhide H0).set1 rr
  have hX1 : Rc (w.heap.size + 1) (w1.setCell ⟨w.heap.size, 1, none⟩ (.string rr)) := (unhide H1).far _ _ (by simp)
  have HX := hide (owns_set (unhide HI) ⟨w.heap.size, 1, none⟩ (by simp) (.string rr))
  have HY := hide (bset (unhide HB) ⟨w.heap.size, 1, none⟩ (.string rr) (Nat.le_refl _))
  clear a0 a1 a2 a3 a4 x0 x1 x2 x3 x4 b0 b1 b2 b3 b4 y0 y1 y2 y3 y4 hl0 hl1
  generalize w1.setCell ⟨w.heap.size, 1, none⟩ (.string rr) = X at *
  have hlx := hX0.lt
  obtain ⟨a0, a1, a2, a3, a4, -, -, -, -, -⟩ := hX0
  obtain ⟨b0, b1, b2, b3, b4, y0, y1, y2, y3, y4⟩ := hX1
  have hly : w.heap.size + 1 < X.heap.size := World.block_lt_of_cell? X _ b0
  skip
  go_region
  all_goals
    go_wp2_with fail
    refine bodyPost_ret (v := .tuple #[.slice av L.length cv, .agg #[.int .i64 1, .string rr, .int .i64 t.1, .bool t.2.1, .bool t.2.2]]) (by simp [results, Try.results22, go_sem, b0, b1, b2, b3, b4]) rfl ?_
    refine ⟨.slice av L.length cv, rr, t, L, rfl, ?_, ?_, ?_, ?_⟩
    · exact owns_mono (o_drew (oset5 (e := 1) (r := rr) (t := t) (unhide HX) (by omega))) (by omega)
    · exact b_drew (bset5 (e := 1) (r := rr) (t := t) (unhide HY) (by omega))
    · intro _; rw [unhide HBL, M.RE_8]; exact ⟨(unhide HL).symm, unhide HRR, rfl⟩
    · intro h; cases h

set_option maxHeartbeats 3000000 in
set_option maxRecDepth 100000 in
theorem feedOf_1_last (r : ByteArray) (t : M.St) (p : ByteArray) (w : World) (hs : r.size + p.size ≤ 3003) :
    Calls Try.prog 22 #[sv 1 r t, .string p, .bool true] w (FedR 1 r t p true w) := by
  obtain ⟨s, hcat⟩ : ∃ s, r ++ p = s := ⟨_, rfl⟩
  have hsz : s.size ≤ 3003 := by rw [← hcat, ByteArray.size_append]; exact hs
  have HBL : Hid (bl r ++ bl p = bl s) := hide (by rw [← hcat, bl_app])
  have hcat2 : (r.append p) = s := hcat
  unfold sv
  have H := fun w => decRef_any s w hsz
  obtain ⟨L, HL⟩ : ∃ L, Hid ((M.Run M.f8 () (bl s)).1 = L) := ⟨_, hide rfl⟩
  have hLen : L.length ≤ 3003 := by
    have := M.RE_out (e := 1) (by omega) t (bl s)
    rw [M.RE_8, bl_len] at this
    simp only at this
    rw [unhide HL] at this
    omega
  go_enter Try.func22, Try.ntmps22
  go_wp2_with fail
  refine (H _).mono ?_
  rintro e' w1 ⟨v, rr, rfl, hI, hb, hrr⟩
  rw [unhide HL] at hI
  obtain ⟨av, cv, hsv⟩ := owns_shape hI
  subst hsv
  have HI : Hid (w1.ownsRow (w.heap.size + 2) 3 1 (.slice av L.length cv) L.length (L.map (Value.int .i64))) := hide (by simpa using hI)
  have HB : Hid (Below w.heap.size w w1) := hide (bstep (bstep (balloc _ _) (balloc _ _)) hb)
  have H0 : Hid (Sc w.heap.size 1 r t w1) := hide (Sc.below (w := ((w.alloc (.cells #[.int .i64 1, .string r, .int .i64 t.1, .bool t.2.1, .bool t.2.2] 40)).alloc (.cells #[.int .i64 0, .string ⟨#[]⟩, .int .i64 0, .bool false, .bool false] 40))) (by constructor <;> simp [go_sem]) hb (by simp; omega))
  have H1 : Hid (Rc (w.heap.size + 1) w1) := hide (Rc.below (w := ((w.alloc (.cells #[.int .i64 1, .string r, .int .i64 t.1, .bool t.2.1, .bool t.2.2] 40)).alloc (.cells #[.int .i64 0, .string ⟨#[]⟩, .int .i64 0, .bool false, .bool false] 40))) (by constructor <;> simp [go_sem]) hb (by simp))
  have HRR := hide hrr
  clear hI hb hrr H hcat hcat2
  by_cases h0 : rr.size = 0
  · have he : rr.toList.isEmpty = true := by rw [isEmpty_size]; simp [h0]
    obtain ⟨a0, a1, a2, a3, a4, x0, x1, x2, x3, x4⟩ := unhide H0
    obtain ⟨b0, b1, b2, b3, b4, y0, y1, y2, y3, y4⟩ := unhide H1
    have hl0 : w.heap.size < w1.heap.size := World.block_lt_of_cell? w1 _ a0
    have hl1 : w.heap.size + 1 < w1.heap.size := World.block_lt_of_cell? w1 _ b0
    go_wp2_with fail
    have hX0 : Sc w.heap.size 1 ⟨#[]⟩ M.st0 ((((((w1.setCell ⟨w.heap.size, 1, none⟩ (.string rr)).setCell ⟨w.heap.size, 0, none⟩ (.int .i64 1)).setCell ⟨w.heap.size, 1, none⟩ (.string ⟨#[]⟩)).setCell ⟨w.heap.size, 2, none⟩ (.int .i64 0)).setCell ⟨w.heap.size, 3, none⟩ (.bool false)).setCell ⟨w.heap.size, 4, none⟩ (.bool false)) := ((unhide H0).set1 rr).rc 1 ⟨#[]⟩ M.st0
    have hX1 : Rc (w.heap.size + 1) ((((((w1.setCell ⟨w.heap.size, 1, none⟩ (.string rr)).setCell ⟨w.heap.size, 0, none⟩ (.int .i64 1)).setCell ⟨w.heap.size, 1, none⟩ (.string ⟨#[]⟩)).setCell ⟨w.heap.size, 2, none⟩ (.int .i64 0)).setCell ⟨w.heap.size, 3, none⟩ (.bool false)).setCell ⟨w.heap.size, 4, none⟩ (.bool false)) := ((((((unhide H1).far _ _ (by simp)).far _ _ (by simp)).far _ _ (by simp)).far _ _ (by simp)).far _ _ (by simp)).far _ _ (by simp)
    have HX : Hid (((((((w1.setCell ⟨w.heap.size, 1, none⟩ (.string rr)).setCell ⟨w.heap.size, 0, none⟩ (.int .i64 1)).setCell ⟨w.heap.size, 1, none⟩ (.string ⟨#[]⟩)).setCell ⟨w.heap.size, 2, none⟩ (.int .i64 0)).setCell ⟨w.heap.size, 3, none⟩ (.bool false)).setCell ⟨w.heap.size, 4, none⟩ (.bool false)).ownsRow (w.heap.size + 2) 3 1 (.slice av L.length cv) L.length (L.map (Value.int .i64))) := hide (oset5 (t := M.st0) (owns_set (unhide HI) ⟨w.heap.size, 1, none⟩ (by simp) (.string rr)) (by omega))
    have HY : Hid (Below w.heap.size w ((((((w1.setCell ⟨w.heap.size, 1, none⟩ (.string rr)).setCell ⟨w.heap.size, 0, none⟩ (.int .i64 1)).setCell ⟨w.heap.size, 1, none⟩ (.string ⟨#[]⟩)).setCell ⟨w.heap.size, 2, none⟩ (.int .i64 0)).setCell ⟨w.heap.size, 3, none⟩ (.bool false)).setCell ⟨w.heap.size, 4, none⟩ (.bool false))) := hide (bset5 (t := M.st0) (bset (unhide HB) ⟨w.heap.size, 1, none⟩ (.string rr) (Nat.le_refl _)) (by omega))
    clear a0 a1 a2 a3 a4 x0 x1 x2 x3 x4 b0 b1 b2 b3 b4 y0 y1 y2 y3 y4 hl0 hl1
    generalize (((((w1.setCell ⟨w.heap.size, 1, none⟩ (.string rr)).setCell ⟨w.heap.size, 0, none⟩ (.int .i64 1)).setCell ⟨w.heap.size, 1, none⟩ (.string ⟨#[]⟩)).setCell ⟨w.heap.size, 2, none⟩ (.int .i64 0)).setCell ⟨w.heap.size, 3, none⟩ (.bool false)).setCell ⟨w.heap.size, 4, none⟩ (.bool false) = X at *
    have hlx := hX0.lt
    obtain ⟨a0, a1, a2, a3, a4, -, -, -, -, -⟩ := hX0
    obtain ⟨b0, b1, b2, b3, b4, y0, y1, y2, y3, y4⟩ := hX1
    have hly : w.heap.size + 1 < X.heap.size := World.block_lt_of_cell? X _ b0
    unfold M.st0 at a2 a3 a4
    go_region
    all_goals
      go_wp2_with fail
      refine bodyPost_ret (v := .tuple #[.slice av L.length cv, .agg #[.int .i64 1, .string ⟨#[]⟩, .int .i64 M.st0.1, .bool M.st0.2.1, .bool M.st0.2.2]]) (by simp [results, Try.results22, go_sem, b0, b1, b2, b3, b4, M.st0]) rfl ?_
      refine ⟨.slice av L.length cv, ⟨#[]⟩, M.st0, L, rfl, ?_, ?_, ?_, ?_⟩
      · exact owns_mono (o_drew (oset5 (e := 1) (r := ⟨#[]⟩) (t := M.st0) (unhide HX) (by omega))) (by omega)
      · exact b_drew (bset5 (e := 1) (r := ⟨#[]⟩) (t := M.st0) (unhide HY) (by omega))
      · intro h; cases h
      · intro _; refine ⟨?_, rfl, rfl⟩; rw [unhide HBL, M.TE_8 t (bl s)]; show L = M.dec (bl s); rw [← M.f8_dec, unhide HL, ← unhide HRR, bl_nil h0]; simp [M.fin]

  · have he : rr.toList.isEmpty = false := by rw [isEmpty_size]; simp [h0]
    obtain ⟨a0, a1, a2, a3, a4, x0, x1, x2, x3, x4⟩ := unhide H0
    obtain ⟨b0, b1, b2, b3, b4, y0, y1, y2, y3, y4⟩ := unhide H1
    have hl0 : w.heap.size < w1.heap.size := World.block_lt_of_cell? w1 _ a0
    have hl1 : w.heap.size + 1 < w1.heap.size := World.block_lt_of_cell? w1 _ b0
    have HIs := hide (owns_a (owns_set (unhide HI) ⟨w.heap.size, 1, none⟩ (by simp) (.string rr)) (.cells #[.int .i64 65533] 3))
    have HO1 := hide (one_set w1 ⟨w.heap.size, 1, none⟩ (.string rr) 65533)
    go_wp2_with (at_builtin; refine append_ints rfl (.tmp 80) (.tmp 81) rfl (w.heap.size + 2) _ L rfl (unhide HIs) _ [65533] rfl (unhide HO1) (by simp; omega) (by simp; omega) ?_)
    intro v2 w2 ho2 hb2
    obtain ⟨av2, cv2, hsv2⟩ := owns_shape ho2
    subst hsv2
    have hz2 : w.heap.size + 2 ≤ (w1.setCell ⟨w.heap.size, 1, none⟩ (.string rr)).heap.size := by simp; omega
    have hb3 := ((Below.refl (w.heap.size + 2) (w1.setCell ⟨w.heap.size, 1, none⟩ (.string rr))).alloc hz2 (.cells #[.int .i64 65533] 3)).trans hb2
    have H0' := hide (((unhide H0).set1 rr).below hb3 (by omega))
    have H1' : Hid (Rc (w.heap.size + 1) w2) := hide (((unhide H1).far ⟨w.heap.size, 1, none⟩ (.string rr) (by simp)).below hb3 (by omega))
    have HB' := hide ((bset (unhide HB) ⟨w.heap.size, 1, none⟩ (.string rr) (Nat.le_refl _)).trans (hb3.mono (by omega)))
    have HI' : Hid (w2.ownsRow (w.heap.size + 2) 3 1 (.slice av2 (L.length + 1) cv2) (L ++ [65533]).length ((L ++ [65533]).map (Value.int .i64))) := hide (by simpa using ho2)
    clear a0 a1 a2 a3 a4 x0 x1 x2 x3 x4 b0 b1 b2 b3 b4 y0 y1 y2 y3 y4 hl0 hl1
    clear ho2 hb2 hb3 H0 H1 HB HI HIs HO1 hz2
    have H0 := H0'
    have H1 := H1'
    have HB := HB'
    have HI := HI'
    clear H0' H1' HB' HI'
    obtain ⟨a0, a1, a2, a3, a4, x0, x1, x2, x3, x4⟩ := unhide H0
    obtain ⟨b0, b1, b2, b3, b4, y0, y1, y2, y3, y4⟩ := unhide H1
    have hl0 : w.heap.size < w2.heap.size := World.block_lt_of_cell? w2 _ a0
    have hl1 : w.heap.size + 1 < w2.heap.size := World.block_lt_of_cell? w2 _ b0
    go_wp2_with fail
    have hX0 : Sc w.heap.size 1 ⟨#[]⟩ M.st0 (((((w2.setCell ⟨w.heap.size, 0, none⟩ (.int .i64 1)).setCell ⟨w.heap.size, 1, none⟩ (.string ⟨#[]⟩)).setCell ⟨w.heap.size, 2, none⟩ (.int .i64 0)).setCell ⟨w.heap.size, 3, none⟩ (.bool false)).setCell ⟨w.heap.size, 4, none⟩ (.bool false)) := (unhide H0).rc 1 ⟨#[]⟩ M.st0
    have hX1 : Rc (w.heap.size + 1) (((((w2.setCell ⟨w.heap.size, 0, none⟩ (.int .i64 1)).setCell ⟨w.heap.size, 1, none⟩ (.string ⟨#[]⟩)).setCell ⟨w.heap.size, 2, none⟩ (.int .i64 0)).setCell ⟨w.heap.size, 3, none⟩ (.bool false)).setCell ⟨w.heap.size, 4, none⟩ (.bool false)) := (((((unhide H1).far _ _ (by simp)).far _ _ (by simp)).far _ _ (by simp)).far _ _ (by simp)).far _ _ (by simp)
    have HX : Hid ((((((w2.setCell ⟨w.heap.size, 0, none⟩ (.int .i64 1)).setCell ⟨w.heap.size, 1, none⟩ (.string ⟨#[]⟩)).setCell ⟨w.heap.size, 2, none⟩ (.int .i64 0)).setCell ⟨w.heap.size, 3, none⟩ (.bool false)).setCell ⟨w.heap.size, 4, none⟩ (.bool false)).ownsRow (w.heap.size + 2) 3 1 (.slice av2 (L.length + 1) cv2) (L ++ [65533]).length ((L ++ [65533]).map (Value.int .i64))) := hide (oset5 (t := M.st0) (unhide HI) (by omega))
    have HY : Hid (Below w.heap.size w (((((w2.setCell ⟨w.heap.size, 0, none⟩ (.int .i64 1)).setCell ⟨w.heap.size, 1, none⟩ (.string ⟨#[]⟩)).setCell ⟨w.heap.size, 2, none⟩ (.int .i64 0)).setCell ⟨w.heap.size, 3, none⟩ (.bool false)).setCell ⟨w.heap.size, 4, none⟩ (.bool false))) := hide (bset5 (t := M.st0) (unhide HB) (by omega))
    clear a0 a1 a2 a3 a4 x0 x1 x2 x3 x4 b0 b1 b2 b3 b4 y0 y1 y2 y3 y4 hl0 hl1
    generalize (((((w2.setCell ⟨w.heap.size, 0, none⟩ (.int .i64 1)).setCell ⟨w.heap.size, 1, none⟩ (.string ⟨#[]⟩)).setCell ⟨w.heap.size, 2, none⟩ (.int .i64 0)).setCell ⟨w.heap.size, 3, none⟩ (.bool false)).setCell ⟨w.heap.size, 4, none⟩ (.bool false)) = X at *
    have hlx := hX0.lt
    obtain ⟨a0, a1, a2, a3, a4, -, -, -, -, -⟩ := hX0
    obtain ⟨b0, b1, b2, b3, b4, y0, y1, y2, y3, y4⟩ := hX1
    have hly : w.heap.size + 1 < X.heap.size := World.block_lt_of_cell? X _ b0
    unfold M.st0 at a2 a3 a4
    go_region
    all_goals
      go_wp2_with fail
      refine bodyPost_ret (v := .tuple #[.slice av2 (L.length + 1) cv2, .agg #[.int .i64 1, .string ⟨#[]⟩, .int .i64 M.st0.1, .bool M.st0.2.1, .bool M.st0.2.2]]) (by simp [results, Try.results22, go_sem, b0, b1, b2, b3, b4, M.st0]) rfl ?_
      refine ⟨.slice av2 (L.length + 1) cv2, ⟨#[]⟩, M.st0, (L ++ [65533]), rfl, ?_, ?_, ?_, ?_⟩
      · exact owns_mono (o_drew (oset5 (e := 1) (r := ⟨#[]⟩) (t := M.st0) (unhide HX) (by omega))) (by omega)
      · exact b_drew (bset5 (e := 1) (r := ⟨#[]⟩) (t := M.st0) (unhide HY) (by omega))
      · intro h; cases h
      · intro _; refine ⟨?_, rfl, rfl⟩; rw [unhide HBL, M.TE_8 t (bl s)]; show L ++ [65533] = M.dec (bl s); rw [← M.f8_dec, unhide HL, ← unhide HRR, fin_some (fun q => h0 (by rw [← bl_len, q]; rfl))]

set_option maxHeartbeats 3000000 in
set_option maxRecDepth 100000 in
theorem feedOf_2_more (r : ByteArray) (t : M.St) (p : ByteArray) (w : World) (hs : r.size + p.size ≤ 3003) :
    Calls Try.prog 22 #[sv 2 r t, .string p, .bool false] w (FedR 2 r t p false w) := by
  obtain ⟨s, hcat⟩ : ∃ s, r ++ p = s := ⟨_, rfl⟩
  have hsz : s.size ≤ 3003 := by rw [← hcat, ByteArray.size_append]; exact hs
  have HBL : Hid (bl r ++ bl p = bl s) := hide (by rw [← hcat, bl_app])
  have hcat2 : (r.append p) = s := hcat
  unfold sv
  have H := fun w => decRef16_any false s w hsz
  obtain ⟨L, HL⟩ : ∃ L, Hid ((M.Run (M.f16 false) () (bl s)).1 = L) := ⟨_, hide rfl⟩
  have hLen : L.length ≤ 3003 := by
    have := M.RE_out (e := 2) (by omega) t (bl s)
    rw [M.RE_16l, bl_len] at this
    simp only at this
    rw [unhide HL] at this
    omega
  go_enter Try.func22, Try.ntmps22
  go_wp2_with fail
  refine (H _).mono ?_
  rintro e' w1 ⟨v, rr, rfl, hI, hb, hrr⟩
  rw [unhide HL] at hI
  obtain ⟨av, cv, hsv⟩ := owns_shape hI
  subst hsv
  have HI : Hid (w1.ownsRow (w.heap.size + 2) 3 1 (.slice av L.length cv) L.length (L.map (Value.int .i64))) := hide (by simpa using hI)
  have HB : Hid (Below w.heap.size w w1) := hide (bstep (bstep (balloc _ _) (balloc _ _)) hb)
  have H0 : Hid (Sc w.heap.size 2 r t w1) := hide (Sc.below (w := ((w.alloc (.cells #[.int .i64 2, .string r, .int .i64 t.1, .bool t.2.1, .bool t.2.2] 40)).alloc (.cells #[.int .i64 0, .string ⟨#[]⟩, .int .i64 0, .bool false, .bool false] 40))) (by constructor <;> simp [go_sem]) hb (by simp; omega))
  have H1 : Hid (Rc (w.heap.size + 1) w1) := hide (Rc.below (w := ((w.alloc (.cells #[.int .i64 2, .string r, .int .i64 t.1, .bool t.2.1, .bool t.2.2] 40)).alloc (.cells #[.int .i64 0, .string ⟨#[]⟩, .int .i64 0, .bool false, .bool false] 40))) (by constructor <;> simp [go_sem]) hb (by simp))
  have HRR := hide hrr
  clear hI hb hrr H hcat hcat2
  obtain ⟨a0, a1, a2, a3, a4, x0, x1, x2, x3, x4⟩ := unhide H0
  obtain ⟨b0, b1, b2, b3, b4, y0, y1, y2, y3, y4⟩ := unhide H1
  have hl0 : w.heap.size < w1.heap.size := World.block_lt_of_cell? w1 _ a0
  have hl1 : w.heap.size + 1 < w1.heap.size := World.block_lt_of_cell? w1 _ b0
  go_wp2_with fail
  have hX0 : Sc w.heap.size 2 rr t (w1.setCell ⟨w.heap.size, 1, none⟩ (.string rr)) := (unhide H0).set1 rr
  have hX1 : Rc (w.heap.size + 1) (w1.setCell ⟨w.heap.size, 1, none⟩ (.string rr)) := (unhide H1).far _ _ (by simp)
  have HX := hide (owns_set (unhide HI) ⟨w.heap.size, 1, none⟩ (by simp) (.string rr))
  have HY := hide (bset (unhide HB) ⟨w.heap.size, 1, none⟩ (.string rr) (Nat.le_refl _))
  clear a0 a1 a2 a3 a4 x0 x1 x2 x3 x4 b0 b1 b2 b3 b4 y0 y1 y2 y3 y4 hl0 hl1
  generalize w1.setCell ⟨w.heap.size, 1, none⟩ (.string rr) = X at *
  have hlx := hX0.lt
  obtain ⟨a0, a1, a2, a3, a4, -, -, -, -, -⟩ := hX0
  obtain ⟨b0, b1, b2, b3, b4, y0, y1, y2, y3, y4⟩ := hX1
  have hly : w.heap.size + 1 < X.heap.size := World.block_lt_of_cell? X _ b0
  skip
  go_region
  all_goals
    go_wp2_with fail
    refine bodyPost_ret (v := .tuple #[.slice av L.length cv, .agg #[.int .i64 2, .string rr, .int .i64 t.1, .bool t.2.1, .bool t.2.2]]) (by simp [results, Try.results22, go_sem, b0, b1, b2, b3, b4]) rfl ?_
    refine ⟨.slice av L.length cv, rr, t, L, rfl, ?_, ?_, ?_, ?_⟩
    · exact owns_mono (o_drew (oset5 (e := 2) (r := rr) (t := t) (unhide HX) (by omega))) (by omega)
    · exact b_drew (bset5 (e := 2) (r := rr) (t := t) (unhide HY) (by omega))
    · intro _; rw [unhide HBL, M.RE_16l]; exact ⟨(unhide HL).symm, unhide HRR, rfl⟩
    · intro h; cases h

set_option maxHeartbeats 3000000 in
set_option maxRecDepth 100000 in
theorem feedOf_2_last (r : ByteArray) (t : M.St) (p : ByteArray) (w : World) (hs : r.size + p.size ≤ 3003) :
    Calls Try.prog 22 #[sv 2 r t, .string p, .bool true] w (FedR 2 r t p true w) := by
  obtain ⟨s, hcat⟩ : ∃ s, r ++ p = s := ⟨_, rfl⟩
  have hsz : s.size ≤ 3003 := by rw [← hcat, ByteArray.size_append]; exact hs
  have HBL : Hid (bl r ++ bl p = bl s) := hide (by rw [← hcat, bl_app])
  have hcat2 : (r.append p) = s := hcat
  unfold sv
  have H := fun w => decRef16_any false s w hsz
  obtain ⟨L, HL⟩ : ∃ L, Hid ((M.Run (M.f16 false) () (bl s)).1 = L) := ⟨_, hide rfl⟩
  have hLen : L.length ≤ 3003 := by
    have := M.RE_out (e := 2) (by omega) t (bl s)
    rw [M.RE_16l, bl_len] at this
    simp only at this
    rw [unhide HL] at this
    omega
  go_enter Try.func22, Try.ntmps22
  go_wp2_with fail
  refine (H _).mono ?_
  rintro e' w1 ⟨v, rr, rfl, hI, hb, hrr⟩
  rw [unhide HL] at hI
  obtain ⟨av, cv, hsv⟩ := owns_shape hI
  subst hsv
  have HI : Hid (w1.ownsRow (w.heap.size + 2) 3 1 (.slice av L.length cv) L.length (L.map (Value.int .i64))) := hide (by simpa using hI)
  have HB : Hid (Below w.heap.size w w1) := hide (bstep (bstep (balloc _ _) (balloc _ _)) hb)
  have H0 : Hid (Sc w.heap.size 2 r t w1) := hide (Sc.below (w := ((w.alloc (.cells #[.int .i64 2, .string r, .int .i64 t.1, .bool t.2.1, .bool t.2.2] 40)).alloc (.cells #[.int .i64 0, .string ⟨#[]⟩, .int .i64 0, .bool false, .bool false] 40))) (by constructor <;> simp [go_sem]) hb (by simp; omega))
  have H1 : Hid (Rc (w.heap.size + 1) w1) := hide (Rc.below (w := ((w.alloc (.cells #[.int .i64 2, .string r, .int .i64 t.1, .bool t.2.1, .bool t.2.2] 40)).alloc (.cells #[.int .i64 0, .string ⟨#[]⟩, .int .i64 0, .bool false, .bool false] 40))) (by constructor <;> simp [go_sem]) hb (by simp))
  have HRR := hide hrr
  clear hI hb hrr H hcat hcat2
  by_cases h0 : rr.size = 0
  · have he : rr.toList.isEmpty = true := by rw [isEmpty_size]; simp [h0]
    obtain ⟨a0, a1, a2, a3, a4, x0, x1, x2, x3, x4⟩ := unhide H0
    obtain ⟨b0, b1, b2, b3, b4, y0, y1, y2, y3, y4⟩ := unhide H1
    have hl0 : w.heap.size < w1.heap.size := World.block_lt_of_cell? w1 _ a0
    have hl1 : w.heap.size + 1 < w1.heap.size := World.block_lt_of_cell? w1 _ b0
    go_wp2_with fail
    have hX0 : Sc w.heap.size 2 ⟨#[]⟩ M.st0 ((((((w1.setCell ⟨w.heap.size, 1, none⟩ (.string rr)).setCell ⟨w.heap.size, 0, none⟩ (.int .i64 2)).setCell ⟨w.heap.size, 1, none⟩ (.string ⟨#[]⟩)).setCell ⟨w.heap.size, 2, none⟩ (.int .i64 0)).setCell ⟨w.heap.size, 3, none⟩ (.bool false)).setCell ⟨w.heap.size, 4, none⟩ (.bool false)) := ((unhide H0).set1 rr).rc 2 ⟨#[]⟩ M.st0
    have hX1 : Rc (w.heap.size + 1) ((((((w1.setCell ⟨w.heap.size, 1, none⟩ (.string rr)).setCell ⟨w.heap.size, 0, none⟩ (.int .i64 2)).setCell ⟨w.heap.size, 1, none⟩ (.string ⟨#[]⟩)).setCell ⟨w.heap.size, 2, none⟩ (.int .i64 0)).setCell ⟨w.heap.size, 3, none⟩ (.bool false)).setCell ⟨w.heap.size, 4, none⟩ (.bool false)) := ((((((unhide H1).far _ _ (by simp)).far _ _ (by simp)).far _ _ (by simp)).far _ _ (by simp)).far _ _ (by simp)).far _ _ (by simp)
    have HX : Hid (((((((w1.setCell ⟨w.heap.size, 1, none⟩ (.string rr)).setCell ⟨w.heap.size, 0, none⟩ (.int .i64 2)).setCell ⟨w.heap.size, 1, none⟩ (.string ⟨#[]⟩)).setCell ⟨w.heap.size, 2, none⟩ (.int .i64 0)).setCell ⟨w.heap.size, 3, none⟩ (.bool false)).setCell ⟨w.heap.size, 4, none⟩ (.bool false)).ownsRow (w.heap.size + 2) 3 1 (.slice av L.length cv) L.length (L.map (Value.int .i64))) := hide (oset5 (t := M.st0) (owns_set (unhide HI) ⟨w.heap.size, 1, none⟩ (by simp) (.string rr)) (by omega))
    have HY : Hid (Below w.heap.size w ((((((w1.setCell ⟨w.heap.size, 1, none⟩ (.string rr)).setCell ⟨w.heap.size, 0, none⟩ (.int .i64 2)).setCell ⟨w.heap.size, 1, none⟩ (.string ⟨#[]⟩)).setCell ⟨w.heap.size, 2, none⟩ (.int .i64 0)).setCell ⟨w.heap.size, 3, none⟩ (.bool false)).setCell ⟨w.heap.size, 4, none⟩ (.bool false))) := hide (bset5 (t := M.st0) (bset (unhide HB) ⟨w.heap.size, 1, none⟩ (.string rr) (Nat.le_refl _)) (by omega))
    clear a0 a1 a2 a3 a4 x0 x1 x2 x3 x4 b0 b1 b2 b3 b4 y0 y1 y2 y3 y4 hl0 hl1
    generalize (((((w1.setCell ⟨w.heap.size, 1, none⟩ (.string rr)).setCell ⟨w.heap.size, 0, none⟩ (.int .i64 2)).setCell ⟨w.heap.size, 1, none⟩ (.string ⟨#[]⟩)).setCell ⟨w.heap.size, 2, none⟩ (.int .i64 0)).setCell ⟨w.heap.size, 3, none⟩ (.bool false)).setCell ⟨w.heap.size, 4, none⟩ (.bool false) = X at *
    have hlx := hX0.lt
    obtain ⟨a0, a1, a2, a3, a4, -, -, -, -, -⟩ := hX0
    obtain ⟨b0, b1, b2, b3, b4, y0, y1, y2, y3, y4⟩ := hX1
    have hly : w.heap.size + 1 < X.heap.size := World.block_lt_of_cell? X _ b0
    unfold M.st0 at a2 a3 a4
    go_region
    all_goals
      go_wp2_with fail
      refine bodyPost_ret (v := .tuple #[.slice av L.length cv, .agg #[.int .i64 2, .string ⟨#[]⟩, .int .i64 M.st0.1, .bool M.st0.2.1, .bool M.st0.2.2]]) (by simp [results, Try.results22, go_sem, b0, b1, b2, b3, b4, M.st0]) rfl ?_
      refine ⟨.slice av L.length cv, ⟨#[]⟩, M.st0, L, rfl, ?_, ?_, ?_, ?_⟩
      · exact owns_mono (o_drew (oset5 (e := 2) (r := ⟨#[]⟩) (t := M.st0) (unhide HX) (by omega))) (by omega)
      · exact b_drew (bset5 (e := 2) (r := ⟨#[]⟩) (t := M.st0) (unhide HY) (by omega))
      · intro h; cases h
      · intro _; refine ⟨?_, rfl, rfl⟩; rw [unhide HBL, (show M.TE 2 t (bl s) = (M.dec16 false (bl s), t) from M.TE_16 false t (bl s))]; show L = M.dec16 false (bl s); rw [← M.f16_dec false, unhide HL, ← unhide HRR, bl_nil h0]; simp [M.fin]

  · have he : rr.toList.isEmpty = false := by rw [isEmpty_size]; simp [h0]
    obtain ⟨a0, a1, a2, a3, a4, x0, x1, x2, x3, x4⟩ := unhide H0
    obtain ⟨b0, b1, b2, b3, b4, y0, y1, y2, y3, y4⟩ := unhide H1
    have hl0 : w.heap.size < w1.heap.size := World.block_lt_of_cell? w1 _ a0
    have hl1 : w.heap.size + 1 < w1.heap.size := World.block_lt_of_cell? w1 _ b0
    have HIs := hide (owns_a (owns_set (unhide HI) ⟨w.heap.size, 1, none⟩ (by simp) (.string rr)) (.cells #[.int .i64 65533] 3))
    have HO1 := hide (one_set w1 ⟨w.heap.size, 1, none⟩ (.string rr) 65533)
    go_wp2_with (at_builtin; refine append_ints rfl (.tmp 80) (.tmp 81) rfl (w.heap.size + 2) _ L rfl (unhide HIs) _ [65533] rfl (unhide HO1) (by simp; omega) (by simp; omega) ?_)
    intro v2 w2 ho2 hb2
    obtain ⟨av2, cv2, hsv2⟩ := owns_shape ho2
    subst hsv2
    have hz2 : w.heap.size + 2 ≤ (w1.setCell ⟨w.heap.size, 1, none⟩ (.string rr)).heap.size := by simp; omega
    have hb3 := ((Below.refl (w.heap.size + 2) (w1.setCell ⟨w.heap.size, 1, none⟩ (.string rr))).alloc hz2 (.cells #[.int .i64 65533] 3)).trans hb2
    have H0' := hide (((unhide H0).set1 rr).below hb3 (by omega))
    have H1' : Hid (Rc (w.heap.size + 1) w2) := hide (((unhide H1).far ⟨w.heap.size, 1, none⟩ (.string rr) (by simp)).below hb3 (by omega))
    have HB' := hide ((bset (unhide HB) ⟨w.heap.size, 1, none⟩ (.string rr) (Nat.le_refl _)).trans (hb3.mono (by omega)))
    have HI' : Hid (w2.ownsRow (w.heap.size + 2) 3 1 (.slice av2 (L.length + 1) cv2) (L ++ [65533]).length ((L ++ [65533]).map (Value.int .i64))) := hide (by simpa using ho2)
    clear a0 a1 a2 a3 a4 x0 x1 x2 x3 x4 b0 b1 b2 b3 b4 y0 y1 y2 y3 y4 hl0 hl1
    clear ho2 hb2 hb3 H0 H1 HB HI HIs HO1 hz2
    have H0 := H0'
    have H1 := H1'
    have HB := HB'
    have HI := HI'
    clear H0' H1' HB' HI'
    obtain ⟨a0, a1, a2, a3, a4, x0, x1, x2, x3, x4⟩ := unhide H0
    obtain ⟨b0, b1, b2, b3, b4, y0, y1, y2, y3, y4⟩ := unhide H1
    have hl0 : w.heap.size < w2.heap.size := World.block_lt_of_cell? w2 _ a0
    have hl1 : w.heap.size + 1 < w2.heap.size := World.block_lt_of_cell? w2 _ b0
    go_wp2_with fail
    have hX0 : Sc w.heap.size 2 ⟨#[]⟩ M.st0 (((((w2.setCell ⟨w.heap.size, 0, none⟩ (.int .i64 2)).setCell ⟨w.heap.size, 1, none⟩ (.string ⟨#[]⟩)).setCell ⟨w.heap.size, 2, none⟩ (.int .i64 0)).setCell ⟨w.heap.size, 3, none⟩ (.bool false)).setCell ⟨w.heap.size, 4, none⟩ (.bool false)) := (unhide H0).rc 2 ⟨#[]⟩ M.st0
    have hX1 : Rc (w.heap.size + 1) (((((w2.setCell ⟨w.heap.size, 0, none⟩ (.int .i64 2)).setCell ⟨w.heap.size, 1, none⟩ (.string ⟨#[]⟩)).setCell ⟨w.heap.size, 2, none⟩ (.int .i64 0)).setCell ⟨w.heap.size, 3, none⟩ (.bool false)).setCell ⟨w.heap.size, 4, none⟩ (.bool false)) := (((((unhide H1).far _ _ (by simp)).far _ _ (by simp)).far _ _ (by simp)).far _ _ (by simp)).far _ _ (by simp)
    have HX : Hid ((((((w2.setCell ⟨w.heap.size, 0, none⟩ (.int .i64 2)).setCell ⟨w.heap.size, 1, none⟩ (.string ⟨#[]⟩)).setCell ⟨w.heap.size, 2, none⟩ (.int .i64 0)).setCell ⟨w.heap.size, 3, none⟩ (.bool false)).setCell ⟨w.heap.size, 4, none⟩ (.bool false)).ownsRow (w.heap.size + 2) 3 1 (.slice av2 (L.length + 1) cv2) (L ++ [65533]).length ((L ++ [65533]).map (Value.int .i64))) := hide (oset5 (t := M.st0) (unhide HI) (by omega))
    have HY : Hid (Below w.heap.size w (((((w2.setCell ⟨w.heap.size, 0, none⟩ (.int .i64 2)).setCell ⟨w.heap.size, 1, none⟩ (.string ⟨#[]⟩)).setCell ⟨w.heap.size, 2, none⟩ (.int .i64 0)).setCell ⟨w.heap.size, 3, none⟩ (.bool false)).setCell ⟨w.heap.size, 4, none⟩ (.bool false))) := hide (bset5 (t := M.st0) (unhide HB) (by omega))
    clear a0 a1 a2 a3 a4 x0 x1 x2 x3 x4 b0 b1 b2 b3 b4 y0 y1 y2 y3 y4 hl0 hl1
    generalize (((((w2.setCell ⟨w.heap.size, 0, none⟩ (.int .i64 2)).setCell ⟨w.heap.size, 1, none⟩ (.string ⟨#[]⟩)).setCell ⟨w.heap.size, 2, none⟩ (.int .i64 0)).setCell ⟨w.heap.size, 3, none⟩ (.bool false)).setCell ⟨w.heap.size, 4, none⟩ (.bool false)) = X at *
    have hlx := hX0.lt
    obtain ⟨a0, a1, a2, a3, a4, -, -, -, -, -⟩ := hX0
    obtain ⟨b0, b1, b2, b3, b4, y0, y1, y2, y3, y4⟩ := hX1
    have hly : w.heap.size + 1 < X.heap.size := World.block_lt_of_cell? X _ b0
    unfold M.st0 at a2 a3 a4
    go_region
    all_goals
      go_wp2_with fail
      refine bodyPost_ret (v := .tuple #[.slice av2 (L.length + 1) cv2, .agg #[.int .i64 2, .string ⟨#[]⟩, .int .i64 M.st0.1, .bool M.st0.2.1, .bool M.st0.2.2]]) (by simp [results, Try.results22, go_sem, b0, b1, b2, b3, b4, M.st0]) rfl ?_
      refine ⟨.slice av2 (L.length + 1) cv2, ⟨#[]⟩, M.st0, (L ++ [65533]), rfl, ?_, ?_, ?_, ?_⟩
      · exact owns_mono (o_drew (oset5 (e := 2) (r := ⟨#[]⟩) (t := M.st0) (unhide HX) (by omega))) (by omega)
      · exact b_drew (bset5 (e := 2) (r := ⟨#[]⟩) (t := M.st0) (unhide HY) (by omega))
      · intro h; cases h
      · intro _; refine ⟨?_, rfl, rfl⟩; rw [unhide HBL, (show M.TE 2 t (bl s) = (M.dec16 false (bl s), t) from M.TE_16 false t (bl s))]; show L ++ [65533] = M.dec16 false (bl s); rw [← M.f16_dec false, unhide HL, ← unhide HRR, fin_some (fun q => h0 (by rw [← bl_len, q]; rfl))]

set_option maxHeartbeats 3000000 in
set_option maxRecDepth 100000 in
theorem feedOf_3_more (r : ByteArray) (t : M.St) (p : ByteArray) (w : World) (hs : r.size + p.size ≤ 3003) :
    Calls Try.prog 22 #[sv 3 r t, .string p, .bool false] w (FedR 3 r t p false w) := by
  obtain ⟨s, hcat⟩ : ∃ s, r ++ p = s := ⟨_, rfl⟩
  have hsz : s.size ≤ 3003 := by rw [← hcat, ByteArray.size_append]; exact hs
  have HBL : Hid (bl r ++ bl p = bl s) := hide (by rw [← hcat, bl_app])
  have hcat2 : (r.append p) = s := hcat
  unfold sv
  have H := fun w => decRef16_any true s w hsz
  obtain ⟨L, HL⟩ : ∃ L, Hid ((M.Run (M.f16 true) () (bl s)).1 = L) := ⟨_, hide rfl⟩
  have hLen : L.length ≤ 3003 := by
    have := M.RE_out (e := 3) (by omega) t (bl s)
    rw [M.RE_16b, bl_len] at this
    simp only at this
    rw [unhide HL] at this
    omega
  go_enter Try.func22, Try.ntmps22
  go_wp2_with fail
  refine (H _).mono ?_
  rintro e' w1 ⟨v, rr, rfl, hI, hb, hrr⟩
  rw [unhide HL] at hI
  obtain ⟨av, cv, hsv⟩ := owns_shape hI
  subst hsv
  have HI : Hid (w1.ownsRow (w.heap.size + 2) 3 1 (.slice av L.length cv) L.length (L.map (Value.int .i64))) := hide (by simpa using hI)
  have HB : Hid (Below w.heap.size w w1) := hide (bstep (bstep (balloc _ _) (balloc _ _)) hb)
  have H0 : Hid (Sc w.heap.size 3 r t w1) := hide (Sc.below (w := ((w.alloc (.cells #[.int .i64 3, .string r, .int .i64 t.1, .bool t.2.1, .bool t.2.2] 40)).alloc (.cells #[.int .i64 0, .string ⟨#[]⟩, .int .i64 0, .bool false, .bool false] 40))) (by constructor <;> simp [go_sem]) hb (by simp; omega))
  have H1 : Hid (Rc (w.heap.size + 1) w1) := hide (Rc.below (w := ((w.alloc (.cells #[.int .i64 3, .string r, .int .i64 t.1, .bool t.2.1, .bool t.2.2] 40)).alloc (.cells #[.int .i64 0, .string ⟨#[]⟩, .int .i64 0, .bool false, .bool false] 40))) (by constructor <;> simp [go_sem]) hb (by simp))
  have HRR := hide hrr
  clear hI hb hrr H hcat hcat2
  obtain ⟨a0, a1, a2, a3, a4, x0, x1, x2, x3, x4⟩ := unhide H0
  obtain ⟨b0, b1, b2, b3, b4, y0, y1, y2, y3, y4⟩ := unhide H1
  have hl0 : w.heap.size < w1.heap.size := World.block_lt_of_cell? w1 _ a0
  have hl1 : w.heap.size + 1 < w1.heap.size := World.block_lt_of_cell? w1 _ b0
  go_wp2_with fail
  have hX0 : Sc w.heap.size 3 rr t (w1.setCell ⟨w.heap.size, 1, none⟩ (.string rr)) := (unhide H0).set1 rr
  have hX1 : Rc (w.heap.size + 1) (w1.setCell ⟨w.heap.size, 1, none⟩ (.string rr)) := (unhide H1).far _ _ (by simp)
  have HX := hide (owns_set (unhide HI) ⟨w.heap.size, 1, none⟩ (by simp) (.string rr))
  have HY := hide (bset (unhide HB) ⟨w.heap.size, 1, none⟩ (.string rr) (Nat.le_refl _))
  clear a0 a1 a2 a3 a4 x0 x1 x2 x3 x4 b0 b1 b2 b3 b4 y0 y1 y2 y3 y4 hl0 hl1
  generalize w1.setCell ⟨w.heap.size, 1, none⟩ (.string rr) = X at *
  have hlx := hX0.lt
  obtain ⟨a0, a1, a2, a3, a4, -, -, -, -, -⟩ := hX0
  obtain ⟨b0, b1, b2, b3, b4, y0, y1, y2, y3, y4⟩ := hX1
  have hly : w.heap.size + 1 < X.heap.size := World.block_lt_of_cell? X _ b0
  skip
  go_region
  all_goals
    go_wp2_with fail
    refine bodyPost_ret (v := .tuple #[.slice av L.length cv, .agg #[.int .i64 3, .string rr, .int .i64 t.1, .bool t.2.1, .bool t.2.2]]) (by simp [results, Try.results22, go_sem, b0, b1, b2, b3, b4]) rfl ?_
    refine ⟨.slice av L.length cv, rr, t, L, rfl, ?_, ?_, ?_, ?_⟩
    · exact owns_mono (o_drew (oset5 (e := 3) (r := rr) (t := t) (unhide HX) (by omega))) (by omega)
    · exact b_drew (bset5 (e := 3) (r := rr) (t := t) (unhide HY) (by omega))
    · intro _; rw [unhide HBL, M.RE_16b]; exact ⟨(unhide HL).symm, unhide HRR, rfl⟩
    · intro h; cases h

set_option maxHeartbeats 3000000 in
set_option maxRecDepth 100000 in
theorem feedOf_3_last (r : ByteArray) (t : M.St) (p : ByteArray) (w : World) (hs : r.size + p.size ≤ 3003) :
    Calls Try.prog 22 #[sv 3 r t, .string p, .bool true] w (FedR 3 r t p true w) := by
  obtain ⟨s, hcat⟩ : ∃ s, r ++ p = s := ⟨_, rfl⟩
  have hsz : s.size ≤ 3003 := by rw [← hcat, ByteArray.size_append]; exact hs
  have HBL : Hid (bl r ++ bl p = bl s) := hide (by rw [← hcat, bl_app])
  have hcat2 : (r.append p) = s := hcat
  unfold sv
  have H := fun w => decRef16_any true s w hsz
  obtain ⟨L, HL⟩ : ∃ L, Hid ((M.Run (M.f16 true) () (bl s)).1 = L) := ⟨_, hide rfl⟩
  have hLen : L.length ≤ 3003 := by
    have := M.RE_out (e := 3) (by omega) t (bl s)
    rw [M.RE_16b, bl_len] at this
    simp only at this
    rw [unhide HL] at this
    omega
  go_enter Try.func22, Try.ntmps22
  go_wp2_with fail
  refine (H _).mono ?_
  rintro e' w1 ⟨v, rr, rfl, hI, hb, hrr⟩
  rw [unhide HL] at hI
  obtain ⟨av, cv, hsv⟩ := owns_shape hI
  subst hsv
  have HI : Hid (w1.ownsRow (w.heap.size + 2) 3 1 (.slice av L.length cv) L.length (L.map (Value.int .i64))) := hide (by simpa using hI)
  have HB : Hid (Below w.heap.size w w1) := hide (bstep (bstep (balloc _ _) (balloc _ _)) hb)
  have H0 : Hid (Sc w.heap.size 3 r t w1) := hide (Sc.below (w := ((w.alloc (.cells #[.int .i64 3, .string r, .int .i64 t.1, .bool t.2.1, .bool t.2.2] 40)).alloc (.cells #[.int .i64 0, .string ⟨#[]⟩, .int .i64 0, .bool false, .bool false] 40))) (by constructor <;> simp [go_sem]) hb (by simp; omega))
  have H1 : Hid (Rc (w.heap.size + 1) w1) := hide (Rc.below (w := ((w.alloc (.cells #[.int .i64 3, .string r, .int .i64 t.1, .bool t.2.1, .bool t.2.2] 40)).alloc (.cells #[.int .i64 0, .string ⟨#[]⟩, .int .i64 0, .bool false, .bool false] 40))) (by constructor <;> simp [go_sem]) hb (by simp))
  have HRR := hide hrr
  clear hI hb hrr H hcat hcat2
  by_cases h0 : rr.size = 0
  · have he : rr.toList.isEmpty = true := by rw [isEmpty_size]; simp [h0]
    obtain ⟨a0, a1, a2, a3, a4, x0, x1, x2, x3, x4⟩ := unhide H0
    obtain ⟨b0, b1, b2, b3, b4, y0, y1, y2, y3, y4⟩ := unhide H1
    have hl0 : w.heap.size < w1.heap.size := World.block_lt_of_cell? w1 _ a0
    have hl1 : w.heap.size + 1 < w1.heap.size := World.block_lt_of_cell? w1 _ b0
    go_wp2_with fail
    have hX0 : Sc w.heap.size 3 ⟨#[]⟩ M.st0 ((((((w1.setCell ⟨w.heap.size, 1, none⟩ (.string rr)).setCell ⟨w.heap.size, 0, none⟩ (.int .i64 3)).setCell ⟨w.heap.size, 1, none⟩ (.string ⟨#[]⟩)).setCell ⟨w.heap.size, 2, none⟩ (.int .i64 0)).setCell ⟨w.heap.size, 3, none⟩ (.bool false)).setCell ⟨w.heap.size, 4, none⟩ (.bool false)) := ((unhide H0).set1 rr).rc 3 ⟨#[]⟩ M.st0
    have hX1 : Rc (w.heap.size + 1) ((((((w1.setCell ⟨w.heap.size, 1, none⟩ (.string rr)).setCell ⟨w.heap.size, 0, none⟩ (.int .i64 3)).setCell ⟨w.heap.size, 1, none⟩ (.string ⟨#[]⟩)).setCell ⟨w.heap.size, 2, none⟩ (.int .i64 0)).setCell ⟨w.heap.size, 3, none⟩ (.bool false)).setCell ⟨w.heap.size, 4, none⟩ (.bool false)) := ((((((unhide H1).far _ _ (by simp)).far _ _ (by simp)).far _ _ (by simp)).far _ _ (by simp)).far _ _ (by simp)).far _ _ (by simp)
    have HX : Hid (((((((w1.setCell ⟨w.heap.size, 1, none⟩ (.string rr)).setCell ⟨w.heap.size, 0, none⟩ (.int .i64 3)).setCell ⟨w.heap.size, 1, none⟩ (.string ⟨#[]⟩)).setCell ⟨w.heap.size, 2, none⟩ (.int .i64 0)).setCell ⟨w.heap.size, 3, none⟩ (.bool false)).setCell ⟨w.heap.size, 4, none⟩ (.bool false)).ownsRow (w.heap.size + 2) 3 1 (.slice av L.length cv) L.length (L.map (Value.int .i64))) := hide (oset5 (t := M.st0) (owns_set (unhide HI) ⟨w.heap.size, 1, none⟩ (by simp) (.string rr)) (by omega))
    have HY : Hid (Below w.heap.size w ((((((w1.setCell ⟨w.heap.size, 1, none⟩ (.string rr)).setCell ⟨w.heap.size, 0, none⟩ (.int .i64 3)).setCell ⟨w.heap.size, 1, none⟩ (.string ⟨#[]⟩)).setCell ⟨w.heap.size, 2, none⟩ (.int .i64 0)).setCell ⟨w.heap.size, 3, none⟩ (.bool false)).setCell ⟨w.heap.size, 4, none⟩ (.bool false))) := hide (bset5 (t := M.st0) (bset (unhide HB) ⟨w.heap.size, 1, none⟩ (.string rr) (Nat.le_refl _)) (by omega))
    clear a0 a1 a2 a3 a4 x0 x1 x2 x3 x4 b0 b1 b2 b3 b4 y0 y1 y2 y3 y4 hl0 hl1
    generalize (((((w1.setCell ⟨w.heap.size, 1, none⟩ (.string rr)).setCell ⟨w.heap.size, 0, none⟩ (.int .i64 3)).setCell ⟨w.heap.size, 1, none⟩ (.string ⟨#[]⟩)).setCell ⟨w.heap.size, 2, none⟩ (.int .i64 0)).setCell ⟨w.heap.size, 3, none⟩ (.bool false)).setCell ⟨w.heap.size, 4, none⟩ (.bool false) = X at *
    have hlx := hX0.lt
    obtain ⟨a0, a1, a2, a3, a4, -, -, -, -, -⟩ := hX0
    obtain ⟨b0, b1, b2, b3, b4, y0, y1, y2, y3, y4⟩ := hX1
    have hly : w.heap.size + 1 < X.heap.size := World.block_lt_of_cell? X _ b0
    unfold M.st0 at a2 a3 a4
    go_region
    all_goals
      go_wp2_with fail
      refine bodyPost_ret (v := .tuple #[.slice av L.length cv, .agg #[.int .i64 3, .string ⟨#[]⟩, .int .i64 M.st0.1, .bool M.st0.2.1, .bool M.st0.2.2]]) (by simp [results, Try.results22, go_sem, b0, b1, b2, b3, b4, M.st0]) rfl ?_
      refine ⟨.slice av L.length cv, ⟨#[]⟩, M.st0, L, rfl, ?_, ?_, ?_, ?_⟩
      · exact owns_mono (o_drew (oset5 (e := 3) (r := ⟨#[]⟩) (t := M.st0) (unhide HX) (by omega))) (by omega)
      · exact b_drew (bset5 (e := 3) (r := ⟨#[]⟩) (t := M.st0) (unhide HY) (by omega))
      · intro h; cases h
      · intro _; refine ⟨?_, rfl, rfl⟩; rw [unhide HBL, (show M.TE 3 t (bl s) = (M.dec16 true (bl s), t) from M.TE_16 true t (bl s))]; show L = M.dec16 true (bl s); rw [← M.f16_dec true, unhide HL, ← unhide HRR, bl_nil h0]; simp [M.fin]

  · have he : rr.toList.isEmpty = false := by rw [isEmpty_size]; simp [h0]
    obtain ⟨a0, a1, a2, a3, a4, x0, x1, x2, x3, x4⟩ := unhide H0
    obtain ⟨b0, b1, b2, b3, b4, y0, y1, y2, y3, y4⟩ := unhide H1
    have hl0 : w.heap.size < w1.heap.size := World.block_lt_of_cell? w1 _ a0
    have hl1 : w.heap.size + 1 < w1.heap.size := World.block_lt_of_cell? w1 _ b0
    have HIs := hide (owns_a (owns_set (unhide HI) ⟨w.heap.size, 1, none⟩ (by simp) (.string rr)) (.cells #[.int .i64 65533] 3))
    have HO1 := hide (one_set w1 ⟨w.heap.size, 1, none⟩ (.string rr) 65533)
    go_wp2_with (at_builtin; refine append_ints rfl (.tmp 80) (.tmp 81) rfl (w.heap.size + 2) _ L rfl (unhide HIs) _ [65533] rfl (unhide HO1) (by simp; omega) (by simp; omega) ?_)
    intro v2 w2 ho2 hb2
    obtain ⟨av2, cv2, hsv2⟩ := owns_shape ho2
    subst hsv2
    have hz2 : w.heap.size + 2 ≤ (w1.setCell ⟨w.heap.size, 1, none⟩ (.string rr)).heap.size := by simp; omega
    have hb3 := ((Below.refl (w.heap.size + 2) (w1.setCell ⟨w.heap.size, 1, none⟩ (.string rr))).alloc hz2 (.cells #[.int .i64 65533] 3)).trans hb2
    have H0' := hide (((unhide H0).set1 rr).below hb3 (by omega))
    have H1' : Hid (Rc (w.heap.size + 1) w2) := hide (((unhide H1).far ⟨w.heap.size, 1, none⟩ (.string rr) (by simp)).below hb3 (by omega))
    have HB' := hide ((bset (unhide HB) ⟨w.heap.size, 1, none⟩ (.string rr) (Nat.le_refl _)).trans (hb3.mono (by omega)))
    have HI' : Hid (w2.ownsRow (w.heap.size + 2) 3 1 (.slice av2 (L.length + 1) cv2) (L ++ [65533]).length ((L ++ [65533]).map (Value.int .i64))) := hide (by simpa using ho2)
    clear a0 a1 a2 a3 a4 x0 x1 x2 x3 x4 b0 b1 b2 b3 b4 y0 y1 y2 y3 y4 hl0 hl1
    clear ho2 hb2 hb3 H0 H1 HB HI HIs HO1 hz2
    have H0 := H0'
    have H1 := H1'
    have HB := HB'
    have HI := HI'
    clear H0' H1' HB' HI'
    obtain ⟨a0, a1, a2, a3, a4, x0, x1, x2, x3, x4⟩ := unhide H0
    obtain ⟨b0, b1, b2, b3, b4, y0, y1, y2, y3, y4⟩ := unhide H1
    have hl0 : w.heap.size < w2.heap.size := World.block_lt_of_cell? w2 _ a0
    have hl1 : w.heap.size + 1 < w2.heap.size := World.block_lt_of_cell? w2 _ b0
    go_wp2_with fail
    have hX0 : Sc w.heap.size 3 ⟨#[]⟩ M.st0 (((((w2.setCell ⟨w.heap.size, 0, none⟩ (.int .i64 3)).setCell ⟨w.heap.size, 1, none⟩ (.string ⟨#[]⟩)).setCell ⟨w.heap.size, 2, none⟩ (.int .i64 0)).setCell ⟨w.heap.size, 3, none⟩ (.bool false)).setCell ⟨w.heap.size, 4, none⟩ (.bool false)) := (unhide H0).rc 3 ⟨#[]⟩ M.st0
    have hX1 : Rc (w.heap.size + 1) (((((w2.setCell ⟨w.heap.size, 0, none⟩ (.int .i64 3)).setCell ⟨w.heap.size, 1, none⟩ (.string ⟨#[]⟩)).setCell ⟨w.heap.size, 2, none⟩ (.int .i64 0)).setCell ⟨w.heap.size, 3, none⟩ (.bool false)).setCell ⟨w.heap.size, 4, none⟩ (.bool false)) := (((((unhide H1).far _ _ (by simp)).far _ _ (by simp)).far _ _ (by simp)).far _ _ (by simp)).far _ _ (by simp)
    have HX : Hid ((((((w2.setCell ⟨w.heap.size, 0, none⟩ (.int .i64 3)).setCell ⟨w.heap.size, 1, none⟩ (.string ⟨#[]⟩)).setCell ⟨w.heap.size, 2, none⟩ (.int .i64 0)).setCell ⟨w.heap.size, 3, none⟩ (.bool false)).setCell ⟨w.heap.size, 4, none⟩ (.bool false)).ownsRow (w.heap.size + 2) 3 1 (.slice av2 (L.length + 1) cv2) (L ++ [65533]).length ((L ++ [65533]).map (Value.int .i64))) := hide (oset5 (t := M.st0) (unhide HI) (by omega))
    have HY : Hid (Below w.heap.size w (((((w2.setCell ⟨w.heap.size, 0, none⟩ (.int .i64 3)).setCell ⟨w.heap.size, 1, none⟩ (.string ⟨#[]⟩)).setCell ⟨w.heap.size, 2, none⟩ (.int .i64 0)).setCell ⟨w.heap.size, 3, none⟩ (.bool false)).setCell ⟨w.heap.size, 4, none⟩ (.bool false))) := hide (bset5 (t := M.st0) (unhide HB) (by omega))
    clear a0 a1 a2 a3 a4 x0 x1 x2 x3 x4 b0 b1 b2 b3 b4 y0 y1 y2 y3 y4 hl0 hl1
    generalize (((((w2.setCell ⟨w.heap.size, 0, none⟩ (.int .i64 3)).setCell ⟨w.heap.size, 1, none⟩ (.string ⟨#[]⟩)).setCell ⟨w.heap.size, 2, none⟩ (.int .i64 0)).setCell ⟨w.heap.size, 3, none⟩ (.bool false)).setCell ⟨w.heap.size, 4, none⟩ (.bool false)) = X at *
    have hlx := hX0.lt
    obtain ⟨a0, a1, a2, a3, a4, -, -, -, -, -⟩ := hX0
    obtain ⟨b0, b1, b2, b3, b4, y0, y1, y2, y3, y4⟩ := hX1
    have hly : w.heap.size + 1 < X.heap.size := World.block_lt_of_cell? X _ b0
    unfold M.st0 at a2 a3 a4
    go_region
    all_goals
      go_wp2_with fail
      refine bodyPost_ret (v := .tuple #[.slice av2 (L.length + 1) cv2, .agg #[.int .i64 3, .string ⟨#[]⟩, .int .i64 M.st0.1, .bool M.st0.2.1, .bool M.st0.2.2]]) (by simp [results, Try.results22, go_sem, b0, b1, b2, b3, b4, M.st0]) rfl ?_
      refine ⟨.slice av2 (L.length + 1) cv2, ⟨#[]⟩, M.st0, (L ++ [65533]), rfl, ?_, ?_, ?_, ?_⟩
      · exact owns_mono (o_drew (oset5 (e := 3) (r := ⟨#[]⟩) (t := M.st0) (unhide HX) (by omega))) (by omega)
      · exact b_drew (bset5 (e := 3) (r := ⟨#[]⟩) (t := M.st0) (unhide HY) (by omega))
      · intro h; cases h
      · intro _; refine ⟨?_, rfl, rfl⟩; rw [unhide HBL, (show M.TE 3 t (bl s) = (M.dec16 true (bl s), t) from M.TE_16 true t (bl s))]; show L ++ [65533] = M.dec16 true (bl s); rw [← M.f16_dec true, unhide HL, ← unhide HRR, fin_some (fun q => h0 (by rw [← bl_len, q]; rfl))]

set_option maxHeartbeats 3000000 in
set_option maxRecDepth 100000 in
theorem feedOf_4_more (r : ByteArray) (t : M.St) (p : ByteArray) (w : World) (hs : r.size + p.size ≤ 3003) :
    Calls Try.prog 22 #[sv 4 r t, .string p, .bool false] w (FedR 4 r t p false w) := by
  obtain ⟨s, hcat⟩ : ∃ s, r ++ p = s := ⟨_, rfl⟩
  have hsz : s.size ≤ 3003 := by rw [← hcat, ByteArray.size_append]; exact hs
  have HBL : Hid (bl r ++ bl p = bl s) := hide (by rw [← hcat, bl_app])
  have hcat2 : (r.append p) = s := hcat
  unfold sv
  have H := fun w => decRefS_any false s w hsz
  obtain ⟨L, HL⟩ : ∃ L, Hid (M.decS false (bl s) = L) := ⟨_, hide rfl⟩
  rw [unhide HL] at H
  go_enter Try.func22, Try.ntmps22
  go_wp2_with fail
  refine (H _).mono ?_
  rintro e' w1 ⟨v, rfl, hI, hb⟩
  obtain ⟨av, cv, hsv⟩ := owns_shape hI
  subst hsv
  have HI : Hid (w1.ownsRow (w.heap.size + 2) 3 1 (.slice av L.length cv) L.length (L.map (Value.int .i64))) := hide (by simpa using hI)
  have HB : Hid (Below w.heap.size w w1) := hide (bstep (bstep (balloc _ _) (balloc _ _)) hb)
  have H0 : Hid (Sc w.heap.size 4 r t w1) := hide (Sc.below (w := ((w.alloc (.cells #[.int .i64 4, .string r, .int .i64 t.1, .bool t.2.1, .bool t.2.2] 40)).alloc (.cells #[.int .i64 0, .string ⟨#[]⟩, .int .i64 0, .bool false, .bool false] 40))) (by constructor <;> simp [go_sem]) hb (by simp; omega))
  have H1 : Hid (Rc (w.heap.size + 1) w1) := hide (Rc.below (w := ((w.alloc (.cells #[.int .i64 4, .string r, .int .i64 t.1, .bool t.2.1, .bool t.2.2] 40)).alloc (.cells #[.int .i64 0, .string ⟨#[]⟩, .int .i64 0, .bool false, .bool false] 40))) (by constructor <;> simp [go_sem]) hb (by simp))
  clear hI hb H hcat hcat2
  obtain ⟨a0, a1, a2, a3, a4, x0, x1, x2, x3, x4⟩ := unhide H0
  obtain ⟨b0, b1, b2, b3, b4, y0, y1, y2, y3, y4⟩ := unhide H1
  have hl0 : w.heap.size < w1.heap.size := World.block_lt_of_cell? w1 _ a0
  have hl1 : w.heap.size + 1 < w1.heap.size := World.block_lt_of_cell? w1 _ b0
  go_wp2_with fail
  have hX0 : Sc w.heap.size 4 ⟨#[]⟩ t (w1.setCell ⟨w.heap.size, 1, none⟩ (.string ⟨#[]⟩)) := (unhide H0).set1 ⟨#[]⟩
  have hX1 : Rc (w.heap.size + 1) (w1.setCell ⟨w.heap.size, 1, none⟩ (.string ⟨#[]⟩)) := (unhide H1).far _ _ (by simp)
  have HX := hide (owns_set (unhide HI) ⟨w.heap.size, 1, none⟩ (by simp) (.string ⟨#[]⟩))
  have HY := hide (bset (unhide HB) ⟨w.heap.size, 1, none⟩ (.string ⟨#[]⟩) (Nat.le_refl _))
  clear a0 a1 a2 a3 a4 x0 x1 x2 x3 x4 b0 b1 b2 b3 b4 y0 y1 y2 y3 y4 hl0 hl1
  generalize w1.setCell ⟨w.heap.size, 1, none⟩ (.string ⟨#[]⟩) = X at *
  have hlx := hX0.lt
  obtain ⟨a0, a1, a2, a3, a4, -, -, -, -, -⟩ := hX0
  obtain ⟨b0, b1, b2, b3, b4, y0, y1, y2, y3, y4⟩ := hX1
  have hly : w.heap.size + 1 < X.heap.size := World.block_lt_of_cell? X _ b0
  skip
  go_region
  all_goals
    go_wp2_with fail
    refine bodyPost_ret (v := .tuple #[.slice av L.length cv, .agg #[.int .i64 4, .string ⟨#[]⟩, .int .i64 t.1, .bool t.2.1, .bool t.2.2]]) (by simp [results, Try.results22, go_sem, b0, b1, b2, b3, b4]) rfl ?_
    refine ⟨.slice av L.length cv, ⟨#[]⟩, t, L, rfl, ?_, ?_, ?_, ?_⟩
    · exact owns_mono (o_drew (oset5 (e := 4) (r := ⟨#[]⟩) (t := t) (unhide HX) (by omega))) (by omega)
    · exact b_drew (bset5 (e := 4) (r := ⟨#[]⟩) (t := t) (unhide HY) (by omega))
    · intro _; rw [unhide HBL, M.RE_L]; exact ⟨(unhide HL).symm, rfl, rfl⟩
    · intro h; cases h

set_option maxHeartbeats 3000000 in
set_option maxRecDepth 100000 in
theorem feedOf_4_last (r : ByteArray) (t : M.St) (p : ByteArray) (w : World) (hs : r.size + p.size ≤ 3003) :
    Calls Try.prog 22 #[sv 4 r t, .string p, .bool true] w (FedR 4 r t p true w) := by
  obtain ⟨s, hcat⟩ : ∃ s, r ++ p = s := ⟨_, rfl⟩
  have hsz : s.size ≤ 3003 := by rw [← hcat, ByteArray.size_append]; exact hs
  have HBL : Hid (bl r ++ bl p = bl s) := hide (by rw [← hcat, bl_app])
  have hcat2 : (r.append p) = s := hcat
  unfold sv
  have H := fun w => decRefS_any false s w hsz
  obtain ⟨L, HL⟩ : ∃ L, Hid (M.decS false (bl s) = L) := ⟨_, hide rfl⟩
  rw [unhide HL] at H
  go_enter Try.func22, Try.ntmps22
  go_wp2_with fail
  refine (H _).mono ?_
  rintro e' w1 ⟨v, rfl, hI, hb⟩
  obtain ⟨av, cv, hsv⟩ := owns_shape hI
  subst hsv
  have HI : Hid (w1.ownsRow (w.heap.size + 2) 3 1 (.slice av L.length cv) L.length (L.map (Value.int .i64))) := hide (by simpa using hI)
  have HB : Hid (Below w.heap.size w w1) := hide (bstep (bstep (balloc _ _) (balloc _ _)) hb)
  have H0 : Hid (Sc w.heap.size 4 r t w1) := hide (Sc.below (w := ((w.alloc (.cells #[.int .i64 4, .string r, .int .i64 t.1, .bool t.2.1, .bool t.2.2] 40)).alloc (.cells #[.int .i64 0, .string ⟨#[]⟩, .int .i64 0, .bool false, .bool false] 40))) (by constructor <;> simp [go_sem]) hb (by simp; omega))
  have H1 : Hid (Rc (w.heap.size + 1) w1) := hide (Rc.below (w := ((w.alloc (.cells #[.int .i64 4, .string r, .int .i64 t.1, .bool t.2.1, .bool t.2.2] 40)).alloc (.cells #[.int .i64 0, .string ⟨#[]⟩, .int .i64 0, .bool false, .bool false] 40))) (by constructor <;> simp [go_sem]) hb (by simp))
  clear hI hb H hcat hcat2
  obtain ⟨a0, a1, a2, a3, a4, x0, x1, x2, x3, x4⟩ := unhide H0
  obtain ⟨b0, b1, b2, b3, b4, y0, y1, y2, y3, y4⟩ := unhide H1
  have hl0 : w.heap.size < w1.heap.size := World.block_lt_of_cell? w1 _ a0
  have hl1 : w.heap.size + 1 < w1.heap.size := World.block_lt_of_cell? w1 _ b0
  go_wp2_with fail
  have hX0 : Sc w.heap.size 4 ⟨#[]⟩ M.st0 ((((((w1.setCell ⟨w.heap.size, 1, none⟩ (.string ⟨#[]⟩)).setCell ⟨w.heap.size, 0, none⟩ (.int .i64 4)).setCell ⟨w.heap.size, 1, none⟩ (.string ⟨#[]⟩)).setCell ⟨w.heap.size, 2, none⟩ (.int .i64 0)).setCell ⟨w.heap.size, 3, none⟩ (.bool false)).setCell ⟨w.heap.size, 4, none⟩ (.bool false)) := ((unhide H0).set1 ⟨#[]⟩).rc 4 ⟨#[]⟩ M.st0
  have hX1 : Rc (w.heap.size + 1) ((((((w1.setCell ⟨w.heap.size, 1, none⟩ (.string ⟨#[]⟩)).setCell ⟨w.heap.size, 0, none⟩ (.int .i64 4)).setCell ⟨w.heap.size, 1, none⟩ (.string ⟨#[]⟩)).setCell ⟨w.heap.size, 2, none⟩ (.int .i64 0)).setCell ⟨w.heap.size, 3, none⟩ (.bool false)).setCell ⟨w.heap.size, 4, none⟩ (.bool false)) := ((((((unhide H1).far _ _ (by simp)).far _ _ (by simp)).far _ _ (by simp)).far _ _ (by simp)).far _ _ (by simp)).far _ _ (by simp)
  have HX : Hid (((((((w1.setCell ⟨w.heap.size, 1, none⟩ (.string ⟨#[]⟩)).setCell ⟨w.heap.size, 0, none⟩ (.int .i64 4)).setCell ⟨w.heap.size, 1, none⟩ (.string ⟨#[]⟩)).setCell ⟨w.heap.size, 2, none⟩ (.int .i64 0)).setCell ⟨w.heap.size, 3, none⟩ (.bool false)).setCell ⟨w.heap.size, 4, none⟩ (.bool false)).ownsRow (w.heap.size + 2) 3 1 (.slice av L.length cv) L.length (L.map (Value.int .i64))) := hide (oset5 (t := M.st0) (owns_set (unhide HI) ⟨w.heap.size, 1, none⟩ (by simp) (.string ⟨#[]⟩)) (by omega))
  have HY : Hid (Below w.heap.size w ((((((w1.setCell ⟨w.heap.size, 1, none⟩ (.string ⟨#[]⟩)).setCell ⟨w.heap.size, 0, none⟩ (.int .i64 4)).setCell ⟨w.heap.size, 1, none⟩ (.string ⟨#[]⟩)).setCell ⟨w.heap.size, 2, none⟩ (.int .i64 0)).setCell ⟨w.heap.size, 3, none⟩ (.bool false)).setCell ⟨w.heap.size, 4, none⟩ (.bool false))) := hide (bset5 (t := M.st0) (bset (unhide HB) ⟨w.heap.size, 1, none⟩ (.string ⟨#[]⟩) (Nat.le_refl _)) (by omega))
  clear a0 a1 a2 a3 a4 x0 x1 x2 x3 x4 b0 b1 b2 b3 b4 y0 y1 y2 y3 y4 hl0 hl1
  generalize (((((w1.setCell ⟨w.heap.size, 1, none⟩ (.string ⟨#[]⟩)).setCell ⟨w.heap.size, 0, none⟩ (.int .i64 4)).setCell ⟨w.heap.size, 1, none⟩ (.string ⟨#[]⟩)).setCell ⟨w.heap.size, 2, none⟩ (.int .i64 0)).setCell ⟨w.heap.size, 3, none⟩ (.bool false)).setCell ⟨w.heap.size, 4, none⟩ (.bool false) = X at *
  have hlx := hX0.lt
  obtain ⟨a0, a1, a2, a3, a4, -, -, -, -, -⟩ := hX0
  obtain ⟨b0, b1, b2, b3, b4, y0, y1, y2, y3, y4⟩ := hX1
  have hly : w.heap.size + 1 < X.heap.size := World.block_lt_of_cell? X _ b0
  unfold M.st0 at a2 a3 a4
  go_region
  all_goals
    go_wp2_with fail
    refine bodyPost_ret (v := .tuple #[.slice av L.length cv, .agg #[.int .i64 4, .string ⟨#[]⟩, .int .i64 M.st0.1, .bool M.st0.2.1, .bool M.st0.2.2]]) (by simp [results, Try.results22, go_sem, b0, b1, b2, b3, b4, M.st0]) rfl ?_
    refine ⟨.slice av L.length cv, ⟨#[]⟩, M.st0, L, rfl, ?_, ?_, ?_, ?_⟩
    · exact owns_mono (o_drew (oset5 (e := 4) (r := ⟨#[]⟩) (t := M.st0) (unhide HX) (by omega))) (by omega)
    · exact b_drew (bset5 (e := 4) (r := ⟨#[]⟩) (t := M.st0) (unhide HY) (by omega))
    · intro h; cases h
    · intro _; refine ⟨?_, rfl, rfl⟩; rw [unhide HBL, (show M.TE 4 t (bl s) = (M.decS false (bl s), t) from M.TE_S false t (bl s))]; exact (unhide HL).symm

set_option maxHeartbeats 3000000 in
set_option maxRecDepth 100000 in
theorem feedOf_5_more (r : ByteArray) (t : M.St) (p : ByteArray) (w : World) (hs : r.size + p.size ≤ 3003) :
    Calls Try.prog 22 #[sv 5 r t, .string p, .bool false] w (FedR 5 r t p false w) := by
  obtain ⟨s, hcat⟩ : ∃ s, r ++ p = s := ⟨_, rfl⟩
  have hsz : s.size ≤ 3003 := by rw [← hcat, ByteArray.size_append]; exact hs
  have HBL : Hid (bl r ++ bl p = bl s) := hide (by rw [← hcat, bl_app])
  have hcat2 : (r.append p) = s := hcat
  unfold sv
  have H := fun w => decRefS_any true s w hsz
  obtain ⟨L, HL⟩ : ∃ L, Hid (M.decS true (bl s) = L) := ⟨_, hide rfl⟩
  rw [unhide HL] at H
  go_enter Try.func22, Try.ntmps22
  go_wp2_with fail
  refine (H _).mono ?_
  rintro e' w1 ⟨v, rfl, hI, hb⟩
  obtain ⟨av, cv, hsv⟩ := owns_shape hI
  subst hsv
  have HI : Hid (w1.ownsRow (w.heap.size + 2) 3 1 (.slice av L.length cv) L.length (L.map (Value.int .i64))) := hide (by simpa using hI)
  have HB : Hid (Below w.heap.size w w1) := hide (bstep (bstep (balloc _ _) (balloc _ _)) hb)
  have H0 : Hid (Sc w.heap.size 5 r t w1) := hide (Sc.below (w := ((w.alloc (.cells #[.int .i64 5, .string r, .int .i64 t.1, .bool t.2.1, .bool t.2.2] 40)).alloc (.cells #[.int .i64 0, .string ⟨#[]⟩, .int .i64 0, .bool false, .bool false] 40))) (by constructor <;> simp [go_sem]) hb (by simp; omega))
  have H1 : Hid (Rc (w.heap.size + 1) w1) := hide (Rc.below (w := ((w.alloc (.cells #[.int .i64 5, .string r, .int .i64 t.1, .bool t.2.1, .bool t.2.2] 40)).alloc (.cells #[.int .i64 0, .string ⟨#[]⟩, .int .i64 0, .bool false, .bool false] 40))) (by constructor <;> simp [go_sem]) hb (by simp))
  clear hI hb H hcat hcat2
  obtain ⟨a0, a1, a2, a3, a4, x0, x1, x2, x3, x4⟩ := unhide H0
  obtain ⟨b0, b1, b2, b3, b4, y0, y1, y2, y3, y4⟩ := unhide H1
  have hl0 : w.heap.size < w1.heap.size := World.block_lt_of_cell? w1 _ a0
  have hl1 : w.heap.size + 1 < w1.heap.size := World.block_lt_of_cell? w1 _ b0
  go_wp2_with fail
  have hX0 : Sc w.heap.size 5 ⟨#[]⟩ t (w1.setCell ⟨w.heap.size, 1, none⟩ (.string ⟨#[]⟩)) := (unhide H0).set1 ⟨#[]⟩
  have hX1 : Rc (w.heap.size + 1) (w1.setCell ⟨w.heap.size, 1, none⟩ (.string ⟨#[]⟩)) := (unhide H1).far _ _ (by simp)
  have HX := hide (owns_set (unhide HI) ⟨w.heap.size, 1, none⟩ (by simp) (.string ⟨#[]⟩))
  have HY := hide (bset (unhide HB) ⟨w.heap.size, 1, none⟩ (.string ⟨#[]⟩) (Nat.le_refl _))
  clear a0 a1 a2 a3 a4 x0 x1 x2 x3 x4 b0 b1 b2 b3 b4 y0 y1 y2 y3 y4 hl0 hl1
  generalize w1.setCell ⟨w.heap.size, 1, none⟩ (.string ⟨#[]⟩) = X at *
  have hlx := hX0.lt
  obtain ⟨a0, a1, a2, a3, a4, -, -, -, -, -⟩ := hX0
  obtain ⟨b0, b1, b2, b3, b4, y0, y1, y2, y3, y4⟩ := hX1
  have hly : w.heap.size + 1 < X.heap.size := World.block_lt_of_cell? X _ b0
  skip
  go_region
  all_goals
    go_wp2_with fail
    refine bodyPost_ret (v := .tuple #[.slice av L.length cv, .agg #[.int .i64 5, .string ⟨#[]⟩, .int .i64 t.1, .bool t.2.1, .bool t.2.2]]) (by simp [results, Try.results22, go_sem, b0, b1, b2, b3, b4]) rfl ?_
    refine ⟨.slice av L.length cv, ⟨#[]⟩, t, L, rfl, ?_, ?_, ?_, ?_⟩
    · exact owns_mono (o_drew (oset5 (e := 5) (r := ⟨#[]⟩) (t := t) (unhide HX) (by omega))) (by omega)
    · exact b_drew (bset5 (e := 5) (r := ⟨#[]⟩) (t := t) (unhide HY) (by omega))
    · intro _; rw [unhide HBL, M.RE_U]; exact ⟨(unhide HL).symm, rfl, rfl⟩
    · intro h; cases h

set_option maxHeartbeats 3000000 in
set_option maxRecDepth 100000 in
theorem feedOf_5_last (r : ByteArray) (t : M.St) (p : ByteArray) (w : World) (hs : r.size + p.size ≤ 3003) :
    Calls Try.prog 22 #[sv 5 r t, .string p, .bool true] w (FedR 5 r t p true w) := by
  obtain ⟨s, hcat⟩ : ∃ s, r ++ p = s := ⟨_, rfl⟩
  have hsz : s.size ≤ 3003 := by rw [← hcat, ByteArray.size_append]; exact hs
  have HBL : Hid (bl r ++ bl p = bl s) := hide (by rw [← hcat, bl_app])
  have hcat2 : (r.append p) = s := hcat
  unfold sv
  have H := fun w => decRefS_any true s w hsz
  obtain ⟨L, HL⟩ : ∃ L, Hid (M.decS true (bl s) = L) := ⟨_, hide rfl⟩
  rw [unhide HL] at H
  go_enter Try.func22, Try.ntmps22
  go_wp2_with fail
  refine (H _).mono ?_
  rintro e' w1 ⟨v, rfl, hI, hb⟩
  obtain ⟨av, cv, hsv⟩ := owns_shape hI
  subst hsv
  have HI : Hid (w1.ownsRow (w.heap.size + 2) 3 1 (.slice av L.length cv) L.length (L.map (Value.int .i64))) := hide (by simpa using hI)
  have HB : Hid (Below w.heap.size w w1) := hide (bstep (bstep (balloc _ _) (balloc _ _)) hb)
  have H0 : Hid (Sc w.heap.size 5 r t w1) := hide (Sc.below (w := ((w.alloc (.cells #[.int .i64 5, .string r, .int .i64 t.1, .bool t.2.1, .bool t.2.2] 40)).alloc (.cells #[.int .i64 0, .string ⟨#[]⟩, .int .i64 0, .bool false, .bool false] 40))) (by constructor <;> simp [go_sem]) hb (by simp; omega))
  have H1 : Hid (Rc (w.heap.size + 1) w1) := hide (Rc.below (w := ((w.alloc (.cells #[.int .i64 5, .string r, .int .i64 t.1, .bool t.2.1, .bool t.2.2] 40)).alloc (.cells #[.int .i64 0, .string ⟨#[]⟩, .int .i64 0, .bool false, .bool false] 40))) (by constructor <;> simp [go_sem]) hb (by simp))
  clear hI hb H hcat hcat2
  obtain ⟨a0, a1, a2, a3, a4, x0, x1, x2, x3, x4⟩ := unhide H0
  obtain ⟨b0, b1, b2, b3, b4, y0, y1, y2, y3, y4⟩ := unhide H1
  have hl0 : w.heap.size < w1.heap.size := World.block_lt_of_cell? w1 _ a0
  have hl1 : w.heap.size + 1 < w1.heap.size := World.block_lt_of_cell? w1 _ b0
  go_wp2_with fail
  have hX0 : Sc w.heap.size 5 ⟨#[]⟩ M.st0 ((((((w1.setCell ⟨w.heap.size, 1, none⟩ (.string ⟨#[]⟩)).setCell ⟨w.heap.size, 0, none⟩ (.int .i64 5)).setCell ⟨w.heap.size, 1, none⟩ (.string ⟨#[]⟩)).setCell ⟨w.heap.size, 2, none⟩ (.int .i64 0)).setCell ⟨w.heap.size, 3, none⟩ (.bool false)).setCell ⟨w.heap.size, 4, none⟩ (.bool false)) := ((unhide H0).set1 ⟨#[]⟩).rc 5 ⟨#[]⟩ M.st0
  have hX1 : Rc (w.heap.size + 1) ((((((w1.setCell ⟨w.heap.size, 1, none⟩ (.string ⟨#[]⟩)).setCell ⟨w.heap.size, 0, none⟩ (.int .i64 5)).setCell ⟨w.heap.size, 1, none⟩ (.string ⟨#[]⟩)).setCell ⟨w.heap.size, 2, none⟩ (.int .i64 0)).setCell ⟨w.heap.size, 3, none⟩ (.bool false)).setCell ⟨w.heap.size, 4, none⟩ (.bool false)) := ((((((unhide H1).far _ _ (by simp)).far _ _ (by simp)).far _ _ (by simp)).far _ _ (by simp)).far _ _ (by simp)).far _ _ (by simp)
  have HX : Hid (((((((w1.setCell ⟨w.heap.size, 1, none⟩ (.string ⟨#[]⟩)).setCell ⟨w.heap.size, 0, none⟩ (.int .i64 5)).setCell ⟨w.heap.size, 1, none⟩ (.string ⟨#[]⟩)).setCell ⟨w.heap.size, 2, none⟩ (.int .i64 0)).setCell ⟨w.heap.size, 3, none⟩ (.bool false)).setCell ⟨w.heap.size, 4, none⟩ (.bool false)).ownsRow (w.heap.size + 2) 3 1 (.slice av L.length cv) L.length (L.map (Value.int .i64))) := hide (oset5 (t := M.st0) (owns_set (unhide HI) ⟨w.heap.size, 1, none⟩ (by simp) (.string ⟨#[]⟩)) (by omega))
  have HY : Hid (Below w.heap.size w ((((((w1.setCell ⟨w.heap.size, 1, none⟩ (.string ⟨#[]⟩)).setCell ⟨w.heap.size, 0, none⟩ (.int .i64 5)).setCell ⟨w.heap.size, 1, none⟩ (.string ⟨#[]⟩)).setCell ⟨w.heap.size, 2, none⟩ (.int .i64 0)).setCell ⟨w.heap.size, 3, none⟩ (.bool false)).setCell ⟨w.heap.size, 4, none⟩ (.bool false))) := hide (bset5 (t := M.st0) (bset (unhide HB) ⟨w.heap.size, 1, none⟩ (.string ⟨#[]⟩) (Nat.le_refl _)) (by omega))
  clear a0 a1 a2 a3 a4 x0 x1 x2 x3 x4 b0 b1 b2 b3 b4 y0 y1 y2 y3 y4 hl0 hl1
  generalize (((((w1.setCell ⟨w.heap.size, 1, none⟩ (.string ⟨#[]⟩)).setCell ⟨w.heap.size, 0, none⟩ (.int .i64 5)).setCell ⟨w.heap.size, 1, none⟩ (.string ⟨#[]⟩)).setCell ⟨w.heap.size, 2, none⟩ (.int .i64 0)).setCell ⟨w.heap.size, 3, none⟩ (.bool false)).setCell ⟨w.heap.size, 4, none⟩ (.bool false) = X at *
  have hlx := hX0.lt
  obtain ⟨a0, a1, a2, a3, a4, -, -, -, -, -⟩ := hX0
  obtain ⟨b0, b1, b2, b3, b4, y0, y1, y2, y3, y4⟩ := hX1
  have hly : w.heap.size + 1 < X.heap.size := World.block_lt_of_cell? X _ b0
  unfold M.st0 at a2 a3 a4
  go_region
  all_goals
    go_wp2_with fail
    refine bodyPost_ret (v := .tuple #[.slice av L.length cv, .agg #[.int .i64 5, .string ⟨#[]⟩, .int .i64 M.st0.1, .bool M.st0.2.1, .bool M.st0.2.2]]) (by simp [results, Try.results22, go_sem, b0, b1, b2, b3, b4, M.st0]) rfl ?_
    refine ⟨.slice av L.length cv, ⟨#[]⟩, M.st0, L, rfl, ?_, ?_, ?_, ?_⟩
    · exact owns_mono (o_drew (oset5 (e := 5) (r := ⟨#[]⟩) (t := M.st0) (unhide HX) (by omega))) (by omega)
    · exact b_drew (bset5 (e := 5) (r := ⟨#[]⟩) (t := M.st0) (unhide HY) (by omega))
    · intro h; cases h
    · intro _; refine ⟨?_, rfl, rfl⟩; rw [unhide HBL, (show M.TE 5 t (bl s) = (M.decS true (bl s), t) from M.TE_S true t (bl s))]; exact (unhide HL).symm
end Go.Proofs.Ythhjfedegbldfac
