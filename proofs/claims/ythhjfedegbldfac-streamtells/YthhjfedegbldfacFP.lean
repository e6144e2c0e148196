/- The contracts of the reference's FeedOf and DecodeOf: shifted signs, 'replacement', and whatever the encoding; nothing that was there is written. -/
import Derived.Test.YthhjfedegbldfacFO
namespace Go.Proofs.Ythhjfedegbldfac
open Go.RowKit
set_option linter.unusedVariables false


set_option maxHeartbeats 3000000 in
set_option maxRecDepth 100000 in
theorem feedOf_6_more (r : ByteArray) (t : M.St) (p : ByteArray) (w : World) (hs : r.size + p.size ≤ 3003) (hk : M.Sg t.1) :
    Calls Try.prog 22 #[sv 6 r t, .string p, .bool false] w (FedR 6 r t p false w) := by
  obtain ⟨s, hcat⟩ : ∃ s, r ++ p = s := ⟨_, rfl⟩
  have hsz : s.size ≤ 3003 := by rw [← hcat, ByteArray.size_append]; exact hs
  have HBL : Hid (bl r ++ bl p = bl s) := hide (by rw [← hcat, bl_app])
  have hcat2 : (r.append p) = s := hcat
  unfold sv
  have H := fun w => decodeKana_more t.1 t.2.1 s w hk hsz
  obtain ⟨L, HL⟩ : ∃ L, Hid ((M.Run M.fk (t.1, t.2.1) (bl s)).1 = L) := ⟨_, hide rfl⟩
  obtain ⟨g, fr, HT⟩ : ∃ g fr, Hid ((M.Run M.fk (t.1, t.2.1) (bl s)).2.1 = (g, fr)) := ⟨_, _, hide rfl⟩
  rw [unhide HL, unhide HT] at H
  go_enter Try.func22, Try.ntmps22
  go_wp2_with fail
  refine (H _).mono ?_
  rintro e' w1 ⟨v, rr, rfl, hrr, hI, hb⟩
  have HRR := hide hrr
  clear hrr
  obtain ⟨av, cv, hsv⟩ := owns_shape hI
  subst hsv
  have HI : Hid (w1.ownsRow (w.heap.size + 3) 3 1 (.slice av L.length cv) L.length (L.map (Value.int .i64))) := hide (by simpa using hI)
  have HB : Hid (Below w.heap.size w w1) := hide (bstep (bstep (bstep (balloc _ _) (balloc _ _)) (balloc _ _)) hb)
  have h0 : Sc w.heap.size 6 r t w1 := Sc.below (w := (((w.alloc (.cells #[.int .i64 6, .string r, .int .i64 t.1, .bool t.2.1, .bool t.2.2] 40)).alloc (.cells #[.int .i64 0, .string ⟨#[]⟩, .int .i64 0, .bool false, .bool false] 40)).alloc (.cells #[.int .i64 0, .bool false] 73))) (by constructor <;> simp [go_sem]) hb (by simp; omega)
  have h1 : Rc (w.heap.size + 1) w1 := Rc.below (w := (((w.alloc (.cells #[.int .i64 6, .string r, .int .i64 t.1, .bool t.2.1, .bool t.2.2] 40)).alloc (.cells #[.int .i64 0, .string ⟨#[]⟩, .int .i64 0, .bool false, .bool false] 40)).alloc (.cells #[.int .i64 0, .bool false] 73))) (by constructor <;> simp [go_sem]) hb (by simp)
  have h2 : Pc (w.heap.size + 2) 0 false w1 := Pc.below (w := (((w.alloc (.cells #[.int .i64 6, .string r, .int .i64 t.1, .bool t.2.1, .bool t.2.2] 40)).alloc (.cells #[.int .i64 0, .string ⟨#[]⟩, .int .i64 0, .bool false, .bool false] 40)).alloc (.cells #[.int .i64 0, .bool false] 73))) (by constructor <;> simp [go_sem]) hb (by simp)
  have hl := h2.lt
  have hl1 : w.heap.size + 1 < w1.heap.size := by omega
  have hl0 : w.heap.size < w1.heap.size := by omega
  have H0 := hide h0
  have H1 := hide h1
  obtain ⟨a0, a1, a2, a3, a4, x0, x1, x2, x3, x4⟩ := h0
  obtain ⟨b0, b1, b2, b3, b4, y0, y1, y2, y3, y4⟩ := h1
  obtain ⟨p0, p1, q0, q1⟩ := h2
  clear hI hb H hcat hcat2
  go_wp2_with fail
  go_region
  all_goals
    go_wp2_with fail
    have hX0 : Sc w.heap.size 6 rr (g, fr, t.2.2) ((((((w1.setCell { block := w.heap.size + 1 + 1, off := 0 } (Value.int IntKind.i64 g)).setCell { block := w.heap.size + 1 + 1, off := 1 } (Value.bool fr)).setCell { block := w.heap.size, off := 2 } (Value.int IntKind.i64 g)).setCell { block := w.heap.size, off := 3 } (Value.bool fr)).setCell { block := w.heap.size, off := 1 } (Value.string rr)).drew) := ((((((unhide H0).far ⟨w.heap.size + 1 + 1, 0, none⟩ (.int .i64 g) (by first | (simp; done) | (simp; omega))).far ⟨w.heap.size + 1 + 1, 1, none⟩ (.bool fr) (by first | (simp; done) | (simp; omega))).set2 g).set3 fr).set1 rr).drew
    have hX1 : Rc (w.heap.size + 1) ((((((w1.setCell { block := w.heap.size + 1 + 1, off := 0 } (Value.int IntKind.i64 g)).setCell { block := w.heap.size + 1 + 1, off := 1 } (Value.bool fr)).setCell { block := w.heap.size, off := 2 } (Value.int IntKind.i64 g)).setCell { block := w.heap.size, off := 3 } (Value.bool fr)).setCell { block := w.heap.size, off := 1 } (Value.string rr)).drew) := (((((((unhide H1)).far ⟨w.heap.size + 1 + 1, 0, none⟩ _ (by first | (simp; done) | (simp; omega))).far ⟨w.heap.size + 1 + 1, 1, none⟩ _ (by first | (simp; done) | (simp; omega))).far ⟨w.heap.size, 2, none⟩ _ (by first | (simp; done) | (simp; omega))).far ⟨w.heap.size, 3, none⟩ _ (by first | (simp; done) | (simp; omega))).far ⟨w.heap.size, 1, none⟩ _ (by first | (simp; done) | (simp; omega))).drew
    have HX : Hid (((((((w1.setCell { block := w.heap.size + 1 + 1, off := 0 } (Value.int IntKind.i64 g)).setCell { block := w.heap.size + 1 + 1, off := 1 } (Value.bool fr)).setCell { block := w.heap.size, off := 2 } (Value.int IntKind.i64 g)).setCell { block := w.heap.size, off := 3 } (Value.bool fr)).setCell { block := w.heap.size, off := 1 } (Value.string rr)).drew).ownsRow (w.heap.size + 3) 3 1 (.slice av L.length cv) L.length (L.map (Value.int .i64))) := hide (o_drew (owns_set (owns_set (owns_set (owns_set (owns_set (unhide HI) ⟨w.heap.size + 1 + 1, 0, none⟩ (by first | (simp; done) | (simp; omega)) _) ⟨w.heap.size + 1 + 1, 1, none⟩ (by first | (simp; done) | (simp; omega)) _) ⟨w.heap.size, 2, none⟩ (by first | (simp; done) | (simp; omega)) _) ⟨w.heap.size, 3, none⟩ (by first | (simp; done) | (simp; omega)) _) ⟨w.heap.size, 1, none⟩ (by first | (simp; done) | (simp; omega)) _))
    have HY : Hid (Below w.heap.size w ((((((w1.setCell { block := w.heap.size + 1 + 1, off := 0 } (Value.int IntKind.i64 g)).setCell { block := w.heap.size + 1 + 1, off := 1 } (Value.bool fr)).setCell { block := w.heap.size, off := 2 } (Value.int IntKind.i64 g)).setCell { block := w.heap.size, off := 3 } (Value.bool fr)).setCell { block := w.heap.size, off := 1 } (Value.string rr)).drew)) := hide (b_drew (bset (bset (bset (bset (bset (unhide HB) ⟨w.heap.size + 1 + 1, 0, none⟩ _ (by first | (simp; done) | (simp; omega))) ⟨w.heap.size + 1 + 1, 1, none⟩ _ (by first | (simp; done) | (simp; omega))) ⟨w.heap.size, 2, none⟩ _ (by first | (simp; done) | (simp; omega))) ⟨w.heap.size, 3, none⟩ _ (by first | (simp; done) | (simp; omega))) ⟨w.heap.size, 1, none⟩ _ (by first | (simp; done) | (simp; omega))))
    clear a0 a1 a2 a3 a4 x0 x1 x2 x3 x4 b0 b1 b2 b3 b4 y0 y1 y2 y3 y4 p0 p1 q0 q1 hl0 hl1
    generalize (((((w1.setCell { block := w.heap.size + 1 + 1, off := 0 } (Value.int IntKind.i64 g)).setCell { block := w.heap.size + 1 + 1, off := 1 } (Value.bool fr)).setCell { block := w.heap.size, off := 2 } (Value.int IntKind.i64 g)).setCell { block := w.heap.size, off := 3 } (Value.bool fr)).setCell { block := w.heap.size, off := 1 } (Value.string rr)).drew = X at *
    have hlx := hX0.lt
    obtain ⟨a0, a1, a2, a3, a4, -, -, -, -, -⟩ := hX0
    obtain ⟨b0, b1, b2, b3, b4, y0, y1, y2, y3, y4⟩ := hX1
    have hly : w.heap.size + 1 < X.heap.size := World.block_lt_of_cell? X _ b0
    skip
    go_region
    all_goals
      go_wp2_with fail
      refine bodyPost_ret (v := .tuple #[.slice av L.length cv, .agg #[.int .i64 6, .string rr, .int .i64 (g, fr, t.2.2).1, .bool (g, fr, t.2.2).2.1, .bool (g, fr, t.2.2).2.2]]) (by simp [results, Try.results22, go_sem, b0, b1, b2, b3, b4]) rfl ?_
      refine ⟨.slice av L.length cv, rr, (g, fr, t.2.2), L, rfl, ?_, ?_, ?_, ?_⟩
      · exact owns_mono (o_drew (oset5 (e := 6) (r := rr) (t := (g, fr, t.2.2)) (unhide HX) (by omega))) (by omega)
      · exact b_drew (bset5 (e := 6) (r := rr) (t := (g, fr, t.2.2)) (unhide HY) (by omega))
      · intro _; rw [unhide HBL, M.RE_K, unhide HT]; exact ⟨(unhide HL).symm, unhide HRR, rfl⟩
      · intro h; cases h

set_option maxHeartbeats 3000000 in
set_option maxRecDepth 100000 in
theorem feedOf_6_last (r : ByteArray) (t : M.St) (p : ByteArray) (w : World) (hs : r.size + p.size ≤ 3003) (hk : M.Sg t.1) :
    Calls Try.prog 22 #[sv 6 r t, .string p, .bool true] w (FedR 6 r t p true w) := by
  obtain ⟨s, hcat⟩ : ∃ s, r ++ p = s := ⟨_, rfl⟩
  have hsz : s.size ≤ 3003 := by rw [← hcat, ByteArray.size_append]; exact hs
  have HBL : Hid (bl r ++ bl p = bl s) := hide (by rw [← hcat, bl_app])
  have hcat2 : (r.append p) = s := hcat
  unfold sv
  have H := fun w => decodeKana_last t.1 t.2.1 s w hk hsz
  obtain ⟨L, HL⟩ : ∃ L, Hid ((M.Tot M.gk (t.1, t.2.1) (bl s)).1 = L) := ⟨_, hide rfl⟩
  obtain ⟨g, fr, hT⟩ : ∃ g fr, (M.Tot M.gk (t.1, t.2.1) (bl s)).2 = (g, fr) := ⟨_, _, rfl⟩
  rw [unhide HL, hT] at H
  clear hT
  go_enter Try.func22, Try.ntmps22
  go_wp2_with fail
  refine (H _).mono ?_
  rintro e' w1 ⟨v, rfl, hI, hb⟩
  obtain ⟨av, cv, hsv⟩ := owns_shape hI
  subst hsv
  have HI : Hid (w1.ownsRow (w.heap.size + 3) 3 1 (.slice av L.length cv) L.length (L.map (Value.int .i64))) := hide (by simpa using hI)
  have HB : Hid (Below w.heap.size w w1) := hide (bstep (bstep (bstep (balloc _ _) (balloc _ _)) (balloc _ _)) hb)
  have h0 : Sc w.heap.size 6 r t w1 := Sc.below (w := (((w.alloc (.cells #[.int .i64 6, .string r, .int .i64 t.1, .bool t.2.1, .bool t.2.2] 40)).alloc (.cells #[.int .i64 0, .string ⟨#[]⟩, .int .i64 0, .bool false, .bool false] 40)).alloc (.cells #[.int .i64 0, .bool false] 73))) (by constructor <;> simp [go_sem]) hb (by simp; omega)
  have h1 : Rc (w.heap.size + 1) w1 := Rc.below (w := (((w.alloc (.cells #[.int .i64 6, .string r, .int .i64 t.1, .bool t.2.1, .bool t.2.2] 40)).alloc (.cells #[.int .i64 0, .string ⟨#[]⟩, .int .i64 0, .bool false, .bool false] 40)).alloc (.cells #[.int .i64 0, .bool false] 73))) (by constructor <;> simp [go_sem]) hb (by simp)
  have h2 : Pc (w.heap.size + 2) 0 false w1 := Pc.below (w := (((w.alloc (.cells #[.int .i64 6, .string r, .int .i64 t.1, .bool t.2.1, .bool t.2.2] 40)).alloc (.cells #[.int .i64 0, .string ⟨#[]⟩, .int .i64 0, .bool false, .bool false] 40)).alloc (.cells #[.int .i64 0, .bool false] 73))) (by constructor <;> simp [go_sem]) hb (by simp)
  have hl := h2.lt
  have hl1 : w.heap.size + 1 < w1.heap.size := by omega
  have hl0 : w.heap.size < w1.heap.size := by omega
  have H0 := hide h0
  have H1 := hide h1
  obtain ⟨a0, a1, a2, a3, a4, x0, x1, x2, x3, x4⟩ := h0
  obtain ⟨b0, b1, b2, b3, b4, y0, y1, y2, y3, y4⟩ := h1
  obtain ⟨p0, p1, q0, q1⟩ := h2
  clear hI hb H hcat hcat2
  go_wp2_with fail
  go_region
  all_goals
    go_wp2_with fail
    have hX0 : Sc w.heap.size 6 ⟨#[]⟩ M.st0 (((((((((((w1.setCell { block := w.heap.size + 1 + 1, off := 0 } (Value.int IntKind.i64 g)).setCell { block := w.heap.size + 1 + 1, off := 1 } (Value.bool fr)).setCell { block := w.heap.size, off := 2 } (Value.int IntKind.i64 g)).setCell { block := w.heap.size, off := 3 } (Value.bool fr)).setCell { block := w.heap.size, off := 1 } (Value.string { data := #[] })).setCell { block := w.heap.size, off := 0 } (Value.int IntKind.i64 6)).setCell { block := w.heap.size, off := 1 } (Value.string { data := #[] })).setCell { block := w.heap.size, off := 2 } (Value.int IntKind.i64 0)).setCell { block := w.heap.size, off := 3 } (Value.bool false)).setCell { block := w.heap.size, off := 4 } (Value.bool false)).drew) := (((((((unhide H0).far ⟨w.heap.size + 1 + 1, 0, none⟩ (.int .i64 g) (by first | (simp; done) | (simp; omega))).far ⟨w.heap.size + 1 + 1, 1, none⟩ (.bool fr) (by first | (simp; done) | (simp; omega))).set2 g).set3 fr).set1 ⟨#[]⟩).rc 6 ⟨#[]⟩ M.st0).drew
    have hX1 : Rc (w.heap.size + 1) (((((((((((w1.setCell { block := w.heap.size + 1 + 1, off := 0 } (Value.int IntKind.i64 g)).setCell { block := w.heap.size + 1 + 1, off := 1 } (Value.bool fr)).setCell { block := w.heap.size, off := 2 } (Value.int IntKind.i64 g)).setCell { block := w.heap.size, off := 3 } (Value.bool fr)).setCell { block := w.heap.size, off := 1 } (Value.string { data := #[] })).setCell { block := w.heap.size, off := 0 } (Value.int IntKind.i64 6)).setCell { block := w.heap.size, off := 1 } (Value.string { data := #[] })).setCell { block := w.heap.size, off := 2 } (Value.int IntKind.i64 0)).setCell { block := w.heap.size, off := 3 } (Value.bool false)).setCell { block := w.heap.size, off := 4 } (Value.bool false)).drew) := ((((((((((((unhide H1)).far ⟨w.heap.size + 1 + 1, 0, none⟩ _ (by first | (simp; done) | (simp; omega))).far ⟨w.heap.size + 1 + 1, 1, none⟩ _ (by first | (simp; done) | (simp; omega))).far ⟨w.heap.size, 2, none⟩ _ (by first | (simp; done) | (simp; omega))).far ⟨w.heap.size, 3, none⟩ _ (by first | (simp; done) | (simp; omega))).far ⟨w.heap.size, 1, none⟩ _ (by first | (simp; done) | (simp; omega))).far ⟨w.heap.size, 0, none⟩ _ (by first | (simp; done) | (simp; omega))).far ⟨w.heap.size, 1, none⟩ _ (by first | (simp; done) | (simp; omega))).far ⟨w.heap.size, 2, none⟩ _ (by first | (simp; done) | (simp; omega))).far ⟨w.heap.size, 3, none⟩ _ (by first | (simp; done) | (simp; omega))).far ⟨w.heap.size, 4, none⟩ _ (by first | (simp; done) | (simp; omega))).drew
    have HX : Hid ((((((((((((w1.setCell { block := w.heap.size + 1 + 1, off := 0 } (Value.int IntKind.i64 g)).setCell { block := w.heap.size + 1 + 1, off := 1 } (Value.bool fr)).setCell { block := w.heap.size, off := 2 } (Value.int IntKind.i64 g)).setCell { block := w.heap.size, off := 3 } (Value.bool fr)).setCell { block := w.heap.size, off := 1 } (Value.string { data := #[] })).setCell { block := w.heap.size, off := 0 } (Value.int IntKind.i64 6)).setCell { block := w.heap.size, off := 1 } (Value.string { data := #[] })).setCell { block := w.heap.size, off := 2 } (Value.int IntKind.i64 0)).setCell { block := w.heap.size, off := 3 } (Value.bool false)).setCell { block := w.heap.size, off := 4 } (Value.bool false)).drew).ownsRow (w.heap.size + 3) 3 1 (.slice av L.length cv) L.length (L.map (Value.int .i64))) := hide (o_drew (owns_set (owns_set (owns_set (owns_set (owns_set (owns_set (owns_set (owns_set (owns_set (owns_set (unhide HI) ⟨w.heap.size + 1 + 1, 0, none⟩ (by first | (simp; done) | (simp; omega)) _) ⟨w.heap.size + 1 + 1, 1, none⟩ (by first | (simp; done) | (simp; omega)) _) ⟨w.heap.size, 2, none⟩ (by first | (simp; done) | (simp; omega)) _) ⟨w.heap.size, 3, none⟩ (by first | (simp; done) | (simp; omega)) _) ⟨w.heap.size, 1, none⟩ (by first | (simp; done) | (simp; omega)) _) ⟨w.heap.size, 0, none⟩ (by first | (simp; done) | (simp; omega)) _) ⟨w.heap.size, 1, none⟩ (by first | (simp; done) | (simp; omega)) _) ⟨w.heap.size, 2, none⟩ (by first | (simp; done) | (simp; omega)) _) ⟨w.heap.size, 3, none⟩ (by first | (simp; done) | (simp; omega)) _) ⟨w.heap.size, 4, none⟩ (by first | (simp; done) | (simp; omega)) _))
    have HY : Hid (Below w.heap.size w (((((((((((w1.setCell { block := w.heap.size + 1 + 1, off := 0 } (Value.int IntKind.i64 g)).setCell { block := w.heap.size + 1 + 1, off := 1 } (Value.bool fr)).setCell { block := w.heap.size, off := 2 } (Value.int IntKind.i64 g)).setCell { block := w.heap.size, off := 3 } (Value.bool fr)).setCell { block := w.heap.size, off := 1 } (Value.string { data := #[] })).setCell { block := w.heap.size, off := 0 } (Value.int IntKind.i64 6)).setCell { block := w.heap.size, off := 1 } (Value.string { data := #[] })).setCell { block := w.heap.size, off := 2 } (Value.int IntKind.i64 0)).setCell { block := w.heap.size, off := 3 } (Value.bool false)).setCell { block := w.heap.size, off := 4 } (Value.bool false)).drew)) := hide (b_drew (bset (bset (bset (bset (bset (bset (bset (bset (bset (bset (unhide HB) ⟨w.heap.size + 1 + 1, 0, none⟩ _ (by first | (simp; done) | (simp; omega))) ⟨w.heap.size + 1 + 1, 1, none⟩ _ (by first | (simp; done) | (simp; omega))) ⟨w.heap.size, 2, none⟩ _ (by first | (simp; done) | (simp; omega))) ⟨w.heap.size, 3, none⟩ _ (by first | (simp; done) | (simp; omega))) ⟨w.heap.size, 1, none⟩ _ (by first | (simp; done) | (simp; omega))) ⟨w.heap.size, 0, none⟩ _ (by first | (simp; done) | (simp; omega))) ⟨w.heap.size, 1, none⟩ _ (by first | (simp; done) | (simp; omega))) ⟨w.heap.size, 2, none⟩ _ (by first | (simp; done) | (simp; omega))) ⟨w.heap.size, 3, none⟩ _ (by first | (simp; done) | (simp; omega))) ⟨w.heap.size, 4, none⟩ _ (by first | (simp; done) | (simp; omega))))
    clear a0 a1 a2 a3 a4 x0 x1 x2 x3 x4 b0 b1 b2 b3 b4 y0 y1 y2 y3 y4 p0 p1 q0 q1 hl0 hl1
    generalize ((((((((((w1.setCell { block := w.heap.size + 1 + 1, off := 0 } (Value.int IntKind.i64 g)).setCell { block := w.heap.size + 1 + 1, off := 1 } (Value.bool fr)).setCell { block := w.heap.size, off := 2 } (Value.int IntKind.i64 g)).setCell { block := w.heap.size, off := 3 } (Value.bool fr)).setCell { block := w.heap.size, off := 1 } (Value.string { data := #[] })).setCell { block := w.heap.size, off := 0 } (Value.int IntKind.i64 6)).setCell { block := w.heap.size, off := 1 } (Value.string { data := #[] })).setCell { block := w.heap.size, off := 2 } (Value.int IntKind.i64 0)).setCell { block := w.heap.size, off := 3 } (Value.bool false)).setCell { block := w.heap.size, off := 4 } (Value.bool false)).drew = X at *
    have hlx := hX0.lt
    obtain ⟨a0, a1, a2, a3, a4, -, -, -, -, -⟩ := hX0
    obtain ⟨b0, b1, b2, b3, b4, y0, y1, y2, y3, y4⟩ := hX1
    have hly : w.heap.size + 1 < X.heap.size := World.block_lt_of_cell? X _ b0
    unfold M.st0 at a2 a3 a4
    go_region
    all_goals
      go_wp2_with fail
      refine bodyPost_ret (v := .tuple #[.slice av L.length cv, .agg #[.int .i64 6, .string ⟨#[]⟩, .int .i64 M.st0.1, .bool M.st0.2.1, .bool M.st0.2.2]]) (by simp [results, Try.results22, go_sem, b0, b1, b2, b3, b4, M.st0]) rfl ?_
      refine ⟨.slice av L.length cv, ⟨#[]⟩, M.st0, L, rfl, ?_, ?_, ?_, ?_⟩
      · exact owns_mono (o_drew (oset5 (e := 6) (r := ⟨#[]⟩) (t := M.st0) (unhide HX) (by omega))) (by omega)
      · exact b_drew (bset5 (e := 6) (r := ⟨#[]⟩) (t := M.st0) (unhide HY) (by omega))
      · intro h; cases h
      · intro _; refine ⟨?_, rfl, rfl⟩; rw [unhide HBL, M.TE_K]; exact (unhide HL).symm

set_option maxHeartbeats 3000000 in
set_option maxRecDepth 100000 in
theorem feedOf_7_none_more (r : ByteArray) (g : Int) (fr st : Bool) (p : ByteArray) (w : World) (hs : r.size + p.size ≤ 3003) (h0 : (r ++ p).size = 0) :
    Calls Try.prog 22 #[sv 7 r (g, fr, st), .string p, .bool false] w (FedR 7 r (g, fr, st) p false w) := by
  obtain ⟨s, hcat⟩ : ∃ s, r ++ p = s := ⟨_, rfl⟩
  have hsz : s.size ≤ 3003 := by rw [← hcat, ByteArray.size_append]; exact hs
  have HBL : Hid (bl r ++ bl p = bl s) := hide (by rw [← hcat, bl_app])
  have hcat2 : (r.append p) = s := hcat
  unfold sv
  rw [hcat] at h0
  have he : s.toList.isEmpty = true := by rw [isEmpty_size]; simp [h0]
  go_enter Try.func22, Try.ntmps22
  go_wp2_with fail
  have hX0 : Sc w.heap.size 7 ⟨#[]⟩ (g, fr, st) ((w.alloc (.cells #[.int .i64 7, .string ⟨#[]⟩, .int .i64 g, .bool fr, .bool st] 40)).alloc (.cells #[.int .i64 0, .string ⟨#[]⟩, .int .i64 0, .bool false, .bool false] 40)) := by constructor <;> simp [go_sem]
  have hX1 : Rc (w.heap.size + 1) ((w.alloc (.cells #[.int .i64 7, .string ⟨#[]⟩, .int .i64 g, .bool fr, .bool st] 40)).alloc (.cells #[.int .i64 0, .string ⟨#[]⟩, .int .i64 0, .bool false, .bool false] 40)) := by constructor <;> simp [go_sem]
  have HX : Hid (((w.alloc (.cells #[.int .i64 7, .string ⟨#[]⟩, .int .i64 g, .bool fr, .bool st] 40)).alloc (.cells #[.int .i64 0, .string ⟨#[]⟩, .int .i64 0, .bool false, .bool false] 40)).ownsRow (w.heap.size + 2) 3 1 (.slice none 0 0) ([] : List Int).length (([] : List Int).map (Value.int .i64))) := hide (World.ownsRow_nil _ _ _ _)
  have HY : Hid (Below w.heap.size w ((w.alloc (.cells #[.int .i64 7, .string ⟨#[]⟩, .int .i64 g, .bool fr, .bool st] 40)).alloc (.cells #[.int .i64 0, .string ⟨#[]⟩, .int .i64 0, .bool false, .bool false] 40))) := hide (bstep (balloc _ _) (balloc _ _))
  generalize (w.alloc (.cells #[.int .i64 7, .string ⟨#[]⟩, .int .i64 g, .bool fr, .bool st] 40)).alloc (.cells #[.int .i64 0, .string ⟨#[]⟩, .int .i64 0, .bool false, .bool false] 40) = X at *
  have hlx := hX0.lt
  obtain ⟨a0, a1, a2, a3, a4, -, -, -, -, -⟩ := hX0
  obtain ⟨b0, b1, b2, b3, b4, y0, y1, y2, y3, y4⟩ := hX1
  have hly : w.heap.size + 1 < X.heap.size := World.block_lt_of_cell? X _ b0
  skip
  go_region
  all_goals
    go_wp2_with fail
    refine bodyPost_ret (v := .tuple #[.slice none 0 0, .agg #[.int .i64 7, .string ⟨#[]⟩, .int .i64 (g, fr, st).1, .bool (g, fr, st).2.1, .bool (g, fr, st).2.2]]) (by simp [results, Try.results22, go_sem, b0, b1, b2, b3, b4]) rfl ?_
    refine ⟨.slice none 0 0, ⟨#[]⟩, (g, fr, st), [], rfl, ?_, ?_, ?_, ?_⟩
    · exact owns_mono (o_drew (oset5 (e := 7) (r := ⟨#[]⟩) (t := (g, fr, st)) (unhide HX) (by omega))) (by omega)
    · exact b_drew (bset5 (e := 7) (r := ⟨#[]⟩) (t := (g, fr, st)) (unhide HY) (by omega))
    · intro _; rw [unhide HBL, M.RE_X]; have e0 : (bl s).isEmpty = true := (by rw [bl_nil h0]; rfl); refine ⟨by simp [e0], rfl, by simp [e0]⟩
    · intro h; cases h

set_option maxHeartbeats 3000000 in
set_option maxRecDepth 100000 in
theorem feedOf_7_stop_more (r : ByteArray) (g : Int) (fr : Bool) (p : ByteArray) (w : World) (hs : r.size + p.size ≤ 3003) (h0 : (r ++ p).size ≠ 0) :
    Calls Try.prog 22 #[sv 7 r (g, fr, true), .string p, .bool false] w (FedR 7 r (g, fr, true) p false w) := by
  obtain ⟨s, hcat⟩ : ∃ s, r ++ p = s := ⟨_, rfl⟩
  have hsz : s.size ≤ 3003 := by rw [← hcat, ByteArray.size_append]; exact hs
  have HBL : Hid (bl r ++ bl p = bl s) := hide (by rw [← hcat, bl_app])
  have hcat2 : (r.append p) = s := hcat
  unfold sv
  rw [hcat] at h0
  have he : s.toList.isEmpty = false := by rw [isEmpty_size]; simp [h0]
  go_enter Try.func22, Try.ntmps22
  go_wp2_with fail
  have hX0 : Sc w.heap.size 7 ⟨#[]⟩ (g, fr, true) ((w.alloc (.cells #[.int .i64 7, .string ⟨#[]⟩, .int .i64 g, .bool fr, .bool true] 40)).alloc (.cells #[.int .i64 0, .string ⟨#[]⟩, .int .i64 0, .bool false, .bool false] 40)) := by constructor <;> simp [go_sem]
  have hX1 : Rc (w.heap.size + 1) ((w.alloc (.cells #[.int .i64 7, .string ⟨#[]⟩, .int .i64 g, .bool fr, .bool true] 40)).alloc (.cells #[.int .i64 0, .string ⟨#[]⟩, .int .i64 0, .bool false, .bool false] 40)) := by constructor <;> simp [go_sem]
  have HX : Hid (((w.alloc (.cells #[.int .i64 7, .string ⟨#[]⟩, .int .i64 g, .bool fr, .bool true] 40)).alloc (.cells #[.int .i64 0, .string ⟨#[]⟩, .int .i64 0, .bool false, .bool false] 40)).ownsRow (w.heap.size + 2) 3 1 (.slice none 0 0) ([] : List Int).length (([] : List Int).map (Value.int .i64))) := hide (World.ownsRow_nil _ _ _ _)
  have HY : Hid (Below w.heap.size w ((w.alloc (.cells #[.int .i64 7, .string ⟨#[]⟩, .int .i64 g, .bool fr, .bool true] 40)).alloc (.cells #[.int .i64 0, .string ⟨#[]⟩, .int .i64 0, .bool false, .bool false] 40))) := hide (bstep (balloc _ _) (balloc _ _))
  generalize (w.alloc (.cells #[.int .i64 7, .string ⟨#[]⟩, .int .i64 g, .bool fr, .bool true] 40)).alloc (.cells #[.int .i64 0, .string ⟨#[]⟩, .int .i64 0, .bool false, .bool false] 40) = X at *
  have hlx := hX0.lt
  obtain ⟨a0, a1, a2, a3, a4, -, -, -, -, -⟩ := hX0
  obtain ⟨b0, b1, b2, b3, b4, y0, y1, y2, y3, y4⟩ := hX1
  have hly : w.heap.size + 1 < X.heap.size := World.block_lt_of_cell? X _ b0
  skip
  go_region
  all_goals
    go_wp2_with fail
    refine bodyPost_ret (v := .tuple #[.slice none 0 0, .agg #[.int .i64 7, .string ⟨#[]⟩, .int .i64 (g, fr, true).1, .bool (g, fr, true).2.1, .bool (g, fr, true).2.2]]) (by simp [results, Try.results22, go_sem, b0, b1, b2, b3, b4]) rfl ?_
    refine ⟨.slice none 0 0, ⟨#[]⟩, (g, fr, true), [], rfl, ?_, ?_, ?_, ?_⟩
    · exact owns_mono (o_drew (oset5 (e := 7) (r := ⟨#[]⟩) (t := (g, fr, true)) (unhide HX) (by omega))) (by omega)
    · exact b_drew (bset5 (e := 7) (r := ⟨#[]⟩) (t := (g, fr, true)) (unhide HY) (by omega))
    · intro _; rw [unhide HBL, M.RE_X]; skip; refine ⟨by simp, rfl, by simp⟩
    · intro h; cases h

set_option maxHeartbeats 3000000 in
set_option maxRecDepth 100000 in
theorem feedOf_7_told_more (r : ByteArray) (g : Int) (fr : Bool) (p : ByteArray) (w : World) (hs : r.size + p.size ≤ 3003) (h0 : (r ++ p).size ≠ 0) :
    Calls Try.prog 22 #[sv 7 r (g, fr, false), .string p, .bool false] w (FedR 7 r (g, fr, false) p false w) := by
  obtain ⟨s, hcat⟩ : ∃ s, r ++ p = s := ⟨_, rfl⟩
  have hsz : s.size ≤ 3003 := by rw [← hcat, ByteArray.size_append]; exact hs
  have HBL : Hid (bl r ++ bl p = bl s) := hide (by rw [← hcat, bl_app])
  have hcat2 : (r.append p) = s := hcat
  unfold sv
  rw [hcat] at h0
  have he : s.toList.isEmpty = false := by rw [isEmpty_size]; simp [h0]
  go_enter Try.func22, Try.ntmps22
  go_wp2_with fail
  have hX0 : Sc w.heap.size 7 ⟨#[]⟩ (g, fr, true) (((w.alloc (.cells #[.int .i64 7, .string ⟨#[]⟩, .int .i64 g, .bool fr, .bool true] 40)).alloc (.cells #[.int .i64 0, .string ⟨#[]⟩, .int .i64 0, .bool false, .bool false] 40)).alloc (.cells #[.int .i64 65533] 3)) := by constructor <;> simp [go_sem]
  have hX1 : Rc (w.heap.size + 1) (((w.alloc (.cells #[.int .i64 7, .string ⟨#[]⟩, .int .i64 g, .bool fr, .bool true] 40)).alloc (.cells #[.int .i64 0, .string ⟨#[]⟩, .int .i64 0, .bool false, .bool false] 40)).alloc (.cells #[.int .i64 65533] 3)) := by constructor <;> simp [go_sem]
  have HX : Hid ((((w.alloc (.cells #[.int .i64 7, .string ⟨#[]⟩, .int .i64 g, .bool fr, .bool true] 40)).alloc (.cells #[.int .i64 0, .string ⟨#[]⟩, .int .i64 0, .bool false, .bool false] 40)).alloc (.cells #[.int .i64 65533] 3)).ownsRow (w.heap.size + 2) 3 1 (.slice (some ⟨w.heap.size + 1 + 1, 0, none⟩) 1 1) ([65533] : List Int).length (([65533] : List Int).map (Value.int .i64))) := hide (by have h := World.ownsRow_lit (base := w.heap.size + 2) (e := 3) (size := 1) ((w.alloc (.cells #[.int .i64 7, .string ⟨#[]⟩, .int .i64 g, .bool fr, .bool true] 40)).alloc (.cells #[.int .i64 0, .string ⟨#[]⟩, .int .i64 0, .bool false, .bool false] 40)) #[.int .i64 65533] 1 (by simp) (by simp [maxLen]) rfl; simpa using h)
  have HY : Hid (Below w.heap.size w (((w.alloc (.cells #[.int .i64 7, .string ⟨#[]⟩, .int .i64 g, .bool fr, .bool true] 40)).alloc (.cells #[.int .i64 0, .string ⟨#[]⟩, .int .i64 0, .bool false, .bool false] 40)).alloc (.cells #[.int .i64 65533] 3))) := hide (bstep (bstep (balloc _ _) (balloc _ _)) (balloc _ _))
  generalize ((w.alloc (.cells #[.int .i64 7, .string ⟨#[]⟩, .int .i64 g, .bool fr, .bool true] 40)).alloc (.cells #[.int .i64 0, .string ⟨#[]⟩, .int .i64 0, .bool false, .bool false] 40)).alloc (.cells #[.int .i64 65533] 3) = X at *
  have hlx := hX0.lt
  obtain ⟨a0, a1, a2, a3, a4, -, -, -, -, -⟩ := hX0
  obtain ⟨b0, b1, b2, b3, b4, y0, y1, y2, y3, y4⟩ := hX1
  have hly : w.heap.size + 1 < X.heap.size := World.block_lt_of_cell? X _ b0
  skip
  go_region
  all_goals
    go_wp2_with fail
    refine bodyPost_ret (v := .tuple #[.slice (some ⟨w.heap.size + 1 + 1, 0, none⟩) 1 1, .agg #[.int .i64 7, .string ⟨#[]⟩, .int .i64 (g, fr, true).1, .bool (g, fr, true).2.1, .bool (g, fr, true).2.2]]) (by simp [results, Try.results22, go_sem, b0, b1, b2, b3, b4]) rfl ?_
    refine ⟨.slice (some ⟨w.heap.size + 1 + 1, 0, none⟩) 1 1, ⟨#[]⟩, (g, fr, true), [65533], rfl, ?_, ?_, ?_, ?_⟩
    · exact owns_mono (o_drew (oset5 (e := 7) (r := ⟨#[]⟩) (t := (g, fr, true)) (unhide HX) (by omega))) (by omega)
    · exact b_drew (bset5 (e := 7) (r := ⟨#[]⟩) (t := (g, fr, true)) (unhide HY) (by omega))
    · intro _; rw [unhide HBL, M.RE_X]; have e0 : (bl s).isEmpty = false := (by rw [List.isEmpty_eq_false_iff]; exact fun q => h0 (by rw [← bl_len, q]; rfl)); refine ⟨by simp [e0], rfl, by simp [e0]⟩
    · intro h; cases h

set_option maxHeartbeats 3000000 in
set_option maxRecDepth 100000 in
theorem feedOf_7_none_last (r : ByteArray) (g : Int) (fr st : Bool) (p : ByteArray) (w : World) (hs : r.size + p.size ≤ 3003) (h0 : (r ++ p).size = 0) :
    Calls Try.prog 22 #[sv 7 r (g, fr, st), .string p, .bool true] w (FedR 7 r (g, fr, st) p true w) := by
  obtain ⟨s, hcat⟩ : ∃ s, r ++ p = s := ⟨_, rfl⟩
  have hsz : s.size ≤ 3003 := by rw [← hcat, ByteArray.size_append]; exact hs
  have HBL : Hid (bl r ++ bl p = bl s) := hide (by rw [← hcat, bl_app])
  have hcat2 : (r.append p) = s := hcat
  unfold sv
  rw [hcat] at h0
  have he : s.toList.isEmpty = true := by rw [isEmpty_size]; simp [h0]
  go_enter Try.func22, Try.ntmps22
  go_wp2_with fail
  have hX0 : Sc w.heap.size 7 ⟨#[]⟩ M.st0 ((w.alloc (.cells #[.int .i64 7, .string ⟨#[]⟩, .int .i64 0, .bool false, .bool false] 40)).alloc (.cells #[.int .i64 0, .string ⟨#[]⟩, .int .i64 0, .bool false, .bool false] 40)) := by constructor <;> simp [go_sem, M.st0]
  have hX1 : Rc (w.heap.size + 1) ((w.alloc (.cells #[.int .i64 7, .string ⟨#[]⟩, .int .i64 0, .bool false, .bool false] 40)).alloc (.cells #[.int .i64 0, .string ⟨#[]⟩, .int .i64 0, .bool false, .bool false] 40)) := by constructor <;> simp [go_sem]
  have HX : Hid (((w.alloc (.cells #[.int .i64 7, .string ⟨#[]⟩, .int .i64 0, .bool false, .bool false] 40)).alloc (.cells #[.int .i64 0, .string ⟨#[]⟩, .int .i64 0, .bool false, .bool false] 40)).ownsRow (w.heap.size + 2) 3 1 (.slice none 0 0) ([] : List Int).length (([] : List Int).map (Value.int .i64))) := hide (World.ownsRow_nil _ _ _ _)
  have HY : Hid (Below w.heap.size w ((w.alloc (.cells #[.int .i64 7, .string ⟨#[]⟩, .int .i64 0, .bool false, .bool false] 40)).alloc (.cells #[.int .i64 0, .string ⟨#[]⟩, .int .i64 0, .bool false, .bool false] 40))) := hide (bstep (balloc _ _) (balloc _ _))
  generalize (w.alloc (.cells #[.int .i64 7, .string ⟨#[]⟩, .int .i64 0, .bool false, .bool false] 40)).alloc (.cells #[.int .i64 0, .string ⟨#[]⟩, .int .i64 0, .bool false, .bool false] 40) = X at *
  have hlx := hX0.lt
  obtain ⟨a0, a1, a2, a3, a4, -, -, -, -, -⟩ := hX0
  obtain ⟨b0, b1, b2, b3, b4, y0, y1, y2, y3, y4⟩ := hX1
  have hly : w.heap.size + 1 < X.heap.size := World.block_lt_of_cell? X _ b0
  unfold M.st0 at a2 a3 a4
  go_region
  all_goals
    go_wp2_with fail
    refine bodyPost_ret (v := .tuple #[.slice none 0 0, .agg #[.int .i64 7, .string ⟨#[]⟩, .int .i64 M.st0.1, .bool M.st0.2.1, .bool M.st0.2.2]]) (by simp [results, Try.results22, go_sem, b0, b1, b2, b3, b4, M.st0]) rfl ?_
    refine ⟨.slice none 0 0, ⟨#[]⟩, M.st0, [], rfl, ?_, ?_, ?_, ?_⟩
    · exact owns_mono (o_drew (oset5 (e := 7) (r := ⟨#[]⟩) (t := M.st0) (unhide HX) (by omega))) (by omega)
    · exact b_drew (bset5 (e := 7) (r := ⟨#[]⟩) (t := M.st0) (unhide HY) (by omega))
    · intro h; cases h
    · intro _; refine ⟨?_, rfl, rfl⟩; rw [unhide HBL, M.TE_X]; have e0 : (bl s).isEmpty = true := (by rw [bl_nil h0]; rfl); simp [e0]

set_option maxHeartbeats 3000000 in
set_option maxRecDepth 100000 in
theorem feedOf_7_stop_last (r : ByteArray) (g : Int) (fr : Bool) (p : ByteArray) (w : World) (hs : r.size + p.size ≤ 3003) (h0 : (r ++ p).size ≠ 0) :
    Calls Try.prog 22 #[sv 7 r (g, fr, true), .string p, .bool true] w (FedR 7 r (g, fr, true) p true w) := by
  obtain ⟨s, hcat⟩ : ∃ s, r ++ p = s := ⟨_, rfl⟩
  have hsz : s.size ≤ 3003 := by rw [← hcat, ByteArray.size_append]; exact hs
  have HBL : Hid (bl r ++ bl p = bl s) := hide (by rw [← hcat, bl_app])
  have hcat2 : (r.append p) = s := hcat
  unfold sv
  rw [hcat] at h0
  have he : s.toList.isEmpty = false := by rw [isEmpty_size]; simp [h0]
  go_enter Try.func22, Try.ntmps22
  go_wp2_with fail
  have hX0 : Sc w.heap.size 7 ⟨#[]⟩ M.st0 ((w.alloc (.cells #[.int .i64 7, .string ⟨#[]⟩, .int .i64 0, .bool false, .bool false] 40)).alloc (.cells #[.int .i64 0, .string ⟨#[]⟩, .int .i64 0, .bool false, .bool false] 40)) := by constructor <;> simp [go_sem, M.st0]
  have hX1 : Rc (w.heap.size + 1) ((w.alloc (.cells #[.int .i64 7, .string ⟨#[]⟩, .int .i64 0, .bool false, .bool false] 40)).alloc (.cells #[.int .i64 0, .string ⟨#[]⟩, .int .i64 0, .bool false, .bool false] 40)) := by constructor <;> simp [go_sem]
  have HX : Hid (((w.alloc (.cells #[.int .i64 7, .string ⟨#[]⟩, .int .i64 0, .bool false, .bool false] 40)).alloc (.cells #[.int .i64 0, .string ⟨#[]⟩, .int .i64 0, .bool false, .bool false] 40)).ownsRow (w.heap.size + 2) 3 1 (.slice none 0 0) ([] : List Int).length (([] : List Int).map (Value.int .i64))) := hide (World.ownsRow_nil _ _ _ _)
  have HY : Hid (Below w.heap.size w ((w.alloc (.cells #[.int .i64 7, .string ⟨#[]⟩, .int .i64 0, .bool false, .bool false] 40)).alloc (.cells #[.int .i64 0, .string ⟨#[]⟩, .int .i64 0, .bool false, .bool false] 40))) := hide (bstep (balloc _ _) (balloc _ _))
  generalize (w.alloc (.cells #[.int .i64 7, .string ⟨#[]⟩, .int .i64 0, .bool false, .bool false] 40)).alloc (.cells #[.int .i64 0, .string ⟨#[]⟩, .int .i64 0, .bool false, .bool false] 40) = X at *
  have hlx := hX0.lt
  obtain ⟨a0, a1, a2, a3, a4, -, -, -, -, -⟩ := hX0
  obtain ⟨b0, b1, b2, b3, b4, y0, y1, y2, y3, y4⟩ := hX1
  have hly : w.heap.size + 1 < X.heap.size := World.block_lt_of_cell? X _ b0
  unfold M.st0 at a2 a3 a4
  go_region
  all_goals
    go_wp2_with fail
    refine bodyPost_ret (v := .tuple #[.slice none 0 0, .agg #[.int .i64 7, .string ⟨#[]⟩, .int .i64 M.st0.1, .bool M.st0.2.1, .bool M.st0.2.2]]) (by simp [results, Try.results22, go_sem, b0, b1, b2, b3, b4, M.st0]) rfl ?_
    refine ⟨.slice none 0 0, ⟨#[]⟩, M.st0, [], rfl, ?_, ?_, ?_, ?_⟩
    · exact owns_mono (o_drew (oset5 (e := 7) (r := ⟨#[]⟩) (t := M.st0) (unhide HX) (by omega))) (by omega)
    · exact b_drew (bset5 (e := 7) (r := ⟨#[]⟩) (t := M.st0) (unhide HY) (by omega))
    · intro h; cases h
    · intro _; refine ⟨?_, rfl, rfl⟩; rw [unhide HBL, M.TE_X]; skip; simp

set_option maxHeartbeats 3000000 in
set_option maxRecDepth 100000 in
theorem feedOf_7_told_last (r : ByteArray) (g : Int) (fr : Bool) (p : ByteArray) (w : World) (hs : r.size + p.size ≤ 3003) (h0 : (r ++ p).size ≠ 0) :
    Calls Try.prog 22 #[sv 7 r (g, fr, false), .string p, .bool true] w (FedR 7 r (g, fr, false) p true w) := by
  obtain ⟨s, hcat⟩ : ∃ s, r ++ p = s := ⟨_, rfl⟩
  have hsz : s.size ≤ 3003 := by rw [← hcat, ByteArray.size_append]; exact hs
  have HBL : Hid (bl r ++ bl p = bl s) := hide (by rw [← hcat, bl_app])
  have hcat2 : (r.append p) = s := hcat
  unfold sv
  rw [hcat] at h0
  have he : s.toList.isEmpty = false := by rw [isEmpty_size]; simp [h0]
  go_enter Try.func22, Try.ntmps22
  go_wp2_with fail
  have hX0 : Sc w.heap.size 7 ⟨#[]⟩ M.st0 (((w.alloc (.cells #[.int .i64 7, .string ⟨#[]⟩, .int .i64 0, .bool false, .bool false] 40)).alloc (.cells #[.int .i64 0, .string ⟨#[]⟩, .int .i64 0, .bool false, .bool false] 40)).alloc (.cells #[.int .i64 65533] 3)) := by constructor <;> simp [go_sem, M.st0]
  have hX1 : Rc (w.heap.size + 1) (((w.alloc (.cells #[.int .i64 7, .string ⟨#[]⟩, .int .i64 0, .bool false, .bool false] 40)).alloc (.cells #[.int .i64 0, .string ⟨#[]⟩, .int .i64 0, .bool false, .bool false] 40)).alloc (.cells #[.int .i64 65533] 3)) := by constructor <;> simp [go_sem]
  have HX : Hid ((((w.alloc (.cells #[.int .i64 7, .string ⟨#[]⟩, .int .i64 0, .bool false, .bool false] 40)).alloc (.cells #[.int .i64 0, .string ⟨#[]⟩, .int .i64 0, .bool false, .bool false] 40)).alloc (.cells #[.int .i64 65533] 3)).ownsRow (w.heap.size + 2) 3 1 (.slice (some ⟨w.heap.size + 1 + 1, 0, none⟩) 1 1) ([65533] : List Int).length (([65533] : List Int).map (Value.int .i64))) := hide (by have h := World.ownsRow_lit (base := w.heap.size + 2) (e := 3) (size := 1) ((w.alloc (.cells #[.int .i64 7, .string ⟨#[]⟩, .int .i64 0, .bool false, .bool false] 40)).alloc (.cells #[.int .i64 0, .string ⟨#[]⟩, .int .i64 0, .bool false, .bool false] 40)) #[.int .i64 65533] 1 (by simp) (by simp [maxLen]) rfl; simpa using h)
  have HY : Hid (Below w.heap.size w (((w.alloc (.cells #[.int .i64 7, .string ⟨#[]⟩, .int .i64 0, .bool false, .bool false] 40)).alloc (.cells #[.int .i64 0, .string ⟨#[]⟩, .int .i64 0, .bool false, .bool false] 40)).alloc (.cells #[.int .i64 65533] 3))) := hide (bstep (bstep (balloc _ _) (balloc _ _)) (balloc _ _))
  generalize ((w.alloc (.cells #[.int .i64 7, .string ⟨#[]⟩, .int .i64 0, .bool false, .bool false] 40)).alloc (.cells #[.int .i64 0, .string ⟨#[]⟩, .int .i64 0, .bool false, .bool false] 40)).alloc (.cells #[.int .i64 65533] 3) = X at *
  have hlx := hX0.lt
  obtain ⟨a0, a1, a2, a3, a4, -, -, -, -, -⟩ := hX0
  obtain ⟨b0, b1, b2, b3, b4, y0, y1, y2, y3, y4⟩ := hX1
  have hly : w.heap.size + 1 < X.heap.size := World.block_lt_of_cell? X _ b0
  unfold M.st0 at a2 a3 a4
  go_region
  all_goals
    go_wp2_with fail
    refine bodyPost_ret (v := .tuple #[.slice (some ⟨w.heap.size + 1 + 1, 0, none⟩) 1 1, .agg #[.int .i64 7, .string ⟨#[]⟩, .int .i64 M.st0.1, .bool M.st0.2.1, .bool M.st0.2.2]]) (by simp [results, Try.results22, go_sem, b0, b1, b2, b3, b4, M.st0]) rfl ?_
    refine ⟨.slice (some ⟨w.heap.size + 1 + 1, 0, none⟩) 1 1, ⟨#[]⟩, M.st0, [65533], rfl, ?_, ?_, ?_, ?_⟩
    · exact owns_mono (o_drew (oset5 (e := 7) (r := ⟨#[]⟩) (t := M.st0) (unhide HX) (by omega))) (by omega)
    · exact b_drew (bset5 (e := 7) (r := ⟨#[]⟩) (t := M.st0) (unhide HY) (by omega))
    · intro h; cases h
    · intro _; refine ⟨?_, rfl, rfl⟩; rw [unhide HBL, M.TE_X]; have e0 : (bl s).isEmpty = false := (by rw [List.isEmpty_eq_false_iff]; exact fun q => h0 (by rw [← bl_len, q]; rfl)); simp [e0]

theorem feedOf_any (e : Int) (r : ByteArray) (t : M.St) (p : ByteArray) (last : Bool) (w : World) (he : 1 ≤ e ∧ e ≤ 7) (hk : M.Ok e t) (hs : r.size + p.size ≤ 3003) :
    Calls Try.prog 22 #[sv e r t, .string p, .bool last] w (FedR e r t p last w) := by
  obtain rfl | rfl | rfl | rfl | rfl | rfl | rfl := M.seven he
  · cases last
    · exact feedOf_1_more r t p w hs
    · exact feedOf_1_last r t p w hs
  · cases last
    · exact feedOf_2_more r t p w hs
    · exact feedOf_2_last r t p w hs
  · cases last
    · exact feedOf_3_more r t p w hs
    · exact feedOf_3_last r t p w hs
  · cases last
    · exact feedOf_4_more r t p w hs
    · exact feedOf_4_last r t p w hs
  · cases last
    · exact feedOf_5_more r t p w hs
    · exact feedOf_5_last r t p w hs
  · cases last
    · exact feedOf_6_more r t p w hs hk.1
    · exact feedOf_6_last r t p w hs hk.1
  · obtain ⟨g, fr, st⟩ := t
    by_cases h0 : (r ++ p).size = 0
    · cases last
      · exact feedOf_7_none_more r g fr st p w hs h0
      · exact feedOf_7_none_last r g fr st p w hs h0
    · cases st
      · cases last
        · exact feedOf_7_told_more r g fr p w hs h0
        · exact feedOf_7_told_last r g fr p w hs h0
      · cases last
        · exact feedOf_7_stop_more r g fr p w hs h0
        · exact feedOf_7_stop_last r g fr p w hs h0

set_option maxHeartbeats 800000 in
set_option maxRecDepth 100000 in
theorem decodeOf_any (e : Int) (s : ByteArray) (w : World) (he : 1 ≤ e ∧ e ≤ 7) (hs : s.size ≤ 3000) :
    Calls Try.prog 12 #[.int .i64 e, .string s] w fun e' w' => ∃ v, e' = .returned v ∧ w'.ownsRow w.heap.size 3 1 v (M.decE e (bl s)).length ((M.decE e (bl s)).map (Value.int .i64)) ∧ Below w.heap.size w w' := by
  have H : ∀ w : World, Calls Try.prog 22 #[.agg #[.int .i64 e, .string ⟨#[]⟩, .int .i64 0, .bool false, .bool false], .string s, .bool true] w fun e' w' => ∃ v, e' = .returned (.tuple #[v, .agg #[.int .i64 e, .string ⟨#[]⟩, .int .i64 0, .bool false, .bool false]]) ∧ w'.ownsRow w.heap.size 3 1 v (M.decE e (bl s)).length ((M.decE e (bl s)).map (Value.int .i64)) ∧ Below w.heap.size w w' := by
    intro w
    refine (feedOf_any e ⟨#[]⟩ M.st0 s true w he (M.Ok_st0 e) (by show 0 + s.size ≤ 3003; omega)).mono ?_
    rintro e' w1 ⟨v, r', t', L, rfl, hI, hb, -, h2⟩
    obtain ⟨hL, rfl, rfl⟩ := h2 rfl
    have hL' : L = M.decE e (bl s) := hL
    subst hL'
    exact ⟨v, rfl, hI, hb⟩
  generalize M.decE e (bl s) = L at *
  go_enter Try.func12, Try.ntmps12
  go_wp2_with fail
  refine (H _).mono ?_
  rintro e w1 ⟨v, rfl, hI, hb⟩
  obtain ⟨av, cv, hsv⟩ := owns_shape hI
  subst hsv
  have HI := hide hI
  have HB := hide hb
  clear hI hb H
  go_wp2_with fail
  go_ret
  exact ⟨_, rfl, owns_a (unhide HI) _, bstep (unhide HB) (balloc _ _)⟩
end Go.Proofs.Ythhjfedegbldfac
