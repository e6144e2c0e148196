/- Laws that the statements of this seat lean on, part 10 (FP RX6 MathZ5 PW AD CLA): each a contract of a function, or a plain fact; conditions stand at each. -/
import Derived.Test.YtaiinjfnkmidbaaGreatDoorQD9
namespace Go.Proofs.YtaiinjfnkmidbaaGreatDoor
open Go.RowKit
set_option linter.unusedVariables false


set_option maxHeartbeats 3000000 in
set_option maxRecDepth 100000 in
theorem feedOf_6_more (r : ByteArray) (t : M.St) (p : ByteArray) (w : World) (hs : r.size + p.size ≤ 3300) (hk : M.Sg t.1) :
    Calls Tryz.prog 57 #[sv 6 r t, .string p, .bool false] w (FedR 6 r t p false w) := by
  obtain ⟨s, hcat⟩ : ∃ s, r ++ p = s := ⟨_, rfl⟩
  have hsz : s.size ≤ 3300 := by rw [← hcat, ByteArray.size_append]; exact hs
  have HBL : Hid (bl r ++ bl p = bl s) := hide (by rw [← hcat, bl_app])
  have hcat2 : (r.append p) = s := hcat
  unfold sv
  have H := fun w => decodeKana_more t.1 t.2.1 s w hk hsz
  obtain ⟨L, HL⟩ : ∃ L, Hid ((M.Run M.fk (t.1, t.2.1) (bl s)).1 = L) := ⟨_, hide rfl⟩
  obtain ⟨g, fr, HT⟩ : ∃ g fr, Hid ((M.Run M.fk (t.1, t.2.1) (bl s)).2.1 = (g, fr)) := ⟨_, _, hide rfl⟩
  rw [unhide HL, unhide HT] at H
  go_enter Tryz.func57, Tryz.ntmps57
  go_wp2_with fail
  refine (H _).mono ?_
  rintro e' w1 ⟨v, rr, rfl, hrr, hI, hb⟩
  have HRR := hide hrr
  clear hrr
  obtain ⟨av, cv, hsv⟩ := owns_shape hI
  subst hsv
  have HI : Hid (w1.ownsRow (w.heap.size + 3) 3 1 (.slice av L.length cv) L.length (L.map (Value.int .i64))) := hide (by simpa using hI)
  have HB : Hid (Below w.heap.size w w1) := hide (bstep (bstep (bstep (balloc _ _) (balloc _ _)) (balloc _ _)) hb)
  have h0 : Sc w.heap.size 6 r t w1 := Sc.below (w := (((w.alloc (.cells #[.int .i64 6, .string r, .int .i64 t.1, .bool t.2.1, .bool t.2.2] 23)).alloc (.cells #[.int .i64 0, .string ⟨#[]⟩, .int .i64 0, .bool false, .bool false] 23)).alloc (.cells #[.int .i64 0, .bool false] 144))) (by constructor <;> simp [go_sem]) hb (by simp; omega)
  have h1 : Rc (w.heap.size + 1) w1 := Rc.below (w := (((w.alloc (.cells #[.int .i64 6, .string r, .int .i64 t.1, .bool t.2.1, .bool t.2.2] 23)).alloc (.cells #[.int .i64 0, .string ⟨#[]⟩, .int .i64 0, .bool false, .bool false] 23)).alloc (.cells #[.int .i64 0, .bool false] 144))) (by constructor <;> simp [go_sem]) hb (by simp)
  have h2 : Pc (w.heap.size + 2) 0 false w1 := Pc.below (w := (((w.alloc (.cells #[.int .i64 6, .string r, .int .i64 t.1, .bool t.2.1, .bool t.2.2] 23)).alloc (.cells #[.int .i64 0, .string ⟨#[]⟩, .int .i64 0, .bool false, .bool false] 23)).alloc (.cells #[.int .i64 0, .bool false] 144))) (by constructor <;> simp [go_sem]) hb (by simp)
  have hl := h2.lt
  have hl1 : w.heap.size + 1 < w1.heap.size := by omega
  have hl0 : w.heap.size < w1.heap.size := by omega
  have H0 := hide h0
  have H1 := hide h1
  obtain ⟨a0, a1, a2, a3, a4, x0, x1, x2, x3, x4⟩ := h0
  obtain ⟨b0, b1, b2, b3, b4, y0, y1, y2, y3, y4⟩ := h1
  obtain ⟨p0, p1, q0, q1⟩ := h2
  clear hI hb H hcat hcat2
  go_wp2_with fail
  go_region
  all_goals
    go_wp2_with fail
    have hX0 : Sc w.heap.size 6 rr (g, fr, t.2.2) ((((((w1.setCell { block := w.heap.size + 1 + 1, off := 0 } (Value.int IntKind.i64 g)).setCell { block := w.heap.size + 1 + 1, off := 1 } (Value.bool fr)).setCell { block := w.heap.size, off := 2 } (Value.int IntKind.i64 g)).setCell { block := w.heap.size, off := 3 } (Value.bool fr)).setCell { block := w.heap.size, off := 1 } (Value.string rr)).drew) := ((((((unhide H0).far ⟨w.heap.size + 1 + 1, 0, none⟩ (.int .i64 g) (by first | (simp; done) | (simp; omega))).far ⟨w.heap.size + 1 + 1, 1, none⟩ (.bool fr) (by first | (simp; done) | (simp; omega))).set2 g).set3 fr).set1 rr).drew
    have hX1 : Rc (w.heap.size + 1) ((((((w1.setCell { block := w.heap.size + 1 + 1, off := 0 } (Value.int IntKind.i64 g)).setCell { block := w.heap.size + 1 + 1, off := 1 } (Value.bool fr)).setCell { block := w.heap.size, off := 2 } (Value.int IntKind.i64 g)).setCell { block := w.heap.size, off := 3 } (Value.bool fr)).setCell { block := w.heap.size, off := 1 } (Value.string rr)).drew) := (((((((unhide H1)).far ⟨w.heap.size + 1 + 1, 0, none⟩ _ (by first | (simp; done) | (simp; omega))).far ⟨w.heap.size + 1 + 1, 1, none⟩ _ (by first | (simp; done) | (simp; omega))).far ⟨w.heap.size, 2, none⟩ _ (by first | (simp; done) | (simp; omega))).far ⟨w.heap.size, 3, none⟩ _ (by first | (simp; done) | (simp; omega))).far ⟨w.heap.size, 1, none⟩ _ (by first | (simp; done) | (simp; omega))).drew
    have HX : Hid (((((((w1.setCell { block := w.heap.size + 1 + 1, off := 0 } (Value.int IntKind.i64 g)).setCell { block := w.heap.size + 1 + 1, off := 1 } (Value.bool fr)).setCell { block := w.heap.size, off := 2 } (Value.int IntKind.i64 g)).setCell { block := w.heap.size, off := 3 } (Value.bool fr)).setCell { block := w.heap.size, off := 1 } (Value.string rr)).drew).ownsRow (w.heap.size + 3) 3 1 (.slice av L.length cv) L.length (L.map (Value.int .i64))) := hide (o_drew (owns_set (owns_set (owns_set (owns_set (owns_set (unhide HI) ⟨w.heap.size + 1 + 1, 0, none⟩ (by first | (simp; done) | (simp; omega)) _) ⟨w.heap.size + 1 + 1, 1, none⟩ (by first | (simp; done) | (simp; omega)) _) ⟨w.heap.size, 2, none⟩ (by first | (simp; done) | (simp; omega)) _) ⟨w.heap.size, 3, none⟩ (by first | (simp; done) | (simp; omega)) _) ⟨w.heap.size, 1, none⟩ (by first | (simp; done) | (simp; omega)) _))
    have HY : Hid (Below w.heap.size w ((((((w1.setCell { block := w.heap.size + 1 + 1, off := 0 } (Value.int IntKind.i64 g)).setCell { block := w.heap.size + 1 + 1, off := 1 } (Value.bool fr)).setCell { block := w.heap.size, off := 2 } (Value.int IntKind.i64 g)).setCell { block := w.heap.size, off := 3 } (Value.bool fr)).setCell { block := w.heap.size, off := 1 } (Value.string rr)).drew)) := hide (b_drew (bset (bset (bset (bset (bset (unhide HB) ⟨w.heap.size + 1 + 1, 0, none⟩ _ (by first | (simp; done) | (simp; omega))) ⟨w.heap.size + 1 + 1, 1, none⟩ _ (by first | (simp; done) | (simp; omega))) ⟨w.heap.size, 2, none⟩ _ (by first | (simp; done) | (simp; omega))) ⟨w.heap.size, 3, none⟩ _ (by first | (simp; done) | (simp; omega))) ⟨w.heap.size, 1, none⟩ _ (by first | (simp; done) | (simp; omega))))
    clear a0 a1 a2 a3 a4 x0 x1 x2 x3 x4 b0 b1 b2 b3 b4 y0 y1 y2 y3 y4 p0 p1 q0 q1 hl0 hl1
    generalize (((((w1.setCell { block := w.heap.size + 1 + 1, off := 0 } (Value.int IntKind.i64 g)).setCell { block := w.heap.size + 1 + 1, off := 1 } (Value.bool fr)).setCell { block := w.heap.size, off := 2 } (Value.int IntKind.i64 g)).setCell { block := w.heap.size, off := 3 } (Value.bool fr)).setCell { block := w.heap.size, off := 1 } (Value.string rr)).drew = X at *
    have hlx := hX0.lt
    obtain ⟨a0, a1, a2, a3, a4, -, -, -, -, -⟩ := hX0
    obtain ⟨b0, b1, b2, b3, b4, y0, y1, y2, y3, y4⟩ := hX1
    have hly : w.heap.size + 1 < X.heap.size := World.block_lt_of_cell? X _ b0
    skip
    go_region
    all_goals
      go_wp2_with fail
      refine bodyPost_ret (v := .tuple #[.slice av L.length cv, .agg #[.int .i64 6, .string rr, .int .i64 (g, fr, t.2.2).1, .bool (g, fr, t.2.2).2.1, .bool (g, fr, t.2.2).2.2]]) (by simp [results, Tryz.results57, go_sem, b0, b1, b2, b3, b4]) rfl ?_
      refine ⟨.slice av L.length cv, rr, (g, fr, t.2.2), L, rfl, ?_, ?_, ?_, ?_⟩
      · exact owns_mono (o_drew (oset5 (e := 6) (r := rr) (t := (g, fr, t.2.2)) (unhide HX) (by omega))) (by omega)
      · exact b_drew (bset5 (e := 6) (r := rr) (t := (g, fr, t.2.2)) (unhide HY) (by omega))
      · intro _; rw [unhide HBL, M.RE_K, unhide HT]; exact ⟨(unhide HL).symm, unhide HRR, rfl⟩
      · intro h; cases h

set_option maxHeartbeats 3000000 in
set_option maxRecDepth 100000 in
theorem feedOf_6_last (r : ByteArray) (t : M.St) (p : ByteArray) (w : World) (hs : r.size + p.size ≤ 3300) (hk : M.Sg t.1) :
    Calls Tryz.prog 57 #[sv 6 r t, .string p, .bool true] w (FedR 6 r t p true w) := by
  obtain ⟨s, hcat⟩ : ∃ s, r ++ p = s := ⟨_, rfl⟩
  have hsz : s.size ≤ 3300 := by rw [← hcat, ByteArray.size_append]; exact hs
  have HBL : Hid (bl r ++ bl p = bl s) := hide (by rw [← hcat, bl_app])
  have hcat2 : (r.append p) = s := hcat
  unfold sv
  have H := fun w => decodeKana_last t.1 t.2.1 s w hk hsz
  obtain ⟨L, HL⟩ : ∃ L, Hid ((M.Tot M.gk (t.1, t.2.1) (bl s)).1 = L) := ⟨_, hide rfl⟩
  obtain ⟨g, fr, hT⟩ : ∃ g fr, (M.Tot M.gk (t.1, t.2.1) (bl s)).2 = (g, fr) := ⟨_, _, rfl⟩
  rw [unhide HL, hT] at H
  clear hT
  go_enter Tryz.func57, Tryz.ntmps57
  go_wp2_with fail
  refine (H _).mono ?_
  rintro e' w1 ⟨v, rfl, hI, hb⟩
  obtain ⟨av, cv, hsv⟩ := owns_shape hI
  subst hsv
  have HI : Hid (w1.ownsRow (w.heap.size + 3) 3 1 (.slice av L.length cv) L.length (L.map (Value.int .i64))) := hide (by simpa using hI)
  have HB : Hid (Below w.heap.size w w1) := hide (bstep (bstep (bstep (balloc _ _) (balloc _ _)) (balloc _ _)) hb)
  have h0 : Sc w.heap.size 6 r t w1 := Sc.below (w := (((w.alloc (.cells #[.int .i64 6, .string r, .int .i64 t.1, .bool t.2.1, .bool t.2.2] 23)).alloc (.cells #[.int .i64 0, .string ⟨#[]⟩, .int .i64 0, .bool false, .bool false] 23)).alloc (.cells #[.int .i64 0, .bool false] 144))) (by constructor <;> simp [go_sem]) hb (by simp; omega)
  have h1 : Rc (w.heap.size + 1) w1 := Rc.below (w := (((w.alloc (.cells #[.int .i64 6, .string r, .int .i64 t.1, .bool t.2.1, .bool t.2.2] 23)).alloc (.cells #[.int .i64 0, .string ⟨#[]⟩, .int .i64 0, .bool false, .bool false] 23)).alloc (.cells #[.int .i64 0, .bool false] 144))) (by constructor <;> simp [go_sem]) hb (by simp)
  have h2 : Pc (w.heap.size + 2) 0 false w1 := Pc.below (w := (((w.alloc (.cells #[.int .i64 6, .string r, .int .i64 t.1, .bool t.2.1, .bool t.2.2] 23)).alloc (.cells #[.int .i64 0, .string ⟨#[]⟩, .int .i64 0, .bool false, .bool false] 23)).alloc (.cells #[.int .i64 0, .bool false] 144))) (by constructor <;> simp [go_sem]) hb (by simp)
  have hl := h2.lt
  have hl1 : w.heap.size + 1 < w1.heap.size := by omega
  have hl0 : w.heap.size < w1.heap.size := by omega
  have H0 := hide h0
  have H1 := hide h1
  obtain ⟨a0, a1, a2, a3, a4, x0, x1, x2, x3, x4⟩ := h0
  obtain ⟨b0, b1, b2, b3, b4, y0, y1, y2, y3, y4⟩ := h1
  obtain ⟨p0, p1, q0, q1⟩ := h2
  clear hI hb H hcat hcat2
  go_wp2_with fail
  go_region
  all_goals
    go_wp2_with fail
    have hX0 : Sc w.heap.size 6 ⟨#[]⟩ M.st0 (((((((((((w1.setCell { block := w.heap.size + 1 + 1, off := 0 } (Value.int IntKind.i64 g)).setCell { block := w.heap.size + 1 + 1, off := 1 } (Value.bool fr)).setCell { block := w.heap.size, off := 2 } (Value.int IntKind.i64 g)).setCell { block := w.heap.size, off := 3 } (Value.bool fr)).setCell { block := w.heap.size, off := 1 } (Value.string { data := #[] })).setCell { block := w.heap.size, off := 0 } (Value.int IntKind.i64 6)).setCell { block := w.heap.size, off := 1 } (Value.string { data := #[] })).setCell { block := w.heap.size, off := 2 } (Value.int IntKind.i64 0)).setCell { block := w.heap.size, off := 3 } (Value.bool false)).setCell { block := w.heap.size, off := 4 } (Value.bool false)).drew) := (((((((unhide H0).far ⟨w.heap.size + 1 + 1, 0, none⟩ (.int .i64 g) (by first | (simp; done) | (simp; omega))).far ⟨w.heap.size + 1 + 1, 1, none⟩ (.bool fr) (by first | (simp; done) | (simp; omega))).set2 g).set3 fr).set1 ⟨#[]⟩).rc 6 ⟨#[]⟩ M.st0).drew
    have hX1 : Rc (w.heap.size + 1) (((((((((((w1.setCell { block := w.heap.size + 1 + 1, off := 0 } (Value.int IntKind.i64 g)).setCell { block := w.heap.size + 1 + 1, off := 1 } (Value.bool fr)).setCell { block := w.heap.size, off := 2 } (Value.int IntKind.i64 g)).setCell { block := w.heap.size, off := 3 } (Value.bool fr)).setCell { block := w.heap.size, off := 1 } (Value.string { data := #[] })).setCell { block := w.heap.size, off := 0 } (Value.int IntKind.i64 6)).setCell { block := w.heap.size, off := 1 } (Value.string { data := #[] })).setCell { block := w.heap.size, off := 2 } (Value.int IntKind.i64 0)).setCell { block := w.heap.size, off := 3 } (Value.bool false)).setCell { block := w.heap.size, off := 4 } (Value.bool false)).drew) := ((((((((((((unhide H1)).far ⟨w.heap.size + 1 + 1, 0, none⟩ _ (by first | (simp; done) | (simp; omega))).far ⟨w.heap.size + 1 + 1, 1, none⟩ _ (by first | (simp; done) | (simp; omega))).far ⟨w.heap.size, 2, none⟩ _ (by first | (simp; done) | (simp; omega))).far ⟨w.heap.size, 3, none⟩ _ (by first | (simp; done) | (simp; omega))).far ⟨w.heap.size, 1, none⟩ _ (by first | (simp; done) | (simp; omega))).far ⟨w.heap.size, 0, none⟩ _ (by first | (simp; done) | (simp; omega))).far ⟨w.heap.size, 1, none⟩ _ (by first | (simp; done) | (simp; omega))).far ⟨w.heap.size, 2, none⟩ _ (by first | (simp; done) | (simp; omega))).far ⟨w.heap.size, 3, none⟩ _ (by first | (simp; done) | (simp; omega))).far ⟨w.heap.size, 4, none⟩ _ (by first | (simp; done) | (simp; omega))).drew
    have HX : Hid ((((((((((((w1.setCell { block := w.heap.size + 1 + 1, off := 0 } (Value.int IntKind.i64 g)).setCell { block := w.heap.size + 1 + 1, off := 1 } (Value.bool fr)).setCell { block := w.heap.size, off := 2 } (Value.int IntKind.i64 g)).setCell { block := w.heap.size, off := 3 } (Value.bool fr)).setCell { block := w.heap.size, off := 1 } (Value.string { data := #[] })).setCell { block := w.heap.size, off := 0 } (Value.int IntKind.i64 6)).setCell { block := w.heap.size, off := 1 } (Value.string { data := #[] })).setCell { block := w.heap.size, off := 2 } (Value.int IntKind.i64 0)).setCell { block := w.heap.size, off := 3 } (Value.bool false)).setCell { block := w.heap.size, off := 4 } (Value.bool false)).drew).ownsRow (w.heap.size + 3) 3 1 (.slice av L.length cv) L.length (L.map (Value.int .i64))) := hide (o_drew (owns_set (owns_set (owns_set (owns_set (owns_set (owns_set (owns_set (owns_set (owns_set (owns_set (unhide HI) ⟨w.heap.size + 1 + 1, 0, none⟩ (by first | (simp; done) | (simp; omega)) _) ⟨w.heap.size + 1 + 1, 1, none⟩ (by first | (simp; done) | (simp; omega)) _) ⟨w.heap.size, 2, none⟩ (by first | (simp; done) | (simp; omega)) _) ⟨w.heap.size, 3, none⟩ (by first | (simp; done) | (simp; omega)) _) ⟨w.heap.size, 1, none⟩ (by first | (simp; done) | (simp; omega)) _) ⟨w.heap.size, 0, none⟩ (by first | (simp; done) | (simp; omega)) _) ⟨w.heap.size, 1, none⟩ (by first | (simp; done) | (simp; omega)) _) ⟨w.heap.size, 2, none⟩ (by first | (simp; done) | (simp; omega)) _) ⟨w.heap.size, 3, none⟩ (by first | (simp; done) | (simp; omega)) _) ⟨w.heap.size, 4, none⟩ (by first | (simp; done) | (simp; omega)) _))
    have HY : Hid (Below w.heap.size w (((((((((((w1.setCell { block := w.heap.size + 1 + 1, off := 0 } (Value.int IntKind.i64 g)).setCell { block := w.heap.size + 1 + 1, off := 1 } (Value.bool fr)).setCell { block := w.heap.size, off := 2 } (Value.int IntKind.i64 g)).setCell { block := w.heap.size, off := 3 } (Value.bool fr)).setCell { block := w.heap.size, off := 1 } (Value.string { data := #[] })).setCell { block := w.heap.size, off := 0 } (Value.int IntKind.i64 6)).setCell { block := w.heap.size, off := 1 } (Value.string { data := #[] })).setCell { block := w.heap.size, off := 2 } (Value.int IntKind.i64 0)).setCell { block := w.heap.size, off := 3 } (Value.bool false)).setCell { block := w.heap.size, off := 4 } (Value.bool false)).drew)) := hide (b_drew (bset (bset (bset (bset (bset (bset (bset (bset (bset (bset (unhide HB) ⟨w.heap.size + 1 + 1, 0, none⟩ _ (by first | (simp; done) | (simp; omega))) ⟨w.heap.size + 1 + 1, 1, none⟩ _ (by first | (simp; done) | (simp; omega))) ⟨w.heap.size, 2, none⟩ _ (by first | (simp; done) | (simp; omega))) ⟨w.heap.size, 3, none⟩ _ (by first | (simp; done) | (simp; omega))) ⟨w.heap.size, 1, none⟩ _ (by first | (simp; done) | (simp; omega))) ⟨w.heap.size, 0, none⟩ _ (by first | (simp; done) | (simp; omega))) ⟨w.heap.size, 1, none⟩ _ (by first | (simp; done) | (simp; omega))) ⟨w.heap.size, 2, none⟩ _ (by first | (simp; done) | (simp; omega))) ⟨w.heap.size, 3, none⟩ _ (by first | (simp; done) | (simp; omega))) ⟨w.heap.size, 4, none⟩ _ (by first | (simp; done) | (simp; omega))))
    clear a0 a1 a2 a3 a4 x0 x1 x2 x3 x4 b0 b1 b2 b3 b4 y0 y1 y2 y3 y4 p0 p1 q0 q1 hl0 hl1
    generalize ((((((((((w1.setCell { block := w.heap.size + 1 + 1, off := 0 } (Value.int IntKind.i64 g)).setCell { block := w.heap.size + 1 + 1, off := 1 } (Value.bool fr)).setCell { block := w.heap.size, off := 2 } (Value.int IntKind.i64 g)).setCell { block := w.heap.size, off := 3 } (Value.bool fr)).setCell { block := w.heap.size, off := 1 } (Value.string { data := #[] })).setCell { block := w.heap.size, off := 0 } (Value.int IntKind.i64 6)).setCell { block := w.heap.size, off := 1 } (Value.string { data := #[] })).setCell { block := w.heap.size, off := 2 } (Value.int IntKind.i64 0)).setCell { block := w.heap.size, off := 3 } (Value.bool false)).setCell { block := w.heap.size, off := 4 } (Value.bool false)).drew = X at *
    have hlx := hX0.lt
    obtain ⟨a0, a1, a2, a3, a4, -, -, -, -, -⟩ := hX0
    obtain ⟨b0, b1, b2, b3, b4, y0, y1, y2, y3, y4⟩ := hX1
    have hly : w.heap.size + 1 < X.heap.size := World.block_lt_of_cell? X _ b0
    unfold M.st0 at a2 a3 a4
    go_region
    all_goals
      go_wp2_with fail
      refine bodyPost_ret (v := .tuple #[.slice av L.length cv, .agg #[.int .i64 6, .string ⟨#[]⟩, .int .i64 M.st0.1, .bool M.st0.2.1, .bool M.st0.2.2]]) (by simp [results, Tryz.results57, go_sem, b0, b1, b2, b3, b4, M.st0]) rfl ?_
      refine ⟨.slice av L.length cv, ⟨#[]⟩, M.st0, L, rfl, ?_, ?_, ?_, ?_⟩
      · exact owns_mono (o_drew (oset5 (e := 6) (r := ⟨#[]⟩) (t := M.st0) (unhide HX) (by omega))) (by omega)
      · exact b_drew (bset5 (e := 6) (r := ⟨#[]⟩) (t := M.st0) (unhide HY) (by omega))
      · intro h; cases h
      · intro _; refine ⟨?_, rfl, rfl⟩; rw [unhide HBL, M.TE_K]; exact (unhide HL).symm

set_option maxHeartbeats 3000000 in
set_option maxRecDepth 100000 in
theorem feedOf_7_none_more (r : ByteArray) (g : Int) (fr st : Bool) (p : ByteArray) (w : World) (hs : r.size + p.size ≤ 3300) (h0 : (r ++ p).size = 0) :
    Calls Tryz.prog 57 #[sv 7 r (g, fr, st), .string p, .bool false] w (FedR 7 r (g, fr, st) p false w) := by
  obtain ⟨s, hcat⟩ : ∃ s, r ++ p = s := ⟨_, rfl⟩
  have hsz : s.size ≤ 3300 := by rw [← hcat, ByteArray.size_append]; exact hs
  have HBL : Hid (bl r ++ bl p = bl s) := hide (by rw [← hcat, bl_app])
  have hcat2 : (r.append p) = s := hcat
  unfold sv
  rw [hcat] at h0
  have he : s.toList.isEmpty = true := by rw [isEmpty_size]; simp [h0]
  go_enter Tryz.func57, Tryz.ntmps57
  go_wp2_with fail
  have hX0 : Sc w.heap.size 7 ⟨#[]⟩ (g, fr, st) ((w.alloc (.cells #[.int .i64 7, .string ⟨#[]⟩, .int .i64 g, .bool fr, .bool st] 23)).alloc (.cells #[.int .i64 0, .string ⟨#[]⟩, .int .i64 0, .bool false, .bool false] 23)) := by constructor <;> simp [go_sem]
  have hX1 : Rc (w.heap.size + 1) ((w.alloc (.cells #[.int .i64 7, .string ⟨#[]⟩, .int .i64 g, .bool fr, .bool st] 23)).alloc (.cells #[.int .i64 0, .string ⟨#[]⟩, .int .i64 0, .bool false, .bool false] 23)) := by constructor <;> simp [go_sem]
  have HX : Hid (((w.alloc (.cells #[.int .i64 7, .string ⟨#[]⟩, .int .i64 g, .bool fr, .bool st] 23)).alloc (.cells #[.int .i64 0, .string ⟨#[]⟩, .int .i64 0, .bool false, .bool false] 23)).ownsRow (w.heap.size + 2) 3 1 (.slice none 0 0) ([] : List Int).length (([] : List Int).map (Value.int .i64))) := hide (World.ownsRow_nil _ _ _ _)
  have HY : Hid (Below w.heap.size w ((w.alloc (.cells #[.int .i64 7, .string ⟨#[]⟩, .int .i64 g, .bool fr, .bool st] 23)).alloc (.cells #[.int .i64 0, .string ⟨#[]⟩, .int .i64 0, .bool false, .bool false] 23))) := hide (bstep (balloc _ _) (balloc _ _))
  generalize (w.alloc (.cells #[.int .i64 7, .string ⟨#[]⟩, .int .i64 g, .bool fr, .bool st] 23)).alloc (.cells #[.int .i64 0, .string ⟨#[]⟩, .int .i64 0, .bool false, .bool false] 23) = X at *
  have hlx := hX0.lt
  obtain ⟨a0, a1, a2, a3, a4, -, -, -, -, -⟩ := hX0
  obtain ⟨b0, b1, b2, b3, b4, y0, y1, y2, y3, y4⟩ := hX1
  have hly : w.heap.size + 1 < X.heap.size := World.block_lt_of_cell? X _ b0
  skip
  go_region
  all_goals
    go_wp2_with fail
    refine bodyPost_ret (v := .tuple #[.slice none 0 0, .agg #[.int .i64 7, .string ⟨#[]⟩, .int .i64 (g, fr, st).1, .bool (g, fr, st).2.1, .bool (g, fr, st).2.2]]) (by simp [results, Tryz.results57, go_sem, b0, b1, b2, b3, b4]) rfl ?_
    refine ⟨.slice none 0 0, ⟨#[]⟩, (g, fr, st), [], rfl, ?_, ?_, ?_, ?_⟩
    · exact owns_mono (o_drew (oset5 (e := 7) (r := ⟨#[]⟩) (t := (g, fr, st)) (unhide HX) (by omega))) (by omega)
    · exact b_drew (bset5 (e := 7) (r := ⟨#[]⟩) (t := (g, fr, st)) (unhide HY) (by omega))
    · intro _; rw [unhide HBL, M.RE_X]; have e0 : (bl s).isEmpty = true := (by rw [bl_nil h0]; rfl); refine ⟨by simp [e0], rfl, by simp [e0]⟩
    · intro h; cases h

set_option maxHeartbeats 3000000 in
set_option maxRecDepth 100000 in
theorem feedOf_7_stop_more (r : ByteArray) (g : Int) (fr : Bool) (p : ByteArray) (w : World) (hs : r.size + p.size ≤ 3300) (h0 : (r ++ p).size ≠ 0) :
    Calls Tryz.prog 57 #[sv 7 r (g, fr, true), .string p, .bool false] w (FedR 7 r (g, fr, true) p false w) := by
  obtain ⟨s, hcat⟩ : ∃ s, r ++ p = s := ⟨_, rfl⟩
  have hsz : s.size ≤ 3300 := by rw [← hcat, ByteArray.size_append]; exact hs
  have HBL : Hid (bl r ++ bl p = bl s) := hide (by rw [← hcat, bl_app])
  have hcat2 : (r.append p) = s := hcat
  unfold sv
  rw [hcat] at h0
  have he : s.toList.isEmpty = false := by rw [isEmpty_size]; simp [h0]
  go_enter Tryz.func57, Tryz.ntmps57
  go_wp2_with fail
  have hX0 : Sc w.heap.size 7 ⟨#[]⟩ (g, fr, true) ((w.alloc (.cells #[.int .i64 7, .string ⟨#[]⟩, .int .i64 g, .bool fr, .bool true] 23)).alloc (.cells #[.int .i64 0, .string ⟨#[]⟩, .int .i64 0, .bool false, .bool false] 23)) := by constructor <;> simp [go_sem]
  have hX1 : Rc (w.heap.size + 1) ((w.alloc (.cells #[.int .i64 7, .string ⟨#[]⟩, .int .i64 g, .bool fr, .bool true] 23)).alloc (.cells #[.int .i64 0, .string ⟨#[]⟩, .int .i64 0, .bool false, .bool false] 23)) := by constructor <;> simp [go_sem]
  have HX : Hid (((w.alloc (.cells #[.int .i64 7, .string ⟨#[]⟩, .int .i64 g, .bool fr, .bool true] 23)).alloc (.cells #[.int .i64 0, .string ⟨#[]⟩, .int .i64 0, .bool false, .bool false] 23)).ownsRow (w.heap.size + 2) 3 1 (.slice none 0 0) ([] : List Int).length (([] : List Int).map (Value.int .i64))) := hide (World.ownsRow_nil _ _ _ _)
  have HY : Hid (Below w.heap.size w ((w.alloc (.cells #[.int .i64 7, .string ⟨#[]⟩, .int .i64 g, .bool fr, .bool true] 23)).alloc (.cells #[.int .i64 0, .string ⟨#[]⟩, .int .i64 0, .bool false, .bool false] 23))) := hide (bstep (balloc _ _) (balloc _ _))
  generalize (w.alloc (.cells #[.int .i64 7, .string ⟨#[]⟩, .int .i64 g, .bool fr, .bool true] 23)).alloc (.cells #[.int .i64 0, .string ⟨#[]⟩, .int .i64 0, .bool false, .bool false] 23) = X at *
  have hlx := hX0.lt
  obtain ⟨a0, a1, a2, a3, a4, -, -, -, -, -⟩ := hX0
  obtain ⟨b0, b1, b2, b3, b4, y0, y1, y2, y3, y4⟩ := hX1
  have hly : w.heap.size + 1 < X.heap.size := World.block_lt_of_cell? X _ b0
  skip
  go_region
  all_goals
    go_wp2_with fail
    refine bodyPost_ret (v := .tuple #[.slice none 0 0, .agg #[.int .i64 7, .string ⟨#[]⟩, .int .i64 (g, fr, true).1, .bool (g, fr, true).2.1, .bool (g, fr, true).2.2]]) (by simp [results, Tryz.results57, go_sem, b0, b1, b2, b3, b4]) rfl ?_
    refine ⟨.slice none 0 0, ⟨#[]⟩, (g, fr, true), [], rfl, ?_, ?_, ?_, ?_⟩
    · exact owns_mono (o_drew (oset5 (e := 7) (r := ⟨#[]⟩) (t := (g, fr, true)) (unhide HX) (by omega))) (by omega)
    · exact b_drew (bset5 (e := 7) (r := ⟨#[]⟩) (t := (g, fr, true)) (unhide HY) (by omega))
    · intro _; rw [unhide HBL, M.RE_X]; skip; refine ⟨by simp, rfl, by simp⟩
    · intro h; cases h

set_option maxHeartbeats 3000000 in
set_option maxRecDepth 100000 in
theorem feedOf_7_told_more (r : ByteArray) (g : Int) (fr : Bool) (p : ByteArray) (w : World) (hs : r.size + p.size ≤ 3300) (h0 : (r ++ p).size ≠ 0) :
    Calls Tryz.prog 57 #[sv 7 r (g, fr, false), .string p, .bool false] w (FedR 7 r (g, fr, false) p false w) := by
  obtain ⟨s, hcat⟩ : ∃ s, r ++ p = s := ⟨_, rfl⟩
  have hsz : s.size ≤ 3300 := by rw [← hcat, ByteArray.size_append]; exact hs
  have HBL : Hid (bl r ++ bl p = bl s) := hide (by rw [← hcat, bl_app])
  have hcat2 : (r.append p) = s := hcat
  unfold sv
  rw [hcat] at h0
  have he : s.toList.isEmpty = false := by rw [isEmpty_size]; simp [h0]
  go_enter Tryz.func57, Tryz.ntmps57
  go_wp2_with fail
  have hX0 : Sc w.heap.size 7 ⟨#[]⟩ (g, fr, true) (((w.alloc (.cells #[.int .i64 7, .string ⟨#[]⟩, .int .i64 g, .bool fr, .bool true] 23)).alloc (.cells #[.int .i64 0, .string ⟨#[]⟩, .int .i64 0, .bool false, .bool false] 23)).alloc (.cells #[.int .i64 65533] 3)) := by constructor <;> simp [go_sem]
  have hX1 : Rc (w.heap.size + 1) (((w.alloc (.cells #[.int .i64 7, .string ⟨#[]⟩, .int .i64 g, .bool fr, .bool true] 23)).alloc (.cells #[.int .i64 0, .string ⟨#[]⟩, .int .i64 0, .bool false, .bool false] 23)).alloc (.cells #[.int .i64 65533] 3)) := by constructor <;> simp [go_sem]
  have HX : Hid ((((w.alloc (.cells #[.int .i64 7, .string ⟨#[]⟩, .int .i64 g, .bool fr, .bool true] 23)).alloc (.cells #[.int .i64 0, .string ⟨#[]⟩, .int .i64 0, .bool false, .bool false] 23)).alloc (.cells #[.int .i64 65533] 3)).ownsRow (w.heap.size + 2) 3 1 (.slice (some ⟨w.heap.size + 1 + 1, 0, none⟩) 1 1) ([65533] : List Int).length (([65533] : List Int).map (Value.int .i64))) := hide (by have h := World.ownsRow_lit (base := w.heap.size + 2) (e := 3) (size := 1) ((w.alloc (.cells #[.int .i64 7, .string ⟨#[]⟩, .int .i64 g, .bool fr, .bool true] 23)).alloc (.cells #[.int .i64 0, .string ⟨#[]⟩, .int .i64 0, .bool false, .bool false] 23)) #[.int .i64 65533] 1 (by simp) (by simp [maxLen]) rfl; simpa using h)
  have HY : Hid (Below w.heap.size w (((w.alloc (.cells #[.int .i64 7, .string ⟨#[]⟩, .int .i64 g, .bool fr, .bool true] 23)).alloc (.cells #[.int .i64 0, .string ⟨#[]⟩, .int .i64 0, .bool false, .bool false] 23)).alloc (.cells #[.int .i64 65533] 3))) := hide (bstep (bstep (balloc _ _) (balloc _ _)) (balloc _ _))
  generalize ((w.alloc (.cells #[.int .i64 7, .string ⟨#[]⟩, .int .i64 g, .bool fr, .bool true] 23)).alloc (.cells #[.int .i64 0, .string ⟨#[]⟩, .int .i64 0, .bool false, .bool false] 23)).alloc (.cells #[.int .i64 65533] 3) = X at *
  have hlx := hX0.lt
  obtain ⟨a0, a1, a2, a3, a4, -, -, -, -, -⟩ := hX0
  obtain ⟨b0, b1, b2, b3, b4, y0, y1, y2, y3, y4⟩ := hX1
  have hly : w.heap.size + 1 < X.heap.size := World.block_lt_of_cell? X _ b0
  skip
  go_region
  all_goals
    go_wp2_with fail
    refine bodyPost_ret (v := .tuple #[.slice (some ⟨w.heap.size + 1 + 1, 0, none⟩) 1 1, .agg #[.int .i64 7, .string ⟨#[]⟩, .int .i64 (g, fr, true).1, .bool (g, fr, true).2.1, .bool (g, fr, true).2.2]]) (by simp [results, Tryz.results57, go_sem, b0, b1, b2, b3, b4]) rfl ?_
    refine ⟨.slice (some ⟨w.heap.size + 1 + 1, 0, none⟩) 1 1, ⟨#[]⟩, (g, fr, true), [65533], rfl, ?_, ?_, ?_, ?_⟩
    · exact owns_mono (o_drew (oset5 (e := 7) (r := ⟨#[]⟩) (t := (g, fr, true)) (unhide HX) (by omega))) (by omega)
    · exact b_drew (bset5 (e := 7) (r := ⟨#[]⟩) (t := (g, fr, true)) (unhide HY) (by omega))
    · intro _; rw [unhide HBL, M.RE_X]; have e0 : (bl s).isEmpty = false := (by rw [List.isEmpty_eq_false_iff]; exact fun q => h0 (by rw [← bl_len, q]; rfl)); refine ⟨by simp [e0], rfl, by simp [e0]⟩
    · intro h; cases h

set_option maxHeartbeats 3000000 in
set_option maxRecDepth 100000 in
theorem feedOf_7_none_last (r : ByteArray) (g : Int) (fr st : Bool) (p : ByteArray) (w : World) (hs : r.size + p.size ≤ 3300) (h0 : (r ++ p).size = 0) :
    Calls Tryz.prog 57 #[sv 7 r (g, fr, st), .string p, .bool true] w (FedR 7 r (g, fr, st) p true w) := by
  obtain ⟨s, hcat⟩ : ∃ s, r ++ p = s := ⟨_, rfl⟩
  have hsz : s.size ≤ 3300 := by rw [← hcat, ByteArray.size_append]; exact hs
  have HBL : Hid (bl r ++ bl p = bl s) := hide (by rw [← hcat, bl_app])
  have hcat2 : (r.append p) = s := hcat
  unfold sv
  rw [hcat] at h0
  have he : s.toList.isEmpty = true := by rw [isEmpty_size]; simp [h0]
  go_enter Tryz.func57, Tryz.ntmps57
  go_wp2_with fail
  have hX0 : Sc w.heap.size 7 ⟨#[]⟩ M.st0 ((w.alloc (.cells #[.int .i64 7, .string ⟨#[]⟩, .int .i64 0, .bool false, .bool false] 23)).alloc (.cells #[.int .i64 0, .string ⟨#[]⟩, .int .i64 0, .bool false, .bool false] 23)) := by constructor <;> simp [go_sem, M.st0]
  have hX1 : Rc (w.heap.size + 1) ((w.alloc (.cells #[.int .i64 7, .string ⟨#[]⟩, .int .i64 0, .bool false, .bool false] 23)).alloc (.cells #[.int .i64 0, .string ⟨#[]⟩, .int .i64 0, .bool false, .bool false] 23)) := by constructor <;> simp [go_sem]
  have HX : Hid (((w.alloc (.cells #[.int .i64 7, .string ⟨#[]⟩, .int .i64 0, .bool false, .bool false] 23)).alloc (.cells #[.int .i64 0, .string ⟨#[]⟩, .int .i64 0, .bool false, .bool false] 23)).ownsRow (w.heap.size + 2) 3 1 (.slice none 0 0) ([] : List Int).length (([] : List Int).map (Value.int .i64))) := hide (World.ownsRow_nil _ _ _ _)
  have HY : Hid (Below w.heap.size w ((w.alloc (.cells #[.int .i64 7, .string ⟨#[]⟩, .int .i64 0, .bool false, .bool false] 23)).alloc (.cells #[.int .i64 0, .string ⟨#[]⟩, .int .i64 0, .bool false, .bool false] 23))) := hide (bstep (balloc _ _) (balloc _ _))
  generalize (w.alloc (.cells #[.int .i64 7, .string ⟨#[]⟩, .int .i64 0, .bool false, .bool false] 23)).alloc (.cells #[.int .i64 0, .string ⟨#[]⟩, .int .i64 0, .bool false, .bool false] 23) = X at *
  have hlx := hX0.lt
  obtain ⟨a0, a1, a2, a3, a4, -, -, -, -, -⟩ := hX0
  obtain ⟨b0, b1, b2, b3, b4, y0, y1, y2, y3, y4⟩ := hX1
  have hly : w.heap.size + 1 < X.heap.size := World.block_lt_of_cell? X _ b0
  unfold M.st0 at a2 a3 a4
  go_region
  all_goals
    go_wp2_with fail
    refine bodyPost_ret (v := .tuple #[.slice none 0 0, .agg #[.int .i64 7, .string ⟨#[]⟩, .int .i64 M.st0.1, .bool M.st0.2.1, .bool M.st0.2.2]]) (by simp [results, Tryz.results57, go_sem, b0, b1, b2, b3, b4, M.st0]) rfl ?_
    refine ⟨.slice none 0 0, ⟨#[]⟩, M.st0, [], rfl, ?_, ?_, ?_, ?_⟩
    · exact owns_mono (o_drew (oset5 (e := 7) (r := ⟨#[]⟩) (t := M.st0) (unhide HX) (by omega))) (by omega)
    · exact b_drew (bset5 (e := 7) (r := ⟨#[]⟩) (t := M.st0) (unhide HY) (by omega))
    · intro h; cases h
    · intro _; refine ⟨?_, rfl, rfl⟩; rw [unhide HBL, M.TE_X]; have e0 : (bl s).isEmpty = true := (by rw [bl_nil h0]; rfl); simp [e0]

set_option maxHeartbeats 3000000 in
set_option maxRecDepth 100000 in
theorem feedOf_7_stop_last (r : ByteArray) (g : Int) (fr : Bool) (p : ByteArray) (w : World) (hs : r.size + p.size ≤ 3300) (h0 : (r ++ p).size ≠ 0) :
    Calls Tryz.prog 57 #[sv 7 r (g, fr, true), .string p, .bool true] w (FedR 7 r (g, fr, true) p true w) := by
  obtain ⟨s, hcat⟩ : ∃ s, r ++ p = s := ⟨_, rfl⟩
  have hsz : s.size ≤ 3300 := by rw [← hcat, ByteArray.size_append]; exact hs
  have HBL : Hid (bl r ++ bl p = bl s) := hide (by rw [← hcat, bl_app])
  have hcat2 : (r.append p) = s := hcat
  unfold sv
  rw [hcat] at h0
  have he : s.toList.isEmpty = false := by rw [isEmpty_size]; simp [h0]
  go_enter Tryz.func57, Tryz.ntmps57
  go_wp2_with fail
  have hX0 : Sc w.heap.size 7 ⟨#[]⟩ M.st0 ((w.alloc (.cells #[.int .i64 7, .string ⟨#[]⟩, .int .i64 0, .bool false, .bool false] 23)).alloc (.cells #[.int .i64 0, .string ⟨#[]⟩, .int .i64 0, .bool false, .bool false] 23)) := by constructor <;> simp [go_sem, M.st0]
  have hX1 : Rc (w.heap.size + 1) ((w.alloc (.cells #[.int .i64 7, .string ⟨#[]⟩, .int .i64 0, .bool false, .bool false] 23)).alloc (.cells #[.int .i64 0, .string ⟨#[]⟩, .int .i64 0, .bool false, .bool false] 23)) := by constructor <;> simp [go_sem]
  have HX : Hid (((w.alloc (.cells #[.int .i64 7, .string ⟨#[]⟩, .int .i64 0, .bool false, .bool false] 23)).alloc (.cells #[.int .i64 0, .string ⟨#[]⟩, .int .i64 0, .bool false, .bool false] 23)).ownsRow (w.heap.size + 2) 3 1 (.slice none 0 0) ([] : List Int).length (([] : List Int).map (Value.int .i64))) := hide (World.ownsRow_nil _ _ _ _)
  have HY : Hid (Below w.heap.size w ((w.alloc (.cells #[.int .i64 7, .string ⟨#[]⟩, .int .i64 0, .bool false, .bool false] 23)).alloc (.cells #[.int .i64 0, .string ⟨#[]⟩, .int .i64 0, .bool false, .bool false] 23))) := hide (bstep (balloc _ _) (balloc _ _))
  generalize (w.alloc (.cells #[.int .i64 7, .string ⟨#[]⟩, .int .i64 0, .bool false, .bool false] 23)).alloc (.cells #[.int .i64 0, .string ⟨#[]⟩, .int .i64 0, .bool false, .bool false] 23) = X at *
  have hlx := hX0.lt
  obtain ⟨a0, a1, a2, a3, a4, -, -, -, -, -⟩ := hX0
  obtain ⟨b0, b1, b2, b3, b4, y0, y1, y2, y3, y4⟩ := hX1
  have hly : w.heap.size + 1 < X.heap.size := World.block_lt_of_cell? X _ b0
  unfold M.st0 at a2 a3 a4
  go_region
  all_goals
    go_wp2_with fail
    refine bodyPost_ret (v := .tuple #[.slice none 0 0, .agg #[.int .i64 7, .string ⟨#[]⟩, .int .i64 M.st0.1, .bool M.st0.2.1, .bool M.st0.2.2]]) (by simp [results, Tryz.results57, go_sem, b0, b1, b2, b3, b4, M.st0]) rfl ?_
    refine ⟨.slice none 0 0, ⟨#[]⟩, M.st0, [], rfl, ?_, ?_, ?_, ?_⟩
    · exact owns_mono (o_drew (oset5 (e := 7) (r := ⟨#[]⟩) (t := M.st0) (unhide HX) (by omega))) (by omega)
    · exact b_drew (bset5 (e := 7) (r := ⟨#[]⟩) (t := M.st0) (unhide HY) (by omega))
    · intro h; cases h
    · intro _; refine ⟨?_, rfl, rfl⟩; rw [unhide HBL, M.TE_X]; skip; simp

set_option maxHeartbeats 3000000 in
set_option maxRecDepth 100000 in
theorem feedOf_7_told_last (r : ByteArray) (g : Int) (fr : Bool) (p : ByteArray) (w : World) (hs : r.size + p.size ≤ 3300) (h0 : (r ++ p).size ≠ 0) :
    Calls Tryz.prog 57 #[sv 7 r (g, fr, false), .string p, .bool true] w (FedR 7 r (g, fr, false) p true w) := by
  obtain ⟨s, hcat⟩ : ∃ s, r ++ p = s := ⟨_, rfl⟩
  have hsz : s.size ≤ 3300 := by rw [← hcat, ByteArray.size_append]; exact hs
  have HBL : Hid (bl r ++ bl p = bl s) := hide (by rw [← hcat, bl_app])
  have hcat2 : (r.append p) = s := hcat
  unfold sv
  rw [hcat] at h0
  have he : s.toList.isEmpty = false := by rw [isEmpty_size]; simp [h0]
  go_enter Tryz.func57, Tryz.ntmps57
  go_wp2_with fail
  have hX0 : Sc w.heap.size 7 ⟨#[]⟩ M.st0 (((w.alloc (.cells #[.int .i64 7, .string ⟨#[]⟩, .int .i64 0, .bool false, .bool false] 23)).alloc (.cells #[.int .i64 0, .string ⟨#[]⟩, .int .i64 0, .bool false, .bool false] 23)).alloc (.cells #[.int .i64 65533] 3)) := by constructor <;> simp [go_sem, M.st0]
  have hX1 : Rc (w.heap.size + 1) (((w.alloc (.cells #[.int .i64 7, .string ⟨#[]⟩, .int .i64 0, .bool false, .bool false] 23)).alloc (.cells #[.int .i64 0, .string ⟨#[]⟩, .int .i64 0, .bool false, .bool false] 23)).alloc (.cells #[.int .i64 65533] 3)) := by constructor <;> simp [go_sem]
  have HX : Hid ((((w.alloc (.cells #[.int .i64 7, .string ⟨#[]⟩, .int .i64 0, .bool false, .bool false] 23)).alloc (.cells #[.int .i64 0, .string ⟨#[]⟩, .int .i64 0, .bool false, .bool false] 23)).alloc (.cells #[.int .i64 65533] 3)).ownsRow (w.heap.size + 2) 3 1 (.slice (some ⟨w.heap.size + 1 + 1, 0, none⟩) 1 1) ([65533] : List Int).length (([65533] : List Int).map (Value.int .i64))) := hide (by have h := World.ownsRow_lit (base := w.heap.size + 2) (e := 3) (size := 1) ((w.alloc (.cells #[.int .i64 7, .string ⟨#[]⟩, .int .i64 0, .bool false, .bool false] 23)).alloc (.cells #[.int .i64 0, .string ⟨#[]⟩, .int .i64 0, .bool false, .bool false] 23)) #[.int .i64 65533] 1 (by simp) (by simp [maxLen]) rfl; simpa using h)
  have HY : Hid (Below w.heap.size w (((w.alloc (.cells #[.int .i64 7, .string ⟨#[]⟩, .int .i64 0, .bool false, .bool false] 23)).alloc (.cells #[.int .i64 0, .string ⟨#[]⟩, .int .i64 0, .bool false, .bool false] 23)).alloc (.cells #[.int .i64 65533] 3))) := hide (bstep (bstep (balloc _ _) (balloc _ _)) (balloc _ _))
  generalize ((w.alloc (.cells #[.int .i64 7, .string ⟨#[]⟩, .int .i64 0, .bool false, .bool false] 23)).alloc (.cells #[.int .i64 0, .string ⟨#[]⟩, .int .i64 0, .bool false, .bool false] 23)).alloc (.cells #[.int .i64 65533] 3) = X at *
  have hlx := hX0.lt
  obtain ⟨a0, a1, a2, a3, a4, -, -, -, -, -⟩ := hX0
  obtain ⟨b0, b1, b2, b3, b4, y0, y1, y2, y3, y4⟩ := hX1
  have hly : w.heap.size + 1 < X.heap.size := World.block_lt_of_cell? X _ b0
  unfold M.st0 at a2 a3 a4
  go_region
  all_goals
    go_wp2_with fail
    refine bodyPost_ret (v := .tuple #[.slice (some ⟨w.heap.size + 1 + 1, 0, none⟩) 1 1, .agg #[.int .i64 7, .string ⟨#[]⟩, .int .i64 M.st0.1, .bool M.st0.2.1, .bool M.st0.2.2]]) (by simp [results, Tryz.results57, go_sem, b0, b1, b2, b3, b4, M.st0]) rfl ?_
    refine ⟨.slice (some ⟨w.heap.size + 1 + 1, 0, none⟩) 1 1, ⟨#[]⟩, M.st0, [65533], rfl, ?_, ?_, ?_, ?_⟩
    · exact owns_mono (o_drew (oset5 (e := 7) (r := ⟨#[]⟩) (t := M.st0) (unhide HX) (by omega))) (by omega)
    · exact b_drew (bset5 (e := 7) (r := ⟨#[]⟩) (t := M.st0) (unhide HY) (by omega))
    · intro h; cases h
    · intro _; refine ⟨?_, rfl, rfl⟩; rw [unhide HBL, M.TE_X]; have e0 : (bl s).isEmpty = false := (by rw [List.isEmpty_eq_false_iff]; exact fun q => h0 (by rw [← bl_len, q]; rfl)); simp [e0]

theorem feedOf_any (e : Int) (r : ByteArray) (t : M.St) (p : ByteArray) (last : Bool) (w : World) (he : 1 ≤ e ∧ e ≤ 7) (hk : M.Ok e t) (hs : r.size + p.size ≤ 3300) :
    Calls Tryz.prog 57 #[sv e r t, .string p, .bool last] w (FedR e r t p last w) := by
  obtain rfl | rfl | rfl | rfl | rfl | rfl | rfl := M.seven he
  · cases last
    · exact feedOf_1_more r t p w hs
    · exact feedOf_1_last r t p w hs
  · cases last
    · exact feedOf_2_more r t p w hs
    · exact feedOf_2_last r t p w hs
  · cases last
    · exact feedOf_3_more r t p w hs
    · exact feedOf_3_last r t p w hs
  · cases last
    · exact feedOf_4_more r t p w hs
    · exact feedOf_4_last r t p w hs
  · cases last
    · exact feedOf_5_more r t p w hs
    · exact feedOf_5_last r t p w hs
  · cases last
    · exact feedOf_6_more r t p w hs hk.1
    · exact feedOf_6_last r t p w hs hk.1
  · obtain ⟨g, fr, st⟩ := t
    by_cases h0 : (r ++ p).size = 0
    · cases last
      · exact feedOf_7_none_more r g fr st p w hs h0
      · exact feedOf_7_none_last r g fr st p w hs h0
    · cases st
      · cases last
        · exact feedOf_7_told_more r g fr p w hs h0
        · exact feedOf_7_told_last r g fr p w hs h0
      · cases last
        · exact feedOf_7_stop_more r g fr p w hs h0
        · exact feedOf_7_stop_last r g fr p w hs h0

set_option maxHeartbeats 800000 in
set_option maxRecDepth 100000 in
theorem decodeOf_any (e : Int) (s : ByteArray) (w : World) (he : 1 ≤ e ∧ e ≤ 7) (hs : s.size ≤ 3000) :
    Calls Tryz.prog 81 #[.int .i64 e, .string s] w fun e' w' => ∃ v, e' = .returned v ∧ w'.ownsRow w.heap.size 3 1 v (M.decE e (bl s)).length ((M.decE e (bl s)).map (Value.int .i64)) ∧ Below w.heap.size w w' := by
  have H : ∀ w : World, Calls Tryz.prog 57 #[.agg #[.int .i64 e, .string ⟨#[]⟩, .int .i64 0, .bool false, .bool false], .string s, .bool true] w fun e' w' => ∃ v, e' = .returned (.tuple #[v, .agg #[.int .i64 e, .string ⟨#[]⟩, .int .i64 0, .bool false, .bool false]]) ∧ w'.ownsRow w.heap.size 3 1 v (M.decE e (bl s)).length ((M.decE e (bl s)).map (Value.int .i64)) ∧ Below w.heap.size w w' := by
    intro w
    refine (feedOf_any e ⟨#[]⟩ M.st0 s true w he (M.Ok_st0 e) (by show 0 + s.size ≤ 3300; omega)).mono ?_
    rintro e' w1 ⟨v, r', t', L, rfl, hI, hb, -, h2⟩
    obtain ⟨hL, rfl, rfl⟩ := h2 rfl
    have hL' : L = M.decE e (bl s) := hL
    subst hL'
    exact ⟨v, rfl, hI, hb⟩
  generalize M.decE e (bl s) = L at *
  go_enter Tryz.func81, Tryz.ntmps81
  go_wp2_with fail
  refine (H _).mono ?_
  rintro e w1 ⟨v, rfl, hI, hb⟩
  obtain ⟨av, cv, hsv⟩ := owns_shape hI
  subst hsv
  have HI := hide hI
  have HB := hide hb
  clear hI hb H
  go_wp2_with fail
  go_ret
  exact ⟨_, rfl, owns_a (unhide HI) _, bstep (unhide HB) (balloc _ _)⟩
end Go.Proofs.YtaiinjfnkmidbaaGreatDoor

namespace Go.Proofs.YtaiinjfnkmidbaaGreatDoor
open Go.RowKit
set_option linter.unusedVariables false

set_option maxHeartbeats 800000 in
set_option maxRecDepth 100000 in
theorem chooseOf_any (name s : ByteArray) (w : World) (hn : name.size ≤ 3000) (hs : s.size ≤ 3300) :
    Calls Tryz.prog 17 #[.string name, .string s] w fun e w' => e = .returned (.tuple #[.int .i64 (chI name (bl s)).1, .int .i64 (chI name (bl s)).2.1, .int .i64 (chI name (bl s)).2.2]) ∧ Below w.heap.size w w' := by
  have HS := hide (fun w => sniffOf_any s w (by unfold maxLen; omega))
  have HF := hide (fun w => findOf_any name w hn)
  have HC := hide (fun w => scanOf_any s w (by omega))
  have R1 := hide (fun h => chI_mark (name := name) (l := bl s) h)
  have R2 := hide (fun h h1 => chI_label (name := name) (l := bl s) h h1)
  have R3 := hide (fun h h1 h2 => chI_meta (name := name) (l := bl s) h h1 h2)
  have R4 := hide (fun h h1 h2 => chI_none (name := name) (l := bl s) h h1 h2)
  generalize (M.sn (bl s)).1 = a at *
  generalize (M.sn (bl s)).2 = b at *
  generalize findI name = c at *
  generalize scnI (bl s) = d at *
  by_cases h0 : a = 0
  · subst h0
    by_cases h1 : c = 0
    · subst h1
      by_cases h2 : d = 0
      · subst h2
        have HR := hide (unhide R4 rfl rfl rfl)
        clear R1 R2 R3 R4
        go_enter Tryz.func17, Tryz.ntmps17
        go_wp2_with fail
        refine (unhide HS _).mono ?_
        rintro e w1 ⟨rfl, hw⟩
        replace hw := hw.symm
        subst hw
        go_wp2_with fail
        refine (unhide HF _).mono ?_
        rintro e w2 ⟨rfl, hb2⟩
        have HB2 := hide hb2
        clear hb2
        go_wp2_with fail
        refine (unhide HC _).mono ?_
        rintro e w3 ⟨rfl, hb3⟩
        have HB3 := hide (bstep (unhide HB2) hb3)
        clear hb3
        go_wp2_with fail
        go_ret3
        exact ⟨by rw [unhide HR]; rfl, unhide HB3⟩
      · have HR := hide (unhide R3 rfl rfl h2)
        have hne : (d != 0) = true := bne_iff_ne.2 h2
        clear R1 R2 R3 R4 h2
        go_enter Tryz.func17, Tryz.ntmps17
        go_wp2_with fail
        refine (unhide HS _).mono ?_
        rintro e w1 ⟨rfl, hw⟩
        replace hw := hw.symm
        subst hw
        go_wp2_with fail
        refine (unhide HF _).mono ?_
        rintro e w2 ⟨rfl, hb2⟩
        have HB2 := hide hb2
        clear hb2
        go_wp2_with fail
        refine (unhide HC _).mono ?_
        rintro e w3 ⟨rfl, hb3⟩
        have HB3 := hide (bstep (unhide HB2) hb3)
        clear hb3
        go_wp2_with fail
        go_ret3
        exact ⟨by rw [unhide HR]; rfl, unhide HB3⟩
    · have HR := hide (unhide R2 rfl h1)
      have hne : (c != 0) = true := bne_iff_ne.2 h1
      clear R1 R2 R3 R4 h1
      go_enter Tryz.func17, Tryz.ntmps17
      go_wp2_with fail
      refine (unhide HS _).mono ?_
      rintro e w1 ⟨rfl, hw⟩
      replace hw := hw.symm
      subst hw
      go_wp2_with fail
      refine (unhide HF _).mono ?_
      rintro e w2 ⟨rfl, hb2⟩
      have HB2 := hide hb2
      clear hb2
      go_wp2_with fail
      go_ret3
      exact ⟨by rw [unhide HR]; rfl, unhide HB2⟩
  · have HR := hide (unhide R1 h0)
    have hne : (a != 0) = true := bne_iff_ne.2 h0
    clear R1 R2 R3 R4 h0
    go_enter Tryz.func17, Tryz.ntmps17
    go_wp2_with fail
    refine (unhide HS _).mono ?_
    rintro e w1 ⟨rfl, hw⟩
    replace hw := hw.symm
    subst hw
    go_wp2_with fail
    go_ret3
    exact ⟨by rw [unhide HR]; rfl, Below.refl _ _⟩
set_option maxHeartbeats 800000 in
set_option maxRecDepth 100000 in
theorem wholeOf_any (name s : ByteArray) (w : World) (hn : name.size ≤ 3000) (hs : s.size ≤ 3000) :
    Calls Tryz.prog 34 #[.string name, .string s] w fun e w' => ∃ v, e = .returned (.tuple #[v, .int .i64 (chI name (bl s)).1, .int .i64 (chI name (bl s)).2.1]) ∧ w'.ownsRow w.heap.size 3 1 v (whI name (bl s)).length ((whI name (bl s)).map (Value.int .i64)) ∧ Below w.heap.size w w' := by
  have hl := hide (bl_len s)
  have HC := hide (fun w => chooseOf_any name s w hn (by omega))
  have hbd := chI_bd name (bl s)
  rw [unhide hl] at hbd
  have HW : Hid (whI name (bl s) = M.decE (chI name (bl s)).1 ((bl s).drop (chI name (bl s)).2.2.toNat)) := hide rfl
  obtain ⟨n, y, m, HX⟩ : ∃ n y m, Hid (chI name (bl s) = (n, y, m)) := ⟨_, _, _, hide rfl⟩
  rw [unhide HX] at HC hbd HW
  simp only at HC hbd HW
  obtain ⟨he, hy, hm0, hm3, hml⟩ := hbd
  obtain ⟨k, rfl⟩ : ∃ k : Nat, m = (k : Int) := ⟨m.toNat, by omega⟩
  rw [Int.toNat_natCast, ← bl_extract] at HW
  have HD := hide (fun w => decodeOf_any n (s.extract k s.size) w he (by simp; omega))
  rw [← unhide HW] at HD
  have HX' := hide (fun (w' : World) (v : Value) (h : w'.ownsRow w.heap.size 3 1 v (whI name (bl s)).length ((whI name (bl s)).map (Value.int .i64))) => h)
  generalize hL : whI name (bl s) = L at *
  have HL := hide hL
  clear hL HW HX'
  go_enter Tryz.func34, Tryz.ntmps34
  go_wp2_with fail
  refine (unhide HC _).mono ?_
  rintro e w1 ⟨rfl, hb1⟩
  have hz1 := hb1.size
  have HB1 := hide hb1
  clear hb1
  go_wp2_with fail
  refine (unhide HD _).mono ?_
  rintro e w2 ⟨v, rfl, ho2, hb2⟩
  obtain ⟨ao, cap, hsh⟩ := owns_shape ho2
  subst hsh
  have HO := hide (owns_mono ho2 hz1)
  have HB2 := hide (bstep (unhide HB1) hb2)
  clear ho2 hb2
  go_wp2_with fail
  go_ret3
  exact ⟨.slice ao L.length cap, by rw [unhide HX]; rfl, by first | exact unhide HO | (rw [unhide HL]; exact unhide HO), unhide HB2⟩
end Go.Proofs.YtaiinjfnkmidbaaGreatDoor

namespace Go.Proofs.YtaiinjfnkmidbaaGreatDoor

theorem begun_next : attrI [47, 32, 65, 32, 61, 32, 39, 66, 32, 99, 39, 32, 100, 62] 0 = (([97], [98, 32, 99]), 11, true) := by decide +kernel
theorem begun_all : attrsI [97, 61, 49, 32, 98, 62] 0 = ([([97], [49]), ([98], [])], 5) := by decide +kernel
theorem begun_charset : chsI [116, 101, 120, 116, 47, 104, 116, 109, 108, 59, 32, 67, 104, 97, 114, 115, 101, 116, 32, 61, 32, 34, 108, 97, 116, 105, 110, 49, 34] = 4 := by decide +kernel
end Go.Proofs.YtaiinjfnkmidbaaGreatDoor

namespace Go.Proofs.YtaiinjfnkmidbaaGreatDoor
open Go.RowKit
set_option linter.unusedVariables false

def plain (s : ByteArray) : Bool := (bl s).all pl && decide (s.size ≠ 0)
end Go.Proofs.YtaiinjfnkmidbaaGreatDoor

namespace Go.Proofs.YtaiinjfnkmidbaaGreatDoor
open Go.RowKit
set_option linter.unusedVariables false

def NextSays : Prop := ∀ (s : ByteArray) (k : Nat) (w : World), k ≤ s.size → s.size ≤ 3000 → Calls Tryz.prog 95 #[.string s, .int .i64 (k : Int)] w fun e w' => e = .returned (.tuple #[.agg #[.string (strOfNums (attrI (bl s) k).1.1), .string (strOfNums (attrI (bl s) k).1.2)], .int .i64 ((attrI (bl s) k).2.1 : Int), .bool (attrI (bl s) k).2.2, .int .i64 0]) ∧ Below w.heap.size w w'
def AllSays : Prop := ∀ (s : ByteArray) (k : Nat) (w : World), k ≤ s.size → s.size ≤ 3000 → Calls Tryz.prog 47 #[.string s, .int .i64 (k : Int)] w fun e w' => ∃ v, e = .returned (.tuple #[v, .int .i64 ((attrsI (bl s) k).2 : Int), .int .i64 0]) ∧ Ats w' v (txts (attrsI (bl s) k).1) ∧ Below w.heap.size w w'
def ChsSays : Prop := ∀ (s : ByteArray) (w : World), s.size ≤ 3000 → Mx w → Calls Tryz.prog 96 #[.string s] w fun e w' => e = .returned (.tuple #[.int .i64 (chsI (bl s)), .int .i64 0]) ∧ Below w.heap.size w w'
theorem ats_two {w : World} {b cap : Nat} {x1 y1 x2 y2 : ByteArray} (h0 : w.cell? ⟨b, 0, none⟩ = some (.string x1)) (h1 : w.cell? ⟨b, 1, none⟩ = some (.string y1)) (h2 : w.cell? ⟨b, 2, none⟩ = some (.string x2)) (h3 : w.cell? ⟨b, 3, none⟩ = some (.string y2)) :
    Ats w (.slice (some ⟨b, 0, none⟩) 2 cap) [(x1, y1), (x2, y2)] := by
  refine ⟨_, _, rfl, by simp [maxLen], .inr ⟨b, 0, rfl, fun i hi => ?_⟩⟩
  match i, hi with
  | 0, _ => exact ⟨h0, h1⟩
  | 1, _ => exact ⟨h2, h3⟩
set_option maxHeartbeats 1600000 in
set_option maxRecDepth 100000 in
theorem attrBegun_any (hN : NextSays) (hA : AllSays) (hC : ChsSays) (w : World) (hMx : Mx w) : Calls Tryz.prog 43 #[] w fun e w' => e = .returned (.bool true) ∧ Below w.heap.size w w' := by
  have HMx := hide hMx
  clear hMx
  have s1 := fun w => hN ⟨#[47, 32, 65, 32, 61, 32, 39, 66, 32, 99, 39, 32, 100, 62]⟩ 0 w (by decide) (by decide)
  rw [show bl ⟨#[47, 32, 65, 32, 61, 32, 39, 66, 32, 99, 39, 32, 100, 62]⟩ = [47, 32, 65, 32, 61, 32, 39, 66, 32, 99, 39, 32, 100, 62] from by decide, begun_next] at s1
  rw [show strOfNums ((([97], [98, 32, 99]), 11, true) : (List Int × List Int) × Nat × Bool).1.1 = ⟨#[97]⟩ from by decide, show strOfNums ((([97], [98, 32, 99]), 11, true) : (List Int × List Int) × Nat × Bool).1.2 = ⟨#[98, 32, 99]⟩ from by decide] at s1
  have s2 := fun w => hA ⟨#[97, 61, 49, 32, 98, 62]⟩ 0 w (by decide) (by decide)
  rw [show bl ⟨#[97, 61, 49, 32, 98, 62]⟩ = [97, 61, 49, 32, 98, 62] from by decide, begun_all] at s2
  rw [show txts (([([97], [49]), ([98], [])], 5) : List (List Int × List Int) × Nat).1 = [(⟨#[97]⟩, ⟨#[49]⟩), (⟨#[98]⟩, ⟨#[]⟩)] from by decide] at s2
  have s3 := fun w => hC ⟨#[116, 101, 120, 116, 47, 104, 116, 109, 108, 59, 32, 67, 104, 97, 114, 115, 101, 116, 32, 61, 32, 34, 108, 97, 116, 105, 110, 49, 34]⟩ w (by decide)
  rw [show bl ⟨#[116, 101, 120, 116, 47, 104, 116, 109, 108, 59, 32, 67, 104, 97, 114, 115, 101, 116, 32, 61, 32, 34, 108, 97, 116, 105, 110, 49, 34]⟩ = [116, 101, 120, 116, 47, 104, 116, 109, 108, 59, 32, 67, 104, 97, 114, 115, 101, 116, 32, 61, 32, 34, 108, 97, 116, 105, 110, 49, 34] from by decide, begun_charset] at s3
  simp only [show ((0 : Nat) : Int) = 0 from rfl, show ((5 : Nat) : Int) = 5 from rfl, show ((11 : Nat) : Int) = 11 from rfl] at s1 s2
  clear hN hA hC
  go_enter Tryz.func43, Tryz.ntmps43
  go_wp2_with fail
  refine (s1 _).mono ?_
  rintro e w1 ⟨rfl, hb1⟩
  have HB1 := hide hb1
  clear hb1 s1
  go_wp2_with fail
  refine (s2 _).mono ?_
  rintro e w2 ⟨v, rfl, ha2, hb2⟩
  have hs2 := hb2.size
  simp at hs2
  have c0 : w2.cell? ⟨w1.heap.size, 0, none⟩ = some (.string ⟨#[97]⟩) := by rw [hb2.cell (p := ⟨w1.heap.size, 0, none⟩) (by simp)]; simp
  have c1 : w2.cell? ⟨w1.heap.size, 1, none⟩ = some (.string ⟨#[98, 32, 99]⟩) := by rw [hb2.cell (p := ⟨w1.heap.size, 1, none⟩) (by simp)]; simp
  have HB2 := hide (bstep (bstep (unhide HB1) (balloc _ _)) hb2)
  have HA2 := hide ha2
  clear hb2 s2 HB1 ha2
  go_wp2_with fail
  refine (s3 _ (by first | exact unhide HMx | exact (unhide HMx).below (unhide (by assumption)) | exact (unhide HMx).below (bstep (unhide (by assumption)) (balloc _ _)))).mono ?_
  rintro e w3 ⟨rfl, hb3⟩
  have hs3 := hb3.size
  have d0 : w3.cell? ⟨w1.heap.size, 0, none⟩ = some (.string ⟨#[97]⟩) := (hb3.cell (p := ⟨w1.heap.size, 0, none⟩) (by simp; omega)).trans c0
  have d1 : w3.cell? ⟨w1.heap.size, 1, none⟩ = some (.string ⟨#[98, 32, 99]⟩) := (hb3.cell (p := ⟨w1.heap.size, 1, none⟩) (by simp; omega)).trans c1
  have HB3 := hide (bstep (unhide HB2) hb3)
  have HA3 := hide ((unhide HA2).below hb3)
  clear hb3 s3 HB2 HA2 c0 c1
  go_wp2_with fail
  refine (sameAttrs_any _ ((unhide HA3).below (balloc _ _)) (ats_two (x1 := ⟨#[97]⟩) (y1 := ⟨#[49]⟩) (x2 := ⟨#[98]⟩) (y2 := ⟨#[]⟩) (by simp) (by simp) (by simp) (by simp))).mono ?_
  rintro e w4 ⟨rfl, hb4⟩
  have HB4 := hide (bstep (bstep (unhide HB3) (balloc _ _)) hb4)
  clear hb4 HB3 HA3
  rw [decide_eq_true rfl]
  go_wp2_with fail
  go_ret
  exact ⟨rfl, unhide HB4⟩
end Go.Proofs.YtaiinjfnkmidbaaGreatDoor

namespace Go.Proofs.YtaiinjfnkmidbaaGreatDoor
open Go.RowKit

theorem nextSays : NextSays := fun s k w hk hs => Next_ok s k w hk hs
theorem allSays : AllSays := fun s k w hk hs => All_ok s k w hk hs
theorem chsSays : ChsSays := fun s w hs hM => Charset_ok s w hs hM
end Go.Proofs.YtaiinjfnkmidbaaGreatDoor
