/- Laws that the statements of this seat lean on, part 9 (FP RX6 RD RU RL SD RF): each a contract of a function, or a plain fact; conditions stand at each. -/
import Derived.Test.YtaiinjfnkmidbaaGreatDoorQB8
namespace Go.Proofs.YtaiinjfnkmidbaaGreatDoor
open Go.RowKit
set_option linter.unusedVariables false


set_option maxHeartbeats 3000000 in
set_option maxRecDepth 100000 in
theorem feedOf_6_more (r : ByteArray) (t : M.St) (p : ByteArray) (w : World) (hs : r.size + p.size ≤ 3300) (hk : M.Sg t.1) :
    Calls Tryz.prog 57 #[sv 6 r t, .string p, .bool false] w (FedR 6 r t p false w) := by
  obtain ⟨s, hcat⟩ : ∃ s, r ++ p = s := ⟨_, rfl⟩
  have hsz : s.size ≤ 3300 := by rw [← hcat, ByteArray.size_append]; exact hs
  have HBL : Hid (bl r ++ bl p = bl s) := hide (by rw [← hcat, bl_app])
  have hcat2 : (r.append p) = s := hcat
  unfold sv
  have H := fun w => decodeKana_more t.1 t.2.1 s w hk hsz
  obtain ⟨L, HL⟩ : ∃ L, Hid ((M.Run M.fk (t.1, t.2.1) (bl s)).1 = L) := ⟨_, hide rfl⟩
  obtain ⟨g, fr, HT⟩ : ∃ g fr, Hid ((M.Run M.fk (t.1, t.2.1) (bl s)).2.1 = (g, fr)) := ⟨_, _, hide rfl⟩
  rw [unhide HL, unhide HT] at H
  go_enter Tryz.func57, Tryz.ntmps57
  go_wp2_with fail
  refine (H _).mono ?_
  rintro e' w1 ⟨v, rr, rfl, hrr, hI, hb⟩
  have HRR := hide hrr
  clear hrr
  obtain ⟨av, cv, hsv⟩ := owns_shape hI
  subst hsv
  have HI : Hid (w1.ownsRow (w.heap.size + 3) 3 1 (.slice av L.length cv) L.length (L.map (Value.int .i64))) := hide (by simpa using hI)
  have HB : Hid (Below w.heap.size w w1) := hide (bstep (bstep (bstep (balloc _ _) (balloc _ _)) (balloc _ _)) hb)
  have h0 : Sc w.heap.size 6 r t w1 := Sc.below (w := (((w.alloc (.cells #[.int .i64 6, .string r, .int .i64 t.1, .bool t.2.1, .bool t.2.2] 23)).alloc (.cells #[.int .i64 0, .string ⟨#[]⟩, .int .i64 0, .bool false, .bool false] 23)).alloc (.cells #[.int .i64 0, .bool false] 144))) (by constructor <;> simp [go_sem]) hb (by simp; omega)
  have h1 : Rc (w.heap.size + 1) w1 := Rc.below (w := (((w.alloc (.cells #[.int .i64 6, .string r, .int .i64 t.1, .bool t.2.1, .bool t.2.2] 23)).alloc (.cells #[.int .i64 0, .string ⟨#[]⟩, .int .i64 0, .bool false, .bool false] 23)).alloc (.cells #[.int .i64 0, .bool false] 144))) (by constructor <;> simp [go_sem]) hb (by simp)
  have h2 : Pc (w.heap.size + 2) 0 false w1 := Pc.below (w := (((w.alloc (.cells #[.int .i64 6, .string r, .int .i64 t.1, .bool t.2.1, .bool t.2.2] 23)).alloc (.cells #[.int .i64 0, .string ⟨#[]⟩, .int .i64 0, .bool false, .bool false] 23)).alloc (.cells #[.int .i64 0, .bool false] 144))) (by constructor <;> simp [go_sem]) hb (by simp)
  have hl := h2.lt
  have hl1 : w.heap.size + 1 < w1.heap.size := by omega
  have hl0 : w.heap.size < w1.heap.size := by omega
  have H0 := hide h0
  have H1 := hide h1
  obtain ⟨a0, a1, a2, a3, a4, x0, x1, x2, x3, x4⟩ := h0
  obtain ⟨b0, b1, b2, b3, b4, y0, y1, y2, y3, y4⟩ := h1
  obtain ⟨p0, p1, q0, q1⟩ := h2
  clear hI hb H hcat hcat2
  go_wp2_with fail
  go_region
  all_goals
    go_wp2_with fail
    have hX0 : Sc w.heap.size 6 rr (g, fr, t.2.2) ((((((w1.setCell { block := w.heap.size + 1 + 1, off := 0 } (Value.int IntKind.i64 g)).setCell { block := w.heap.size + 1 + 1, off := 1 } (Value.bool fr)).setCell { block := w.heap.size, off := 2 } (Value.int IntKind.i64 g)).setCell { block := w.heap.size, off := 3 } (Value.bool fr)).setCell { block := w.heap.size, off := 1 } (Value.string rr)).drew) := ((((((unhide H0).far ⟨w.heap.size + 1 + 1, 0, none⟩ (.int .i64 g) (by first | (simp; done) | (simp; omega))).far ⟨w.heap.size + 1 + 1, 1, none⟩ (.bool fr) (by first | (simp; done) | (simp; omega))).set2 g).set3 fr).set1 rr).drew
    have hX1 : Rc (w.heap.size + 1) ((((((w1.setCell { block := w.heap.size + 1 + 1, off := 0 } (Value.int IntKind.i64 g)).setCell { block := w.heap.size + 1 + 1, off := 1 } (Value.bool fr)).setCell { block := w.heap.size, off := 2 } (Value.int IntKind.i64 g)).setCell { block := w.heap.size, off := 3 } (Value.bool fr)).setCell { block := w.heap.size, off := 1 } (Value.string rr)).drew) := (((((((unhide H1)).far ⟨w.heap.size + 1 + 1, 0, none⟩ _ (by first | (simp; done) | (simp; omega))).far ⟨w.heap.size + 1 + 1, 1, none⟩ _ (by first | (simp; done) | (simp; omega))).far ⟨w.heap.size, 2, none⟩ _ (by first | (simp; done) | (simp; omega))).far ⟨w.heap.size, 3, none⟩ _ (by first | (simp; done) | (simp; omega))).far ⟨w.heap.size, 1, none⟩ _ (by first | (simp; done) | (simp; omega))).drew
    have HX : Hid (((((((w1.setCell { block := w.heap.size + 1 + 1, off := 0 } (Value.int IntKind.i64 g)).setCell { block := w.heap.size + 1 + 1, off := 1 } (Value.bool fr)).setCell { block := w.heap.size, off := 2 } (Value.int IntKind.i64 g)).setCell { block := w.heap.size, off := 3 } (Value.bool fr)).setCell { block := w.heap.size, off := 1 } (Value.string rr)).drew).ownsRow (w.heap.size + 3) 3 1 (.slice av L.length cv) L.length (L.map (Value.int .i64))) := hide (o_drew (owns_set (owns_set (owns_set (owns_set (owns_set (unhide HI) ⟨w.heap.size + 1 + 1, 0, none⟩ (by first | (simp; done) | (simp; omega)) _) ⟨w.heap.size + 1 + 1, 1, none⟩ (by first | (simp; done) | (simp; omega)) _) ⟨w.heap.size, 2, none⟩ (by first | (simp; done) | (simp; omega)) _) ⟨w.heap.size, 3, none⟩ (by first | (simp; done) | (simp; omega)) _) ⟨w.heap.size, 1, none⟩ (by first | (simp; done) | (simp; omega)) _))
    have HY : Hid (Below w.heap.size w ((((((w1.setCell { block := w.heap.size + 1 + 1, off := 0 } (Value.int IntKind.i64 g)).setCell { block := w.heap.size + 1 + 1, off := 1 } (Value.bool fr)).setCell { block := w.heap.size, off := 2 } (Value.int IntKind.i64 g)).setCell { block := w.heap.size, off := 3 } (Value.bool fr)).setCell { block := w.heap.size, off := 1 } (Value.string rr)).drew)) := hide (b_drew (bset (bset (bset (bset (bset (unhide HB) ⟨w.heap.size + 1 + 1, 0, none⟩ _ (by first | (simp; done) | (simp; omega))) ⟨w.heap.size + 1 + 1, 1, none⟩ _ (by first | (simp; done) | (simp; omega))) ⟨w.heap.size, 2, none⟩ _ (by first | (simp; done) | (simp; omega))) ⟨w.heap.size, 3, none⟩ _ (by first | (simp; done) | (simp; omega))) ⟨w.heap.size, 1, none⟩ _ (by first | (simp; done) | (simp; omega))))
    clear a0 a1 a2 a3 a4 x0 x1 x2 x3 x4 b0 b1 b2 b3 b4 y0 y1 y2 y3 y4 p0 p1 q0 q1 hl0 hl1
    generalize (((((w1.setCell { block := w.heap.size + 1 + 1, off := 0 } (Value.int IntKind.i64 g)).setCell { block := w.heap.size + 1 + 1, off := 1 } (Value.bool fr)).setCell { block := w.heap.size, off := 2 } (Value.int IntKind.i64 g)).setCell { block := w.heap.size, off := 3 } (Value.bool fr)).setCell { block := w.heap.size, off := 1 } (Value.string rr)).drew = X at *
    have hlx := hX0.lt
    obtain ⟨a0, a1, a2, a3, a4, -, -, -, -, -⟩ := hX0
    obtain ⟨b0, b1, b2, b3, b4, y0, y1, y2, y3, y4⟩ := hX1
    have hly : w.heap.size + 1 < X.heap.size := World.block_lt_of_cell? X _ b0
    skip
    go_region
    all_goals
      go_wp2_with fail
      refine bodyPost_ret (v := .tuple #[.slice av L.length cv, .agg #[.int .i64 6, .string rr, .int .i64 (g, fr, t.2.2).1, .bool (g, fr, t.2.2).2.1, .bool (g, fr, t.2.2).2.2]]) (by simp [results, Tryz.results57, go_sem, b0, b1, b2, b3, b4]) rfl ?_
      refine ⟨.slice av L.length cv, rr, (g, fr, t.2.2), L, rfl, ?_, ?_, ?_, ?_⟩
      · exact owns_mono (o_drew (oset5 (e := 6) (r := rr) (t := (g, fr, t.2.2)) (unhide HX) (by omega))) (by omega)
      · exact b_drew (bset5 (e := 6) (r := rr) (t := (g, fr, t.2.2)) (unhide HY) (by omega))
      · intro _; rw [unhide HBL, M.RE_K, unhide HT]; exact ⟨(unhide HL).symm, unhide HRR, rfl⟩
      · intro h; cases h

set_option maxHeartbeats 3000000 in
set_option maxRecDepth 100000 in
theorem feedOf_6_last (r : ByteArray) (t : M.St) (p : ByteArray) (w : World) (hs : r.size + p.size ≤ 3300) (hk : M.Sg t.1) :
    Calls Tryz.prog 57 #[sv 6 r t, .string p, .bool true] w (FedR 6 r t p true w) := by
  obtain ⟨s, hcat⟩ : ∃ s, r ++ p = s := ⟨_, rfl⟩
  have hsz : s.size ≤ 3300 := by rw [← hcat, ByteArray.size_append]; exact hs
  have HBL : Hid (bl r ++ bl p = bl s) := hide (by rw [← hcat, bl_app])
  have hcat2 : (r.append p) = s := hcat
  unfold sv
  have H := fun w => decodeKana_last t.1 t.2.1 s w hk hsz
  obtain ⟨L, HL⟩ : ∃ L, Hid ((M.Tot M.gk (t.1, t.2.1) (bl s)).1 = L) := ⟨_, hide rfl⟩
  obtain ⟨g, fr, hT⟩ : ∃ g fr, (M.Tot M.gk (t.1, t.2.1) (bl s)).2 = (g, fr) := ⟨_, _, rfl⟩
  rw [unhide HL, hT] at H
  clear hT
  go_enter Tryz.func57, Tryz.ntmps57
  go_wp2_with fail
  refine (H _).mono ?_
  rintro e' w1 ⟨v, rfl, hI, hb⟩
  obtain ⟨av, cv, hsv⟩ := owns_shape hI
  subst hsv
  have HI : Hid (w1.ownsRow (w.heap.size + 3) 3 1 (.slice av L.length cv) L.length (L.map (Value.int .i64))) := hide (by simpa using hI)
  have HB : Hid (Below w.heap.size w w1) := hide (bstep (bstep (bstep (balloc _ _) (balloc _ _)) (balloc _ _)) hb)
  have h0 : Sc w.heap.size 6 r t w1 := Sc.below (w := (((w.alloc (.cells #[.int .i64 6, .string r, .int .i64 t.1, .bool t.2.1, .bool t.2.2] 23)).alloc (.cells #[.int .i64 0, .string ⟨#[]⟩, .int .i64 0, .bool false, .bool false] 23)).alloc (.cells #[.int .i64 0, .bool false] 144))) (by constructor <;> simp [go_sem]) hb (by simp; omega)
  have h1 : Rc (w.heap.size + 1) w1 := Rc.below (w := (((w.alloc (.cells #[.int .i64 6, .string r, .int .i64 t.1, .bool t.2.1, .bool t.2.2] 23)).alloc (.cells #[.int .i64 0, .string ⟨#[]⟩, .int .i64 0, .bool false, .bool false] 23)).alloc (.cells #[.int .i64 0, .bool false] 144))) (by constructor <;> simp [go_sem]) hb (by simp)
  have h2 : Pc (w.heap.size + 2) 0 false w1 := Pc.below (w := (((w.alloc (.cells #[.int .i64 6, .string r, .int .i64 t.1, .bool t.2.1, .bool t.2.2] 23)).alloc (.cells #[.int .i64 0, .string ⟨#[]⟩, .int .i64 0, .bool false, .bool false] 23)).alloc (.cells #[.int .i64 0, .bool false] 144))) (by constructor <;> simp [go_sem]) hb (by simp)
  have hl := h2.lt
  have hl1 : w.heap.size + 1 < w1.heap.size := by omega
  have hl0 : w.heap.size < w1.heap.size := by omega
  have H0 := hide h0
  have H1 := hide h1
  obtain ⟨a0, a1, a2, a3, a4, x0, x1, x2, x3, x4⟩ := h0
  obtain ⟨b0, b1, b2, b3, b4, y0, y1, y2, y3, y4⟩ := h1
  obtain ⟨p0, p1, q0, q1⟩ := h2
  clear hI hb H hcat hcat2
  go_wp2_with fail
  go_region
  all_goals
    go_wp2_with fail
    have hX0 : Sc w.heap.size 6 ⟨#[]⟩ M.st0 (((((((((((w1.setCell { block := w.heap.size + 1 + 1, off := 0 } (Value.int IntKind.i64 g)).setCell { block := w.heap.size + 1 + 1, off := 1 } (Value.bool fr)).setCell { block := w.heap.size, off := 2 } (Value.int IntKind.i64 g)).setCell { block := w.heap.size, off := 3 } (Value.bool fr)).setCell { block := w.heap.size, off := 1 } (Value.string { data := #[] })).setCell { block := w.heap.size, off := 0 } (Value.int IntKind.i64 6)).setCell { block := w.heap.size, off := 1 } (Value.string { data := #[] })).setCell { block := w.heap.size, off := 2 } (Value.int IntKind.i64 0)).setCell { block := w.heap.size, off := 3 } (Value.bool false)).setCell { block := w.heap.size, off := 4 } (Value.bool false)).drew) := (((((((unhide H0).far ⟨w.heap.size + 1 + 1, 0, none⟩ (.int .i64 g) (by first | (simp; done) | (simp; omega))).far ⟨w.heap.size + 1 + 1, 1, none⟩ (.bool fr) (by first | (simp; done) | (simp; omega))).set2 g).set3 fr).set1 ⟨#[]⟩).rc 6 ⟨#[]⟩ M.st0).drew
    have hX1 : Rc (w.heap.size + 1) (((((((((((w1.setCell { block := w.heap.size + 1 + 1, off := 0 } (Value.int IntKind.i64 g)).setCell { block := w.heap.size + 1 + 1, off := 1 } (Value.bool fr)).setCell { block := w.heap.size, off := 2 } (Value.int IntKind.i64 g)).setCell { block := w.heap.size, off := 3 } (Value.bool fr)).setCell { block := w.heap.size, off := 1 } (Value.string { data := #[] })).setCell { block := w.heap.size, off := 0 } (Value.int IntKind.i64 6)).setCell { block := w.heap.size, off := 1 } (Value.string { data := #[] })).setCell { block := w.heap.size, off := 2 } (Value.int IntKind.i64 0)).setCell { block := w.heap.size, off := 3 } (Value.bool false)).setCell { block := w.heap.size, off := 4 } (Value.bool false)).drew) := ((((((((((((unhide H1)).far ⟨w.heap.size + 1 + 1, 0, none⟩ _ (by first | (simp; done) | (simp; omega))).far ⟨w.heap.size + 1 + 1, 1, none⟩ _ (by first | (simp; done) | (simp; omega))).far ⟨w.heap.size, 2, none⟩ _ (by first | (simp; done) | (simp; omega))).far ⟨w.heap.size, 3, none⟩ _ (by first | (simp; done) | (simp; omega))).far ⟨w.heap.size, 1, none⟩ _ (by first | (simp; done) | (simp; omega))).far ⟨w.heap.size, 0, none⟩ _ (by first | (simp; done) | (simp; omega))).far ⟨w.heap.size, 1, none⟩ _ (by first | (simp; done) | (simp; omega))).far ⟨w.heap.size, 2, none⟩ _ (by first | (simp; done) | (simp; omega))).far ⟨w.heap.size, 3, none⟩ _ (by first | (simp; done) | (simp; omega))).far ⟨w.heap.size, 4, none⟩ _ (by first | (simp; done) | (simp; omega))).drew
    have HX : Hid ((((((((((((w1.setCell { block := w.heap.size + 1 + 1, off := 0 } (Value.int IntKind.i64 g)).setCell { block := w.heap.size + 1 + 1, off := 1 } (Value.bool fr)).setCell { block := w.heap.size, off := 2 } (Value.int IntKind.i64 g)).setCell { block := w.heap.size, off := 3 } (Value.bool fr)).setCell { block := w.heap.size, off := 1 } (Value.string { data := #[] })).setCell { block := w.heap.size, off := 0 } (Value.int IntKind.i64 6)).setCell { block := w.heap.size, off := 1 } (Value.string { data := #[] })).setCell { block := w.heap.size, off := 2 } (Value.int IntKind.i64 0)).setCell { block := w.heap.size, off := 3 } (Value.bool false)).setCell { block := w.heap.size, off := 4 } (Value.bool false)).drew).ownsRow (w.heap.size + 3) 3 1 (.slice av L.length cv) L.length (L.map (Value.int .i64))) := hide (o_drew (owns_set (owns_set (owns_set (owns_set (owns_set (owns_set (owns_set (owns_set (owns_set (owns_set (unhide HI) ⟨w.heap.size + 1 + 1, 0, none⟩ (by first | (simp; done) | (simp; omega)) _) ⟨w.heap.size + 1 + 1, 1, none⟩ (by first | (simp; done) | (simp; omega)) _) ⟨w.heap.size, 2, none⟩ (by first | (simp; done) | (simp; omega)) _) ⟨w.heap.size, 3, none⟩ (by first | (simp; done) | (simp; omega)) _) ⟨w.heap.size, 1, none⟩ (by first | (simp; done) | (simp; omega)) _) ⟨w.heap.size, 0, none⟩ (by first | (simp; done) | (simp; omega)) _) ⟨w.heap.size, 1, none⟩ (by first | (simp; done) | (simp; omega)) _) ⟨w.heap.size, 2, none⟩ (by first | (simp; done) | (simp; omega)) _) ⟨w.heap.size, 3, none⟩ (by first | (simp; done) | (simp; omega)) _) ⟨w.heap.size, 4, none⟩ (by first | (simp; done) | (simp; omega)) _))
    have HY : Hid (Below w.heap.size w (((((((((((w1.setCell { block := w.heap.size + 1 + 1, off := 0 } (Value.int IntKind.i64 g)).setCell { block := w.heap.size + 1 + 1, off := 1 } (Value.bool fr)).setCell { block := w.heap.size, off := 2 } (Value.int IntKind.i64 g)).setCell { block := w.heap.size, off := 3 } (Value.bool fr)).setCell { block := w.heap.size, off := 1 } (Value.string { data := #[] })).setCell { block := w.heap.size, off := 0 } (Value.int IntKind.i64 6)).setCell { block := w.heap.size, off := 1 } (Value.string { data := #[] })).setCell { block := w.heap.size, off := 2 } (Value.int IntKind.i64 0)).setCell { block := w.heap.size, off := 3 } (Value.bool false)).setCell { block := w.heap.size, off := 4 } (Value.bool false)).drew)) := hide (b_drew (bset (bset (bset (bset (bset (bset (bset (bset (bset (bset (unhide HB) ⟨w.heap.size + 1 + 1, 0, none⟩ _ (by first | (simp; done) | (simp; omega))) ⟨w.heap.size + 1 + 1, 1, none⟩ _ (by first | (simp; done) | (simp; omega))) ⟨w.heap.size, 2, none⟩ _ (by first | (simp; done) | (simp; omega))) ⟨w.heap.size, 3, none⟩ _ (by first | (simp; done) | (simp; omega))) ⟨w.heap.size, 1, none⟩ _ (by first | (simp; done) | (simp; omega))) ⟨w.heap.size, 0, none⟩ _ (by first | (simp; done) | (simp; omega))) ⟨w.heap.size, 1, none⟩ _ (by first | (simp; done) | (simp; omega))) ⟨w.heap.size, 2, none⟩ _ (by first | (simp; done) | (simp; omega))) ⟨w.heap.size, 3, none⟩ _ (by first | (simp; done) | (simp; omega))) ⟨w.heap.size, 4, none⟩ _ (by first | (simp; done) | (simp; omega))))
    clear a0 a1 a2 a3 a4 x0 x1 x2 x3 x4 b0 b1 b2 b3 b4 y0 y1 y2 y3 y4 p0 p1 q0 q1 hl0 hl1
    generalize ((((((((((w1.setCell { block := w.heap.size + 1 + 1, off := 0 } (Value.int IntKind.i64 g)).setCell { block := w.heap.size + 1 + 1, off := 1 } (Value.bool fr)).setCell { block := w.heap.size, off := 2 } (Value.int IntKind.i64 g)).setCell { block := w.heap.size, off := 3 } (Value.bool fr)).setCell { block := w.heap.size, off := 1 } (Value.string { data := #[] })).setCell { block := w.heap.size, off := 0 } (Value.int IntKind.i64 6)).setCell { block := w.heap.size, off := 1 } (Value.string { data := #[] })).setCell { block := w.heap.size, off := 2 } (Value.int IntKind.i64 0)).setCell { block := w.heap.size, off := 3 } (Value.bool false)).setCell { block := w.heap.size, off := 4 } (Value.bool false)).drew = X at *
    have hlx := hX0.lt
    obtain ⟨a0, a1, a2, a3, a4, -, -, -, -, -⟩ := hX0
    obtain ⟨b0, b1, b2, b3, b4, y0, y1, y2, y3, y4⟩ := hX1
    have hly : w.heap.size + 1 < X.heap.size := World.block_lt_of_cell? X _ b0
    unfold M.st0 at a2 a3 a4
    go_region
    all_goals
      go_wp2_with fail
      refine bodyPost_ret (v := .tuple #[.slice av L.length cv, .agg #[.int .i64 6, .string ⟨#[]⟩, .int .i64 M.st0.1, .bool M.st0.2.1, .bool M.st0.2.2]]) (by simp [results, Tryz.results57, go_sem, b0, b1, b2, b3, b4, M.st0]) rfl ?_
      refine ⟨.slice av L.length cv, ⟨#[]⟩, M.st0, L, rfl, ?_, ?_, ?_, ?_⟩
      · exact owns_mono (o_drew (oset5 (e := 6) (r := ⟨#[]⟩) (t := M.st0) (unhide HX) (by omega))) (by omega)
      · exact b_drew (bset5 (e := 6) (r := ⟨#[]⟩) (t := M.st0) (unhide HY) (by omega))
      · intro h; cases h
      · intro _; refine ⟨?_, rfl, rfl⟩; rw [unhide HBL, M.TE_K]; exact (unhide HL).symm

set_option maxHeartbeats 3000000 in
set_option maxRecDepth 100000 in
theorem feedOf_7_none_more (r : ByteArray) (g : Int) (fr st : Bool) (p : ByteArray) (w : World) (hs : r.size + p.size ≤ 3300) (h0 : (r ++ p).size = 0) :
    Calls Tryz.prog 57 #[sv 7 r (g, fr, st), .string p, .bool false] w (FedR 7 r (g, fr, st) p false w) := by
  obtain ⟨s, hcat⟩ : ∃ s, r ++ p = s := ⟨_, rfl⟩
  have hsz : s.size ≤ 3300 := by rw [← hcat, ByteArray.size_append]; exact hs
  have HBL : Hid (bl r ++ bl p = bl s) := hide (by rw [← hcat, bl_app])
  have hcat2 : (r.append p) = s := hcat
  unfold sv
  rw [hcat] at h0
  have he : s.toList.isEmpty = true := by rw [isEmpty_size]; simp [h0]
  go_enter Tryz.func57, Tryz.ntmps57
  go_wp2_with fail
  have hX0 : Sc w.heap.size 7 ⟨#[]⟩ (g, fr, st) ((w.alloc (.cells #[.int .i64 7, .string ⟨#[]⟩, .int .i64 g, .bool fr, .bool st] 23)).alloc (.cells #[.int .i64 0, .string ⟨#[]⟩, .int .i64 0, .bool false, .bool false] 23)) := by constructor <;> simp [go_sem]
  have hX1 : Rc (w.heap.size + 1) ((w.alloc (.cells #[.int .i64 7, .string ⟨#[]⟩, .int .i64 g, .bool fr, .bool st] 23)).alloc (.cells #[.int .i64 0, .string ⟨#[]⟩, .int .i64 0, .bool false, .bool false] 23)) := by constructor <;> simp [go_sem]
  have HX : Hid (((w.alloc (.cells #[.int .i64 7, .string ⟨#[]⟩, .int .i64 g, .bool fr, .bool st] 23)).alloc (.cells #[.int .i64 0, .string ⟨#[]⟩, .int .i64 0, .bool false, .bool false] 23)).ownsRow (w.heap.size + 2) 3 1 (.slice none 0 0) ([] : List Int).length (([] : List Int).map (Value.int .i64))) := hide (World.ownsRow_nil _ _ _ _)
  have HY : Hid (Below w.heap.size w ((w.alloc (.cells #[.int .i64 7, .string ⟨#[]⟩, .int .i64 g, .bool fr, .bool st] 23)).alloc (.cells #[.int .i64 0, .string ⟨#[]⟩, .int .i64 0, .bool false, .bool false] 23))) := hide (bstep (balloc _ _) (balloc _ _))
  generalize (w.alloc (.cells #[.int .i64 7, .string ⟨#[]⟩, .int .i64 g, .bool fr, .bool st] 23)).alloc (.cells #[.int .i64 0, .string ⟨#[]⟩, .int .i64 0, .bool false, .bool false] 23) = X at *
  have hlx := hX0.lt
  obtain ⟨a0, a1, a2, a3, a4, -, -, -, -, -⟩ := hX0
  obtain ⟨b0, b1, b2, b3, b4, y0, y1, y2, y3, y4⟩ := hX1
  have hly : w.heap.size + 1 < X.heap.size := World.block_lt_of_cell? X _ b0
  skip
  go_region
  all_goals
    go_wp2_with fail
    refine bodyPost_ret (v := .tuple #[.slice none 0 0, .agg #[.int .i64 7, .string ⟨#[]⟩, .int .i64 (g, fr, st).1, .bool (g, fr, st).2.1, .bool (g, fr, st).2.2]]) (by simp [results, Tryz.results57, go_sem, b0, b1, b2, b3, b4]) rfl ?_
    refine ⟨.slice none 0 0, ⟨#[]⟩, (g, fr, st), [], rfl, ?_, ?_, ?_, ?_⟩
    · exact owns_mono (o_drew (oset5 (e := 7) (r := ⟨#[]⟩) (t := (g, fr, st)) (unhide HX) (by omega))) (by omega)
    · exact b_drew (bset5 (e := 7) (r := ⟨#[]⟩) (t := (g, fr, st)) (unhide HY) (by omega))
    · intro _; rw [unhide HBL, M.RE_X]; have e0 : (bl s).isEmpty = true := (by rw [bl_nil h0]; rfl); refine ⟨by simp [e0], rfl, by simp [e0]⟩
    · intro h; cases h

set_option maxHeartbeats 3000000 in
set_option maxRecDepth 100000 in
theorem feedOf_7_stop_more (r : ByteArray) (g : Int) (fr : Bool) (p : ByteArray) (w : World) (hs : r.size + p.size ≤ 3300) (h0 : (r ++ p).size ≠ 0) :
    Calls Tryz.prog 57 #[sv 7 r (g, fr, true), .string p, .bool false] w (FedR 7 r (g, fr, true) p false w) := by
  obtain ⟨s, hcat⟩ : ∃ s, r ++ p = s := ⟨_, rfl⟩
  have hsz : s.size ≤ 3300 := by rw [← hcat, ByteArray.size_append]; exact hs
  have HBL : Hid (bl r ++ bl p = bl s) := hide (by rw [← hcat, bl_app])
  have hcat2 : (r.append p) = s := hcat
  unfold sv
  rw [hcat] at h0
  have he : s.toList.isEmpty = false := by rw [isEmpty_size]; simp [h0]
  go_enter Tryz.func57, Tryz.ntmps57
  go_wp2_with fail
  have hX0 : Sc w.heap.size 7 ⟨#[]⟩ (g, fr, true) ((w.alloc (.cells #[.int .i64 7, .string ⟨#[]⟩, .int .i64 g, .bool fr, .bool true] 23)).alloc (.cells #[.int .i64 0, .string ⟨#[]⟩, .int .i64 0, .bool false, .bool false] 23)) := by constructor <;> simp [go_sem]
  have hX1 : Rc (w.heap.size + 1) ((w.alloc (.cells #[.int .i64 7, .string ⟨#[]⟩, .int .i64 g, .bool fr, .bool true] 23)).alloc (.cells #[.int .i64 0, .string ⟨#[]⟩, .int .i64 0, .bool false, .bool false] 23)) := by constructor <;> simp [go_sem]
  have HX : Hid (((w.alloc (.cells #[.int .i64 7, .string ⟨#[]⟩, .int .i64 g, .bool fr, .bool true] 23)).alloc (.cells #[.int .i64 0, .string ⟨#[]⟩, .int .i64 0, .bool false, .bool false] 23)).ownsRow (w.heap.size + 2) 3 1 (.slice none 0 0) ([] : List Int).length (([] : List Int).map (Value.int .i64))) := hide (World.ownsRow_nil _ _ _ _)
  have HY : Hid (Below w.heap.size w ((w.alloc (.cells #[.int .i64 7, .string ⟨#[]⟩, .int .i64 g, .bool fr, .bool true] 23)).alloc (.cells #[.int .i64 0, .string ⟨#[]⟩, .int .i64 0, .bool false, .bool false] 23))) := hide (bstep (balloc _ _) (balloc _ _))
  generalize (w.alloc (.cells #[.int .i64 7, .string ⟨#[]⟩, .int .i64 g, .bool fr, .bool true] 23)).alloc (.cells #[.int .i64 0, .string ⟨#[]⟩, .int .i64 0, .bool false, .bool false] 23) = X at *
  have hlx := hX0.lt
  obtain ⟨a0, a1, a2, a3, a4, -, -, -, -, -⟩ := hX0
  obtain ⟨b0, b1, b2, b3, b4, y0, y1, y2, y3, y4⟩ := hX1
  have hly : w.heap.size + 1 < X.heap.size := World.block_lt_of_cell? X _ b0
  skip
  go_region
  all_goals
    go_wp2_with fail
    refine bodyPost_ret (v := .tuple #[.slice none 0 0, .agg #[.int .i64 7, .string ⟨#[]⟩, .int .i64 (g, fr, true).1, .bool (g, fr, true).2.1, .bool (g, fr, true).2.2]]) (by simp [results, Tryz.results57, go_sem, b0, b1, b2, b3, b4]) rfl ?_
    refine ⟨.slice none 0 0, ⟨#[]⟩, (g, fr, true), [], rfl, ?_, ?_, ?_, ?_⟩
    · exact owns_mono (o_drew (oset5 (e := 7) (r := ⟨#[]⟩) (t := (g, fr, true)) (unhide HX) (by omega))) (by omega)
    · exact b_drew (bset5 (e := 7) (r := ⟨#[]⟩) (t := (g, fr, true)) (unhide HY) (by omega))
    · intro _; rw [unhide HBL, M.RE_X]; skip; refine ⟨by simp, rfl, by simp⟩
    · intro h; cases h

set_option maxHeartbeats 3000000 in
set_option maxRecDepth 100000 in
theorem feedOf_7_told_more (r : ByteArray) (g : Int) (fr : Bool) (p : ByteArray) (w : World) (hs : r.size + p.size ≤ 3300) (h0 : (r ++ p).size ≠ 0) :
    Calls Tryz.prog 57 #[sv 7 r (g, fr, false), .string p, .bool false] w (FedR 7 r (g, fr, false) p false w) := by
  obtain ⟨s, hcat⟩ : ∃ s, r ++ p = s := ⟨_, rfl⟩
  have hsz : s.size ≤ 3300 := by rw [← hcat, ByteArray.size_append]; exact hs
  have HBL : Hid (bl r ++ bl p = bl s) := hide (by rw [← hcat, bl_app])
  have hcat2 : (r.append p) = s := hcat
  unfold sv
  rw [hcat] at h0
  have he : s.toList.isEmpty = false := by rw [isEmpty_size]; simp [h0]
  go_enter Tryz.func57, Tryz.ntmps57
  go_wp2_with fail
  have hX0 : Sc w.heap.size 7 ⟨#[]⟩ (g, fr, true) (((w.alloc (.cells #[.int .i64 7, .string ⟨#[]⟩, .int .i64 g, .bool fr, .bool true] 23)).alloc (.cells #[.int .i64 0, .string ⟨#[]⟩, .int .i64 0, .bool false, .bool false] 23)).alloc (.cells #[.int .i64 65533] 3)) := by constructor <;> simp [go_sem]
  have hX1 : Rc (w.heap.size + 1) (((w.alloc (.cells #[.int .i64 7, .string ⟨#[]⟩, .int .i64 g, .bool fr, .bool true] 23)).alloc (.cells #[.int .i64 0, .string ⟨#[]⟩, .int .i64 0, .bool false, .bool false] 23)).alloc (.cells #[.int .i64 65533] 3)) := by constructor <;> simp [go_sem]
  have HX : Hid ((((w.alloc (.cells #[.int .i64 7, .string ⟨#[]⟩, .int .i64 g, .bool fr, .bool true] 23)).alloc (.cells #[.int .i64 0, .string ⟨#[]⟩, .int .i64 0, .bool false, .bool false] 23)).alloc (.cells #[.int .i64 65533] 3)).ownsRow (w.heap.size + 2) 3 1 (.slice (some ⟨w.heap.size + 1 + 1, 0, none⟩) 1 1) ([65533] : List Int).length (([65533] : List Int).map (Value.int .i64))) := hide (by have h := World.ownsRow_lit (base := w.heap.size + 2) (e := 3) (size := 1) ((w.alloc (.cells #[.int .i64 7, .string ⟨#[]⟩, .int .i64 g, .bool fr, .bool true] 23)).alloc (.cells #[.int .i64 0, .string ⟨#[]⟩, .int .i64 0, .bool false, .bool false] 23)) #[.int .i64 65533] 1 (by simp) (by simp [maxLen]) rfl; simpa using h)
  have HY : Hid (Below w.heap.size w (((w.alloc (.cells #[.int .i64 7, .string ⟨#[]⟩, .int .i64 g, .bool fr, .bool true] 23)).alloc (.cells #[.int .i64 0, .string ⟨#[]⟩, .int .i64 0, .bool false, .bool false] 23)).alloc (.cells #[.int .i64 65533] 3))) := hide (bstep (bstep (balloc _ _) (balloc _ _)) (balloc _ _))
  generalize ((w.alloc (.cells #[.int .i64 7, .string ⟨#[]⟩, .int .i64 g, .bool fr, .bool true] 23)).alloc (.cells #[.int .i64 0, .string ⟨#[]⟩, .int .i64 0, .bool false, .bool false] 23)).alloc (.cells #[.int .i64 65533] 3) = X at *
  have hlx := hX0.lt
  obtain ⟨a0, a1, a2, a3, a4, -, -, -, -, -⟩ := hX0
  obtain ⟨b0, b1, b2, b3, b4, y0, y1, y2, y3, y4⟩ := hX1
  have hly : w.heap.size + 1 < X.heap.size := World.block_lt_of_cell? X _ b0
  skip
  go_region
  all_goals
    go_wp2_with fail
    refine bodyPost_ret (v := .tuple #[.slice (some ⟨w.heap.size + 1 + 1, 0, none⟩) 1 1, .agg #[.int .i64 7, .string ⟨#[]⟩, .int .i64 (g, fr, true).1, .bool (g, fr, true).2.1, .bool (g, fr, true).2.2]]) (by simp [results, Tryz.results57, go_sem, b0, b1, b2, b3, b4]) rfl ?_
    refine ⟨.slice (some ⟨w.heap.size + 1 + 1, 0, none⟩) 1 1, ⟨#[]⟩, (g, fr, true), [65533], rfl, ?_, ?_, ?_, ?_⟩
    · exact owns_mono (o_drew (oset5 (e := 7) (r := ⟨#[]⟩) (t := (g, fr, true)) (unhide HX) (by omega))) (by omega)
    · exact b_drew (bset5 (e := 7) (r := ⟨#[]⟩) (t := (g, fr, true)) (unhide HY) (by omega))
    · intro _; rw [unhide HBL, M.RE_X]; have e0 : (bl s).isEmpty = false := (by rw [List.isEmpty_eq_false_iff]; exact fun q => h0 (by rw [← bl_len, q]; rfl)); refine ⟨by simp [e0], rfl, by simp [e0]⟩
    · intro h; cases h

set_option maxHeartbeats 3000000 in
set_option maxRecDepth 100000 in
theorem feedOf_7_none_last (r : ByteArray) (g : Int) (fr st : Bool) (p : ByteArray) (w : World) (hs : r.size + p.size ≤ 3300) (h0 : (r ++ p).size = 0) :
    Calls Tryz.prog 57 #[sv 7 r (g, fr, st), .string p, .bool true] w (FedR 7 r (g, fr, st) p true w) := by
  obtain ⟨s, hcat⟩ : ∃ s, r ++ p = s := ⟨_, rfl⟩
  have hsz : s.size ≤ 3300 := by rw [← hcat, ByteArray.size_append]; exact hs
  have HBL : Hid (bl r ++ bl p = bl s) := hide (by rw [← hcat, bl_app])
  have hcat2 : (r.append p) = s := hcat
  unfold sv
  rw [hcat] at h0
  have he : s.toList.isEmpty = true := by rw [isEmpty_size]; simp [h0]
  go_enter Tryz.func57, Tryz.ntmps57
  go_wp2_with fail
  have hX0 : Sc w.heap.size 7 ⟨#[]⟩ M.st0 ((w.alloc (.cells #[.int .i64 7, .string ⟨#[]⟩, .int .i64 0, .bool false, .bool false] 23)).alloc (.cells #[.int .i64 0, .string ⟨#[]⟩, .int .i64 0, .bool false, .bool false] 23)) := by constructor <;> simp [go_sem, M.st0]
  have hX1 : Rc (w.heap.size + 1) ((w.alloc (.cells #[.int .i64 7, .string ⟨#[]⟩, .int .i64 0, .bool false, .bool false] 23)).alloc (.cells #[.int .i64 0, .string ⟨#[]⟩, .int .i64 0, .bool false, .bool false] 23)) := by constructor <;> simp [go_sem]
  have HX : Hid (((w.alloc (.cells #[.int .i64 7, .string ⟨#[]⟩, .int .i64 0, .bool false, .bool false] 23)).alloc (.cells #[.int .i64 0, .string ⟨#[]⟩, .int .i64 0, .bool false, .bool false] 23)).ownsRow (w.heap.size + 2) 3 1 (.slice none 0 0) ([] : List Int).length (([] : List Int).map (Value.int .i64))) := hide (World.ownsRow_nil _ _ _ _)
  have HY : Hid (Below w.heap.size w ((w.alloc (.cells #[.int .i64 7, .string ⟨#[]⟩, .int .i64 0, .bool false, .bool false] 23)).alloc (.cells #[.int .i64 0, .string ⟨#[]⟩, .int .i64 0, .bool false, .bool false] 23))) := hide (bstep (balloc _ _) (balloc _ _))
  generalize (w.alloc (.cells #[.int .i64 7, .string ⟨#[]⟩, .int .i64 0, .bool false, .bool false] 23)).alloc (.cells #[.int .i64 0, .string ⟨#[]⟩, .int .i64 0, .bool false, .bool false] 23) = X at *
  have hlx := hX0.lt
  obtain ⟨a0, a1, a2, a3, a4, -, -, -, -, -⟩ := hX0
  obtain ⟨b0, b1, b2, b3, b4, y0, y1, y2, y3, y4⟩ := hX1
  have hly : w.heap.size + 1 < X.heap.size := World.block_lt_of_cell? X _ b0
  unfold M.st0 at a2 a3 a4
  go_region
  all_goals
    go_wp2_with fail
    refine bodyPost_ret (v := .tuple #[.slice none 0 0, .agg #[.int .i64 7, .string ⟨#[]⟩, .int .i64 M.st0.1, .bool M.st0.2.1, .bool M.st0.2.2]]) (by simp [results, Tryz.results57, go_sem, b0, b1, b2, b3, b4, M.st0]) rfl ?_
    refine ⟨.slice none 0 0, ⟨#[]⟩, M.st0, [], rfl, ?_, ?_, ?_, ?_⟩
    · exact owns_mono (o_drew (oset5 (e := 7) (r := ⟨#[]⟩) (t := M.st0) (unhide HX) (by omega))) (by omega)
    · exact b_drew (bset5 (e := 7) (r := ⟨#[]⟩) (t := M.st0) (unhide HY) (by omega))
    · intro h; cases h
    · intro _; refine ⟨?_, rfl, rfl⟩; rw [unhide HBL, M.TE_X]; have e0 : (bl s).isEmpty = true := (by rw [bl_nil h0]; rfl); simp [e0]

set_option maxHeartbeats 3000000 in
set_option maxRecDepth 100000 in
theorem feedOf_7_stop_last (r : ByteArray) (g : Int) (fr : Bool) (p : ByteArray) (w : World) (hs : r.size + p.size ≤ 3300) (h0 : (r ++ p).size ≠ 0) :
    Calls Tryz.prog 57 #[sv 7 r (g, fr, true), .string p, .bool true] w (FedR 7 r (g, fr, true) p true w) := by
  obtain ⟨s, hcat⟩ : ∃ s, r ++ p = s := ⟨_, rfl⟩
  have hsz : s.size ≤ 3300 := by rw [← hcat, ByteArray.size_append]; exact hs
  have HBL : Hid (bl r ++ bl p = bl s) := hide (by rw [← hcat, bl_app])
  have hcat2 : (r.append p) = s := hcat
  unfold sv
  rw [hcat] at h0
  have he : s.toList.isEmpty = false := by rw [isEmpty_size]; simp [h0]
  go_enter Tryz.func57, Tryz.ntmps57
  go_wp2_with fail
  have hX0 : Sc w.heap.size 7 ⟨#[]⟩ M.st0 ((w.alloc (.cells #[.int .i64 7, .string ⟨#[]⟩, .int .i64 0, .bool false, .bool false] 23)).alloc (.cells #[.int .i64 0, .string ⟨#[]⟩, .int .i64 0, .bool false, .bool false] 23)) := by constructor <;> simp [go_sem, M.st0]
  have hX1 : Rc (w.heap.size + 1) ((w.alloc (.cells #[.int .i64 7, .string ⟨#[]⟩, .int .i64 0, .bool false, .bool false] 23)).alloc (.cells #[.int .i64 0, .string ⟨#[]⟩, .int .i64 0, .bool false, .bool false] 23)) := by constructor <;> simp [go_sem]
  have HX : Hid (((w.alloc (.cells #[.int .i64 7, .string ⟨#[]⟩, .int .i64 0, .bool false, .bool false] 23)).alloc (.cells #[.int .i64 0, .string ⟨#[]⟩, .int .i64 0, .bool false, .bool false] 23)).ownsRow (w.heap.size + 2) 3 1 (.slice none 0 0) ([] : List Int).length (([] : List Int).map (Value.int .i64))) := hide (World.ownsRow_nil _ _ _ _)
  have HY : Hid (Below w.heap.size w ((w.alloc (.cells #[.int .i64 7, .string ⟨#[]⟩, .int .i64 0, .bool false, .bool false] 23)).alloc (.cells #[.int .i64 0, .string ⟨#[]⟩, .int .i64 0, .bool false, .bool false] 23))) := hide (bstep (balloc _ _) (balloc _ _))
  generalize (w.alloc (.cells #[.int .i64 7, .string ⟨#[]⟩, .int .i64 0, .bool false, .bool false] 23)).alloc (.cells #[.int .i64 0, .string ⟨#[]⟩, .int .i64 0, .bool false, .bool false] 23) = X at *
  have hlx := hX0.lt
  obtain ⟨a0, a1, a2, a3, a4, -, -, -, -, -⟩ := hX0
  obtain ⟨b0, b1, b2, b3, b4, y0, y1, y2, y3, y4⟩ := hX1
  have hly : w.heap.size + 1 < X.heap.size := World.block_lt_of_cell? X _ b0
  unfold M.st0 at a2 a3 a4
  go_region
  all_goals
    go_wp2_with fail
    refine bodyPost_ret (v := .tuple #[.slice none 0 0, .agg #[.int .i64 7, .string ⟨#[]⟩, .int .i64 M.st0.1, .bool M.st0.2.1, .bool M.st0.2.2]]) (by simp [results, Tryz.results57, go_sem, b0, b1, b2, b3, b4, M.st0]) rfl ?_
    refine ⟨.slice none 0 0, ⟨#[]⟩, M.st0, [], rfl, ?_, ?_, ?_, ?_⟩
    · exact owns_mono (o_drew (oset5 (e := 7) (r := ⟨#[]⟩) (t := M.st0) (unhide HX) (by omega))) (by omega)
    · exact b_drew (bset5 (e := 7) (r := ⟨#[]⟩) (t := M.st0) (unhide HY) (by omega))
    · intro h; cases h
    · intro _; refine ⟨?_, rfl, rfl⟩; rw [unhide HBL, M.TE_X]; skip; simp

set_option maxHeartbeats 3000000 in
set_option maxRecDepth 100000 in
theorem feedOf_7_told_last (r : ByteArray) (g : Int) (fr : Bool) (p : ByteArray) (w : World) (hs : r.size + p.size ≤ 3300) (h0 : (r ++ p).size ≠ 0) :
    Calls Tryz.prog 57 #[sv 7 r (g, fr, false), .string p, .bool true] w (FedR 7 r (g, fr, false) p true w) := by
  obtain ⟨s, hcat⟩ : ∃ s, r ++ p = s := ⟨_, rfl⟩
  have hsz : s.size ≤ 3300 := by rw [← hcat, ByteArray.size_append]; exact hs
  have HBL : Hid (bl r ++ bl p = bl s) := hide (by rw [← hcat, bl_app])
  have hcat2 : (r.append p) = s := hcat
  unfold sv
  rw [hcat] at h0
  have he : s.toList.isEmpty = false := by rw [isEmpty_size]; simp [h0]
  go_enter Tryz.func57, Tryz.ntmps57
  go_wp2_with fail
  have hX0 : Sc w.heap.size 7 ⟨#[]⟩ M.st0 (((w.alloc (.cells #[.int .i64 7, .string ⟨#[]⟩, .int .i64 0, .bool false, .bool false] 23)).alloc (.cells #[.int .i64 0, .string ⟨#[]⟩, .int .i64 0, .bool false, .bool false] 23)).alloc (.cells #[.int .i64 65533] 3)) := by constructor <;> simp [go_sem, M.st0]
  have hX1 : Rc (w.heap.size + 1) (((w.alloc (.cells #[.int .i64 7, .string ⟨#[]⟩, .int .i64 0, .bool false, .bool false] 23)).alloc (.cells #[.int .i64 0, .string ⟨#[]⟩, .int .i64 0, .bool false, .bool false] 23)).alloc (.cells #[.int .i64 65533] 3)) := by constructor <;> simp [go_sem]
  have HX : Hid ((((w.alloc (.cells #[.int .i64 7, .string ⟨#[]⟩, .int .i64 0, .bool false, .bool false] 23)).alloc (.cells #[.int .i64 0, .string ⟨#[]⟩, .int .i64 0, .bool false, .bool false] 23)).alloc (.cells #[.int .i64 65533] 3)).ownsRow (w.heap.size + 2) 3 1 (.slice (some ⟨w.heap.size + 1 + 1, 0, none⟩) 1 1) ([65533] : List Int).length (([65533] : List Int).map (Value.int .i64))) := hide (by have h := World.ownsRow_lit (base := w.heap.size + 2) (e := 3) (size := 1) ((w.alloc (.cells #[.int .i64 7, .string ⟨#[]⟩, .int .i64 0, .bool false, .bool false] 23)).alloc (.cells #[.int .i64 0, .string ⟨#[]⟩, .int .i64 0, .bool false, .bool false] 23)) #[.int .i64 65533] 1 (by simp) (by simp [maxLen]) rfl; simpa using h)
  have HY : Hid (Below w.heap.size w (((w.alloc (.cells #[.int .i64 7, .string ⟨#[]⟩, .int .i64 0, .bool false, .bool false] 23)).alloc (.cells #[.int .i64 0, .string ⟨#[]⟩, .int .i64 0, .bool false, .bool false] 23)).alloc (.cells #[.int .i64 65533] 3))) := hide (bstep (bstep (balloc _ _) (balloc _ _)) (balloc _ _))
  generalize ((w.alloc (.cells #[.int .i64 7, .string ⟨#[]⟩, .int .i64 0, .bool false, .bool false] 23)).alloc (.cells #[.int .i64 0, .string ⟨#[]⟩, .int .i64 0, .bool false, .bool false] 23)).alloc (.cells #[.int .i64 65533] 3) = X at *
  have hlx := hX0.lt
  obtain ⟨a0, a1, a2, a3, a4, -, -, -, -, -⟩ := hX0
  obtain ⟨b0, b1, b2, b3, b4, y0, y1, y2, y3, y4⟩ := hX1
  have hly : w.heap.size + 1 < X.heap.size := World.block_lt_of_cell? X _ b0
  unfold M.st0 at a2 a3 a4
  go_region
  all_goals
    go_wp2_with fail
    refine bodyPost_ret (v := .tuple #[.slice (some ⟨w.heap.size + 1 + 1, 0, none⟩) 1 1, .agg #[.int .i64 7, .string ⟨#[]⟩, .int .i64 M.st0.1, .bool M.st0.2.1, .bool M.st0.2.2]]) (by simp [results, Tryz.results57, go_sem, b0, b1, b2, b3, b4, M.st0]) rfl ?_
    refine ⟨.slice (some ⟨w.heap.size + 1 + 1, 0, none⟩) 1 1, ⟨#[]⟩, M.st0, [65533], rfl, ?_, ?_, ?_, ?_⟩
    · exact owns_mono (o_drew (oset5 (e := 7) (r := ⟨#[]⟩) (t := M.st0) (unhide HX) (by omega))) (by omega)
    · exact b_drew (bset5 (e := 7) (r := ⟨#[]⟩) (t := M.st0) (unhide HY) (by omega))
    · intro h; cases h
    · intro _; refine ⟨?_, rfl, rfl⟩; rw [unhide HBL, M.TE_X]; have e0 : (bl s).isEmpty = false := (by rw [List.isEmpty_eq_false_iff]; exact fun q => h0 (by rw [← bl_len, q]; rfl)); simp [e0]

theorem feedOf_any (e : Int) (r : ByteArray) (t : M.St) (p : ByteArray) (last : Bool) (w : World) (he : 1 ≤ e ∧ e ≤ 7) (hk : M.Ok e t) (hs : r.size + p.size ≤ 3300) :
    Calls Tryz.prog 57 #[sv e r t, .string p, .bool last] w (FedR e r t p last w) := by
  obtain rfl | rfl | rfl | rfl | rfl | rfl | rfl := M.seven he
  · cases last
    · exact feedOf_1_more r t p w hs
    · exact feedOf_1_last r t p w hs
  · cases last
    · exact feedOf_2_more r t p w hs
    · exact feedOf_2_last r t p w hs
  · cases last
    · exact feedOf_3_more r t p w hs
    · exact feedOf_3_last r t p w hs
  · cases last
    · exact feedOf_4_more r t p w hs
    · exact feedOf_4_last r t p w hs
  · cases last
    · exact feedOf_5_more r t p w hs
    · exact feedOf_5_last r t p w hs
  · cases last
    · exact feedOf_6_more r t p w hs hk.1
    · exact feedOf_6_last r t p w hs hk.1
  · obtain ⟨g, fr, st⟩ := t
    by_cases h0 : (r ++ p).size = 0
    · cases last
      · exact feedOf_7_none_more r g fr st p w hs h0
      · exact feedOf_7_none_last r g fr st p w hs h0
    · cases st
      · cases last
        · exact feedOf_7_told_more r g fr p w hs h0
        · exact feedOf_7_told_last r g fr p w hs h0
      · cases last
        · exact feedOf_7_stop_more r g fr p w hs h0
        · exact feedOf_7_stop_last r g fr p w hs h0

set_option maxHeartbeats 800000 in
set_option maxRecDepth 100000 in
theorem decodeOf_any (e : Int) (s : ByteArray) (w : World) (he : 1 ≤ e ∧ e ≤ 7) (hs : s.size ≤ 3000) :
    Calls Tryz.prog 81 #[.int .i64 e, .string s] w fun e' w' => ∃ v, e' = .returned v ∧ w'.ownsRow w.heap.size 3 1 v (M.decE e (bl s)).length ((M.decE e (bl s)).map (Value.int .i64)) ∧ Below w.heap.size w w' := by
  have H : ∀ w : World, Calls Tryz.prog 57 #[.agg #[.int .i64 e, .string ⟨#[]⟩, .int .i64 0, .bool false, .bool false], .string s, .bool true] w fun e' w' => ∃ v, e' = .returned (.tuple #[v, .agg #[.int .i64 e, .string ⟨#[]⟩, .int .i64 0, .bool false, .bool false]]) ∧ w'.ownsRow w.heap.size 3 1 v (M.decE e (bl s)).length ((M.decE e (bl s)).map (Value.int .i64)) ∧ Below w.heap.size w w' := by
    intro w
    refine (feedOf_any e ⟨#[]⟩ M.st0 s true w he (M.Ok_st0 e) (by show 0 + s.size ≤ 3300; omega)).mono ?_
    rintro e' w1 ⟨v, r', t', L, rfl, hI, hb, -, h2⟩
    obtain ⟨hL, rfl, rfl⟩ := h2 rfl
    have hL' : L = M.decE e (bl s) := hL
    subst hL'
    exact ⟨v, rfl, hI, hb⟩
  generalize M.decE e (bl s) = L at *
  go_enter Tryz.func81, Tryz.ntmps81
  go_wp2_with fail
  refine (H _).mono ?_
  rintro e w1 ⟨v, rfl, hI, hb⟩
  obtain ⟨av, cv, hsv⟩ := owns_shape hI
  subst hsv
  have HI := hide hI
  have HB := hide hb
  clear hI hb H
  go_wp2_with fail
  go_ret
  exact ⟨_, rfl, owns_a (unhide HI) _, bstep (unhide HB) (balloc _ _)⟩
end Go.Proofs.YtaiinjfnkmidbaaGreatDoor

namespace Go.Proofs.YtaiinjfnkmidbaaGreatDoor
open Go.RowKit
set_option linter.unusedVariables false

set_option maxHeartbeats 800000 in
set_option maxRecDepth 100000 in
theorem chooseOf_any (name s : ByteArray) (w : World) (hn : name.size ≤ 3000) (hs : s.size ≤ 3300) :
    Calls Tryz.prog 17 #[.string name, .string s] w fun e w' => e = .returned (.tuple #[.int .i64 (chI name (bl s)).1, .int .i64 (chI name (bl s)).2.1, .int .i64 (chI name (bl s)).2.2]) ∧ Below w.heap.size w w' := by
  have HS := hide (fun w => sniffOf_any s w (by unfold maxLen; omega))
  have HF := hide (fun w => findOf_any name w hn)
  have HC := hide (fun w => scanOf_any s w (by omega))
  have R1 := hide (fun h => chI_mark (name := name) (l := bl s) h)
  have R2 := hide (fun h h1 => chI_label (name := name) (l := bl s) h h1)
  have R3 := hide (fun h h1 h2 => chI_meta (name := name) (l := bl s) h h1 h2)
  have R4 := hide (fun h h1 h2 => chI_none (name := name) (l := bl s) h h1 h2)
  generalize (M.sn (bl s)).1 = a at *
  generalize (M.sn (bl s)).2 = b at *
  generalize findI name = c at *
  generalize scnI (bl s) = d at *
  by_cases h0 : a = 0
  · subst h0
    by_cases h1 : c = 0
    · subst h1
      by_cases h2 : d = 0
      · subst h2
        have HR := hide (unhide R4 rfl rfl rfl)
        clear R1 R2 R3 R4
        go_enter Tryz.func17, Tryz.ntmps17
        go_wp2_with fail
        refine (unhide HS _).mono ?_
        rintro e w1 ⟨rfl, hw⟩
        replace hw := hw.symm
        subst hw
        go_wp2_with fail
        refine (unhide HF _).mono ?_
        rintro e w2 ⟨rfl, hb2⟩
        have HB2 := hide hb2
        clear hb2
        go_wp2_with fail
        refine (unhide HC _).mono ?_
        rintro e w3 ⟨rfl, hb3⟩
        have HB3 := hide (bstep (unhide HB2) hb3)
        clear hb3
        go_wp2_with fail
        go_ret3
        exact ⟨by rw [unhide HR]; rfl, unhide HB3⟩
      · have HR := hide (unhide R3 rfl rfl h2)
        have hne : (d != 0) = true := bne_iff_ne.2 h2
        clear R1 R2 R3 R4 h2
        go_enter Tryz.func17, Tryz.ntmps17
        go_wp2_with fail
        refine (unhide HS _).mono ?_
        rintro e w1 ⟨rfl, hw⟩
        replace hw := hw.symm
        subst hw
        go_wp2_with fail
        refine (unhide HF _).mono ?_
        rintro e w2 ⟨rfl, hb2⟩
        have HB2 := hide hb2
        clear hb2
        go_wp2_with fail
        refine (unhide HC _).mono ?_
        rintro e w3 ⟨rfl, hb3⟩
        have HB3 := hide (bstep (unhide HB2) hb3)
        clear hb3
        go_wp2_with fail
        go_ret3
        exact ⟨by rw [unhide HR]; rfl, unhide HB3⟩
    · have HR := hide (unhide R2 rfl h1)
      have hne : (c != 0) = true := bne_iff_ne.2 h1
      clear R1 R2 R3 R4 h1
      go_enter Tryz.func17, Tryz.ntmps17
      go_wp2_with fail
      refine (unhide HS _).mono ?_
      rintro e w1 ⟨rfl, hw⟩
      replace hw := hw.symm
      subst hw
      go_wp2_with fail
      refine (unhide HF _).mono ?_
      rintro e w2 ⟨rfl, hb2⟩
      have HB2 := hide hb2
      clear hb2
      go_wp2_with fail
      go_ret3
      exact ⟨by rw [unhide HR]; rfl, unhide HB2⟩
  · have HR := hide (unhide R1 h0)
    have hne : (a != 0) = true := bne_iff_ne.2 h0
    clear R1 R2 R3 R4 h0
    go_enter Tryz.func17, Tryz.ntmps17
    go_wp2_with fail
    refine (unhide HS _).mono ?_
    rintro e w1 ⟨rfl, hw⟩
    replace hw := hw.symm
    subst hw
    go_wp2_with fail
    go_ret3
    exact ⟨by rw [unhide HR]; rfl, Below.refl _ _⟩
set_option maxHeartbeats 800000 in
set_option maxRecDepth 100000 in
theorem wholeOf_any (name s : ByteArray) (w : World) (hn : name.size ≤ 3000) (hs : s.size ≤ 3000) :
    Calls Tryz.prog 34 #[.string name, .string s] w fun e w' => ∃ v, e = .returned (.tuple #[v, .int .i64 (chI name (bl s)).1, .int .i64 (chI name (bl s)).2.1]) ∧ w'.ownsRow w.heap.size 3 1 v (whI name (bl s)).length ((whI name (bl s)).map (Value.int .i64)) ∧ Below w.heap.size w w' := by
  have hl := hide (bl_len s)
  have HC := hide (fun w => chooseOf_any name s w hn (by omega))
  have hbd := chI_bd name (bl s)
  rw [unhide hl] at hbd
  have HW : Hid (whI name (bl s) = M.decE (chI name (bl s)).1 ((bl s).drop (chI name (bl s)).2.2.toNat)) := hide rfl
  obtain ⟨n, y, m, HX⟩ : ∃ n y m, Hid (chI name (bl s) = (n, y, m)) := ⟨_, _, _, hide rfl⟩
  rw [unhide HX] at HC hbd HW
  simp only at HC hbd HW
  obtain ⟨he, hy, hm0, hm3, hml⟩ := hbd
  obtain ⟨k, rfl⟩ : ∃ k : Nat, m = (k : Int) := ⟨m.toNat, by omega⟩
  rw [Int.toNat_natCast, ← bl_extract] at HW
  have HD := hide (fun w => decodeOf_any n (s.extract k s.size) w he (by simp; omega))
  rw [← unhide HW] at HD
  have HX' := hide (fun (w' : World) (v : Value) (h : w'.ownsRow w.heap.size 3 1 v (whI name (bl s)).length ((whI name (bl s)).map (Value.int .i64))) => h)
  generalize hL : whI name (bl s) = L at *
  have HL := hide hL
  clear hL HW HX'
  go_enter Tryz.func34, Tryz.ntmps34
  go_wp2_with fail
  refine (unhide HC _).mono ?_
  rintro e w1 ⟨rfl, hb1⟩
  have hz1 := hb1.size
  have HB1 := hide hb1
  clear hb1
  go_wp2_with fail
  refine (unhide HD _).mono ?_
  rintro e w2 ⟨v, rfl, ho2, hb2⟩
  obtain ⟨ao, cap, hsh⟩ := owns_shape ho2
  subst hsh
  have HO := hide (owns_mono ho2 hz1)
  have HB2 := hide (bstep (unhide HB1) hb2)
  clear ho2 hb2
  go_wp2_with fail
  go_ret3
  exact ⟨.slice ao L.length cap, by rw [unhide HX]; rfl, by first | exact unhide HO | (rw [unhide HL]; exact unhide HO), unhide HB2⟩
end Go.Proofs.YtaiinjfnkmidbaaGreatDoor

namespace Go.Proofs.YtaiinjfnkmidbaaGreatDoor
open Go.RowKit
set_option linter.unusedVariables false

set_option maxHeartbeats 400000 in
set_option maxRecDepth 100000 in
theorem digits_lo (n : Nat) (w : World) (h : n < 10) : Calls Tryz.prog 84 #[.int .i64 (n : Int)] w fun e w' => e = .returned (.string (strOfNums (M.digs n))) ∧ Below w.heap.size w w' := by
  rw [M.digs_lo h]
  have hcv := conv_built (w := w.alloc (.cells #[.int .u8 (48 + (n : Int))] 5)) (b := w.heap.size) [48 + (n : Int)] 1 1 rfl (heap_alloc_new _ _)
  generalize strOfNums [48 + (n : Int)] = t at *
  go_enter Tryz.func84, Tryz.ntmps84
  go_wp2
  go_ret
  exact ⟨rfl, balloc _ _⟩

set_option maxHeartbeats 400000 in
set_option maxRecDepth 100000 in
theorem digits_any : ∀ (k n : Nat) (w : World), k ≤ 6 → n < 10 ^ (k + 1) → Calls Tryz.prog 84 #[.int .i64 (n : Int)] w fun e w' => e = .returned (.string (strOfNums (M.digs n))) ∧ Below w.heap.size w w' := by
  intro k
  induction k with
  | zero => intro n w hk hn; exact digits_lo n w (by simpa using hn)
  | succ k ih =>
    intro n w hk hn
    by_cases h : n < 10
    · exact digits_lo n w h
    · have hn7 : n < 10000000 := by
        have : (10 : Nat) ^ (k + 1 + 1) ≤ 10 ^ 7 := Nat.pow_le_pow_right (by omega) (by omega)
        have e : (10 : Nat) ^ 7 = 10000000 := rfl
        omega
      have hn1 : n / 10 < 10 ^ (k + 1) := by rw [Nat.pow_succ] at hn; omega
      have h1 := hide (fun w => ih (n / 10) w (by omega) hn1)
      have h2 := hide (fun w => digits_lo (n % 10) w (by omega))
      have hz1 : (strOfNums (M.digs (n / 10))).size ≤ 19 := by rw [strOfNums_size]; have := M.digs_len (k + 1) (n / 10) (by omega) hn1; omega
      have hz2 : (strOfNums (M.digs (n % 10))).size ≤ 1 := by rw [strOfNums_size]; exact M.digs_len 1 (n % 10) (by omega) (by simp; omega)
      have HE : Hid (strOfNums (M.digs n) = strOfNums (M.digs (n / 10)) ++ strOfNums (M.digs (n % 10))) := hide (by rw [M.digs_hi h, str_app, M.digs_lo (n := n % 10) (by omega)])
      rw [unhide HE]
      rw [show ((n / 10 : Nat) : Int) = (n : Int) / 10 from by omega] at h1
      rw [show ((n % 10 : Nat) : Int) = (n : Int) % 10 from by omega] at h2
      clear HE ih hn hn1 hk
      generalize strOfNums (M.digs (n / 10)) = t1 at *
      generalize strOfNums (M.digs (n % 10)) = t2 at *
      go_enter Tryz.func84, Tryz.ntmps84
      go_wp2_with fail
      refine (unhide h1 _).mono ?_
      rintro e w1 ⟨rfl, hb1⟩
      have HB1 := hide hb1
      clear hb1 h1
      go_wp2_with fail
      refine (unhide h2 _).mono ?_
      rintro e w2 ⟨rfl, hb2⟩
      have HB2 := hide (bstep (unhide HB1) hb2)
      clear hb2 h2
      go_wp2_with fail
      go_ret
      exact ⟨rfl, unhide HB2⟩
theorem digits_pt {p : Int} (h : M.sclr p = true) (w : World) : Calls Tryz.prog 84 #[.int .i64 p] w fun e w' => e = .returned (.string (strOfNums (M.digs p.toNat))) ∧ Below w.heap.size w w' := by
  have hb := M.sclr_bd h
  have := digits_any 6 p.toNat w (by omega) (by have : (10 : Nat) ^ (6 + 1) = 10000000 := rfl; omega)
  rwa [Int.toNat_of_nonneg hb.1] at this

set_option maxHeartbeats 400000 in
set_option maxRecDepth 100000 in
theorem outputOf_any (n : Int) (w : World) : Calls Tryz.prog 37 #[.int .i64 n] w fun e w' => e = .returned (.int .i64 (M.outE n)) ∧ w' = w := by
  by_cases h2 : n = 2
  · subst h2
    go_enter Tryz.func37, Tryz.ntmps37
    go_wp2
    go_ret
    exact ⟨rfl, rfl⟩
  · by_cases h3 : n = 3
    · subst h3
      go_enter Tryz.func37, Tryz.ntmps37
      go_wp2
      go_ret
      exact ⟨rfl, rfl⟩
    · by_cases h7 : n = 7
      · subst h7
        go_enter Tryz.func37, Tryz.ntmps37
        go_wp2
        go_ret
        exact ⟨rfl, rfl⟩
      · have e2 : (n == 2) = false := by simpa using h2
        have e3 : (n == 3) = false := by simpa using h3
        have e7 : (n == 7) = false := by simpa using h7
        have HE : Hid (M.outE n = n) := hide (by unfold M.outE; rw [if_neg (by omega)])
        rw [unhide HE]
        clear h2 h3 h7
        go_enter Tryz.func37, Tryz.ntmps37
        go_wp2
        go_ret
        exact ⟨rfl, rfl⟩
end Go.Proofs.YtaiinjfnkmidbaaGreatDoor

namespace Go.Proofs.YtaiinjfnkmidbaaGreatDoor
open Go.RowKit
set_option linter.unusedVariables false

set_option maxHeartbeats 400000 in
set_option maxRecDepth 100000 in
theorem low_any (n : Int) (w : World) (h : 0 ≤ n) (h' : n < 4294967296) : Calls Tryz.prog 193 #[.int .i64 n] w fun e w' => e = .returned (.int .u8 (128 + n % 64)) ∧ w' = w := by
  go_enter Tryz.func193, Tryz.ntmps193
  go_wp2
  go_ret
  exact ⟨ret_int (by omega), rfl⟩

set_option maxHeartbeats 400000 in
set_option maxRecDepth 100000 in
theorem row_1 (n : Int) (w : World) (h : 0 ≤ n) (h' : n < 128) : Calls Tryz.prog 140 #[.int .i64 n] w fun e w' => e = .returned (.string (strOfNums (M.enc1 n))) ∧ Below w.heap.size w w' := by
  rw [M.enc1_1 h']
  have hcv := conv_built (w := w.alloc (.cells #[.int .u8 (n)] 5)) (b := w.heap.size) [n] 1 1 rfl (heap_alloc_new _ _)
  generalize strOfNums [n] = t at *
  go_enter Tryz.func140, Tryz.ntmps140
  go_wp2_with (go_at_call 193; refine (low_any _ _ (by omega) (by omega)).mono ?_; rintro e w1 ⟨rfl, hw⟩; replace hw := hw.symm; subst hw)
  go_ret
  exact ⟨rfl, balloc _ _⟩
set_option maxHeartbeats 400000 in
set_option maxRecDepth 100000 in
theorem row_2 (n : Int) (w : World) (h : 128 ≤ n) (h' : n < 2048) : Calls Tryz.prog 140 #[.int .i64 n] w fun e w' => e = .returned (.string (strOfNums (M.enc1 n))) ∧ Below w.heap.size w w' := by
  rw [M.enc1_2 h h']
  have hcv := conv_built (w := w.alloc (.cells #[.int .u8 (192 + n / 64), .int .u8 (128 + n % 64)] 5)) (b := w.heap.size) [192 + n / 64, 128 + n % 64] 2 2 rfl (heap_alloc_new _ _)
  generalize strOfNums [192 + n / 64, 128 + n % 64] = t at *
  go_enter Tryz.func140, Tryz.ntmps140
  go_wp2_with (go_at_call 193; refine (low_any _ _ (by omega) (by omega)).mono ?_; rintro e w1 ⟨rfl, hw⟩; replace hw := hw.symm; subst hw)
  go_ret
  exact ⟨rfl, balloc _ _⟩
set_option maxHeartbeats 400000 in
set_option maxRecDepth 100000 in
theorem row_3 (n : Int) (w : World) (h : 2048 ≤ n) (h' : n < 65536) : Calls Tryz.prog 140 #[.int .i64 n] w fun e w' => e = .returned (.string (strOfNums (M.enc1 n))) ∧ Below w.heap.size w w' := by
  rw [M.enc1_3 h h']
  have hcv := conv_built (w := w.alloc (.cells #[.int .u8 (224 + n / 4096), .int .u8 (128 + n / 64 % 64), .int .u8 (128 + n % 64)] 5)) (b := w.heap.size) [224 + n / 4096, 128 + n / 64 % 64, 128 + n % 64] 3 3 rfl (heap_alloc_new _ _)
  generalize strOfNums [224 + n / 4096, 128 + n / 64 % 64, 128 + n % 64] = t at *
  go_enter Tryz.func140, Tryz.ntmps140
  go_wp2_with (go_at_call 193; refine (low_any _ _ (by omega) (by omega)).mono ?_; rintro e w1 ⟨rfl, hw⟩; replace hw := hw.symm; subst hw)
  go_ret
  exact ⟨rfl, balloc _ _⟩
set_option maxHeartbeats 400000 in
set_option maxRecDepth 100000 in
theorem row_4 (n : Int) (w : World) (h : 65536 ≤ n) (h' : n ≤ 1114111) : Calls Tryz.prog 140 #[.int .i64 n] w fun e w' => e = .returned (.string (strOfNums (M.enc1 n))) ∧ Below w.heap.size w w' := by
  rw [M.enc1_4 h]
  have hcv := conv_built (w := w.alloc (.cells #[.int .u8 (240 + n / 262144), .int .u8 (128 + n / 4096 % 64), .int .u8 (128 + n / 64 % 64), .int .u8 (128 + n % 64)] 5)) (b := w.heap.size) [240 + n / 262144, 128 + n / 4096 % 64, 128 + n / 64 % 64, 128 + n % 64] 4 4 rfl (heap_alloc_new _ _)
  generalize strOfNums [240 + n / 262144, 128 + n / 4096 % 64, 128 + n / 64 % 64, 128 + n % 64] = t at *
  go_enter Tryz.func140, Tryz.ntmps140
  go_wp2_with (go_at_call 193; refine (low_any _ _ (by omega) (by omega)).mono ?_; rintro e w1 ⟨rfl, hw⟩; replace hw := hw.symm; subst hw)
  go_ret
  exact ⟨rfl, balloc _ _⟩

theorem row_any (n : Int) (w : World) (h : M.sclr n = true) : Calls Tryz.prog 140 #[.int .i64 n] w fun e w' => e = .returned (.string (strOfNums (M.enc1 n))) ∧ Below w.heap.size w w' := by
  have h' := (M.sclr_iff n).1 h
  rcases (show n < 128 ∨ (128 ≤ n ∧ n < 2048) ∨ (2048 ≤ n ∧ n < 65536) ∨ 65536 ≤ n from by omega) with g | ⟨g, g'⟩ | ⟨g, g'⟩ | g
  · exact row_1 n w h'.1 g
  · exact row_2 n w g g'
  · exact row_3 n w g g'
  · exact row_4 n w g h'.2.1

set_option maxHeartbeats 400000 in
set_option maxRecDepth 100000 in
theorem encRef_none (ao : Option Addr) (cap : Nat) (w : World) : Calls Tryz.prog 85 #[.slice ao 0 cap] w fun e w' => e = .returned (.string ⟨#[]⟩) ∧ w' = w := by
  go_enter Tryz.func85, Tryz.ntmps85
  go_wp2
  refine wp_loop_rounds 1 ?_
  rw [rounds_succ]
  go_wp2
  go_ret
  exact ⟨rfl, rfl⟩

set_option maxHeartbeats 400000 in
set_option maxRecDepth 100000 in
theorem encRef_some (b off cap : Nat) (xs : List Int) (w : World) (h0 : xs ≠ []) (h : xs.length ≤ 3000) (ha : xs.all M.sclr = true) (hc : ∀ i, i < xs.length → w.cell? ⟨b, off + i, none⟩ = some (.int .i64 (xs.getD i 0))) :
    Calls Tryz.prog 85 #[.slice (some ⟨b, off, none⟩) xs.length cap] w fun e w' => e = .returned (.string (strOfNums (M.enc xs))) ∧ Below w.heap.size w w' := by
  have hlen : 0 < xs.length := List.length_pos_iff.2 h0
  have hbl : b < w.heap.size := World.block_lt_of_cell? w _ (hc 0 hlen)
  have HC := hide hc
  have HA := hide ha
  clear hc h0 ha
  go_enter Tryz.func85, Tryz.ntmps85
  go_wp2_with fail
  go_loopw [3, 4] (fun sv i wr => ∃ k : Nat, k ≤ xs.length ∧ i = .int .i64 k ∧ sv = .string (strOfNums (M.enc (xs.take k))) ∧ Below w.heap.size w wr) (fun _ i _ => xs.length - (intOf i).toNat)
  case atStart => exact ⟨0, by omega, rfl, rfl, Below.refl _ _⟩
  case round =>
    obtain ⟨k, hk, rfl, rfl, hbw⟩ := hrel
    by_cases hlt : k < xs.length
    · have hcell : wr.cell? ⟨b, off + k, none⟩ = some (.int .i64 (xs.getD k 0)) := (hbw.cell (p := ⟨b, off + k, none⟩) hbl).trans (unhide HC k hlt)
      obtain ⟨p, HP⟩ : ∃ p, Hid (xs.getD k 0 = p) := ⟨_, rfl⟩
      rw [unhide HP] at hcell
      have hs : M.sclr p = true := by rw [← unhide HP]; exact List.all_eq_true.1 (unhide HA) _ (by simp [hlt])
      have HT : Hid (strOfNums (M.enc (xs.take k)) ++ strOfNums (M.enc1 p) = strOfNums (M.enc (xs.take (k + 1)))) := by
        show _ = _
        rw [str_app, take_snoc xs k hlt, M.enc_snoc, unhide HP]
      have hsz1 : (strOfNums (M.enc (xs.take k))).size ≤ 12000 := by
        rw [strOfNums_size]; have := M.enc_len (xs.take k); have := List.length_take_le k xs; omega
      have hsz2 : (strOfNums (M.enc1 p)).size ≤ 4 := by rw [strOfNums_size]; exact (M.enc1_len p).2
      have HR := hide (fun w => row_any p w hs)
      clear hs
      generalize strOfNums (M.enc (xs.take k)) = t1 at *
      generalize strOfNums (M.enc1 p) = t2 at *
      go_wp2_with fail
      refine (unhide HR _).mono ?_
      rintro e w2 ⟨rfl, hb2⟩
      have HB := hide (hbw.trans (hb2.mono hbw.size))
      clear hbw hb2 HR
      go_wp2_with fail
      go_roundw
      case rel => exact ⟨k + 1, by omega, by go_num, by rw [← unhide HT], unhide HB⟩
      case measure => simp [intOf]; omega
    · have ek : k = xs.length := by omega
      subst ek
      rw [List.take_length]
      go_wp2_with fail
      go_ret
      exact ⟨rfl, hbw⟩

theorem encRef_any {v : Value} {xs : List Int} (w : World) (hx : Ints w v xs) (h : xs.length ≤ 3000) (ha : xs.all M.sclr = true) :
    Calls Tryz.prog 85 #[v] w fun e w' => e = .returned (.string (strOfNums (M.enc xs))) ∧ Below w.heap.size w w' := by
  obtain ⟨ao, cap, rfl, hm, -, hx⟩ := hx
  by_cases h0 : xs = []
  · subst h0
    refine (encRef_none ao cap w).mono ?_
    rintro e w' ⟨rfl, rfl⟩
    exact ⟨rfl, Below.refl _ _⟩
  · rcases hx with hx | ⟨b, off, rfl, hc⟩
    · exact absurd hx h0
    · exact encRef_some b off cap xs w h0 h ha hc
end Go.Proofs.YtaiinjfnkmidbaaGreatDoor

namespace Go.Proofs.YtaiinjfnkmidbaaGreatDoor
open Go.RowKit
set_option linter.unusedVariables false

theorem convB (w0 : World) (x : Int) (B : Nat) (hB : w0.heap.size = B) :
    (convert 151 9 (.slice (some ⟨B, 0, none⟩) 1 1)).run Tryz.prog (w0.alloc (.cells #[.int .u8 x] 5)) = .ok (.string (strOfNums [x])) (w0.alloc (.cells #[.int .u8 x] 5)) := by
  subst hB
  exact conv_built [x] 1 1 rfl (heap_alloc_new _ _)
/-- What a round of EncodeKana's loop knows. -/
def InR (xs : List Int) (w wr : World) (k : Nat) (t : ByteArray) : Prop := bl t = M.kbody 0 (xs.take k) ∧ Below w.heap.size w wr ∧ (xs.take k).all M.anyK = true
/-- The first signs that have a code point, where those that are now have it not. -/
theorem want_first {now n : Int} (hn : M.Sg now) (ha : M.anyK n = true) (h : M.hasK now n = false) : ∃ x : Nat, M.want now n = x ∧ x < 3 ∧ (∀ j : Nat, j < x → M.hasK (j : Int) n = false) ∧ M.hasK (x : Int) n = true ∧ (x : Int) ≠ now := by
  have hw := M.want_has (now := now) ha
  have hne : M.want now n ≠ now := fun e => by rw [e, h] at hw; cases hw
  unfold M.want at *
  rw [if_neg (by simp [h])] at *
  by_cases h0 : M.hasK 0 n = true
  · rw [if_pos h0] at *
    exact ⟨0, rfl, by omega, fun j hj => by omega, h0, hne⟩
  · rw [if_neg h0] at *
    by_cases h1 : M.hasK 1 n = true
    · rw [if_pos h1] at *
      refine ⟨1, rfl, by omega, fun j hj => ?_, h1, hne⟩
      have : j = 0 := by omega
      subst this; exact Bool.eq_false_iff.2 h0
    · rw [if_neg h1] at *
      refine ⟨2, rfl, by omega, fun j hj => ?_, hw, hne⟩
      obtain rfl | rfl : j = 0 ∨ j = 1 := by omega
      · exact Bool.eq_false_iff.2 h0
      · exact Bool.eq_false_iff.2 h1
theorem esc_cutR {k : Nat} (h : k < 3) : bl ((⟨#[27, 40]⟩ : ByteArray) ++ (⟨#[66, 74, 73]⟩ : ByteArray).extract k (k + 1)) = [27, 40, M.esc (k : Int)] := by
  match k, h with
  | 0, _ => decide
  | 1, _ => decide
  | 2, _ => decide
theorem esc_szR {k : Nat} (h : k < 3) : ((⟨#[27, 40]⟩ : ByteArray) ++ (⟨#[66, 74, 73]⟩ : ByteArray).extract k (k + 1)).size = 3 := by
  match k, h with
  | 0, _ => decide
  | 1, _ => decide
  | 2, _ => decide
theorem nat_sg {x : Nat} (h : x < 3) : M.Sg (x : Int) := by unfold M.Sg; omega

set_option maxHeartbeats 2000000 in
set_option maxRecDepth 100000 in
theorem encodeKana_any (v : Value) (xs : List Int) (w : World) (hI : Ints w v xs) (hlen : xs.length ≤ 30000) :
    Calls Tryz.prog 87 #[v] w fun e w' => e = .returned (wrote xs) ∧ Below w.heap.size w w' := by
  obtain ⟨ao, cap, rfl, -, -, hc⟩ := hI
  have HC := hide hc
  have HI : Hid (InR xs w w 0 ByteArray.empty) := hide ⟨rfl, Below.refl _ _, by simp⟩
  clear hc
  go_enter Tryz.func87, Tryz.ntmps87
  go_wp2_with fail
  go_loopw [4, 5, 6] (fun sv now i wr => ∃ (k : Nat) (t : ByteArray), k ≤ xs.length ∧ i = .int .i64 k ∧ sv = .string t ∧ now = .int .i64 (M.kst 0 (xs.take k)) ∧ InR xs w wr k t) (fun _ _ i _ => xs.length - (intOf i).toNat)
  case atStart => exact ⟨0, ByteArray.empty, by omega, rfl, rfl, rfl, unhide HI⟩
  case round =>
    obtain ⟨k, t, hk, rfl, rfl, rfl, hT, hB, hA⟩ := hrel
    clear HI
    have hnow := M.kst_sg (xs.take k) (now := 0) (.inl rfl)
    have htz : t.size ≤ 120000 := by rw [← bl_len, hT]; have := M.kbody_len (xs.take k) 0; rw [List.length_take] at this; omega
    have HT := hide hT
    have HBR := hide hB
    have HA := hide hA
    obtain ⟨now, HNow⟩ : ∃ now, Hid (M.kst 0 (xs.take k) = now) := ⟨_, hide rfl⟩
    rw [unhide HNow] at hnow
    rw [unhide HNow]
    clear hT hB hA
    by_cases hlt : k < xs.length
    · obtain ⟨b, off, rfl, hc⟩ : ∃ b off, ao = some ⟨b, off, none⟩ ∧ ∀ i, i < xs.length → w.cell? ⟨b, off + i, none⟩ = some (.int .i64 (xs.getD i 0)) := by
        rcases unhide HC with h | h
        · subst h; simp at hlt
        · exact h
      have hcell : wr.cell? ⟨b, off + k, none⟩ = some (.int .i64 (xs.getD k 0)) := ((unhide HBR).cell (p := ⟨b, off + k, none⟩) (World.block_lt_of_cell? w _ (hc k hlt))).trans (hc k hlt)
      have hbr : b < wr.heap.size := World.block_lt_of_cell? wr _ hcell
      obtain ⟨p, HP⟩ : ∃ p, Hid (xs.getD k 0 = p) := ⟨_, hide rfl⟩
      rw [unhide HP] at hcell
      clear hc
      have hhk := fun w => hasKana_any p w
      cases hq : M.anyK p
      · rw [hq] at hhk
        have HW : Hid (wrote xs = .tuple #[.string ByteArray.empty, .bool false]) := hide (by unfold wrote; rw [all_no hlt (unhide HP) hq]; rfl)
        clear hq
        go_wp2_with fail
        refine (hhk _).mono ?_
        rintro e w1 ⟨rfl, hw⟩
        replace hw := hw.symm
        subst hw
        clear hhk
        go_wp2_with fail
        go_ret2
        refine ⟨?_, unhide HBR⟩
        rw [unhide HW]; rfl
      · rw [hq] at hhk
        have HE1 : Hid (xs.take (k + 1) = xs.take k ++ [p]) := hide (take_getD hlt (unhide HP))
        have HK1 : Hid (M.kst 0 (xs.take (k + 1)) = M.want now p) := hide (by rw [unhide HE1, M.kst_snoc, unhide HNow])
        have HA1 : Hid ((xs.take (k + 1)).all M.anyK = true) := hide (by rw [unhide HE1, List.all_append, unhide HA]; simp [hq])
        have HN1 : Hid (M.kbody 0 (xs.take (k + 1)) = M.kbody 0 (xs.take k) ++ M.kpc now p) := hide (by rw [unhide HE1, M.kbody_snoc, unhide HNow])
        have kb := fun w => kanaByte_any now p hnow w
        have hcv := fun c => convB wr c wr.heap.size rfl
        cases hh : M.hasK now p
        · obtain ⟨x, hx1, hx3, hx4, hx5, hx6⟩ := want_first hnow hq hh
          rw [kbv_no hh] at kb
          obtain ⟨y1, y2, y3⟩ := kbv_yes hx5
          rw [hx1] at HK1
          have HP1 : Hid (M.kpc now p = [27, 40, M.esc (x : Int)] ++ [kbv (x : Int) p]) := hide (by unfold M.kpc; rw [hx1, if_neg hx6, y1])
          obtain ⟨c, HCq⟩ : ∃ c, Hid (kbv (x : Int) p = c) := ⟨_, hide rfl⟩
          have kx := fun w => kanaByte_any (x : Int) p (nat_sg hx3) w
          rw [unhide HCq] at y2 y3 HP1 kx
          have HX4 := hide hx4
          have hne : ((x : Int) != now) = true := by simpa using hx6
          have hcvc := hcv c
          have hbt : bl (strOfNums [c]) = [c] := bl_str _ (by intro q hq; simp at hq; omega)
          have hdz : (strOfNums [c]).size = 1 := by rw [strOfNums_size]; rfl
          clear hq hh hx1 hx4 hx5 hx6 y1 hcv
          go_wp2_with fail
          refine (hhk _).mono ?_
          rintro e w1 ⟨rfl, hw⟩
          replace hw := hw.symm
          subst hw
          clear hhk
          go_wp2_with fail
          refine (kb _).mono ?_
          rintro e w1 ⟨rfl, hw⟩
          replace hw := hw.symm
          subst hw
          clear kb
          go_wp2_with fail
          go_loop [7] (fun y => ∃ j : Nat, j ≤ x ∧ y = .int .i64 j) (fun y => 3 - (intOf y).toNat)
          case atStart => exact ⟨0, by omega, rfl⟩
          case round =>
            obtain ⟨j, hj, rfl⟩ := hrel
            by_cases hjx : j < x
            · have kj := fun w => kanaByte_any (j : Int) p (nat_sg (by omega)) w
              rw [kbv_no (unhide HX4 j hjx)] at kj
              go_wp2_with fail
              refine (kj _).mono ?_
              rintro e w1 ⟨rfl, hw⟩
              replace hw := hw.symm
              subst hw
              clear kj
              go_wp2_with fail
              go_round
              case rel => exact ⟨j + 1, by omega, by go_num⟩
              case measure => simp [intOf]; omega
            · obtain rfl : j = x := by omega
              have hz3 : (⟨#[66, 74, 73]⟩ : ByteArray).size = 3 := rfl
              have HT1 : Hid (∀ u, u = strOfNums [c] → bl (t ++ ((⟨#[27, 40]⟩ : ByteArray) ++ (⟨#[66, 74, 73]⟩ : ByteArray).extract j (j + 1)) ++ u) = M.kbody 0 (xs.take (k + 1))) := hide (fun u hu => by
                rw [hu, bl_app, bl_app, hbt, esc_cutR hx3, unhide HT, unhide HN1, unhide HP1, List.append_assoc])
              obtain rfl | rfl | rfl : j = 0 ∨ j = 1 ∨ j = 2 := by omega
              · have HJ : Hid (bl (t ++ ((⟨#[27, 40]⟩ : ByteArray) ++ (⟨#[66, 74, 73]⟩ : ByteArray).extract 0 1) ++ strOfNums [c]) = M.kbody 0 (xs.take (k + 1))) := hide (unhide HT1 _ rfl)
                have hesz : ((⟨#[27, 40]⟩ : ByteArray) ++ (⟨#[66, 74, 73]⟩ : ByteArray).extract 0 1).size = 3 := esc_szR hx3
                have kx' : ∀ w : World, Calls Tryz.prog 141 #[.int .i64 0, .int .i64 p] w fun e w' => e = .returned (.int .i64 c) ∧ w' = w := kx
                have hne' : ((0 : Int) != now) = true := hne
                have HK1' : Hid (M.kst 0 (xs.take (k + 1)) = 0) := HK1
                clear HT1 kx hne HK1 HX4 hbt
                generalize strOfNums [c] = d at *
                go_wp2_with fail
                refine (kx' _).mono ?_
                rintro e w1 ⟨rfl, hw⟩
                replace hw := hw.symm
                subst hw
                go_wp2_with fail
                refine (kx' _).mono ?_
                rintro e w1 ⟨rfl, hw⟩
                replace hw := hw.symm
                subst hw
                go_wp2_with fail
                go_roundw
                case rel => exact ⟨k + 1, _, by omega, by go_num, rfl, by rw [unhide HK1'], unhide HJ, (unhide HBR).alloc (unhide HBR).size _, unhide HA1⟩
                case measure => simp [intOf]; omega
              · have HJ : Hid (bl (t ++ ((⟨#[27, 40]⟩ : ByteArray) ++ (⟨#[66, 74, 73]⟩ : ByteArray).extract 1 2) ++ strOfNums [c]) = M.kbody 0 (xs.take (k + 1))) := hide (unhide HT1 _ rfl)
                have hesz : ((⟨#[27, 40]⟩ : ByteArray) ++ (⟨#[66, 74, 73]⟩ : ByteArray).extract 1 2).size = 3 := esc_szR hx3
                have kx' : ∀ w : World, Calls Tryz.prog 141 #[.int .i64 1, .int .i64 p] w fun e w' => e = .returned (.int .i64 c) ∧ w' = w := kx
                have hne' : ((1 : Int) != now) = true := hne
                have HK1' : Hid (M.kst 0 (xs.take (k + 1)) = 1) := HK1
                clear HT1 kx hne HK1 HX4 hbt
                generalize strOfNums [c] = d at *
                go_wp2_with fail
                refine (kx' _).mono ?_
                rintro e w1 ⟨rfl, hw⟩
                replace hw := hw.symm
                subst hw
                go_wp2_with fail
                refine (kx' _).mono ?_
                rintro e w1 ⟨rfl, hw⟩
                replace hw := hw.symm
                subst hw
                go_wp2_with fail
                go_roundw
                case rel => exact ⟨k + 1, _, by omega, by go_num, rfl, by rw [unhide HK1'], unhide HJ, (unhide HBR).alloc (unhide HBR).size _, unhide HA1⟩
                case measure => simp [intOf]; omega
              · have HJ : Hid (bl (t ++ ((⟨#[27, 40]⟩ : ByteArray) ++ (⟨#[66, 74, 73]⟩ : ByteArray).extract 2 3) ++ strOfNums [c]) = M.kbody 0 (xs.take (k + 1))) := hide (unhide HT1 _ rfl)
                have hesz : ((⟨#[27, 40]⟩ : ByteArray) ++ (⟨#[66, 74, 73]⟩ : ByteArray).extract 2 3).size = 3 := esc_szR hx3
                have kx' : ∀ w : World, Calls Tryz.prog 141 #[.int .i64 2, .int .i64 p] w fun e w' => e = .returned (.int .i64 c) ∧ w' = w := kx
                have hne' : ((2 : Int) != now) = true := hne
                have HK1' : Hid (M.kst 0 (xs.take (k + 1)) = 2) := HK1
                clear HT1 kx hne HK1 HX4 hbt
                generalize strOfNums [c] = d at *
                go_wp2_with fail
                refine (kx' _).mono ?_
                rintro e w1 ⟨rfl, hw⟩
                replace hw := hw.symm
                subst hw
                go_wp2_with fail
                refine (kx' _).mono ?_
                rintro e w1 ⟨rfl, hw⟩
                replace hw := hw.symm
                subst hw
                go_wp2_with fail
                go_roundw
                case rel => exact ⟨k + 1, _, by omega, by go_num, rfl, by rw [unhide HK1'], unhide HJ, (unhide HBR).alloc (unhide HBR).size _, unhide HA1⟩
                case measure => simp [intOf]; omega
        · rw [(kbv_yes hh).1] at kb
          obtain ⟨y1, y2, y3⟩ := kbv_yes hh
          have hwn : M.want now p = now := by unfold M.want; rw [if_pos hh]
          rw [hwn] at HK1
          have HP1 : Hid (M.kpc now p = [M.kby now p]) := hide (by unfold M.kpc; rw [hwn, if_pos rfl]; rfl)
          obtain ⟨c, HCq⟩ : ∃ c, Hid (M.kby now p = c) := ⟨_, hide rfl⟩
          rw [y1] at y2 y3
          rw [unhide HCq] at y2 y3 HP1 kb
          have hcvc := hcv c
          have hbt : bl (strOfNums [c]) = [c] := bl_str _ (by intro q hq; simp at hq; omega)
          have hdz : (strOfNums [c]).size = 1 := by rw [strOfNums_size]; rfl
          have HJ : Hid (bl (t ++ strOfNums [c]) = M.kbody 0 (xs.take (k + 1))) := hide (by rw [bl_app, hbt, unhide HT, unhide HN1, unhide HP1])
          clear hq hh y1 hcv hwn hbt
          generalize strOfNums [c] = d at *
          go_wp2_with fail
          refine (hhk _).mono ?_
          rintro e w1 ⟨rfl, hw⟩
          replace hw := hw.symm
          subst hw
          clear hhk
          go_wp2_with fail
          refine (kb _).mono ?_
          rintro e w1 ⟨rfl, hw⟩
          replace hw := hw.symm
          subst hw
          go_wp2_with fail
          refine (kb _).mono ?_
          rintro e w1 ⟨rfl, hw⟩
          replace hw := hw.symm
          subst hw
          clear kb
          go_wp2_with fail
          go_roundw
          case rel => exact ⟨k + 1, _, by omega, by go_num, rfl, by rw [unhide HK1], unhide HJ, (unhide HBR).alloc (unhide HBR).size _, unhide HA1⟩
          case measure => simp [intOf]; omega
    · have et : xs.take k = xs := List.take_of_length_le (by omega)
      rw [et] at HNow HT HA
      have HW : Hid (wrote xs = .tuple #[.string (strOfNums (bl t ++ M.ktail now)), .bool true]) := hide (by unfold wrote; rw [unhide HA, if_pos rfl]; unfold M.kenc; rw [unhide HNow, unhide HT])
      by_cases hn0 : now = 0
      · subst hn0
        have HW2 : Hid (wrote xs = .tuple #[.string t, .bool true]) := hide (by rw [unhide HW, show M.ktail 0 = [] from rfl, List.append_nil, str_bl])
        clear HW
        go_wp2_with fail
        go_ret2
        refine ⟨?_, unhide HBR⟩
        rw [unhide HW2]; rfl
      · have hne : (now != 0) = true := by simpa using hn0
        have HW2 : Hid (wrote xs = .tuple #[.string (t ++ ⟨#[27, 40, 66]⟩), .bool true]) := hide (by
          rw [unhide HW, show M.ktail now = bl ⟨#[27, 40, 66]⟩ from by unfold M.ktail; rw [if_neg hn0]; rfl, ← bl_app, str_bl])
        clear HW
        go_wp2_with fail
        go_ret2
        refine ⟨?_, unhide HBR⟩
        rw [unhide HW2]; rfl
end Go.Proofs.YtaiinjfnkmidbaaGreatDoor

namespace Go.Proofs.YtaiinjfnkmidbaaGreatDoor
open Go.RowKit Go.Maps
set_option linter.unusedVariables false

/-- What ByteOf answers. -/
def bOf (user : Bool) (n : Int) : Int := if M.hasB user n then M.bof user n else -1
theorem bOf_yes {user : Bool} {n : Int} (h : M.hasB user n = true) : bOf user n = M.bof user n := by unfold bOf; rw [if_pos h]
theorem bOf_no {user : Bool} {n : Int} (h : M.hasB user n = false) : bOf user n = -1 := by unfold bOf; rw [if_neg (by simp [h])]

set_option maxHeartbeats 400000 in
set_option maxRecDepth 100000 in
theorem byteRef_any (user : Bool) (n : Int) (w : World) : Calls Tryz.prog 138 #[.bool user, .int .i64 n] w fun e w' => e = .returned (.int .i64 (bOf user n)) ∧ Below w.heap.size w w' := by
  go_enter Tryz.func138, Tryz.ntmps138
  go_wp2_with fail
  go_loopw [5] (fun i wr => ∃ k : Nat, k ≤ 256 ∧ i = .int .i64 k ∧ Hid (∀ j : Nat, j < k → M.pt user (j : Int) ≠ n) ∧ Hid (Below w.heap.size w wr)) (fun i _ => 256 - (intOf i).toNat)
  case atStart => exact ⟨0, by omega, rfl, hide (fun j hj => by omega), hide (Below.refl _ _)⟩
  case round =>
    obtain ⟨k, hk, rfl, HN, HB⟩ := hrel
    by_cases hlt : k < 256
    · have HR := hide (fun w => pointRef_any user k w hlt)
      obtain ⟨p, HP⟩ : ∃ p, Hid (M.pt user (k : Int) = p) := ⟨_, rfl⟩
      rw [unhide HP] at HR
      by_cases he : p = n
      · have heq : (p == n) = true := by simp [he]
        have HE : Hid (bOf user n = (k : Int)) := by
          refine hide ?_
          rw [← he, ← unhide HP, bOf_yes (M.hasB_pt user hlt), M.bof_pt user hlt]
        clear he
        go_wp2_with fail
        refine (unhide HR _).mono ?_
        rintro e w1 ⟨rfl, hb1⟩
        go_wp2_with fail
        go_ret
        exact ⟨ret_int (unhide HE).symm, bstep (unhide HB) hb1⟩
      · have heq : (p == n) = false := by simp [he]
        have HN' : Hid (∀ j : Nat, j < k + 1 → M.pt user (j : Int) ≠ n) := by
          refine hide fun j hj => ?_
          by_cases e : j = k
          · subst e; rw [unhide HP]; exact he
          · exact unhide HN j (by omega)
        clear he
        go_wp2_with fail
        refine (unhide HR _).mono ?_
        rintro e w1 ⟨rfl, hb1⟩
        have HB' := hide (bstep (unhide HB) hb1)
        clear hb1
        go_wp2_with fail
        go_roundw
        case rel => exact ⟨k + 1, by omega, by go_num, HN', HB'⟩
        case measure => simp [intOf]; omega
    · have HE : Hid (bOf user n = -1) := hide (bOf_no (M.hasB_no user n (fun j hj => unhide HN j (by omega))))
      go_wp2_with fail
      go_ret
      exact ⟨ret_int (unhide HE).symm, unhide HB⟩

/-- What EncodeSingle answers. -/
def refResS (user : Bool) (xs : List Int) : Value := if xs.all (M.hasB user) then .tuple #[.string (strOfNums (M.encS user xs)), .bool true] else .tuple #[.string ⟨#[]⟩, .bool false]
theorem refResS_yes {user : Bool} {xs : List Int} (h : xs.all (M.hasB user) = true) : refResS user xs = .tuple #[.string (strOfNums (M.encS user xs)), .bool true] := by unfold refResS; rw [if_pos h]
theorem refResS_no {user : Bool} {xs : List Int} (h : xs.all (M.hasB user) = false) : refResS user xs = .tuple #[.string ⟨#[]⟩, .bool false] := by unfold refResS; rw [if_neg (by simp [h])]

set_option maxHeartbeats 400000 in
set_option maxRecDepth 100000 in
theorem encRefS_any (user : Bool) {v : Value} {xs : List Int} (w : World) (hx : Ints w v xs) (h : xs.length ≤ 30000) :
    Calls Tryz.prog 86 #[.bool user, v] w fun e w' => e = .returned (refResS user xs) ∧ Below w.heap.size w w' := by
  obtain ⟨ao, cap, rfl, hm, -, hc⟩ := id hx
  obtain ⟨i0, hi, hz0, hz1, hz2⟩ := info_parts info5
  clear hx
  have HC := hide hc
  clear hc
  have HI : Hid (InTS user xs w w 0 (.slice none 0 0)) := hide ⟨World.ownsRow_nil _ _ _ _, Below.refl _ _, by simp⟩
  go_enter Tryz.func86, Tryz.ntmps86
  go_wp2_with fail
  go_loopw [6, 7] (fun v i wr => ∃ k : Nat, k ≤ xs.length ∧ i = .int .i64 k ∧ InTS user xs w wr k v) (fun _ i _ => xs.length - (intOf i).toNat)
  case atStart => exact ⟨0, by omega, rfl, unhide HI⟩
  case round =>
    obtain ⟨k, hk, rfl, hI⟩ := hrel
    clear HI
    have hz := hI.2.1.size
    have hl : Hid ((M.encS user (xs.take k)).length = k) := hide (by rw [M.encS_len, List.length_take]; omega)
    by_cases hlt : k < xs.length
    · obtain ⟨b, off, rfl, hc⟩ : ∃ b off, ao = some ⟨b, off, none⟩ ∧ ∀ i, i < xs.length → w.cell? ⟨b, off + i, none⟩ = some (.int .i64 (xs.getD i 0)) := by
        rcases unhide HC with h | h
        · subst h; simp at hlt
        · exact h
      have hcell : wr.cell? ⟨b, off + k, none⟩ = some (.int .i64 (xs.getD k 0)) := (hI.2.1.cell (p := ⟨b, off + k, none⟩) (World.block_lt_of_cell? w _ (hc k hlt))).trans (hc k hlt)
      have hbr : b < wr.heap.size := World.block_lt_of_cell? wr _ hcell
      obtain ⟨p, HP⟩ : ∃ p, Hid (xs.getD k 0 = p) := ⟨_, rfl⟩
      rw [unhide HP] at hcell
      obtain ⟨q, HQ⟩ : ∃ q, Hid (M.hasB user p = q) := ⟨_, rfl⟩
      obtain ⟨ao2, cap2, hsh⟩ := owns_shape hI.1
      subst hsh
      clear hc
      have HR := hide (fun w => byteRef_any user p w)
      cases q
      · rw [bOf_no (unhide HQ)] at HR
        go_wp2_with fail
        refine (unhide HR _).mono ?_
        rintro e w1 ⟨rfl, hb1⟩
        go_wp2_with fail
        go_ret2
        refine ⟨?_, bstep hI.2.1 hb1⟩
        have : xs.all (M.hasB user) = false := by
          rw [List.all_eq_false]
          refine ⟨xs.getD k 0, by simp [hlt], by rw [unhide HP, unhide HQ]; simp⟩
        rw [refResS_no this]; rfl
      · have hbd := M.bof_bd user (unhide HQ)
        rw [bOf_yes (unhide HQ)] at HR
        obtain ⟨B, HB⟩ : ∃ B, Hid (M.bof user p = B) := ⟨_, rfl⟩
        rw [unhide HB] at hbd HR
        go_wp2_with fail
        refine (unhide HR _).mono ?_
        rintro e w1 ⟨rfl, hb1⟩
        have hzz := hb1.size
        have hI' := owns_below hI.1 hb1
        go_wp2_with (at_builtin; refine wpList_append_own _ rfl (.tmp 23) (.tmp 26) 151 rfl w.heap.size 5 i0 (.int .u8 0) 1 1 Tryz.underlying151 hi hz0 hz1 hz2 rfl (by decide) _ _ _ rfl (hI'.alloc _) ⟨w1.heap.size, 0, none⟩ 1 1 [.int .u8 B] rfl rfl ?c1 ?c2 ?c3 ?c4 ?c5 ?_)
        case c1 =>
          intro j u hj
          match j, hj with
          | 0, hj => simp at hj; subst hj; simp [Addr.add]
        case c2 => intro u hu; simp at hu; subst hu; rfl
        case c3 => have := unhide hl; unfold maxLen; omega
        case c4 => have := unhide hl; omega
        case c5 => simp; omega
        intro v' w2 hown' hgrow _
        obtain ⟨ao', cap', rfl⟩ := owns_shape hown'
        have HJ : Hid (InTS user xs w w2 (k + 1) (.slice ao' ((M.encS user (xs.take k)).length + 1) cap')) := hide (hI.step hlt (unhide HP) (unhide HQ) (unhide HB) (by simpa using hown') ((hb1.mono hz).trans (((Below.refl _ _).alloc (by omega) _).grown hgrow (by simp; omega) (fun j hj => by have := hI'.lt j hj; omega))))
        clear hI hI' hown' hgrow hb1
        go_wp2_with fail
        go_roundw
        case rel => exact ⟨k + 1, by omega, by go_num, by simpa using unhide HJ⟩
        case measure => simp [intOf]; omega
    · have hcv := conv_owned hI.1
      obtain ⟨o1, o2, o3⟩ := hI
      have hb := hide o2
      have et : xs.take k = xs := List.take_of_length_le (by omega)
      rw [et] at hcv o1 o3
      obtain ⟨ao2, cap2, hsh⟩ := owns_shape o1
      subst hsh
      have HA := hide o3
      clear o1 o2 o3 et hl
      go_wp2_with fail
      go_ret2
      refine ⟨?_, unhide hb⟩
      rw [refResS_yes (unhide HA)]; rfl
end Go.Proofs.YtaiinjfnkmidbaaGreatDoor

namespace Go.Proofs.YtaiinjfnkmidbaaGreatDoor
open Go.RowKit
set_option linter.unusedVariables false

set_option maxHeartbeats 400000 in
set_option maxRecDepth 100000 in
theorem isEncodingF_any (n : Int) (w : World) : Calls Tryz.prog 82 #[.int .i64 n] w fun e w' => e = .returned (.bool (decide (1 ≤ n ∧ n ≤ 7))) ∧ w' = w := by
  rw [Bool.decide_and]
  go_enter Tryz.func82, Tryz.ntmps82
  go_wp2_with (go_at_call 51; refine (between_any _ _ _ _).mono ?_; rintro e w1 ⟨rfl, hw⟩; replace hw := hw.symm; subst hw)
  go_ret
  exact ⟨rfl, rfl⟩

theorem bOf_pos (user : Bool) (n : Int) : decide (0 ≤ bOf user n) = M.hasB user n := by
  cases h : M.hasB user n
  · rw [bOf_no h]; rfl
  · rw [bOf_yes h]; simp; exact (M.bof_bd user h).1
set_option maxHeartbeats 800000 in
set_option maxRecDepth 100000 in
theorem hasOf_any (n p : Int) (w : World) (hn : 1 ≤ n ∧ n ≤ 7) : Calls Tryz.prog 83 #[.int .i64 n, .int .i64 p] w fun e w' => e = .returned (.bool (M.hasE n p)) ∧ Below w.heap.size w w' := by
  have B0 := hide (fun w => byteRef_any false p w)
  have B1 := hide (fun w => byteRef_any true p w)
  have D0 := hide (bOf_pos false p)
  have D1 := hide (bOf_pos true p)
  have K := hide (fun w => hasKana_any p w)
  generalize bOf false p = b0 at *
  generalize bOf true p = b1 at *
  rcases (show n = 1 ∨ n = 2 ∨ n = 3 ∨ n = 7 ∨ n = 4 ∨ n = 5 ∨ n = 6 from by omega) with rfl | rfl | rfl | rfl | rfl | rfl | rfl
  · go_enter Tryz.func83, Tryz.ntmps83
    go_wp2_with fail
    go_ret
    exact ⟨rfl, Below.refl _ _⟩
  · go_enter Tryz.func83, Tryz.ntmps83
    go_wp2_with fail
    go_ret
    exact ⟨rfl, Below.refl _ _⟩
  · go_enter Tryz.func83, Tryz.ntmps83
    go_wp2_with fail
    go_ret
    exact ⟨rfl, Below.refl _ _⟩
  · go_enter Tryz.func83, Tryz.ntmps83
    go_wp2_with fail
    go_ret
    exact ⟨rfl, Below.refl _ _⟩
  · rw [M.hasE_four, ← unhide D0]
    go_enter Tryz.func83, Tryz.ntmps83
    go_wp2_with fail
    refine (unhide B0 _).mono ?_
    rintro e w1 ⟨rfl, hb⟩
    have HB := hide hb
    clear hb
    go_wp2_with fail
    go_ret
    exact ⟨rfl, unhide HB⟩
  · rw [M.hasE_five, ← unhide D1]
    go_enter Tryz.func83, Tryz.ntmps83
    go_wp2_with fail
    refine (unhide B1 _).mono ?_
    rintro e w1 ⟨rfl, hb⟩
    have HB := hide hb
    clear hb
    go_wp2_with fail
    go_ret
    exact ⟨rfl, unhide HB⟩
  · rw [M.hasE_six]
    go_enter Tryz.func83, Tryz.ntmps83
    go_wp2_with fail
    refine (unhide K _).mono ?_
    rintro e w1 ⟨rfl, hw⟩
    replace hw := hw.symm
    subst hw
    go_wp2_with fail
    go_ret
    exact ⟨rfl, Below.refl _ _⟩

set_option maxHeartbeats 400000 in
set_option maxRecDepth 100000 in
theorem encOf_kind (n mode : Int) (ao : Option Addr) (len cap : Nat) (w : World) (hn : ¬ (1 ≤ n ∧ n ≤ 7)) : Calls Tryz.prog 35 #[.int .i64 n, .int .i64 mode, .slice ao len cap] w fun e w' => e = .returned (.tuple #[.string ⟨#[]⟩, .int .i64 6]) ∧ w' = w := by
  have I := hide (fun w => isEncodingF_any n w)
  rw [show decide (1 ≤ n ∧ n ≤ 7) = false from decide_eq_false hn] at I
  clear hn
  go_enter Tryz.func35, Tryz.ntmps35
  go_wp2_with fail
  refine (unhide I _).mono ?_
  rintro e w1 ⟨rfl, hw⟩
  replace hw := hw.symm
  subst hw
  go_wp2_with fail
  go_ret2
  exact ⟨rfl, rfl⟩
/-- What a round of EncodeOf's loop knows. -/
def InG (L : List Int) (w wr : World) (v : Value) : Prop := wr.ownsRow w.heap.size 3 1 v L.length (L.map (Value.int .i64)) ∧ Below w.heap.size w wr

set_option maxHeartbeats 3200000 in
set_option maxRecDepth 100000 in
theorem encOf_1 (n : Int) {v : Value} {xs : List Int} (w : World) (hn : 1 ≤ n ∧ n ≤ 7) (hI : Ints w v xs) (hlen : xs.length ≤ 3000) (hs : xs.all M.sclr = true) : Calls Tryz.prog 35 #[.int .i64 n, .int .i64 1, v] w fun e w' => e = .returned (resW n 1 xs) ∧ Below w.heap.size w w' := by
  have I := hide (fun w => isEncodingF_any n w)
  rw [show decide (1 ≤ n ∧ n ≤ 7) = true from decide_eq_true hn] at I
  have C := hide (pcheck_any w hI hlen)
  rw [chkRes_yes hs] at C
  obtain ⟨ao, cap, rfl, -, -, hc⟩ := hI
  have HC := hide hc
  have HS := hide hs
  have HN := hide hn
  have HI : Hid (InG (M.ptsE n (xs.take 0)) w w (.slice none 0 0)) := hide ⟨World.ownsRow_nil _ _ _ _, Below.refl _ _⟩
  clear hn hs hc
  go_enter Tryz.func35, Tryz.ntmps35
  go_wp2_with fail
  refine (unhide I _).mono ?_
  rintro e w1 ⟨rfl, hw⟩
  replace hw := hw.symm
  subst hw
  clear I
  go_wp2_with fail
  refine (unhide C).mono ?_
  rintro e w1 ⟨rfl, hw⟩
  replace hw := hw.symm
  subst hw
  clear C
  go_wp2_with fail
  go_loopw [9, 10] (fun v i wr => ∃ k : Nat, k ≤ xs.length ∧ i = .int .i64 k ∧ InG (M.ptsE n (xs.take k)) w wr v) (fun _ i _ => xs.length - (intOf i).toNat)
  case atStart => exact ⟨0, by omega, rfl, by simpa using unhide HI⟩
  case round =>
    obtain ⟨k, hk, rfl, hI⟩ := hrel
    clear HI
    have hz := hI.2.size
    have HO := hide hI.1
    have HB := hide hI.2
    have HLn : Hid ((M.ptsE n (xs.take k)).length ≤ 30000) := hide (pts_few (all_take (unhide HS) k) (by rw [List.length_take]; omega))
    clear hI
    by_cases hlt : k < xs.length
    · obtain ⟨b, off, rfl, hc⟩ : ∃ b off, ao = some ⟨b, off, none⟩ ∧ ∀ i, i < xs.length → w.cell? ⟨b, off + i, none⟩ = some (.int .i64 (xs.getD i 0)) := by
        rcases unhide HC with h | h
        · subst h; simp at hlt
        · exact h
      have hcell : wr.cell? ⟨b, off + k, none⟩ = some (.int .i64 (xs.getD k 0)) := ((unhide HB).cell (p := ⟨b, off + k, none⟩) (World.block_lt_of_cell? w _ (hc k hlt))).trans (hc k hlt)
      have hbr : b < wr.heap.size := World.block_lt_of_cell? wr _ hcell
      have HSp : Hid (M.sclr (xs.getD k 0) = true) := hide (sclr_all (unhide HS) _ (by simp [hlt]))
      obtain ⟨p, HP⟩ : ∃ p, Hid (xs.getD k 0 = p) := ⟨_, hide rfl⟩
      rw [unhide HP] at hcell HSp
      clear hc
      have HT := hide (take_getD hlt (unhide HP))
      have HH := hide (fun w => hasOf_any n p w (unhide HN))
      cases hq : M.hasE n p
      · have HL1 : Hid (M.ptsE n (xs.take (k + 1)) = M.ptsE n (xs.take k) ++ M.tld p) := hide (by rw [unhide HT, M.ptsE_snoc, M.ptE_no hq])
        have HD := hide (fun w => digits_pt (unhide HSp) w)
        have HBy : Hid (bl ((⟨#[38, 35]⟩ : ByteArray) ++ strOfNums (M.digs p.toNat) ++ (⟨#[59]⟩ : ByteArray)) = M.tld p) := hide (by
          rw [bl_app, bl_app, bl_str _ (fun x hx => by have := M.digs_bd _ x hx; omega)]
          unfold M.tld
          rw [show bl ⟨#[38, 35]⟩ = [38, 35] from by decide, show bl ⟨#[59]⟩ = [59] from by decide])
        have hdz : (strOfNums (M.digs p.toNat)).size ≤ 7 := by rw [strOfNums_size]; exact M.digs_seven (unhide HSp)
        rw [hq] at HH
        clear hq
        generalize M.ptsE n (xs.take k) = L at *
        generalize strOfNums (M.digs p.toNat) = d at *
        have hln := unhide HLn
        obtain ⟨av, capv, hsh⟩ := owns_shape (unhide HO)
        subst hsh
        go_wp2_with fail
        refine (unhide HH _).mono ?_
        rintro e w1 ⟨rfl, hb1⟩
        have hz1 := hb1.size
        have HB1 := hide hb1
        have HO1 := hide (owns_below (unhide HO) hb1)
        have hcell1 : w1.cell? ⟨b, off + k, none⟩ = some (.int .i64 p) := (hb1.cell (p := ⟨b, off + k, none⟩) hbr).trans hcell
        have hbr1 : b < w1.heap.size := by omega
        clear hb1 HH
        go_wp2_with fail
        refine (unhide HD _).mono ?_
        rintro e w2 ⟨rfl, hb2⟩
        have hz2 := hb2.size
        have HB2 := hide (bstep (unhide HB1) hb2)
        have HO2 := hide (owns_below (unhide HO1) hb2)
        clear hb2 HD HB1 HO1 hcell1 hbr1
        have z2 : (⟨#[38, 35]⟩ : ByteArray).size = 2 := rfl
        have z1 : (⟨#[59]⟩ : ByteArray).size = 1 := rfl
        go_wp2_with fail
        have hsz : ((⟨#[38, 35]⟩ : ByteArray) ++ d ++ (⟨#[59]⟩ : ByteArray)).size ≤ 10 := by rw [ByteArray.size_append, ByteArray.size_append, z1, z2]; omega
        clear z1 z2
        generalize ((⟨#[38, 35]⟩ : ByteArray) ++ d ++ (⟨#[59]⟩ : ByteArray)) = s at *
        have HI2 : Hid (InG (L ++ (bl s).take 0) w w2 (.slice av L.length capv)) := hide ⟨by simpa using unhide HO2, bstep (unhide HB) (unhide HB2)⟩
        clear HO2 HB2
        go_loopw [9, 12] (fun v i wq => ∃ j : Nat, j ≤ s.size ∧ i = .int .i64 j ∧ InG (L ++ (bl s).take j) w wq v) (fun _ i _ => s.size - (intOf i).toNat)
        case atStart => exact ⟨0, by omega, rfl, unhide HI2⟩
        case round =>
          obtain ⟨j, hj, rfl, hI2⟩ := hrel
          clear HI2
          have hzj := hI2.2.size
          have HOj := hide hI2.1
          have HBj := hide hI2.2
          clear hI2
          by_cases hjl : j < s.size
          · have HTj : Hid ((bl s).take (j + 1) = (bl s).take j ++ [(bl s).getD j 0]) := hide (take_snoc _ j (by rw [bl_len]; exact hjl))
            have hgc : (bl s).getD j 0 = (s[j].toNat : Int) := by rw [List.getD_eq_getElem?_getD, bl_get s j hjl]; rfl
            have hbd : s[j].toNat < 256 := by have := s[j].toNat_lt; omega
            rw [hgc] at HTj
            have HL2 : Hid ((L ++ (bl s).take j).length ≤ 30010) := hide (by rw [List.length_append, List.length_take]; omega)
            obtain ⟨c, hcc⟩ : ∃ c : Int, (s[j].toNat : Int) = c := ⟨_, rfl⟩
            rw [hcc] at HTj
            have hc0 : 0 ≤ c := by omega
            have hc1 : c ≤ 255 := by omega
            have HN2 : Hid (L ++ (bl s).take (j + 1) = (L ++ (bl s).take j) ++ [c]) := hide (by rw [unhide HTj, List.append_assoc])
            clear hgc hbd
            generalize L ++ (bl s).take j = L2 at *
            have hln2 := unhide HL2
            obtain ⟨av2, capv2, hsh2⟩ := owns_shape (unhide HOj)
            subst hsh2
            go_wp2_with (at_builtin; refine append_ints rfl (.tmp 65) (.tmp 70) rfl w.heap.size _ L2 rfl (owns_a (unhide HOj) _) _ [c] rfl (one_int _ _) (by simp; omega) (by simp; omega) ?_)
            intro v3 w3 ho3 hb3
            obtain ⟨ao3, cap3, hsh3⟩ := owns_shape ho3
            subst hsh3
            have HJ : Hid (InG (L ++ (bl s).take (j + 1)) w w3 (.slice ao3 (L2 ++ [c]).length cap3)) := hide ⟨by rw [unhide HN2]; simpa using ho3, (unhide HBj).trans (((Below.refl _ _).alloc (by omega) _).trans hb3)⟩
            clear ho3 hb3
            go_wp2_with fail
            go_roundw
            case rel => exact ⟨j + 1, by omega, by go_num, by simpa using unhide HJ⟩
            case measure => simp [intOf]; omega
          · have HE : Hid (L ++ (bl s).take j = M.ptsE n (xs.take (k + 1))) := hide (by rw [unhide HL1, List.take_of_length_le (by rw [bl_len]; omega), unhide HBy])
            rw [unhide HE] at HOj
            go_wp2_with fail
            go_roundw
            case rel => exact ⟨k + 1, by omega, by go_num, unhide HOj, unhide HBj⟩
            case measure => simp [intOf]; omega
      · have HL1 : Hid (M.ptsE n (xs.take (k + 1)) = M.ptsE n (xs.take k) ++ [p]) := hide (by rw [unhide HT, M.ptsE_snoc, M.ptE_yes hq])
        rw [hq] at HH
        clear hq
        generalize M.ptsE n (xs.take k) = L at *
        have hln := unhide HLn
        obtain ⟨av, capv, hsh⟩ := owns_shape (unhide HO)
        subst hsh
        go_wp2_with fail
        refine (unhide HH _).mono ?_
        rintro e w1 ⟨rfl, hb1⟩
        have hz1 := hb1.size
        have HB1 := hide hb1
        have HO1 := hide (owns_below (unhide HO) hb1)
        have hcell1 : w1.cell? ⟨b, off + k, none⟩ = some (.int .i64 p) := (hb1.cell (p := ⟨b, off + k, none⟩) hbr).trans hcell
        have hbr1 : b < w1.heap.size := by omega
        clear hb1 HH
        go_wp2_with (at_builtin; refine append_ints rfl (.tmp 45) (.tmp 50) rfl w.heap.size _ L rfl (owns_a (unhide HO1) _) _ [p] rfl (one_int _ _) (by simp; omega) (by simp; omega) ?_)
        intro v2 w2 ho2 hb2
        obtain ⟨ao2, cap2, hsh2⟩ := owns_shape ho2
        subst hsh2
        have HJ : Hid (InG (M.ptsE n (xs.take (k + 1))) w w2 (.slice ao2 (L ++ [p]).length cap2)) := hide ⟨by rw [unhide HL1]; simpa using ho2, (bstep (unhide HB) (unhide HB1)).trans (((Below.refl _ _).alloc (by omega) _).trans hb2)⟩
        clear ho2 hb2
        go_wp2_with fail
        go_roundw
        case rel => exact ⟨k + 1, by omega, by go_num, by simpa using unhide HJ⟩
        case measure => simp [intOf]; omega
    · have et : xs.take k = xs := List.take_of_length_le (by omega)
      rw [et] at HO
      clear et HLn
      rcases (show (n = 1 ∨ n = 2 ∨ n = 3 ∨ n = 7) ∨ n = 4 ∨ n = 5 ∨ n = 6 from by have := unhide HN; omega) with hu | rfl | rfl | rfl
      · have ho : M.outE n = 1 := by unfold M.outE; split <;> omega
        have HR : Hid (resW n 1 xs = .tuple #[.string (strOfNums (M.enc xs)), .int .i64 0]) := hide (by rw [resW_yes (.inr (List.all_eq_true.2 fun x _ => M.hasE_one ho x)), M.ptsE_one ho, ← M.encB_out, ho, M.encB_1])
        have OO := hide (fun w => outputOf_any n w)
        rw [ho] at OO
        rw [M.ptsE_one ho] at HO
        have HI := hide (Ints.of_owns (unhide HO))
        have HE := hide (encRef_any wr (unhide HI) hlen (unhide HS))
        generalize strOfNums (M.enc xs) = es at *
        obtain ⟨av, capv, hsh⟩ := owns_shape (unhide HO)
        subst hsh
        clear hu ho
        go_wp2_with fail
        refine (unhide OO _).mono ?_
        rintro e w5 ⟨rfl, hw⟩
        replace hw := hw.symm
        subst hw
        go_wp2_with fail
        refine (unhide HE).mono ?_
        rintro e w6 ⟨rfl, hb6⟩
        have HB6 := hide (bstep (unhide HB) hb6)
        clear hb6
        go_wp2_with fail
        go_ret2
        refine ⟨?_, unhide HB6⟩
        rw [unhide HR]; rfl
      · have HAl : Hid ((M.ptsE 4 xs).all (M.hasB false) = true) := hide (M.ptsE_has 4 xs)
        have HR : Hid (resW 4 1 xs = .tuple #[.string (strOfNums (M.encS false (M.ptsE 4 xs))), .int .i64 0]) := hide (resW_yes (.inl rfl))
        have OO := hide (fun w => outputOf_any 4 w)
        rw [show M.outE 4 = 4 from rfl] at OO
        have HI := hide (Ints.of_owns (unhide HO))
        have HE := hide (encRefS_any false wr (unhide HI) (pts_few (unhide HS) hlen))
        rw [refResS_yes (unhide HAl)] at HE
        generalize strOfNums (M.encS false (M.ptsE 4 xs)) = es at *
        obtain ⟨av, capv, hsh⟩ := owns_shape (unhide HO)
        subst hsh
        go_wp2_with fail
        refine (unhide OO _).mono ?_
        rintro e w5 ⟨rfl, hw⟩
        replace hw := hw.symm
        subst hw
        go_wp2_with fail
        refine (unhide HE).mono ?_
        rintro e w6 ⟨rfl, hb6⟩
        have HB6 := hide (bstep (unhide HB) hb6)
        clear hb6
        go_wp2_with fail
        go_ret2
        refine ⟨?_, unhide HB6⟩
        rw [unhide HR]; rfl
      · have HAl : Hid ((M.ptsE 5 xs).all (M.hasB true) = true) := hide (M.ptsE_has 5 xs)
        have HR : Hid (resW 5 1 xs = .tuple #[.string (strOfNums (M.encS true (M.ptsE 5 xs))), .int .i64 0]) := hide (resW_yes (.inl rfl))
        have OO := hide (fun w => outputOf_any 5 w)
        rw [show M.outE 5 = 5 from rfl] at OO
        have HI := hide (Ints.of_owns (unhide HO))
        have HE := hide (encRefS_any true wr (unhide HI) (pts_few (unhide HS) hlen))
        rw [refResS_yes (unhide HAl)] at HE
        generalize strOfNums (M.encS true (M.ptsE 5 xs)) = es at *
        obtain ⟨av, capv, hsh⟩ := owns_shape (unhide HO)
        subst hsh
        go_wp2_with fail
        refine (unhide OO _).mono ?_
        rintro e w5 ⟨rfl, hw⟩
        replace hw := hw.symm
        subst hw
        go_wp2_with fail
        refine (unhide HE).mono ?_
        rintro e w6 ⟨rfl, hb6⟩
        have HB6 := hide (bstep (unhide HB) hb6)
        clear hb6
        go_wp2_with fail
        go_ret2
        refine ⟨?_, unhide HB6⟩
        rw [unhide HR]; rfl
      · have HAl : Hid ((M.ptsE 6 xs).all (M.anyK) = true) := hide (M.ptsE_has 6 xs)
        have HR : Hid (resW 6 1 xs = .tuple #[.string (strOfNums (M.kenc (M.ptsE 6 xs))), .int .i64 0]) := hide (resW_yes (.inl rfl))
        have OO := hide (fun w => outputOf_any 6 w)
        rw [show M.outE 6 = 6 from rfl] at OO
        have HI := hide (Ints.of_owns (unhide HO))
        have HE := hide (encodeKana_any _ _ wr (unhide HI) (pts_few (unhide HS) hlen))
        rw [wrote_yes (unhide HAl)] at HE
        generalize strOfNums (M.kenc (M.ptsE 6 xs)) = es at *
        obtain ⟨av, capv, hsh⟩ := owns_shape (unhide HO)
        subst hsh
        go_wp2_with fail
        refine (unhide OO _).mono ?_
        rintro e w5 ⟨rfl, hw⟩
        replace hw := hw.symm
        subst hw
        go_wp2_with fail
        refine (unhide HE).mono ?_
        rintro e w6 ⟨rfl, hb6⟩
        have HB6 := hide (bstep (unhide HB) hb6)
        clear hb6
        go_wp2_with fail
        go_ret2
        refine ⟨?_, unhide HB6⟩
        rw [unhide HR]; rfl
end Go.Proofs.YtaiinjfnkmidbaaGreatDoor
