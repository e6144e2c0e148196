/- Laws that the statements of this seat lean on, part 8 (MR FP RX6 RE6 CS RY6 RZ6): each a contract of a function, or a plain fact; conditions stand at each. -/
import Derived.Deep.CutBlock
import Derived.Deep.DeepCutAuto
import Derived.Test.YtaiinjfnkmidbaaGreatDoorQC7
namespace Go.Proofs.YtaiinjfnkmidbaaGreatDoor
open Go.RowKit
set_option linter.unusedVariables false

def mkB (n : Int) : ByteArray := if n = 1 then ⟨#[239, 187, 191]⟩ else if n = 2 then ⟨#[255, 254]⟩ else if n = 3 then ⟨#[254, 255]⟩ else ⟨#[]⟩
set_option maxHeartbeats 400000 in
set_option maxRecDepth 100000 in
theorem markOf_any (n : Int) (w : World) : Calls Tryz.prog 36 #[.int .i64 n] w fun e w' => e = .returned (.string (mkB n)) ∧ w' = w := by
  unfold mkB
  by_cases h1 : n = 1
  · subst h1
    go_enter Tryz.func36, Tryz.ntmps36
    go_wp2
    go_ret
    exact ⟨rfl, rfl⟩
  · by_cases h2 : n = 2
    · subst h2
      go_enter Tryz.func36, Tryz.ntmps36
      go_wp2
      go_ret
      exact ⟨rfl, rfl⟩
    · by_cases h3 : n = 3
      · subst h3
        go_enter Tryz.func36, Tryz.ntmps36
        go_wp2
        go_ret
        exact ⟨rfl, rfl⟩
      · have e1 : (n == 1) = false := by simpa using h1
        have e2 : (n == 2) = false := by simpa using h2
        have e3 : (n == 3) = false := by simpa using h3
        rw [if_neg h1, if_neg h2, if_neg h3]
        clear h1 h2 h3
        go_enter Tryz.func36, Tryz.ntmps36
        go_wp2
        go_ret
        exact ⟨rfl, rfl⟩

theorem hasP_no {s p : ByteArray} (h : hasP s p = false) : s.size < p.size ∨ (p.size ≤ s.size ∧ ((s.extract 0 p.size).toList == p.toList) = false) := by
  by_cases hz : p.size ≤ s.size
  · exact .inr ⟨hz, by rw [hasP_at s p hz, h]⟩
  · exact .inl (by omega)
theorem hasP_yes {s p : ByteArray} (h : hasP s p = true) : p.size ≤ s.size ∧ ((s.extract 0 p.size).toList == p.toList) = true := by
  by_cases hz : p.size ≤ s.size
  · exact ⟨hz, by rw [hasP_at s p hz, h]⟩
  · rw [hasP_short s p (by omega)] at h; cases h
set_option maxHeartbeats 800000 in
set_option maxRecDepth 100000 in
theorem sniffOf_any (s : ByteArray) (w : World) (hs : s.size ≤ maxLen) : Calls Tryz.prog 54 #[.string s] w fun e w' => e = .returned (.tuple #[.int .i64 (M.sn (bl s)).1, .int .i64 (M.sn (bl s)).2]) ∧ w' = w := by
  unfold maxLen at hs
  have k1 := fun w => markOf_any 1 w
  have k2 := fun w => markOf_any 2 w
  have k3 := fun w => markOf_any 3 w
  rw [show mkB 1 = ⟨#[239, 187, 191]⟩ from rfl] at k1
  rw [show mkB 2 = ⟨#[255, 254]⟩ from rfl] at k2
  rw [show mkB 3 = ⟨#[254, 255]⟩ from rfl] at k3
  have z1 : (⟨#[239, 187, 191]⟩ : ByteArray).size = 3 := rfl
  have z2 : (⟨#[255, 254]⟩ : ByteArray).size = 2 := rfl
  have z3 : (⟨#[254, 255]⟩ : ByteArray).size = 2 := rfl
  have y1 : (⟨#[239, 187, 191]⟩ : ByteArray).toList = ([239, 187, 191] : List UInt8) := by rw [Lib.toList_data]
  have y2 : (⟨#[255, 254]⟩ : ByteArray).toList = ([255, 254] : List UInt8) := by rw [Lib.toList_data]
  have y3 : (⟨#[254, 255]⟩ : ByteArray).toList = ([254, 255] : List UInt8) := by rw [Lib.toList_data]
  have b1 : bl ⟨#[239, 187, 191]⟩ = [239, 187, 191] := by decide
  have b2 : bl ⟨#[255, 254]⟩ = [255, 254] := by decide
  have b3 : bl ⟨#[254, 255]⟩ = [254, 255] := by decide
  have HS : Hid (M.sn (bl s) = if hasP s ⟨#[239, 187, 191]⟩ then (1, 3) else if hasP s ⟨#[254, 255]⟩ then (3, 2) else if hasP s ⟨#[255, 254]⟩ then (2, 2) else (0, 0)) := hide (by
    unfold M.sn hasP
    simp only [b1, b2, b3, decide_eq_true_eq])
  have HX : Hid (hasP s ⟨#[255, 254]⟩ = true → hasP s ⟨#[254, 255]⟩ = false) := hide (by
    unfold hasP
    rw [b2, b3, decide_eq_true_eq, decide_eq_false_iff_not, M.pre2, M.pre2]
    rintro ⟨t, ht⟩ ⟨u, hu⟩
    rw [ht] at hu; simp at hu)
  cases h1 : hasP s ⟨#[239, 187, 191]⟩
  · have g1 := hasP_no h1
    rw [z1, y1] at g1
    cases h2 : hasP s ⟨#[255, 254]⟩
    · have g2 := hasP_no h2
      rw [z2, y2] at g2
      cases h3 : hasP s ⟨#[254, 255]⟩
      · have g3 := hasP_no h3
        rw [z3, y3] at g3
        have HR : Hid (M.sn (bl s) = (0, 0)) := hide (by rw [unhide HS, h1, h2, h3]; rfl)
        clear HS HX h1 h2 h3 b1 b2 b3 y1 y2 y3
        rcases g1 with g1 | ⟨g1, e1⟩ <;> rcases g2 with g2 | ⟨g2, e2⟩ <;> rcases g3 with g3 | ⟨g3, e3⟩
        all_goals first | (exfalso; omega) | skip
        all_goals
          go_enter Tryz.func54, Tryz.ntmps54
          go_wp2_with fail
          refine wp_loop_rounds 4 ?_
          rw [rounds_succ]
          go_wp2_with fail
          refine (k1 _).mono ?_
          rintro e w1 ⟨rfl, hw⟩
          replace hw := hw.symm
          subst hw
          go_wp2_with fail
          rw [rounds_succ]
          go_wp2_with fail
          refine (k2 _).mono ?_
          rintro e w1 ⟨rfl, hw⟩
          replace hw := hw.symm
          subst hw
          go_wp2_with fail
          rw [rounds_succ]
          go_wp2_with fail
          refine (k3 _).mono ?_
          rintro e w1 ⟨rfl, hw⟩
          replace hw := hw.symm
          subst hw
          go_wp2_with fail
          rw [rounds_succ]
          go_wp2_with fail
          go_ret2
          refine ⟨?_, rfl⟩
          rw [unhide HR]
          rfl
      · obtain ⟨g3, e3⟩ := hasP_yes h3
        rw [z3] at g3
        rw [z3, y3] at e3
        have HR : Hid (M.sn (bl s) = (3, 2)) := hide (by rw [unhide HS, h1, h3]; rfl)
        clear HS HX h1 h2 h3 b1 b2 b3 y1 y2 y3
        rcases g1 with g1 | ⟨g1, e1⟩ <;> rcases g2 with g2 | ⟨g2, e2⟩
        all_goals first | (exfalso; omega) | skip
        all_goals
          go_enter Tryz.func54, Tryz.ntmps54
          go_wp2_with fail
          refine wp_loop_rounds 4 ?_
          rw [rounds_succ]
          go_wp2_with fail
          refine (k1 _).mono ?_
          rintro e w1 ⟨rfl, hw⟩
          replace hw := hw.symm
          subst hw
          go_wp2_with fail
          rw [rounds_succ]
          go_wp2_with fail
          refine (k2 _).mono ?_
          rintro e w1 ⟨rfl, hw⟩
          replace hw := hw.symm
          subst hw
          go_wp2_with fail
          rw [rounds_succ]
          go_wp2_with fail
          refine (k3 _).mono ?_
          rintro e w1 ⟨rfl, hw⟩
          replace hw := hw.symm
          subst hw
          go_wp2_with fail
          go_ret2
          refine ⟨?_, rfl⟩
          rw [unhide HR]
          rfl
    · obtain ⟨g2, e2⟩ := hasP_yes h2
      rw [z2] at g2
      rw [z2, y2] at e2
      have HR : Hid (M.sn (bl s) = (2, 2)) := hide (by rw [unhide HS, h1, unhide HX h2, h2]; rfl)
      clear HS HX h1 h2 b1 b2 b3 y1 y2 y3
      rcases g1 with g1 | ⟨g1, e1⟩
      all_goals
        go_enter Tryz.func54, Tryz.ntmps54
        go_wp2_with fail
        refine wp_loop_rounds 4 ?_
        rw [rounds_succ]
        go_wp2_with fail
        refine (k1 _).mono ?_
        rintro e w1 ⟨rfl, hw⟩
        replace hw := hw.symm
        subst hw
        go_wp2_with fail
        rw [rounds_succ]
        go_wp2_with fail
        refine (k2 _).mono ?_
        rintro e w1 ⟨rfl, hw⟩
        replace hw := hw.symm
        subst hw
        go_wp2_with fail
        go_ret2
        refine ⟨?_, rfl⟩
        rw [unhide HR]
        rfl
  · obtain ⟨g1, e1⟩ := hasP_yes h1
    rw [z1] at g1
    rw [z1, y1] at e1
    have HR : Hid (M.sn (bl s) = (1, 3)) := hide (by rw [unhide HS, h1]; rfl)
    clear HS HX h1 b1 b2 b3 y1 y2 y3
    go_enter Tryz.func54, Tryz.ntmps54
    go_wp2_with fail
    refine wp_loop_rounds 4 ?_
    rw [rounds_succ]
    go_wp2_with fail
    refine (k1 _).mono ?_
    rintro e w1 ⟨rfl, hw⟩
    replace hw := hw.symm
    subst hw
    go_wp2_with fail
    go_ret2
    refine ⟨?_, rfl⟩
    rw [unhide HR]
    rfl
end Go.Proofs.YtaiinjfnkmidbaaGreatDoor

namespace Go.Proofs.YtaiinjfnkmidbaaGreatDoor
open Go.RowKit
set_option linter.unusedVariables false


set_option maxHeartbeats 3000000 in
set_option maxRecDepth 100000 in
theorem feedOf_6_more (r : ByteArray) (t : M.St) (p : ByteArray) (w : World) (hs : r.size + p.size ≤ 3300) (hk : M.Sg t.1) :
    Calls Tryz.prog 57 #[sv 6 r t, .string p, .bool false] w (FedR 6 r t p false w) := by
  obtain ⟨s, hcat⟩ : ∃ s, r ++ p = s := ⟨_, rfl⟩
  have hsz : s.size ≤ 3300 := by rw [← hcat, ByteArray.size_append]; exact hs
  have HBL : Hid (bl r ++ bl p = bl s) := hide (by rw [← hcat, bl_app])
  have hcat2 : (r.append p) = s := hcat
  unfold sv
  have H := fun w => decodeKana_more t.1 t.2.1 s w hk hsz
  obtain ⟨L, HL⟩ : ∃ L, Hid ((M.Run M.fk (t.1, t.2.1) (bl s)).1 = L) := ⟨_, hide rfl⟩
  obtain ⟨g, fr, HT⟩ : ∃ g fr, Hid ((M.Run M.fk (t.1, t.2.1) (bl s)).2.1 = (g, fr)) := ⟨_, _, hide rfl⟩
  rw [unhide HL, unhide HT] at H
  go_enter Tryz.func57, Tryz.ntmps57
  go_wp2_with fail
  refine (H _).mono ?_
  rintro e' w1 ⟨v, rr, rfl, hrr, hI, hb⟩
  have HRR := hide hrr
  clear hrr
  obtain ⟨av, cv, hsv⟩ := owns_shape hI
  subst hsv
  have HI : Hid (w1.ownsRow (w.heap.size + 3) 3 1 (.slice av L.length cv) L.length (L.map (Value.int .i64))) := hide (by simpa using hI)
  have HB : Hid (Below w.heap.size w w1) := hide (bstep (bstep (bstep (balloc _ _) (balloc _ _)) (balloc _ _)) hb)
  have h0 : Sc w.heap.size 6 r t w1 := Sc.below (w := (((w.alloc (.cells #[.int .i64 6, .string r, .int .i64 t.1, .bool t.2.1, .bool t.2.2] 23)).alloc (.cells #[.int .i64 0, .string ⟨#[]⟩, .int .i64 0, .bool false, .bool false] 23)).alloc (.cells #[.int .i64 0, .bool false] 144))) (by constructor <;> simp [go_sem]) hb (by simp; omega)
  have h1 : Rc (w.heap.size + 1) w1 := Rc.below (w := (((w.alloc (.cells #[.int .i64 6, .string r, .int .i64 t.1, .bool t.2.1, .bool t.2.2] 23)).alloc (.cells #[.int .i64 0, .string ⟨#[]⟩, .int .i64 0, .bool false, .bool false] 23)).alloc (.cells #[.int .i64 0, .bool false] 144))) (by constructor <;> simp [go_sem]) hb (by simp)
  have h2 : Pc (w.heap.size + 2) 0 false w1 := Pc.below (w := (((w.alloc (.cells #[.int .i64 6, .string r, .int .i64 t.1, .bool t.2.1, .bool t.2.2] 23)).alloc (.cells #[.int .i64 0, .string ⟨#[]⟩, .int .i64 0, .bool false, .bool false] 23)).alloc (.cells #[.int .i64 0, .bool false] 144))) (by constructor <;> simp [go_sem]) hb (by simp)
  have hl := h2.lt
  have hl1 : w.heap.size + 1 < w1.heap.size := by omega
  have hl0 : w.heap.size < w1.heap.size := by omega
  have H0 := hide h0
  have H1 := hide h1
  obtain ⟨a0, a1, a2, a3, a4, x0, x1, x2, x3, x4⟩ := h0
  obtain ⟨b0, b1, b2, b3, b4, y0, y1, y2, y3, y4⟩ := h1
  obtain ⟨p0, p1, q0, q1⟩ := h2
  clear hI hb H hcat hcat2
  go_wp2_with fail
  go_region
  all_goals
    go_wp2_with fail
    have hX0 : Sc w.heap.size 6 rr (g, fr, t.2.2) ((((((w1.setCell { block := w.heap.size + 1 + 1, off := 0 } (Value.int IntKind.i64 g)).setCell { block := w.heap.size + 1 + 1, off := 1 } (Value.bool fr)).setCell { block := w.heap.size, off := 2 } (Value.int IntKind.i64 g)).setCell { block := w.heap.size, off := 3 } (Value.bool fr)).setCell { block := w.heap.size, off := 1 } (Value.string rr)).drew) := ((((((unhide H0).far ⟨w.heap.size + 1 + 1, 0, none⟩ (.int .i64 g) (by first | (simp; done) | (simp; omega))).far ⟨w.heap.size + 1 + 1, 1, none⟩ (.bool fr) (by first | (simp; done) | (simp; omega))).set2 g).set3 fr).set1 rr).drew
    have hX1 : Rc (w.heap.size + 1) ((((((w1.setCell { block := w.heap.size + 1 + 1, off := 0 } (Value.int IntKind.i64 g)).setCell { block := w.heap.size + 1 + 1, off := 1 } (Value.bool fr)).setCell { block := w.heap.size, off := 2 } (Value.int IntKind.i64 g)).setCell { block := w.heap.size, off := 3 } (Value.bool fr)).setCell { block := w.heap.size, off := 1 } (Value.string rr)).drew) := (((((((unhide H1)).far ⟨w.heap.size + 1 + 1, 0, none⟩ _ (by first | (simp; done) | (simp; omega))).far ⟨w.heap.size + 1 + 1, 1, none⟩ _ (by first | (simp; done) | (simp; omega))).far ⟨w.heap.size, 2, none⟩ _ (by first | (simp; done) | (simp; omega))).far ⟨w.heap.size, 3, none⟩ _ (by first | (simp; done) | (simp; omega))).far ⟨w.heap.size, 1, none⟩ _ (by first | (simp; done) | (simp; omega))).drew
    have HX : Hid (((((((w1.setCell { block := w.heap.size + 1 + 1, off := 0 } (Value.int IntKind.i64 g)).setCell { block := w.heap.size + 1 + 1, off := 1 } (Value.bool fr)).setCell { block := w.heap.size, off := 2 } (Value.int IntKind.i64 g)).setCell { block := w.heap.size, off := 3 } (Value.bool fr)).setCell { block := w.heap.size, off := 1 } (Value.string rr)).drew).ownsRow (w.heap.size + 3) 3 1 (.slice av L.length cv) L.length (L.map (Value.int .i64))) := hide (o_drew (owns_set (owns_set (owns_set (owns_set (owns_set (unhide HI) ⟨w.heap.size + 1 + 1, 0, none⟩ (by first | (simp; done) | (simp; omega)) _) ⟨w.heap.size + 1 + 1, 1, none⟩ (by first | (simp; done) | (simp; omega)) _) ⟨w.heap.size, 2, none⟩ (by first | (simp; done) | (simp; omega)) _) ⟨w.heap.size, 3, none⟩ (by first | (simp; done) | (simp; omega)) _) ⟨w.heap.size, 1, none⟩ (by first | (simp; done) | (simp; omega)) _))
    have HY : Hid (Below w.heap.size w ((((((w1.setCell { block := w.heap.size + 1 + 1, off := 0 } (Value.int IntKind.i64 g)).setCell { block := w.heap.size + 1 + 1, off := 1 } (Value.bool fr)).setCell { block := w.heap.size, off := 2 } (Value.int IntKind.i64 g)).setCell { block := w.heap.size, off := 3 } (Value.bool fr)).setCell { block := w.heap.size, off := 1 } (Value.string rr)).drew)) := hide (b_drew (bset (bset (bset (bset (bset (unhide HB) ⟨w.heap.size + 1 + 1, 0, none⟩ _ (by first | (simp; done) | (simp; omega))) ⟨w.heap.size + 1 + 1, 1, none⟩ _ (by first | (simp; done) | (simp; omega))) ⟨w.heap.size, 2, none⟩ _ (by first | (simp; done) | (simp; omega))) ⟨w.heap.size, 3, none⟩ _ (by first | (simp; done) | (simp; omega))) ⟨w.heap.size, 1, none⟩ _ (by first | (simp; done) | (simp; omega))))
    clear a0 a1 a2 a3 a4 x0 x1 x2 x3 x4 b0 b1 b2 b3 b4 y0 y1 y2 y3 y4 p0 p1 q0 q1 hl0 hl1
    generalize (((((w1.setCell { block := w.heap.size + 1 + 1, off := 0 } (Value.int IntKind.i64 g)).setCell { block := w.heap.size + 1 + 1, off := 1 } (Value.bool fr)).setCell { block := w.heap.size, off := 2 } (Value.int IntKind.i64 g)).setCell { block := w.heap.size, off := 3 } (Value.bool fr)).setCell { block := w.heap.size, off := 1 } (Value.string rr)).drew = X at *
    have hlx := hX0.lt
    obtain ⟨a0, a1, a2, a3, a4, -, -, -, -, -⟩ := hX0
    obtain ⟨b0, b1, b2, b3, b4, y0, y1, y2, y3, y4⟩ := hX1
    have hly : w.heap.size + 1 < X.heap.size := World.block_lt_of_cell? X _ b0
    skip
    go_region
    all_goals
      go_wp2_with fail
      refine bodyPost_ret (v := .tuple #[.slice av L.length cv, .agg #[.int .i64 6, .string rr, .int .i64 (g, fr, t.2.2).1, .bool (g, fr, t.2.2).2.1, .bool (g, fr, t.2.2).2.2]]) (by simp [results, Tryz.results57, go_sem, b0, b1, b2, b3, b4]) rfl ?_
      refine ⟨.slice av L.length cv, rr, (g, fr, t.2.2), L, rfl, ?_, ?_, ?_, ?_⟩
      · exact owns_mono (o_drew (oset5 (e := 6) (r := rr) (t := (g, fr, t.2.2)) (unhide HX) (by omega))) (by omega)
      · exact b_drew (bset5 (e := 6) (r := rr) (t := (g, fr, t.2.2)) (unhide HY) (by omega))
      · intro _; rw [unhide HBL, M.RE_K, unhide HT]; exact ⟨(unhide HL).symm, unhide HRR, rfl⟩
      · intro h; cases h

set_option maxHeartbeats 3000000 in
set_option maxRecDepth 100000 in
theorem feedOf_6_last (r : ByteArray) (t : M.St) (p : ByteArray) (w : World) (hs : r.size + p.size ≤ 3300) (hk : M.Sg t.1) :
    Calls Tryz.prog 57 #[sv 6 r t, .string p, .bool true] w (FedR 6 r t p true w) := by
  obtain ⟨s, hcat⟩ : ∃ s, r ++ p = s := ⟨_, rfl⟩
  have hsz : s.size ≤ 3300 := by rw [← hcat, ByteArray.size_append]; exact hs
  have HBL : Hid (bl r ++ bl p = bl s) := hide (by rw [← hcat, bl_app])
  have hcat2 : (r.append p) = s := hcat
  unfold sv
  have H := fun w => decodeKana_last t.1 t.2.1 s w hk hsz
  obtain ⟨L, HL⟩ : ∃ L, Hid ((M.Tot M.gk (t.1, t.2.1) (bl s)).1 = L) := ⟨_, hide rfl⟩
  obtain ⟨g, fr, hT⟩ : ∃ g fr, (M.Tot M.gk (t.1, t.2.1) (bl s)).2 = (g, fr) := ⟨_, _, rfl⟩
  rw [unhide HL, hT] at H
  clear hT
  go_enter Tryz.func57, Tryz.ntmps57
  go_wp2_with fail
  refine (H _).mono ?_
  rintro e' w1 ⟨v, rfl, hI, hb⟩
  obtain ⟨av, cv, hsv⟩ := owns_shape hI
  subst hsv
  have HI : Hid (w1.ownsRow (w.heap.size + 3) 3 1 (.slice av L.length cv) L.length (L.map (Value.int .i64))) := hide (by simpa using hI)
  have HB : Hid (Below w.heap.size w w1) := hide (bstep (bstep (bstep (balloc _ _) (balloc _ _)) (balloc _ _)) hb)
  have h0 : Sc w.heap.size 6 r t w1 := Sc.below (w := (((w.alloc (.cells #[.int .i64 6, .string r, .int .i64 t.1, .bool t.2.1, .bool t.2.2] 23)).alloc (.cells #[.int .i64 0, .string ⟨#[]⟩, .int .i64 0, .bool false, .bool false] 23)).alloc (.cells #[.int .i64 0, .bool false] 144))) (by constructor <;> simp [go_sem]) hb (by simp; omega)
  have h1 : Rc (w.heap.size + 1) w1 := Rc.below (w := (((w.alloc (.cells #[.int .i64 6, .string r, .int .i64 t.1, .bool t.2.1, .bool t.2.2] 23)).alloc (.cells #[.int .i64 0, .string ⟨#[]⟩, .int .i64 0, .bool false, .bool false] 23)).alloc (.cells #[.int .i64 0, .bool false] 144))) (by constructor <;> simp [go_sem]) hb (by simp)
  have h2 : Pc (w.heap.size + 2) 0 false w1 := Pc.below (w := (((w.alloc (.cells #[.int .i64 6, .string r, .int .i64 t.1, .bool t.2.1, .bool t.2.2] 23)).alloc (.cells #[.int .i64 0, .string ⟨#[]⟩, .int .i64 0, .bool false, .bool false] 23)).alloc (.cells #[.int .i64 0, .bool false] 144))) (by constructor <;> simp [go_sem]) hb (by simp)
  have hl := h2.lt
  have hl1 : w.heap.size + 1 < w1.heap.size := by omega
  have hl0 : w.heap.size < w1.heap.size := by omega
  have H0 := hide h0
  have H1 := hide h1
  obtain ⟨a0, a1, a2, a3, a4, x0, x1, x2, x3, x4⟩ := h0
  obtain ⟨b0, b1, b2, b3, b4, y0, y1, y2, y3, y4⟩ := h1
  obtain ⟨p0, p1, q0, q1⟩ := h2
  clear hI hb H hcat hcat2
  go_wp2_with fail
  go_region
  all_goals
    go_wp2_with fail
    have hX0 : Sc w.heap.size 6 ⟨#[]⟩ M.st0 (((((((((((w1.setCell { block := w.heap.size + 1 + 1, off := 0 } (Value.int IntKind.i64 g)).setCell { block := w.heap.size + 1 + 1, off := 1 } (Value.bool fr)).setCell { block := w.heap.size, off := 2 } (Value.int IntKind.i64 g)).setCell { block := w.heap.size, off := 3 } (Value.bool fr)).setCell { block := w.heap.size, off := 1 } (Value.string { data := #[] })).setCell { block := w.heap.size, off := 0 } (Value.int IntKind.i64 6)).setCell { block := w.heap.size, off := 1 } (Value.string { data := #[] })).setCell { block := w.heap.size, off := 2 } (Value.int IntKind.i64 0)).setCell { block := w.heap.size, off := 3 } (Value.bool false)).setCell { block := w.heap.size, off := 4 } (Value.bool false)).drew) := (((((((unhide H0).far ⟨w.heap.size + 1 + 1, 0, none⟩ (.int .i64 g) (by first | (simp; done) | (simp; omega))).far ⟨w.heap.size + 1 + 1, 1, none⟩ (.bool fr) (by first | (simp; done) | (simp; omega))).set2 g).set3 fr).set1 ⟨#[]⟩).rc 6 ⟨#[]⟩ M.st0).drew
    have hX1 : Rc (w.heap.size + 1) (((((((((((w1.setCell { block := w.heap.size + 1 + 1, off := 0 } (Value.int IntKind.i64 g)).setCell { block := w.heap.size + 1 + 1, off := 1 } (Value.bool fr)).setCell { block := w.heap.size, off := 2 } (Value.int IntKind.i64 g)).setCell { block := w.heap.size, off := 3 } (Value.bool fr)).setCell { block := w.heap.size, off := 1 } (Value.string { data := #[] })).setCell { block := w.heap.size, off := 0 } (Value.int IntKind.i64 6)).setCell { block := w.heap.size, off := 1 } (Value.string { data := #[] })).setCell { block := w.heap.size, off := 2 } (Value.int IntKind.i64 0)).setCell { block := w.heap.size, off := 3 } (Value.bool false)).setCell { block := w.heap.size, off := 4 } (Value.bool false)).drew) := ((((((((((((unhide H1)).far ⟨w.heap.size + 1 + 1, 0, none⟩ _ (by first | (simp; done) | (simp; omega))).far ⟨w.heap.size + 1 + 1, 1, none⟩ _ (by first | (simp; done) | (simp; omega))).far ⟨w.heap.size, 2, none⟩ _ (by first | (simp; done) | (simp; omega))).far ⟨w.heap.size, 3, none⟩ _ (by first | (simp; done) | (simp; omega))).far ⟨w.heap.size, 1, none⟩ _ (by first | (simp; done) | (simp; omega))).far ⟨w.heap.size, 0, none⟩ _ (by first | (simp; done) | (simp; omega))).far ⟨w.heap.size, 1, none⟩ _ (by first | (simp; done) | (simp; omega))).far ⟨w.heap.size, 2, none⟩ _ (by first | (simp; done) | (simp; omega))).far ⟨w.heap.size, 3, none⟩ _ (by first | (simp; done) | (simp; omega))).far ⟨w.heap.size, 4, none⟩ _ (by first | (simp; done) | (simp; omega))).drew
    have HX : Hid ((((((((((((w1.setCell { block := w.heap.size + 1 + 1, off := 0 } (Value.int IntKind.i64 g)).setCell { block := w.heap.size + 1 + 1, off := 1 } (Value.bool fr)).setCell { block := w.heap.size, off := 2 } (Value.int IntKind.i64 g)).setCell { block := w.heap.size, off := 3 } (Value.bool fr)).setCell { block := w.heap.size, off := 1 } (Value.string { data := #[] })).setCell { block := w.heap.size, off := 0 } (Value.int IntKind.i64 6)).setCell { block := w.heap.size, off := 1 } (Value.string { data := #[] })).setCell { block := w.heap.size, off := 2 } (Value.int IntKind.i64 0)).setCell { block := w.heap.size, off := 3 } (Value.bool false)).setCell { block := w.heap.size, off := 4 } (Value.bool false)).drew).ownsRow (w.heap.size + 3) 3 1 (.slice av L.length cv) L.length (L.map (Value.int .i64))) := hide (o_drew (owns_set (owns_set (owns_set (owns_set (owns_set (owns_set (owns_set (owns_set (owns_set (owns_set (unhide HI) ⟨w.heap.size + 1 + 1, 0, none⟩ (by first | (simp; done) | (simp; omega)) _) ⟨w.heap.size + 1 + 1, 1, none⟩ (by first | (simp; done) | (simp; omega)) _) ⟨w.heap.size, 2, none⟩ (by first | (simp; done) | (simp; omega)) _) ⟨w.heap.size, 3, none⟩ (by first | (simp; done) | (simp; omega)) _) ⟨w.heap.size, 1, none⟩ (by first | (simp; done) | (simp; omega)) _) ⟨w.heap.size, 0, none⟩ (by first | (simp; done) | (simp; omega)) _) ⟨w.heap.size, 1, none⟩ (by first | (simp; done) | (simp; omega)) _) ⟨w.heap.size, 2, none⟩ (by first | (simp; done) | (simp; omega)) _) ⟨w.heap.size, 3, none⟩ (by first | (simp; done) | (simp; omega)) _) ⟨w.heap.size, 4, none⟩ (by first | (simp; done) | (simp; omega)) _))
    have HY : Hid (Below w.heap.size w (((((((((((w1.setCell { block := w.heap.size + 1 + 1, off := 0 } (Value.int IntKind.i64 g)).setCell { block := w.heap.size + 1 + 1, off := 1 } (Value.bool fr)).setCell { block := w.heap.size, off := 2 } (Value.int IntKind.i64 g)).setCell { block := w.heap.size, off := 3 } (Value.bool fr)).setCell { block := w.heap.size, off := 1 } (Value.string { data := #[] })).setCell { block := w.heap.size, off := 0 } (Value.int IntKind.i64 6)).setCell { block := w.heap.size, off := 1 } (Value.string { data := #[] })).setCell { block := w.heap.size, off := 2 } (Value.int IntKind.i64 0)).setCell { block := w.heap.size, off := 3 } (Value.bool false)).setCell { block := w.heap.size, off := 4 } (Value.bool false)).drew)) := hide (b_drew (bset (bset (bset (bset (bset (bset (bset (bset (bset (bset (unhide HB) ⟨w.heap.size + 1 + 1, 0, none⟩ _ (by first | (simp; done) | (simp; omega))) ⟨w.heap.size + 1 + 1, 1, none⟩ _ (by first | (simp; done) | (simp; omega))) ⟨w.heap.size, 2, none⟩ _ (by first | (simp; done) | (simp; omega))) ⟨w.heap.size, 3, none⟩ _ (by first | (simp; done) | (simp; omega))) ⟨w.heap.size, 1, none⟩ _ (by first | (simp; done) | (simp; omega))) ⟨w.heap.size, 0, none⟩ _ (by first | (simp; done) | (simp; omega))) ⟨w.heap.size, 1, none⟩ _ (by first | (simp; done) | (simp; omega))) ⟨w.heap.size, 2, none⟩ _ (by first | (simp; done) | (simp; omega))) ⟨w.heap.size, 3, none⟩ _ (by first | (simp; done) | (simp; omega))) ⟨w.heap.size, 4, none⟩ _ (by first | (simp; done) | (simp; omega))))
    clear a0 a1 a2 a3 a4 x0 x1 x2 x3 x4 b0 b1 b2 b3 b4 y0 y1 y2 y3 y4 p0 p1 q0 q1 hl0 hl1
    generalize ((((((((((w1.setCell { block := w.heap.size + 1 + 1, off := 0 } (Value.int IntKind.i64 g)).setCell { block := w.heap.size + 1 + 1, off := 1 } (Value.bool fr)).setCell { block := w.heap.size, off := 2 } (Value.int IntKind.i64 g)).setCell { block := w.heap.size, off := 3 } (Value.bool fr)).setCell { block := w.heap.size, off := 1 } (Value.string { data := #[] })).setCell { block := w.heap.size, off := 0 } (Value.int IntKind.i64 6)).setCell { block := w.heap.size, off := 1 } (Value.string { data := #[] })).setCell { block := w.heap.size, off := 2 } (Value.int IntKind.i64 0)).setCell { block := w.heap.size, off := 3 } (Value.bool false)).setCell { block := w.heap.size, off := 4 } (Value.bool false)).drew = X at *
    have hlx := hX0.lt
    obtain ⟨a0, a1, a2, a3, a4, -, -, -, -, -⟩ := hX0
    obtain ⟨b0, b1, b2, b3, b4, y0, y1, y2, y3, y4⟩ := hX1
    have hly : w.heap.size + 1 < X.heap.size := World.block_lt_of_cell? X _ b0
    unfold M.st0 at a2 a3 a4
    go_region
    all_goals
      go_wp2_with fail
      refine bodyPost_ret (v := .tuple #[.slice av L.length cv, .agg #[.int .i64 6, .string ⟨#[]⟩, .int .i64 M.st0.1, .bool M.st0.2.1, .bool M.st0.2.2]]) (by simp [results, Tryz.results57, go_sem, b0, b1, b2, b3, b4, M.st0]) rfl ?_
      refine ⟨.slice av L.length cv, ⟨#[]⟩, M.st0, L, rfl, ?_, ?_, ?_, ?_⟩
      · exact owns_mono (o_drew (oset5 (e := 6) (r := ⟨#[]⟩) (t := M.st0) (unhide HX) (by omega))) (by omega)
      · exact b_drew (bset5 (e := 6) (r := ⟨#[]⟩) (t := M.st0) (unhide HY) (by omega))
      · intro h; cases h
      · intro _; refine ⟨?_, rfl, rfl⟩; rw [unhide HBL, M.TE_K]; exact (unhide HL).symm

set_option maxHeartbeats 3000000 in
set_option maxRecDepth 100000 in
theorem feedOf_7_none_more (r : ByteArray) (g : Int) (fr st : Bool) (p : ByteArray) (w : World) (hs : r.size + p.size ≤ 3300) (h0 : (r ++ p).size = 0) :
    Calls Tryz.prog 57 #[sv 7 r (g, fr, st), .string p, .bool false] w (FedR 7 r (g, fr, st) p false w) := by
  obtain ⟨s, hcat⟩ : ∃ s, r ++ p = s := ⟨_, rfl⟩
  have hsz : s.size ≤ 3300 := by rw [← hcat, ByteArray.size_append]; exact hs
  have HBL : Hid (bl r ++ bl p = bl s) := hide (by rw [← hcat, bl_app])
  have hcat2 : (r.append p) = s := hcat
  unfold sv
  rw [hcat] at h0
  have he : s.toList.isEmpty = true := by rw [isEmpty_size]; simp [h0]
  go_enter Tryz.func57, Tryz.ntmps57
  go_wp2_with fail
  have hX0 : Sc w.heap.size 7 ⟨#[]⟩ (g, fr, st) ((w.alloc (.cells #[.int .i64 7, .string ⟨#[]⟩, .int .i64 g, .bool fr, .bool st] 23)).alloc (.cells #[.int .i64 0, .string ⟨#[]⟩, .int .i64 0, .bool false, .bool false] 23)) := by constructor <;> simp [go_sem]
  have hX1 : Rc (w.heap.size + 1) ((w.alloc (.cells #[.int .i64 7, .string ⟨#[]⟩, .int .i64 g, .bool fr, .bool st] 23)).alloc (.cells #[.int .i64 0, .string ⟨#[]⟩, .int .i64 0, .bool false, .bool false] 23)) := by constructor <;> simp [go_sem]
  have HX : Hid (((w.alloc (.cells #[.int .i64 7, .string ⟨#[]⟩, .int .i64 g, .bool fr, .bool st] 23)).alloc (.cells #[.int .i64 0, .string ⟨#[]⟩, .int .i64 0, .bool false, .bool false] 23)).ownsRow (w.heap.size + 2) 3 1 (.slice none 0 0) ([] : List Int).length (([] : List Int).map (Value.int .i64))) := hide (World.ownsRow_nil _ _ _ _)
  have HY : Hid (Below w.heap.size w ((w.alloc (.cells #[.int .i64 7, .string ⟨#[]⟩, .int .i64 g, .bool fr, .bool st] 23)).alloc (.cells #[.int .i64 0, .string ⟨#[]⟩, .int .i64 0, .bool false, .bool false] 23))) := hide (bstep (balloc _ _) (balloc _ _))
  generalize (w.alloc (.cells #[.int .i64 7, .string ⟨#[]⟩, .int .i64 g, .bool fr, .bool st] 23)).alloc (.cells #[.int .i64 0, .string ⟨#[]⟩, .int .i64 0, .bool false, .bool false] 23) = X at *
  have hlx := hX0.lt
  obtain ⟨a0, a1, a2, a3, a4, -, -, -, -, -⟩ := hX0
  obtain ⟨b0, b1, b2, b3, b4, y0, y1, y2, y3, y4⟩ := hX1
  have hly : w.heap.size + 1 < X.heap.size := World.block_lt_of_cell? X _ b0
  skip
  go_region
  all_goals
    go_wp2_with fail
    refine bodyPost_ret (v := .tuple #[.slice none 0 0, .agg #[.int .i64 7, .string ⟨#[]⟩, .int .i64 (g, fr, st).1, .bool (g, fr, st).2.1, .bool (g, fr, st).2.2]]) (by simp [results, Tryz.results57, go_sem, b0, b1, b2, b3, b4]) rfl ?_
    refine ⟨.slice none 0 0, ⟨#[]⟩, (g, fr, st), [], rfl, ?_, ?_, ?_, ?_⟩
    · exact owns_mono (o_drew (oset5 (e := 7) (r := ⟨#[]⟩) (t := (g, fr, st)) (unhide HX) (by omega))) (by omega)
    · exact b_drew (bset5 (e := 7) (r := ⟨#[]⟩) (t := (g, fr, st)) (unhide HY) (by omega))
    · intro _; rw [unhide HBL, M.RE_X]; have e0 : (bl s).isEmpty = true := (by rw [bl_nil h0]; rfl); refine ⟨by simp [e0], rfl, by simp [e0]⟩
    · intro h; cases h

set_option maxHeartbeats 3000000 in
set_option maxRecDepth 100000 in
theorem feedOf_7_stop_more (r : ByteArray) (g : Int) (fr : Bool) (p : ByteArray) (w : World) (hs : r.size + p.size ≤ 3300) (h0 : (r ++ p).size ≠ 0) :
    Calls Tryz.prog 57 #[sv 7 r (g, fr, true), .string p, .bool false] w (FedR 7 r (g, fr, true) p false w) := by
  obtain ⟨s, hcat⟩ : ∃ s, r ++ p = s := ⟨_, rfl⟩
  have hsz : s.size ≤ 3300 := by rw [← hcat, ByteArray.size_append]; exact hs
  have HBL : Hid (bl r ++ bl p = bl s) := hide (by rw [← hcat, bl_app])
  have hcat2 : (r.append p) = s := hcat
  unfold sv
  rw [hcat] at h0
  have he : s.toList.isEmpty = false := by rw [isEmpty_size]; simp [h0]
  go_enter Tryz.func57, Tryz.ntmps57
  go_wp2_with fail
  have hX0 : Sc w.heap.size 7 ⟨#[]⟩ (g, fr, true) ((w.alloc (.cells #[.int .i64 7, .string ⟨#[]⟩, .int .i64 g, .bool fr, .bool true] 23)).alloc (.cells #[.int .i64 0, .string ⟨#[]⟩, .int .i64 0, .bool false, .bool false] 23)) := by constructor <;> simp [go_sem]
  have hX1 : Rc (w.heap.size + 1) ((w.alloc (.cells #[.int .i64 7, .string ⟨#[]⟩, .int .i64 g, .bool fr, .bool true] 23)).alloc (.cells #[.int .i64 0, .string ⟨#[]⟩, .int .i64 0, .bool false, .bool false] 23)) := by constructor <;> simp [go_sem]
  have HX : Hid (((w.alloc (.cells #[.int .i64 7, .string ⟨#[]⟩, .int .i64 g, .bool fr, .bool true] 23)).alloc (.cells #[.int .i64 0, .string ⟨#[]⟩, .int .i64 0, .bool false, .bool false] 23)).ownsRow (w.heap.size + 2) 3 1 (.slice none 0 0) ([] : List Int).length (([] : List Int).map (Value.int .i64))) := hide (World.ownsRow_nil _ _ _ _)
  have HY : Hid (Below w.heap.size w ((w.alloc (.cells #[.int .i64 7, .string ⟨#[]⟩, .int .i64 g, .bool fr, .bool true] 23)).alloc (.cells #[.int .i64 0, .string ⟨#[]⟩, .int .i64 0, .bool false, .bool false] 23))) := hide (bstep (balloc _ _) (balloc _ _))
  generalize (w.alloc (.cells #[.int .i64 7, .string ⟨#[]⟩, .int .i64 g, .bool fr, .bool true] 23)).alloc (.cells #[.int .i64 0, .string ⟨#[]⟩, .int .i64 0, .bool false, .bool false] 23) = X at *
  have hlx := hX0.lt
  obtain ⟨a0, a1, a2, a3, a4, -, -, -, -, -⟩ := hX0
  obtain ⟨b0, b1, b2, b3, b4, y0, y1, y2, y3, y4⟩ := hX1
  have hly : w.heap.size + 1 < X.heap.size := World.block_lt_of_cell? X _ b0
  skip
  go_region
  all_goals
    go_wp2_with fail
    refine bodyPost_ret (v := .tuple #[.slice none 0 0, .agg #[.int .i64 7, .string ⟨#[]⟩, .int .i64 (g, fr, true).1, .bool (g, fr, true).2.1, .bool (g, fr, true).2.2]]) (by simp [results, Tryz.results57, go_sem, b0, b1, b2, b3, b4]) rfl ?_
    refine ⟨.slice none 0 0, ⟨#[]⟩, (g, fr, true), [], rfl, ?_, ?_, ?_, ?_⟩
    · exact owns_mono (o_drew (oset5 (e := 7) (r := ⟨#[]⟩) (t := (g, fr, true)) (unhide HX) (by omega))) (by omega)
    · exact b_drew (bset5 (e := 7) (r := ⟨#[]⟩) (t := (g, fr, true)) (unhide HY) (by omega))
    · intro _; rw [unhide HBL, M.RE_X]; skip; refine ⟨by simp, rfl, by simp⟩
    · intro h; cases h

set_option maxHeartbeats 3000000 in
set_option maxRecDepth 100000 in
theorem feedOf_7_told_more (r : ByteArray) (g : Int) (fr : Bool) (p : ByteArray) (w : World) (hs : r.size + p.size ≤ 3300) (h0 : (r ++ p).size ≠ 0) :
    Calls Tryz.prog 57 #[sv 7 r (g, fr, false), .string p, .bool false] w (FedR 7 r (g, fr, false) p false w) := by
  obtain ⟨s, hcat⟩ : ∃ s, r ++ p = s := ⟨_, rfl⟩
  have hsz : s.size ≤ 3300 := by rw [← hcat, ByteArray.size_append]; exact hs
  have HBL : Hid (bl r ++ bl p = bl s) := hide (by rw [← hcat, bl_app])
  have hcat2 : (r.append p) = s := hcat
  unfold sv
  rw [hcat] at h0
  have he : s.toList.isEmpty = false := by rw [isEmpty_size]; simp [h0]
  go_enter Tryz.func57, Tryz.ntmps57
  go_wp2_with fail
  have hX0 : Sc w.heap.size 7 ⟨#[]⟩ (g, fr, true) (((w.alloc (.cells #[.int .i64 7, .string ⟨#[]⟩, .int .i64 g, .bool fr, .bool true] 23)).alloc (.cells #[.int .i64 0, .string ⟨#[]⟩, .int .i64 0, .bool false, .bool false] 23)).alloc (.cells #[.int .i64 65533] 3)) := by constructor <;> simp [go_sem]
  have hX1 : Rc (w.heap.size + 1) (((w.alloc (.cells #[.int .i64 7, .string ⟨#[]⟩, .int .i64 g, .bool fr, .bool true] 23)).alloc (.cells #[.int .i64 0, .string ⟨#[]⟩, .int .i64 0, .bool false, .bool false] 23)).alloc (.cells #[.int .i64 65533] 3)) := by constructor <;> simp [go_sem]
  have HX : Hid ((((w.alloc (.cells #[.int .i64 7, .string ⟨#[]⟩, .int .i64 g, .bool fr, .bool true] 23)).alloc (.cells #[.int .i64 0, .string ⟨#[]⟩, .int .i64 0, .bool false, .bool false] 23)).alloc (.cells #[.int .i64 65533] 3)).ownsRow (w.heap.size + 2) 3 1 (.slice (some ⟨w.heap.size + 1 + 1, 0, none⟩) 1 1) ([65533] : List Int).length (([65533] : List Int).map (Value.int .i64))) := hide (by have h := World.ownsRow_lit (base := w.heap.size + 2) (e := 3) (size := 1) ((w.alloc (.cells #[.int .i64 7, .string ⟨#[]⟩, .int .i64 g, .bool fr, .bool true] 23)).alloc (.cells #[.int .i64 0, .string ⟨#[]⟩, .int .i64 0, .bool false, .bool false] 23)) #[.int .i64 65533] 1 (by simp) (by simp [maxLen]) rfl; simpa using h)
  have HY : Hid (Below w.heap.size w (((w.alloc (.cells #[.int .i64 7, .string ⟨#[]⟩, .int .i64 g, .bool fr, .bool true] 23)).alloc (.cells #[.int .i64 0, .string ⟨#[]⟩, .int .i64 0, .bool false, .bool false] 23)).alloc (.cells #[.int .i64 65533] 3))) := hide (bstep (bstep (balloc _ _) (balloc _ _)) (balloc _ _))
  generalize ((w.alloc (.cells #[.int .i64 7, .string ⟨#[]⟩, .int .i64 g, .bool fr, .bool true] 23)).alloc (.cells #[.int .i64 0, .string ⟨#[]⟩, .int .i64 0, .bool false, .bool false] 23)).alloc (.cells #[.int .i64 65533] 3) = X at *
  have hlx := hX0.lt
  obtain ⟨a0, a1, a2, a3, a4, -, -, -, -, -⟩ := hX0
  obtain ⟨b0, b1, b2, b3, b4, y0, y1, y2, y3, y4⟩ := hX1
  have hly : w.heap.size + 1 < X.heap.size := World.block_lt_of_cell? X _ b0
  skip
  go_region
  all_goals
    go_wp2_with fail
    refine bodyPost_ret (v := .tuple #[.slice (some ⟨w.heap.size + 1 + 1, 0, none⟩) 1 1, .agg #[.int .i64 7, .string ⟨#[]⟩, .int .i64 (g, fr, true).1, .bool (g, fr, true).2.1, .bool (g, fr, true).2.2]]) (by simp [results, Tryz.results57, go_sem, b0, b1, b2, b3, b4]) rfl ?_
    refine ⟨.slice (some ⟨w.heap.size + 1 + 1, 0, none⟩) 1 1, ⟨#[]⟩, (g, fr, true), [65533], rfl, ?_, ?_, ?_, ?_⟩
    · exact owns_mono (o_drew (oset5 (e := 7) (r := ⟨#[]⟩) (t := (g, fr, true)) (unhide HX) (by omega))) (by omega)
    · exact b_drew (bset5 (e := 7) (r := ⟨#[]⟩) (t := (g, fr, true)) (unhide HY) (by omega))
    · intro _; rw [unhide HBL, M.RE_X]; have e0 : (bl s).isEmpty = false := (by rw [List.isEmpty_eq_false_iff]; exact fun q => h0 (by rw [← bl_len, q]; rfl)); refine ⟨by simp [e0], rfl, by simp [e0]⟩
    · intro h; cases h

set_option maxHeartbeats 3000000 in
set_option maxRecDepth 100000 in
theorem feedOf_7_none_last (r : ByteArray) (g : Int) (fr st : Bool) (p : ByteArray) (w : World) (hs : r.size + p.size ≤ 3300) (h0 : (r ++ p).size = 0) :
    Calls Tryz.prog 57 #[sv 7 r (g, fr, st), .string p, .bool true] w (FedR 7 r (g, fr, st) p true w) := by
  obtain ⟨s, hcat⟩ : ∃ s, r ++ p = s := ⟨_, rfl⟩
  have hsz : s.size ≤ 3300 := by rw [← hcat, ByteArray.size_append]; exact hs
  have HBL : Hid (bl r ++ bl p = bl s) := hide (by rw [← hcat, bl_app])
  have hcat2 : (r.append p) = s := hcat
  unfold sv
  rw [hcat] at h0
  have he : s.toList.isEmpty = true := by rw [isEmpty_size]; simp [h0]
  go_enter Tryz.func57, Tryz.ntmps57
  go_wp2_with fail
  have hX0 : Sc w.heap.size 7 ⟨#[]⟩ M.st0 ((w.alloc (.cells #[.int .i64 7, .string ⟨#[]⟩, .int .i64 0, .bool false, .bool false] 23)).alloc (.cells #[.int .i64 0, .string ⟨#[]⟩, .int .i64 0, .bool false, .bool false] 23)) := by constructor <;> simp [go_sem, M.st0]
  have hX1 : Rc (w.heap.size + 1) ((w.alloc (.cells #[.int .i64 7, .string ⟨#[]⟩, .int .i64 0, .bool false, .bool false] 23)).alloc (.cells #[.int .i64 0, .string ⟨#[]⟩, .int .i64 0, .bool false, .bool false] 23)) := by constructor <;> simp [go_sem]
  have HX : Hid (((w.alloc (.cells #[.int .i64 7, .string ⟨#[]⟩, .int .i64 0, .bool false, .bool false] 23)).alloc (.cells #[.int .i64 0, .string ⟨#[]⟩, .int .i64 0, .bool false, .bool false] 23)).ownsRow (w.heap.size + 2) 3 1 (.slice none 0 0) ([] : List Int).length (([] : List Int).map (Value.int .i64))) := hide (World.ownsRow_nil _ _ _ _)
  have HY : Hid (Below w.heap.size w ((w.alloc (.cells #[.int .i64 7, .string ⟨#[]⟩, .int .i64 0, .bool false, .bool false] 23)).alloc (.cells #[.int .i64 0, .string ⟨#[]⟩, .int .i64 0, .bool false, .bool false] 23))) := hide (bstep (balloc _ _) (balloc _ _))
  generalize (w.alloc (.cells #[.int .i64 7, .string ⟨#[]⟩, .int .i64 0, .bool false, .bool false] 23)).alloc (.cells #[.int .i64 0, .string ⟨#[]⟩, .int .i64 0, .bool false, .bool false] 23) = X at *
  have hlx := hX0.lt
  obtain ⟨a0, a1, a2, a3, a4, -, -, -, -, -⟩ := hX0
  obtain ⟨b0, b1, b2, b3, b4, y0, y1, y2, y3, y4⟩ := hX1
  have hly : w.heap.size + 1 < X.heap.size := World.block_lt_of_cell? X _ b0
  unfold M.st0 at a2 a3 a4
  go_region
  all_goals
    go_wp2_with fail
    refine bodyPost_ret (v := .tuple #[.slice none 0 0, .agg #[.int .i64 7, .string ⟨#[]⟩, .int .i64 M.st0.1, .bool M.st0.2.1, .bool M.st0.2.2]]) (by simp [results, Tryz.results57, go_sem, b0, b1, b2, b3, b4, M.st0]) rfl ?_
    refine ⟨.slice none 0 0, ⟨#[]⟩, M.st0, [], rfl, ?_, ?_, ?_, ?_⟩
    · exact owns_mono (o_drew (oset5 (e := 7) (r := ⟨#[]⟩) (t := M.st0) (unhide HX) (by omega))) (by omega)
    · exact b_drew (bset5 (e := 7) (r := ⟨#[]⟩) (t := M.st0) (unhide HY) (by omega))
    · intro h; cases h
    · intro _; refine ⟨?_, rfl, rfl⟩; rw [unhide HBL, M.TE_X]; have e0 : (bl s).isEmpty = true := (by rw [bl_nil h0]; rfl); simp [e0]

set_option maxHeartbeats 3000000 in
set_option maxRecDepth 100000 in
theorem feedOf_7_stop_last (r : ByteArray) (g : Int) (fr : Bool) (p : ByteArray) (w : World) (hs : r.size + p.size ≤ 3300) (h0 : (r ++ p).size ≠ 0) :
    Calls Tryz.prog 57 #[sv 7 r (g, fr, true), .string p, .bool true] w (FedR 7 r (g, fr, true) p true w) := by
  obtain ⟨s, hcat⟩ : ∃ s, r ++ p = s := ⟨_, rfl⟩
  have hsz : s.size ≤ 3300 := by rw [← hcat, ByteArray.size_append]; exact hs
  have HBL : Hid (bl r ++ bl p = bl s) := hide (by rw [← hcat, bl_app])
  have hcat2 : (r.append p) = s := hcat
  unfold sv
  rw [hcat] at h0
  have he : s.toList.isEmpty = false := by rw [isEmpty_size]; simp [h0]
  go_enter Tryz.func57, Tryz.ntmps57
  go_wp2_with fail
  have hX0 : Sc w.heap.size 7 ⟨#[]⟩ M.st0 ((w.alloc (.cells #[.int .i64 7, .string ⟨#[]⟩, .int .i64 0, .bool false, .bool false] 23)).alloc (.cells #[.int .i64 0, .string ⟨#[]⟩, .int .i64 0, .bool false, .bool false] 23)) := by constructor <;> simp [go_sem, M.st0]
  have hX1 : Rc (w.heap.size + 1) ((w.alloc (.cells #[.int .i64 7, .string ⟨#[]⟩, .int .i64 0, .bool false, .bool false] 23)).alloc (.cells #[.int .i64 0, .string ⟨#[]⟩, .int .i64 0, .bool false, .bool false] 23)) := by constructor <;> simp [go_sem]
  have HX : Hid (((w.alloc (.cells #[.int .i64 7, .string ⟨#[]⟩, .int .i64 0, .bool false, .bool false] 23)).alloc (.cells #[.int .i64 0, .string ⟨#[]⟩, .int .i64 0, .bool false, .bool false] 23)).ownsRow (w.heap.size + 2) 3 1 (.slice none 0 0) ([] : List Int).length (([] : List Int).map (Value.int .i64))) := hide (World.ownsRow_nil _ _ _ _)
  have HY : Hid (Below w.heap.size w ((w.alloc (.cells #[.int .i64 7, .string ⟨#[]⟩, .int .i64 0, .bool false, .bool false] 23)).alloc (.cells #[.int .i64 0, .string ⟨#[]⟩, .int .i64 0, .bool false, .bool false] 23))) := hide (bstep (balloc _ _) (balloc _ _))
  generalize (w.alloc (.cells #[.int .i64 7, .string ⟨#[]⟩, .int .i64 0, .bool false, .bool false] 23)).alloc (.cells #[.int .i64 0, .string ⟨#[]⟩, .int .i64 0, .bool false, .bool false] 23) = X at *
  have hlx := hX0.lt
  obtain ⟨a0, a1, a2, a3, a4, -, -, -, -, -⟩ := hX0
  obtain ⟨b0, b1, b2, b3, b4, y0, y1, y2, y3, y4⟩ := hX1
  have hly : w.heap.size + 1 < X.heap.size := World.block_lt_of_cell? X _ b0
  unfold M.st0 at a2 a3 a4
  go_region
  all_goals
    go_wp2_with fail
    refine bodyPost_ret (v := .tuple #[.slice none 0 0, .agg #[.int .i64 7, .string ⟨#[]⟩, .int .i64 M.st0.1, .bool M.st0.2.1, .bool M.st0.2.2]]) (by simp [results, Tryz.results57, go_sem, b0, b1, b2, b3, b4, M.st0]) rfl ?_
    refine ⟨.slice none 0 0, ⟨#[]⟩, M.st0, [], rfl, ?_, ?_, ?_, ?_⟩
    · exact owns_mono (o_drew (oset5 (e := 7) (r := ⟨#[]⟩) (t := M.st0) (unhide HX) (by omega))) (by omega)
    · exact b_drew (bset5 (e := 7) (r := ⟨#[]⟩) (t := M.st0) (unhide HY) (by omega))
    · intro h; cases h
    · intro _; refine ⟨?_, rfl, rfl⟩; rw [unhide HBL, M.TE_X]; skip; simp

set_option maxHeartbeats 3000000 in
set_option maxRecDepth 100000 in
theorem feedOf_7_told_last (r : ByteArray) (g : Int) (fr : Bool) (p : ByteArray) (w : World) (hs : r.size + p.size ≤ 3300) (h0 : (r ++ p).size ≠ 0) :
    Calls Tryz.prog 57 #[sv 7 r (g, fr, false), .string p, .bool true] w (FedR 7 r (g, fr, false) p true w) := by
  obtain ⟨s, hcat⟩ : ∃ s, r ++ p = s := ⟨_, rfl⟩
  have hsz : s.size ≤ 3300 := by rw [← hcat, ByteArray.size_append]; exact hs
  have HBL : Hid (bl r ++ bl p = bl s) := hide (by rw [← hcat, bl_app])
  have hcat2 : (r.append p) = s := hcat
  unfold sv
  rw [hcat] at h0
  have he : s.toList.isEmpty = false := by rw [isEmpty_size]; simp [h0]
  go_enter Tryz.func57, Tryz.ntmps57
  go_wp2_with fail
  have hX0 : Sc w.heap.size 7 ⟨#[]⟩ M.st0 (((w.alloc (.cells #[.int .i64 7, .string ⟨#[]⟩, .int .i64 0, .bool false, .bool false] 23)).alloc (.cells #[.int .i64 0, .string ⟨#[]⟩, .int .i64 0, .bool false, .bool false] 23)).alloc (.cells #[.int .i64 65533] 3)) := by constructor <;> simp [go_sem, M.st0]
  have hX1 : Rc (w.heap.size + 1) (((w.alloc (.cells #[.int .i64 7, .string ⟨#[]⟩, .int .i64 0, .bool false, .bool false] 23)).alloc (.cells #[.int .i64 0, .string ⟨#[]⟩, .int .i64 0, .bool false, .bool false] 23)).alloc (.cells #[.int .i64 65533] 3)) := by constructor <;> simp [go_sem]
  have HX : Hid ((((w.alloc (.cells #[.int .i64 7, .string ⟨#[]⟩, .int .i64 0, .bool false, .bool false] 23)).alloc (.cells #[.int .i64 0, .string ⟨#[]⟩, .int .i64 0, .bool false, .bool false] 23)).alloc (.cells #[.int .i64 65533] 3)).ownsRow (w.heap.size + 2) 3 1 (.slice (some ⟨w.heap.size + 1 + 1, 0, none⟩) 1 1) ([65533] : List Int).length (([65533] : List Int).map (Value.int .i64))) := hide (by have h := World.ownsRow_lit (base := w.heap.size + 2) (e := 3) (size := 1) ((w.alloc (.cells #[.int .i64 7, .string ⟨#[]⟩, .int .i64 0, .bool false, .bool false] 23)).alloc (.cells #[.int .i64 0, .string ⟨#[]⟩, .int .i64 0, .bool false, .bool false] 23)) #[.int .i64 65533] 1 (by simp) (by simp [maxLen]) rfl; simpa using h)
  have HY : Hid (Below w.heap.size w (((w.alloc (.cells #[.int .i64 7, .string ⟨#[]⟩, .int .i64 0, .bool false, .bool false] 23)).alloc (.cells #[.int .i64 0, .string ⟨#[]⟩, .int .i64 0, .bool false, .bool false] 23)).alloc (.cells #[.int .i64 65533] 3))) := hide (bstep (bstep (balloc _ _) (balloc _ _)) (balloc _ _))
  generalize ((w.alloc (.cells #[.int .i64 7, .string ⟨#[]⟩, .int .i64 0, .bool false, .bool false] 23)).alloc (.cells #[.int .i64 0, .string ⟨#[]⟩, .int .i64 0, .bool false, .bool false] 23)).alloc (.cells #[.int .i64 65533] 3) = X at *
  have hlx := hX0.lt
  obtain ⟨a0, a1, a2, a3, a4, -, -, -, -, -⟩ := hX0
  obtain ⟨b0, b1, b2, b3, b4, y0, y1, y2, y3, y4⟩ := hX1
  have hly : w.heap.size + 1 < X.heap.size := World.block_lt_of_cell? X _ b0
  unfold M.st0 at a2 a3 a4
  go_region
  all_goals
    go_wp2_with fail
    refine bodyPost_ret (v := .tuple #[.slice (some ⟨w.heap.size + 1 + 1, 0, none⟩) 1 1, .agg #[.int .i64 7, .string ⟨#[]⟩, .int .i64 M.st0.1, .bool M.st0.2.1, .bool M.st0.2.2]]) (by simp [results, Tryz.results57, go_sem, b0, b1, b2, b3, b4, M.st0]) rfl ?_
    refine ⟨.slice (some ⟨w.heap.size + 1 + 1, 0, none⟩) 1 1, ⟨#[]⟩, M.st0, [65533], rfl, ?_, ?_, ?_, ?_⟩
    · exact owns_mono (o_drew (oset5 (e := 7) (r := ⟨#[]⟩) (t := M.st0) (unhide HX) (by omega))) (by omega)
    · exact b_drew (bset5 (e := 7) (r := ⟨#[]⟩) (t := M.st0) (unhide HY) (by omega))
    · intro h; cases h
    · intro _; refine ⟨?_, rfl, rfl⟩; rw [unhide HBL, M.TE_X]; have e0 : (bl s).isEmpty = false := (by rw [List.isEmpty_eq_false_iff]; exact fun q => h0 (by rw [← bl_len, q]; rfl)); simp [e0]

theorem feedOf_any (e : Int) (r : ByteArray) (t : M.St) (p : ByteArray) (last : Bool) (w : World) (he : 1 ≤ e ∧ e ≤ 7) (hk : M.Ok e t) (hs : r.size + p.size ≤ 3300) :
    Calls Tryz.prog 57 #[sv e r t, .string p, .bool last] w (FedR e r t p last w) := by
  obtain rfl | rfl | rfl | rfl | rfl | rfl | rfl := M.seven he
  · cases last
    · exact feedOf_1_more r t p w hs
    · exact feedOf_1_last r t p w hs
  · cases last
    · exact feedOf_2_more r t p w hs
    · exact feedOf_2_last r t p w hs
  · cases last
    · exact feedOf_3_more r t p w hs
    · exact feedOf_3_last r t p w hs
  · cases last
    · exact feedOf_4_more r t p w hs
    · exact feedOf_4_last r t p w hs
  · cases last
    · exact feedOf_5_more r t p w hs
    · exact feedOf_5_last r t p w hs
  · cases last
    · exact feedOf_6_more r t p w hs hk.1
    · exact feedOf_6_last r t p w hs hk.1
  · obtain ⟨g, fr, st⟩ := t
    by_cases h0 : (r ++ p).size = 0
    · cases last
      · exact feedOf_7_none_more r g fr st p w hs h0
      · exact feedOf_7_none_last r g fr st p w hs h0
    · cases st
      · cases last
        · exact feedOf_7_told_more r g fr p w hs h0
        · exact feedOf_7_told_last r g fr p w hs h0
      · cases last
        · exact feedOf_7_stop_more r g fr p w hs h0
        · exact feedOf_7_stop_last r g fr p w hs h0

end Go.Proofs.YtaiinjfnkmidbaaGreatDoor

namespace Go.Proofs.YtaiinjfnkmidbaaGreatDoor
open Go.RowKit
set_option linter.unusedVariables false

set_option maxHeartbeats 800000 in
set_option maxRecDepth 100000 in
theorem chooseOf_any (name s : ByteArray) (w : World) (hn : name.size ≤ 3000) (hs : s.size ≤ 3300) :
    Calls Tryz.prog 17 #[.string name, .string s] w fun e w' => e = .returned (.tuple #[.int .i64 (chI name (bl s)).1, .int .i64 (chI name (bl s)).2.1, .int .i64 (chI name (bl s)).2.2]) ∧ Below w.heap.size w w' := by
  have HS := hide (fun w => sniffOf_any s w (by unfold maxLen; omega))
  have HF := hide (fun w => findOf_any name w hn)
  have HC := hide (fun w => scanOf_any s w (by omega))
  have R1 := hide (fun h => chI_mark (name := name) (l := bl s) h)
  have R2 := hide (fun h h1 => chI_label (name := name) (l := bl s) h h1)
  have R3 := hide (fun h h1 h2 => chI_meta (name := name) (l := bl s) h h1 h2)
  have R4 := hide (fun h h1 h2 => chI_none (name := name) (l := bl s) h h1 h2)
  generalize (M.sn (bl s)).1 = a at *
  generalize (M.sn (bl s)).2 = b at *
  generalize findI name = c at *
  generalize scnI (bl s) = d at *
  by_cases h0 : a = 0
  · subst h0
    by_cases h1 : c = 0
    · subst h1
      by_cases h2 : d = 0
      · subst h2
        have HR := hide (unhide R4 rfl rfl rfl)
        clear R1 R2 R3 R4
        go_enter Tryz.func17, Tryz.ntmps17
        go_wp2_with fail
        refine (unhide HS _).mono ?_
        rintro e w1 ⟨rfl, hw⟩
        replace hw := hw.symm
        subst hw
        go_wp2_with fail
        refine (unhide HF _).mono ?_
        rintro e w2 ⟨rfl, hb2⟩
        have HB2 := hide hb2
        clear hb2
        go_wp2_with fail
        refine (unhide HC _).mono ?_
        rintro e w3 ⟨rfl, hb3⟩
        have HB3 := hide (bstep (unhide HB2) hb3)
        clear hb3
        go_wp2_with fail
        go_ret3
        exact ⟨by rw [unhide HR]; rfl, unhide HB3⟩
      · have HR := hide (unhide R3 rfl rfl h2)
        have hne : (d != 0) = true := bne_iff_ne.2 h2
        clear R1 R2 R3 R4 h2
        go_enter Tryz.func17, Tryz.ntmps17
        go_wp2_with fail
        refine (unhide HS _).mono ?_
        rintro e w1 ⟨rfl, hw⟩
        replace hw := hw.symm
        subst hw
        go_wp2_with fail
        refine (unhide HF _).mono ?_
        rintro e w2 ⟨rfl, hb2⟩
        have HB2 := hide hb2
        clear hb2
        go_wp2_with fail
        refine (unhide HC _).mono ?_
        rintro e w3 ⟨rfl, hb3⟩
        have HB3 := hide (bstep (unhide HB2) hb3)
        clear hb3
        go_wp2_with fail
        go_ret3
        exact ⟨by rw [unhide HR]; rfl, unhide HB3⟩
    · have HR := hide (unhide R2 rfl h1)
      have hne : (c != 0) = true := bne_iff_ne.2 h1
      clear R1 R2 R3 R4 h1
      go_enter Tryz.func17, Tryz.ntmps17
      go_wp2_with fail
      refine (unhide HS _).mono ?_
      rintro e w1 ⟨rfl, hw⟩
      replace hw := hw.symm
      subst hw
      go_wp2_with fail
      refine (unhide HF _).mono ?_
      rintro e w2 ⟨rfl, hb2⟩
      have HB2 := hide hb2
      clear hb2
      go_wp2_with fail
      go_ret3
      exact ⟨by rw [unhide HR]; rfl, unhide HB2⟩
  · have HR := hide (unhide R1 h0)
    have hne : (a != 0) = true := bne_iff_ne.2 h0
    clear R1 R2 R3 R4 h0
    go_enter Tryz.func17, Tryz.ntmps17
    go_wp2_with fail
    refine (unhide HS _).mono ?_
    rintro e w1 ⟨rfl, hw⟩
    replace hw := hw.symm
    subst hw
    go_wp2_with fail
    go_ret3
    exact ⟨by rw [unhide HR]; rfl, Below.refl _ _⟩
end Go.Proofs.YtaiinjfnkmidbaaGreatDoor

namespace Go.Proofs.YtaiinjfnkmidbaaGreatDoor
open Go.RowKit
set_option linter.unusedVariables false

set_option maxHeartbeats 800000 in
set_option maxRecDepth 100000 in
theorem isEnough_any (name s : ByteArray) (w : World) (hn : name.size ≤ 3000) (hs : s.size ≤ maxLen) :
    Calls Tryz.prog 52 #[.string name, .string s] w fun e w' => e = .returned (.bool (enF name (bl s))) ∧ Below w.heap.size w w' := by
  have HS := hide (fun w => sniffOf_any s w hs)
  have HF := hide (fun w => findOf_any name w hn)
  have HE : Hid (enF name (bl s) = (decide ((M.sn (bl s)).1 ≠ 0) || (decide (256 ≤ s.size) || (decide (findI name ≠ 0) && decide (3 ≤ s.size))))) := hide (by unfold enF; rw [bl_len])
  generalize (M.sn (bl s)).1 = a at *
  generalize (M.sn (bl s)).2 = b at *
  generalize findI name = c at *
  unfold maxLen at hs
  by_cases h0 : a = 0
  · subst h0
    by_cases h256 : 256 ≤ s.size
    · have HR : Hid (enF name (bl s) = true) := hide (by rw [unhide HE]; simp [h256])
      clear HE
      go_enter Tryz.func52, Tryz.ntmps52
      go_wp2_with fail
      refine (unhide HS _).mono ?_
      rintro e w1 ⟨rfl, hw⟩
      replace hw := hw.symm
      subst hw
      go_wp2_with fail
      go_ret
      exact ⟨ret_bool (unhide HR).symm, Below.refl _ _⟩
    · have HR : Hid (enF name (bl s) = ((c != 0) && decide ((3 : Int) ≤ (s.size : Int)))) := hide (by
        rw [unhide HE, Bool.eq_iff_iff]
        simp [h256]
        omega)
      clear HE
      go_enter Tryz.func52, Tryz.ntmps52
      go_wp2_with fail
      refine (unhide HS _).mono ?_
      rintro e w1 ⟨rfl, hw⟩
      replace hw := hw.symm
      subst hw
      go_wp2_with fail
      refine (unhide HF _).mono ?_
      rintro e w2 ⟨rfl, hb2⟩
      have HB2 := hide hb2
      clear hb2
      by_cases h1 : c = 0
      · subst h1
        go_wp2_with fail
        go_ret
        exact ⟨ret_bool (by rw [unhide HR] <;> simp <;> omega), unhide HB2⟩
      · have hne : (c != 0) = true := bne_iff_ne.2 h1
        rw [hne] at HR
        clear h1
        go_wp2_with fail
        go_ret
        exact ⟨ret_bool (by rw [unhide HR] <;> simp <;> omega), unhide HB2⟩
  · have HR : Hid (enF name (bl s) = true) := hide (by rw [unhide HE]; simp [h0])
    have hne : (a != 0) = true := bne_iff_ne.2 h0
    clear HE h0
    go_enter Tryz.func52, Tryz.ntmps52
    go_wp2_with fail
    refine (unhide HS _).mono ?_
    rintro e w1 ⟨rfl, hw⟩
    replace hw := hw.symm
    subst hw
    go_wp2_with fail
    go_ret
    exact ⟨ret_bool (unhide HR).symm, Below.refl _ _⟩
end Go.Proofs.YtaiinjfnkmidbaaGreatDoor

namespace Go.Proofs.YtaiinjfnkmidbaaGreatDoor
open Go.RowKit
set_option linter.unusedVariables false

/-- Which bytes are open: they begin a scalar and are not all of it. -/
theorem M.open_iff {l : List Int} (h0 : l ≠ []) (h3 : l.length ≤ 3) : (M.nxt l).2.2 = (M.begOk l && decide ((l.length : Int) < M.bSize (l.headD 0))) := by
  have key : ∀ l : List Int, l ≠ [] → M.begOk l = true → (M.nxt l).2.2 = decide ((l.length : Int) < M.bSize (l.headD 0)) := by
    intro l hl hb
    obtain ⟨c, t, rfl⟩ := M.take_one hl
    by_cases he : ((t.length + 1 : Nat) : Int) = M.bSize c
    · have := M.nxt_done (c := c) (t := t) (k := t.length) (Nat.le_refl _) (by rw [List.take_length]; exact hb) he
      rw [this]
      have : ¬ ((c :: t).length : Int) < M.bSize ((c :: t).headD 0) := by simp only [List.length_cons, List.headD_cons]; omega
      rw [decide_eq_false this]
    · rw [M.nxt_left hb he]
      simp only [M.begOk, Bool.and_eq_true, decide_eq_true_eq] at hb
      have : ((c :: t).length : Int) < M.bSize ((c :: t).headD 0) := by simp only [List.length_cons, List.headD_cons]; omega
      rw [decide_eq_true this]
  cases hb : M.begOk l with
  | true => rw [key l h0 hb]; rfl
  | false =>
    rw [Bool.false_and]
    match l, h0, h3, hb with
    | [c], _, _, hb => rw [M.nxt_first [] hb]
    | [c, c1], _, _, hb =>
      cases h1 : M.begOk [c] with
      | false => rw [M.nxt_first _ h1]
      | true =>
        by_cases he : ((0 + 1 : Nat) : Int) = M.bSize c
        · rw [M.nxt_done (c := c) (t := [c1]) (k := 0) (by simp) h1 he]
        · rw [M.nxt_bad (c := c) (t := [c1]) (k := 0) (by simp) h1 he hb]
    | [c, c1, c2], _, _, hb =>
      cases h1 : M.begOk [c] with
      | false => rw [M.nxt_first _ h1]
      | true =>
        by_cases he : ((0 + 1 : Nat) : Int) = M.bSize c
        · rw [M.nxt_done (c := c) (t := [c1, c2]) (k := 0) (by simp) h1 he]
        · cases h2 : M.begOk [c, c1] with
          | false => rw [M.nxt_bad (c := c) (t := [c1, c2]) (k := 0) (by simp) h1 he h2]
          | true =>
            by_cases he2 : ((1 + 1 : Nat) : Int) = M.bSize c
            · rw [M.nxt_done (c := c) (t := [c1, c2]) (k := 1) (by simp) h2 he2]
            · rw [M.nxt_bad (c := c) (t := [c1, c2]) (k := 1) (by simp) h2 he2 hb]
    | _ :: _ :: _ :: _ :: _, _, h3, _ => simp at h3
theorem M.spl_all {l : List Int} (h0 : l ≠ []) : M.spl l = l.length ↔ (M.nxt l).2.2 = true := by
  have hw := M.f8_waits l
  constructor
  · intro h
    rw [h] at hw
    cases hf : M.f8 () l with
    | none => unfold M.f8 at hf; rw [if_neg h0] at hf; split at hf
              · assumption
              · cases hf
    | some r =>
      obtain ⟨o, k, s'⟩ := r
      have hs := M.f8_steps.size _ _ _ _ _ hf
      obtain ⟨m, e1, e2⟩ := M.Run_end M.f8_steps s' (l.drop k)
      rw [M.Run_step M.f8_steps hf] at hw
      have : (M.Run M.f8 s' (l.drop k)).2.2.length ≤ l.length - k := by rw [e1]; simp; omega
      have hw' : ((M.Run M.f8 s' (l.drop k)).2.2.length : Int) = l.length := hw
      omega
  · intro h
    rw [M.Run_wait (by unfold M.f8; rw [if_neg h0, if_pos h])] at hw
    exact hw.symm
/-- Is Rest one that may wait? -/
def fok (e : Int) (r : ByteArray) : Bool := decide (M.wE e (bl r) = r.size ∧ r.size ≤ 3)
theorem fok_many {e : Int} {r : ByteArray} (h : 3 < r.size) : fok e r = false := decide_eq_false (by omega)
theorem fok_none {e : Int} {r : ByteArray} (he : 1 ≤ e ∧ e ≤ 7) (h : r.size = 0) : fok e r = true := by
  have hb := M.wE_bd he (bl r)
  rw [bl_len] at hb
  exact decide_eq_true (by omega)
theorem fok_8 {r : ByteArray} (h1 : 1 ≤ r.size) (h3 : r.size ≤ 3) : fok 1 r = (M.begOk (bl r) && decide ((r.size : Int) < M.bSize ((bl r).headD 0))) := by
  have hne : bl r ≠ [] := fun e => by have := bl_len r; rw [e] at this; simp at this; omega
  have e := M.open_iff hne (by rw [bl_len]; exact h3)
  rw [bl_len] at e
  rw [← e, Bool.eq_iff_iff]
  unfold fok
  rw [decide_eq_true_iff]
  have := M.spl_all hne
  rw [bl_len] at this
  exact ⟨fun h => this.1 h.1, fun h => ⟨this.2 h, h3⟩⟩
theorem fok_16 {big : Bool} {r : ByteArray} {a b : Int} (h2 : 2 ≤ r.size) (h3 : r.size ≤ 3) (ha : ((r[0]'(by omega)).toNat : Int) = a) (hb : ((r[1]'(by omega)).toNat : Int) = b) : fok (if big then 3 else 2) r = M.fst16 (M.ut big a b) := by
  have e1 := bl_drop r 0 (by omega)
  have e2 := bl_drop r 1 (by omega)
  rw [List.drop_zero] at e1
  simp only [Nat.zero_add] at e1
  rw [e2, ha] at e1
  rw [hb] at e1
  have hl : ((bl r).drop 2).length = r.size - 2 := by rw [List.length_drop, bl_len]
  have hw : M.wE (if big then 3 else 2) (bl r) = M.wu big (bl r) := by cases big <;> rfl
  have hlw : M.lastW big (bl r) = M.ut big a b := by
    rw [e1]
    generalize (bl r).drop 2 = t at hl
    match t, hl with
    | [], _ => rfl
    | [c], _ => rfl
    | _ :: _ :: _, hl => simp at hl; omega
  unfold fok
  rw [hw]
  unfold M.wu
  rw [hlw, bl_len]
  cases hq : M.fst16 (M.ut big a b) with
  | true => exact decide_eq_true (by simp; omega)
  | false => exact decide_eq_false (by simp; omega)
theorem fok_1 {big : Bool} {r : ByteArray} (h : r.size = 1) : fok (if big then 3 else 2) r = true := by
  have hw : M.wE (if big then 3 else 2) (bl r) = M.wu big (bl r) := by cases big <;> rfl
  unfold fok
  rw [hw]
  unfold M.wu
  have hl : (bl r).length = 1 := by rw [bl_len]; exact h
  have hlw : M.lastW big (bl r) = 0 := by
    generalize bl r = t at hl
    match t, hl with
    | [c], _ => rfl
  rw [hlw, hl, M.fst16_0]
  exact decide_eq_true (by simp; omega)
theorem fok_S {e : Int} {r : ByteArray} (he : e = 4 ∨ e = 5 ∨ e = 7) (h : r.size ≠ 0) : fok e r = false := by
  have : M.wE e (bl r) = 0 := by rcases he with rfl | rfl | rfl <;> rfl
  exact decide_eq_false (by omega)
theorem fok_K {r : ByteArray} : fok 6 r = (decide (bl r = []) || decide (bl r = [27]) || decide (bl r = [27, 40])) := by
  have hw : M.wE 6 (bl r) = M.wk (bl r) := rfl
  unfold fok
  rw [hw, Bool.eq_iff_iff]
  simp only [decide_eq_true_iff, Bool.or_eq_true]
  have hl := bl_len r
  generalize bl r = l at hl
  rw [← hl]
  unfold M.wk
  constructor
  · rintro ⟨h1, h2⟩
    split at h1
    · rename_i h
      obtain ⟨p, hp⟩ := h
      have := congrArg List.length hp
      simp at this
      have : p = [] := List.eq_nil_of_length_eq_zero (by omega)
      subst this
      exact .inr hp.symm
    · split at h1
      · rename_i h
        obtain ⟨p, hp⟩ := h
        have := congrArg List.length hp
        simp at this
        have : p = [] := List.eq_nil_of_length_eq_zero (by omega)
        subst this
        exact .inl (.inr hp.symm)
      · exact .inl (.inl (List.eq_nil_of_length_eq_zero (by omega)))
  · rintro ((h | h) | h)
    · subst h; decide
    · subst h; decide
    · subst h; decide
set_option maxHeartbeats 400000 in
set_option maxRecDepth 100000 in
theorem isEncoding_any (n : Int) (w : World) : Calls Tryz.prog 82 #[.int .i64 n] w fun e w' => e = .returned (.bool (decide (1 ≤ n) && decide (n ≤ 7))) ∧ w' = w := by
  go_enter Tryz.func82, Tryz.ntmps82
  go_wp2_with fail
  refine (between_any n 1 7 _).mono ?_
  rintro e w1 ⟨rfl, hw⟩
  replace hw := hw.symm
  subst hw
  go_wp2_with fail
  go_ret
  exact ⟨rfl, rfl⟩
theorem isEncoding_yes (n : Int) (w : World) (h : 1 ≤ n ∧ n ≤ 7) : Calls Tryz.prog 82 #[.int .i64 n] w fun e w' => e = .returned (.bool true) ∧ w' = w := by
  have := isEncoding_any n w
  rw [decide_eq_true h.1, decide_eq_true h.2] at this
  exact this
theorem isEncoding_no (n : Int) (w : World) (h : ¬ (1 ≤ n ∧ n ≤ 7)) : Calls Tryz.prog 82 #[.int .i64 n] w fun e w' => e = .returned (.bool false) ∧ w' = w := by
  have := isEncoding_any n w
  have e : (decide (1 ≤ n) && decide (n ≤ 7)) = false := by simp; omega
  rw [e] at this
  exact this

set_option maxHeartbeats 400000 in
set_option maxRecDepth 100000 in
theorem checkState_kind (e : Int) (r : ByteArray) (g : Int) (fr st : Bool) (w : World) (he : ¬ (1 ≤ e ∧ e ≤ 7)) :
    Calls Tryz.prog 53 #[.agg #[.int .i64 e, .string r, .int .i64 g, .bool fr, .bool st]] w fun e' w' => e' = .returned (.int .i64 6) ∧ Below w.heap.size w w' := by
  go_enter Tryz.func53, Tryz.ntmps53
  go_wp2_with fail
  refine (isEncoding_no e _ he).mono ?_
  rintro e' w1 ⟨rfl, hw⟩
  replace hw := hw.symm
  subst hw
  go_wp2_with fail
  go_ret
  exact ⟨rfl, balloc _ _⟩

theorem chk_form {e : Int} {r : ByteArray} {t : M.St} (he : 1 ≤ e ∧ e ≤ 7) (hf : fok e r = false) : 1 = chk e r t := by
  unfold chk
  rw [if_neg (fun q => q he), if_pos (of_decide_eq_false hf)]
theorem chk_state {e : Int} {r : ByteArray} {g : Int} {fr st : Bool} (he : 1 ≤ e ∧ e ≤ 7) (hf : fok e r = true) : chk e r (g, fr, st) = if g < 0 ∨ 2 < g then 4 else if e ≠ 6 ∧ (g ≠ 0 ∨ fr = true) then 4 else if e ≠ 7 ∧ st = true then 4 else 0 := by
  unfold chk
  rw [if_neg (fun q => q he), if_neg (fun q => q (of_decide_eq_true hf))]

set_option maxHeartbeats 4000000 in
set_option maxRecDepth 100000 in
theorem checkState_valid (e : Int) (r : ByteArray) (g : Int) (fr st : Bool) (w : World) (hm : r.size ≤ maxLen) (he : 1 ≤ e ∧ e ≤ 7) :
    Calls Tryz.prog 53 #[.agg #[.int .i64 e, .string r, .int .i64 g, .bool fr, .bool st]] w fun e' w' => e' = .returned (.int .i64 (chk e r (g, fr, st))) ∧ Below w.heap.size w w' := by
  unfold maxLen at hm
  have HE := hide he
  go_enter Tryz.func53, Tryz.ntmps53
  go_wp2_with fail
  refine (isEncoding_yes e _ he).mono ?_
  rintro e' w1 ⟨rfl, hw⟩
  replace hw := hw.symm
  subst hw
  go_upto_block 0 with fail
  go_cut [3] (fun ok wx => ok = .bool (fok e r) ∧ Sc w.heap.size e r (g, fr, st) wx ∧ Below w.heap.size w wx)
  case first =>
    clear he
    have he := unhide HE
    obtain rfl | rfl | rfl | rfl | rfl | rfl | rfl := M.seven he
    · clear he
      by_cases h0 : r.size = 0
      · have hbt : (decide ((1 : Int) ≤ (r.size : Int)) && decide ((r.size : Int) ≤ 3)) = false := by simp; omega
        have HF := hide (fok_none (e := 1) (r := r) (by omega) h0)
        have he0 : r.toList.isEmpty = true := by rw [isEmpty_size]; simp [h0]
        have HZ := hide h0
        clear h0
        go_wp2_with fail
        refine (between_any _ _ _ _).mono ?_
        rintro e' w9 ⟨rfl, hw9⟩
        replace hw9 := hw9.symm
        subst hw9
        rw [hbt]
        go_wp2_with fail
        go_meet
        case rel => exact ⟨by first | (rw [unhide HF]; done) | (rw [he0, unhide HF]; done), Sc.new w 1 r (g, fr, st), balloc _ _⟩
      have he0 : r.toList.isEmpty = false := by rw [isEmpty_size]; simp [h0]
      by_cases h3 : 3 < r.size
      · have hbt : (decide ((1 : Int) ≤ (r.size : Int)) && decide ((r.size : Int) ≤ 3)) = false := by simp; omega
        have HF := hide (fok_many (e := 1) (r := r) h3)
        go_wp2_with fail
        refine (between_any _ _ _ _).mono ?_
        rintro e' w9 ⟨rfl, hw9⟩
        replace hw9 := hw9.symm
        subst hw9
        rw [hbt]
        go_wp2_with fail
        go_meet
        case rel => exact ⟨by first | (rw [unhide HF]; done) | (rw [he0, unhide HF]; done), Sc.new w 1 r (g, fr, st), balloc _ _⟩
      have hbt : (decide ((1 : Int) ≤ (r.size : Int)) && decide ((r.size : Int) ≤ 3)) = true := by simp; omega
      have HF := hide (fok_8 (r := r) (by omega) (by omega))
      have HG := hide (fun w => isBegun_few r w (by omega) (by omega))
      obtain ⟨q, HQ⟩ : ∃ q, Hid (M.begOk (bl r) = q) := ⟨_, hide rfl⟩
      unfold BegPost at HG
      rw [unhide HQ] at HF HG
      go_wp2_with fail
      refine (between_any _ _ _ _).mono ?_
      rintro e' w9 ⟨rfl, hw9⟩
      replace hw9 := hw9.symm
      subst hw9
      rw [hbt]
      go_wp2_with fail
      refine (unhide HG _).mono ?_
      rintro e' w2 ⟨X, rfl, hX, hb2⟩
      have hS2 : Sc w.heap.size 1 r (g, fr, st) w2 := (Sc.new w 1 r (g, fr, st)).on hb2
      have HS2 := hide hS2
      have hl2 := hS2.lt
      obtain ⟨c0, c1, c2, c3, c4, -, -, -, -, -⟩ := hS2
      have HB2 := hide (bstep (balloc _ _) hb2)
      have HX := hide hX
      clear hb2 hX
      cases q
      · go_wp2_with fail
        go_meet
        case rel => exact ⟨by rw [unhide HF]; rfl, unhide HS2, unhide HB2⟩
      · by_cases hlt : (r.size : Int) < X
        · have HV : Hid (fok 1 r = true) := hide (by rw [unhide HF, ← unhide HX rfl, decide_eq_true hlt]; rfl)
          have hltB : decide ((r.size : Int) < X) = true := decide_eq_true hlt
          go_wp2_with fail
          go_meet
          case rel => exact ⟨by first | (rw [unhide HV]; done) | (rw [unhide HV, hltB]; done), unhide HS2, unhide HB2⟩
        · have HV : Hid (fok 1 r = false) := hide (by rw [unhide HF, ← unhide HX rfl, decide_eq_false hlt]; rfl)
          have hltB : decide ((r.size : Int) < X) = false := decide_eq_false hlt
          go_wp2_with fail
          go_meet
          case rel => exact ⟨by first | (rw [unhide HV]; done) | (rw [unhide HV, hltB]; done), unhide HS2, unhide HB2⟩
    · clear he
      by_cases h0 : r.size = 0
      · have hbt : (decide ((1 : Int) ≤ (r.size : Int)) && decide ((r.size : Int) ≤ 3)) = false := by simp; omega
        have HF := hide (fok_none (e := 2) (r := r) (by omega) h0)
        have he0 : r.toList.isEmpty = true := by rw [isEmpty_size]; simp [h0]
        have HZ := hide h0
        clear h0
        go_wp2_with fail
        refine (between_any _ _ _ _).mono ?_
        rintro e' w9 ⟨rfl, hw9⟩
        replace hw9 := hw9.symm
        subst hw9
        rw [hbt]
        go_wp2_with fail
        go_meet
        case rel => exact ⟨by first | (rw [unhide HF]; done) | (rw [he0, unhide HF]; done), Sc.new w 2 r (g, fr, st), balloc _ _⟩
      have he0 : r.toList.isEmpty = false := by rw [isEmpty_size]; simp [h0]
      by_cases h3 : 3 < r.size
      · have hbt : (decide ((1 : Int) ≤ (r.size : Int)) && decide ((r.size : Int) ≤ 3)) = false := by simp; omega
        have HF := hide (fok_many (e := 2) (r := r) h3)
        go_wp2_with fail
        refine (between_any _ _ _ _).mono ?_
        rintro e' w9 ⟨rfl, hw9⟩
        replace hw9 := hw9.symm
        subst hw9
        rw [hbt]
        go_wp2_with fail
        go_meet
        case rel => exact ⟨by first | (rw [unhide HF]; done) | (rw [he0, unhide HF]; done), Sc.new w 2 r (g, fr, st), balloc _ _⟩
      have hbt : (decide ((1 : Int) ≤ (r.size : Int)) && decide ((r.size : Int) ≤ 3)) = true := by simp; omega
      by_cases h1 : r.size = 1
      · have HF : Hid (fok 2 r = true) := hide (fok_1 (big := false) h1)
        have h1I : ((r.size : Int) == 1) = true := by simp [h1]
        clear h1
        go_wp2_with fail
        refine (between_any _ _ _ _).mono ?_
        rintro e' w9 ⟨rfl, hw9⟩
        replace hw9 := hw9.symm
        subst hw9
        rw [hbt]
        go_wp2_with fail
        go_meet
        case rel => exact ⟨by first | (rw [unhide HF]; done) | (rw [he0, unhide HF]; done), Sc.new w 2 r (g, fr, st), balloc _ _⟩
      have h1I : ((r.size : Int) == 1) = false := by simp; omega
      obtain ⟨a, HA⟩ : ∃ a, Hid (((r[0]'(by omega)).toNat : Int) = a) := ⟨_, hide rfl⟩
      obtain ⟨b, HBB⟩ : ∃ b, Hid (((r[1]'(by omega)).toNat : Int) = b) := ⟨_, hide rfl⟩
      have HF : Hid (fok 2 r = M.fst16 (M.ut false a b)) := hide (fok_16 (big := false) (by omega) (by omega) (unhide HA) (unhide HBB))
      have HR : Hid (∀ w : World, Calls Tryz.prog 109 #[.bool false, .string r, .int .i64 0] w fun e w' => e = .returned (.int .i64 (M.ut false a b)) ∧ ∃ m, w' = w.drewN m) := hide (fun w => unitAt_any false r 0 a b w (by omega) (by omega) (unhide HA) (unhide HBB))
      obtain ⟨u, HU⟩ : ∃ u, Hid (M.ut false a b = u) := ⟨_, hide rfl⟩
      rw [unhide HU] at HF HR
      have HV : Hid (fok 2 r = (decide (55296 ≤ u) && decide (u ≤ 56319))) := hide (by rw [unhide HF, Bool.eq_iff_iff]; simp [M.fst16]; omega)
      go_wp2_with fail
      refine (between_any _ _ _ _).mono ?_
      rintro e' w9 ⟨rfl, hw9⟩
      replace hw9 := hw9.symm
      subst hw9
      rw [hbt]
      go_wp2_with fail
      refine (unhide HR _).mono ?_
      rintro e' w2 ⟨rfl, m, rfl⟩
      go_wp2_with fail
      refine (between_any _ _ _ _).mono ?_
      rintro e' w9 ⟨rfl, hw9⟩
      replace hw9 := hw9.symm
      subst hw9
      rw [← unhide HV]
      go_wp2_with fail
      go_meet
      case rel => exact ⟨rfl, (Sc.new w 2 r (g, fr, st)).on (below_drewN (Below.refl _ _) _), below_drewN (balloc _ _) _⟩
    · clear he
      by_cases h0 : r.size = 0
      · have hbt : (decide ((1 : Int) ≤ (r.size : Int)) && decide ((r.size : Int) ≤ 3)) = false := by simp; omega
        have HF := hide (fok_none (e := 3) (r := r) (by omega) h0)
        have he0 : r.toList.isEmpty = true := by rw [isEmpty_size]; simp [h0]
        have HZ := hide h0
        clear h0
        go_wp2_with fail
        refine (between_any _ _ _ _).mono ?_
        rintro e' w9 ⟨rfl, hw9⟩
        replace hw9 := hw9.symm
        subst hw9
        rw [hbt]
        go_wp2_with fail
        go_meet
        case rel => exact ⟨by first | (rw [unhide HF]; done) | (rw [he0, unhide HF]; done), Sc.new w 3 r (g, fr, st), balloc _ _⟩
      have he0 : r.toList.isEmpty = false := by rw [isEmpty_size]; simp [h0]
      by_cases h3 : 3 < r.size
      · have hbt : (decide ((1 : Int) ≤ (r.size : Int)) && decide ((r.size : Int) ≤ 3)) = false := by simp; omega
        have HF := hide (fok_many (e := 3) (r := r) h3)
        go_wp2_with fail
        refine (between_any _ _ _ _).mono ?_
        rintro e' w9 ⟨rfl, hw9⟩
        replace hw9 := hw9.symm
        subst hw9
        rw [hbt]
        go_wp2_with fail
        go_meet
        case rel => exact ⟨by first | (rw [unhide HF]; done) | (rw [he0, unhide HF]; done), Sc.new w 3 r (g, fr, st), balloc _ _⟩
      have hbt : (decide ((1 : Int) ≤ (r.size : Int)) && decide ((r.size : Int) ≤ 3)) = true := by simp; omega
      by_cases h1 : r.size = 1
      · have HF : Hid (fok 3 r = true) := hide (fok_1 (big := true) h1)
        have h1I : ((r.size : Int) == 1) = true := by simp [h1]
        clear h1
        go_wp2_with fail
        refine (between_any _ _ _ _).mono ?_
        rintro e' w9 ⟨rfl, hw9⟩
        replace hw9 := hw9.symm
        subst hw9
        rw [hbt]
        go_wp2_with fail
        go_meet
        case rel => exact ⟨by first | (rw [unhide HF]; done) | (rw [he0, unhide HF]; done), Sc.new w 3 r (g, fr, st), balloc _ _⟩
      have h1I : ((r.size : Int) == 1) = false := by simp; omega
      obtain ⟨a, HA⟩ : ∃ a, Hid (((r[0]'(by omega)).toNat : Int) = a) := ⟨_, hide rfl⟩
      obtain ⟨b, HBB⟩ : ∃ b, Hid (((r[1]'(by omega)).toNat : Int) = b) := ⟨_, hide rfl⟩
      have HF : Hid (fok 3 r = M.fst16 (M.ut true a b)) := hide (fok_16 (big := true) (by omega) (by omega) (unhide HA) (unhide HBB))
      have HR : Hid (∀ w : World, Calls Tryz.prog 109 #[.bool true, .string r, .int .i64 0] w fun e w' => e = .returned (.int .i64 (M.ut true a b)) ∧ ∃ m, w' = w.drewN m) := hide (fun w => unitAt_any true r 0 a b w (by omega) (by omega) (unhide HA) (unhide HBB))
      obtain ⟨u, HU⟩ : ∃ u, Hid (M.ut true a b = u) := ⟨_, hide rfl⟩
      rw [unhide HU] at HF HR
      have HV : Hid (fok 3 r = (decide (55296 ≤ u) && decide (u ≤ 56319))) := hide (by rw [unhide HF, Bool.eq_iff_iff]; simp [M.fst16]; omega)
      go_wp2_with fail
      refine (between_any _ _ _ _).mono ?_
      rintro e' w9 ⟨rfl, hw9⟩
      replace hw9 := hw9.symm
      subst hw9
      rw [hbt]
      go_wp2_with fail
      refine (unhide HR _).mono ?_
      rintro e' w2 ⟨rfl, m, rfl⟩
      go_wp2_with fail
      refine (between_any _ _ _ _).mono ?_
      rintro e' w9 ⟨rfl, hw9⟩
      replace hw9 := hw9.symm
      subst hw9
      rw [← unhide HV]
      go_wp2_with fail
      go_meet
      case rel => exact ⟨rfl, (Sc.new w 3 r (g, fr, st)).on (below_drewN (Below.refl _ _) _), below_drewN (balloc _ _) _⟩
    · clear he
      by_cases h0 : r.size = 0
      · have hF := fok_none (e := 4) (r := r) (by omega) h0
        have he0 : r.toList.isEmpty = true := by rw [isEmpty_size]; simp [h0]
        have HZ := hide h0
        clear h0
        go_wp2_with fail
        go_meet
        case rel => exact ⟨by first | (rw [hF]; done) | (rw [he0, hF]; done), Sc.new w 4 r (g, fr, st), balloc _ _⟩
      · have he0 : r.toList.isEmpty = false := by rw [isEmpty_size]; simp [h0]
        have hF := fok_S (e := 4) (r := r) (by omega) h0
        go_wp2_with fail
        go_meet
        case rel => exact ⟨by first | (rw [hF]; done) | (rw [he0, hF]; done), Sc.new w 4 r (g, fr, st), balloc _ _⟩
    · clear he
      by_cases h0 : r.size = 0
      · have hF := fok_none (e := 5) (r := r) (by omega) h0
        have he0 : r.toList.isEmpty = true := by rw [isEmpty_size]; simp [h0]
        have HZ := hide h0
        clear h0
        go_wp2_with fail
        go_meet
        case rel => exact ⟨by first | (rw [hF]; done) | (rw [he0, hF]; done), Sc.new w 5 r (g, fr, st), balloc _ _⟩
      · have he0 : r.toList.isEmpty = false := by rw [isEmpty_size]; simp [h0]
        have hF := fok_S (e := 5) (r := r) (by omega) h0
        go_wp2_with fail
        go_meet
        case rel => exact ⟨by first | (rw [hF]; done) | (rw [he0, hF]; done), Sc.new w 5 r (g, fr, st), balloc _ _⟩
    · clear he
      by_cases h0 : r.size = 0
      · have hF := fok_none (e := 6) (r := r) (by omega) h0
        have he0 : r.toList.isEmpty = true := by rw [isEmpty_size]; simp [h0]
        have HZ := hide h0
        clear h0
        go_wp2_with fail
        go_meet
        case rel => exact ⟨by first | (rw [hF]; done) | (rw [he0, hF]; done), Sc.new w 6 r (g, fr, st), balloc _ _⟩
      have hF := fok_K (r := r)
      rw [decide_eq_false (fun q => h0 (by rw [← bl_len, q]; rfl))] at hF
      have he0 : r.toList.isEmpty = false := by rw [isEmpty_size]; simp [h0]
      by_cases h1 : bl r = [27]
      · have e1 : (r.toList == ([27] : List UInt8)) = true := by rw [beq_nums r [27] [27] (by decide +kernel) (by decide +kernel)]; exact decide_eq_true h1
        rw [decide_eq_true h1] at hF
        replace hF : fok 6 r = true := hF
        have HF := hide hF
        clear hF h1
        go_wp2_with fail
        go_meet
        case rel => exact ⟨by first | (rw [unhide HF]; done) | (rw [he0, unhide HF]; done), Sc.new w 6 r (g, fr, st), balloc _ _⟩
      by_cases h2 : bl r = [27, 40]
      · have e1 : (r.toList == ([27] : List UInt8)) = false := by rw [beq_nums r [27] [27] (by decide +kernel) (by decide +kernel)]; exact decide_eq_false h1
        have e2 : (r.toList == ([27, 40] : List UInt8)) = true := by rw [beq_nums r [27, 40] [27, 40] (by decide +kernel) (by decide +kernel)]; exact decide_eq_true h2
        rw [decide_eq_true h2, Bool.or_true] at hF
        have HF := hide hF
        clear hF h1 h2
        go_wp2_with fail
        go_meet
        case rel => exact ⟨by first | (rw [unhide HF]; done) | (rw [he0, unhide HF]; done), Sc.new w 6 r (g, fr, st), balloc _ _⟩
      have e1 : (r.toList == ([27] : List UInt8)) = false := by rw [beq_nums r [27] [27] (by decide +kernel) (by decide +kernel)]; exact decide_eq_false h1
      have e2 : (r.toList == ([27, 40] : List UInt8)) = false := by rw [beq_nums r [27, 40] [27, 40] (by decide +kernel) (by decide +kernel)]; exact decide_eq_false h2
      rw [decide_eq_false h1, decide_eq_false h2] at hF
      replace hF : fok 6 r = false := hF
      have HF := hide hF
      clear hF h1 h2
      go_wp2_with fail
      go_meet
      case rel => exact ⟨by first | (rw [unhide HF]; done) | (rw [he0, unhide HF]; done), Sc.new w 6 r (g, fr, st), balloc _ _⟩
    · clear he
      by_cases h0 : r.size = 0
      · have hF := fok_none (e := 7) (r := r) (by omega) h0
        have he0 : r.toList.isEmpty = true := by rw [isEmpty_size]; simp [h0]
        have HZ := hide h0
        clear h0
        go_wp2_with fail
        go_meet
        case rel => exact ⟨by first | (rw [hF]; done) | (rw [he0, hF]; done), Sc.new w 7 r (g, fr, st), balloc _ _⟩
      · have he0 : r.toList.isEmpty = false := by rw [isEmpty_size]; simp [h0]
        have hF := fok_S (e := 7) (r := r) (by omega) h0
        go_wp2_with fail
        go_meet
        case rel => exact ⟨by first | (rw [hF]; done) | (rw [he0, hF]; done), Sc.new w 7 r (g, fr, st), balloc _ _⟩
  case rest =>
    obtain ⟨hok, hS, hB⟩ := hcut
    have HB := hide hB
    clear hB
    have hlt := hS.lt
    obtain ⟨c0, c1, c2, c3, c4, -, -, -, -, -⟩ := hS
    subst hok
    by_cases hf : fok e r = true
    · rw [hf]
      have HF := hide hf
      clear hf he
      by_cases hb : 0 ≤ g ∧ g ≤ 2
      · have hb' : (decide (0 ≤ g) && decide (g ≤ 2)) = true := by simp; omega
        have hn : ¬ (g < 0 ∨ 2 < g) := by omega
        by_cases h6 : e = 6
        · subst h6
          cases st
          · go_wp2_with fail
            refine (between_any _ _ _ _).mono ?_
            rintro e' w9 ⟨rfl, hw9⟩
            replace hw9 := hw9.symm
            subst hw9
            rw [hb']
            go_wp2_with fail
            go_ret
            exact ⟨ret_int (by rw [chk_state (unhide HE) (unhide HF), if_neg hn, if_neg (by simp), if_neg (by simp)]), unhide HB⟩
          · go_wp2_with fail
            refine (between_any _ _ _ _).mono ?_
            rintro e' w9 ⟨rfl, hw9⟩
            replace hw9 := hw9.symm
            subst hw9
            rw [hb']
            go_wp2_with fail
            go_ret
            exact ⟨ret_int (by rw [chk_state (unhide HE) (unhide HF), if_neg hn, if_neg (by simp), if_pos (by simp)]), unhide HB⟩
        · have h6' : (e != 6) = true := by simpa using h6
          by_cases hg : g = 0
          · have hg' : (g != 0) = false := by simpa using hg
            have HG := hide hg
            clear hg
            cases fr
            · by_cases h7 : e = 7
              · subst h7
                clear hb h6'
                go_wp2_with fail
                refine (between_any _ _ _ _).mono ?_
                rintro e' w9 ⟨rfl, hw9⟩
                replace hw9 := hw9.symm
                subst hw9
                rw [hb']
                go_wp2_with fail
                go_ret
                exact ⟨ret_int (by rw [chk_state (unhide HE) (unhide HF), if_neg hn, if_neg (fun q => q.2.elim (fun z => z (unhide HG)) (fun z => by cases z)), if_neg (by simp)]), unhide HB⟩
              · have h7' : (e != 7) = true := by simpa using h7
                clear hb
                cases st
                · go_wp2_with fail
                  refine (between_any _ _ _ _).mono ?_
                  rintro e' w9 ⟨rfl, hw9⟩
                  replace hw9 := hw9.symm
                  subst hw9
                  rw [hb']
                  go_wp2_with fail
                  go_ret
                  exact ⟨ret_int (by rw [chk_state (unhide HE) (unhide HF), if_neg hn, if_neg (fun q => q.2.elim (fun z => z (unhide HG)) (fun z => by cases z)), if_neg (by simp)]), unhide HB⟩
                · go_wp2_with fail
                  refine (between_any _ _ _ _).mono ?_
                  rintro e' w9 ⟨rfl, hw9⟩
                  replace hw9 := hw9.symm
                  subst hw9
                  rw [hb']
                  go_wp2_with fail
                  go_ret
                  exact ⟨ret_int (by rw [chk_state (unhide HE) (unhide HF), if_neg hn, if_neg (fun q => q.2.elim (fun z => z (unhide HG)) (fun z => by cases z)), if_pos ⟨h7, rfl⟩]), unhide HB⟩
            · clear hb
              go_wp2_with fail
              refine (between_any _ _ _ _).mono ?_
              rintro e' w9 ⟨rfl, hw9⟩
              replace hw9 := hw9.symm
              subst hw9
              rw [hb']
              go_wp2_with fail
              go_ret
              exact ⟨ret_int (by rw [chk_state (unhide HE) (unhide HF), if_neg hn, if_pos ⟨h6, .inr rfl⟩]), unhide HB⟩
          · have hg' : (g != 0) = true := by simpa using hg
            go_wp2_with fail
            refine (between_any _ _ _ _).mono ?_
            rintro e' w9 ⟨rfl, hw9⟩
            replace hw9 := hw9.symm
            subst hw9
            rw [hb']
            go_wp2_with fail
            go_ret
            exact ⟨ret_int (by rw [chk_state (unhide HE) (unhide HF), if_neg hn, if_pos ⟨h6, .inl hg⟩]), unhide HB⟩
      · have hb' : (decide (0 ≤ g) && decide (g ≤ 2)) = false := by simp; omega
        go_wp2_with fail
        refine (between_any _ _ _ _).mono ?_
        rintro e' w9 ⟨rfl, hw9⟩
        replace hw9 := hw9.symm
        subst hw9
        rw [hb']
        go_wp2_with fail
        go_ret
        exact ⟨ret_int (by rw [chk_state (unhide HE) (unhide HF), if_pos (by omega)]), unhide HB⟩
    · have hf' : fok e r = false := Bool.eq_false_iff.2 hf
      rw [hf']
      have HF := hide hf'
      clear hf hf' he
      go_wp2_with fail
      go_ret
      exact ⟨ret_int (chk_form (unhide HE) (unhide HF)), unhide HB⟩

theorem checkState_any (e : Int) (r : ByteArray) (t : M.St) (w : World) (hm : r.size ≤ maxLen) :
    Calls Tryz.prog 53 #[sv e r t] w fun e' w' => e' = .returned (.int .i64 (chk e r t)) ∧ Below w.heap.size w w' := by
  obtain ⟨g, fr, st⟩ := t
  by_cases he : 1 ≤ e ∧ e ≤ 7
  · exact checkState_valid e r g fr st w hm he
  · have e6 : chk e r (g, fr, st) = 6 := by unfold chk; rw [if_pos he]
    rw [e6]
    exact checkState_kind e r g fr st w he
end Go.Proofs.YtaiinjfnkmidbaaGreatDoor

namespace Go.Proofs.YtaiinjfnkmidbaaGreatDoor
open Go.RowKit
set_option linter.unusedVariables false
set_option maxHeartbeats 1600000 in
set_option maxRecDepth 100000 in
theorem cf_L (L : ByteArray) (enc why : Int) (W : ByteArray) (e : Int) (r : ByteArray) (g : Int) (fr st : Bool) (w : World) (hL : L.size ≤ maxLen) (hW : W.size ≤ maxLen) (hr : r.size ≤ maxLen) (h : 3000 < L.size) :
    Calls Tryz.prog 16 #[.agg #[.string L, .int .i64 enc, .int .i64 why, .string W, .int .i64 e, .string r, .int .i64 g, .bool fr, .bool st]] w fun e' w' => e' = .returned (.int .i64 (chkF L enc why W e r (g, fr, st))) ∧ Below w.heap.size w w' := by
  have HR : Hid (chkF L enc why W e r (g, fr, st) = 2) := hide (by
    unfold chkF Fr.chk
    simp only
    rw [if_pos (.inl h)])
  unfold maxLen at hL hW hr
  go_enter Tryz.func16, Tryz.ntmps16
  go_wp2_with fail
  go_ret
  exact ⟨ret_int (unhide HR).symm, (Below.refl _ _).alloc (Nat.le_refl _) _⟩
set_option maxHeartbeats 1600000 in
set_option maxRecDepth 100000 in
theorem cf_W (L : ByteArray) (enc why : Int) (W : ByteArray) (e : Int) (r : ByteArray) (g : Int) (fr st : Bool) (w : World) (hL : L.size ≤ maxLen) (hW : W.size ≤ maxLen) (hr : r.size ≤ maxLen) (h0 : L.size ≤ 3000) (h : 3000 < W.size) :
    Calls Tryz.prog 16 #[.agg #[.string L, .int .i64 enc, .int .i64 why, .string W, .int .i64 e, .string r, .int .i64 g, .bool fr, .bool st]] w fun e' w' => e' = .returned (.int .i64 (chkF L enc why W e r (g, fr, st))) ∧ Below w.heap.size w w' := by
  have HR : Hid (chkF L enc why W e r (g, fr, st) = 2) := hide (by
    unfold chkF Fr.chk
    simp only
    rw [if_pos (.inr h)])
  unfold maxLen at hL hW hr
  go_enter Tryz.func16, Tryz.ntmps16
  go_wp2_with fail
  go_ret
  exact ⟨ret_int (unhide HR).symm, (Below.refl _ _).alloc (Nat.le_refl _) _⟩
set_option maxHeartbeats 1600000 in
set_option maxRecDepth 100000 in
theorem cf_enc (L : ByteArray) (enc why : Int) (W : ByteArray) (e : Int) (r : ByteArray) (g : Int) (fr st : Bool) (w : World) (hL : L.size ≤ maxLen) (hW : W.size ≤ maxLen) (hr : r.size ≤ maxLen) (h0 : L.size ≤ 3000) (h1 : W.size ≤ 3000) (h : ¬ (0 ≤ enc ∧ enc ≤ 7)) :
    Calls Tryz.prog 16 #[.agg #[.string L, .int .i64 enc, .int .i64 why, .string W, .int .i64 e, .string r, .int .i64 g, .bool fr, .bool st]] w fun e' w' => e' = .returned (.int .i64 (chkF L enc why W e r (g, fr, st))) ∧ Below w.heap.size w w' := by
  have HR : Hid (chkF L enc why W e r (g, fr, st) = 6) := hide (by
    unfold chkF Fr.chk
    simp only
    rw [if_neg (by omega), if_pos h])
  unfold maxLen at hL hW hr
  have HBe := hide (fun w => between_any enc 0 7 w)
  rw [show (decide ((0 : Int) ≤ enc) && decide (enc ≤ 7)) = false from by simp; omega] at HBe
  clear h
  go_enter Tryz.func16, Tryz.ntmps16
  go_wp2_with fail
  refine (unhide HBe _).mono ?_
  rintro e' w1 ⟨rfl, hw⟩
  replace hw := hw.symm
  subst hw
  go_wp2_with fail
  go_ret
  exact ⟨ret_int (unhide HR).symm, (Below.refl _ _).alloc (Nat.le_refl _) _⟩
set_option maxHeartbeats 1600000 in
set_option maxRecDepth 100000 in
theorem cf_why (L : ByteArray) (enc why : Int) (W : ByteArray) (e : Int) (r : ByteArray) (g : Int) (fr st : Bool) (w : World) (hL : L.size ≤ maxLen) (hW : W.size ≤ maxLen) (hr : r.size ≤ maxLen) (h0 : L.size ≤ 3000) (h1 : W.size ≤ 3000) (h2 : 0 ≤ enc ∧ enc ≤ 7) (h : ¬ (0 ≤ why ∧ why ≤ 4)) :
    Calls Tryz.prog 16 #[.agg #[.string L, .int .i64 enc, .int .i64 why, .string W, .int .i64 e, .string r, .int .i64 g, .bool fr, .bool st]] w fun e' w' => e' = .returned (.int .i64 (chkF L enc why W e r (g, fr, st))) ∧ Below w.heap.size w w' := by
  have HR : Hid (chkF L enc why W e r (g, fr, st) = 4) := hide (by
    unfold chkF Fr.chk
    simp only
    rw [if_neg (by omega), if_neg (fun q => q h2), if_pos (.inl h)])
  unfold maxLen at hL hW hr
  have HBe := hide (fun w => between_any enc 0 7 w)
  rw [decide_eq_true (show (0 : Int) ≤ enc from by omega), decide_eq_true (show enc ≤ 7 from by omega)] at HBe
  have HBw := hide (fun w => between_any why 0 4 w)
  rw [show (decide ((0 : Int) ≤ why) && decide (why ≤ 4)) = false from by simp; omega] at HBw
  clear h h2
  go_enter Tryz.func16, Tryz.ntmps16
  go_wp2_with fail
  refine (unhide HBe _).mono ?_
  rintro e' w1 ⟨rfl, hw⟩
  replace hw := hw.symm
  subst hw
  go_wp2_with fail
  refine (unhide HBw _).mono ?_
  rintro e' w1 ⟨rfl, hw⟩
  replace hw := hw.symm
  subst hw
  go_wp2_with fail
  go_ret
  exact ⟨ret_int (unhide HR).symm, (Below.refl _ _).alloc (Nat.le_refl _) _⟩
set_option maxHeartbeats 1600000 in
set_option maxRecDepth 100000 in
theorem cf_w0 (L : ByteArray) (enc why : Int) (W : ByteArray) (e : Int) (r : ByteArray) (g : Int) (fr st : Bool) (w : World) (hL : L.size ≤ maxLen) (hW : W.size ≤ maxLen) (hr : r.size ≤ maxLen) (h0 : L.size ≤ 3000) (h1 : W.size ≤ 3000) (h2 : 0 ≤ enc ∧ enc ≤ 7) (h3 : why = 0) (h : enc ≠ 0) :
    Calls Tryz.prog 16 #[.agg #[.string L, .int .i64 enc, .int .i64 why, .string W, .int .i64 e, .string r, .int .i64 g, .bool fr, .bool st]] w fun e' w' => e' = .returned (.int .i64 (chkF L enc why W e r (g, fr, st))) ∧ Below w.heap.size w w' := by
  have HR : Hid (chkF L enc why W e r (g, fr, st) = 4) := hide (by
    unfold chkF Fr.chk
    simp only
    rw [if_neg (by omega), if_neg (fun q => q h2), if_pos (.inr (.inl ⟨h3, h⟩))])
  unfold maxLen at hL hW hr
  have HBe := hide (fun w => between_any enc 0 7 w)
  rw [decide_eq_true (show (0 : Int) ≤ enc from by omega), decide_eq_true (show enc ≤ 7 from by omega)] at HBe
  subst h3
  have HBw := hide (fun w => between_any 0 0 4 w)
  rw [show (decide ((0 : Int) ≤ 0) && decide ((0 : Int) ≤ 4)) = true from rfl] at HBw
  have hne : (enc != 0) = true := bne_iff_ne.2 h
  clear h h2
  go_enter Tryz.func16, Tryz.ntmps16
  go_wp2_with fail
  refine (unhide HBe _).mono ?_
  rintro e' w1 ⟨rfl, hw⟩
  replace hw := hw.symm
  subst hw
  go_wp2_with fail
  refine (unhide HBw _).mono ?_
  rintro e' w1 ⟨rfl, hw⟩
  replace hw := hw.symm
  subst hw
  go_wp2_with fail
  go_ret
  exact ⟨ret_int (unhide HR).symm, (Below.refl _ _).alloc (Nat.le_refl _) _⟩
set_option maxHeartbeats 1600000 in
set_option maxRecDepth 100000 in
theorem cf_w1 (L : ByteArray) (enc why : Int) (W : ByteArray) (e : Int) (r : ByteArray) (g : Int) (fr st : Bool) (w : World) (hL : L.size ≤ maxLen) (hW : W.size ≤ maxLen) (hr : r.size ≤ maxLen) (h0 : L.size ≤ 3000) (h1 : W.size ≤ 3000) (h2 : 0 ≤ enc ∧ enc ≤ 7) (hy : 0 ≤ why ∧ why ≤ 4) (h3 : why ≠ 0) (h : enc = 0) :
    Calls Tryz.prog 16 #[.agg #[.string L, .int .i64 enc, .int .i64 why, .string W, .int .i64 e, .string r, .int .i64 g, .bool fr, .bool st]] w fun e' w' => e' = .returned (.int .i64 (chkF L enc why W e r (g, fr, st))) ∧ Below w.heap.size w w' := by
  have HR : Hid (chkF L enc why W e r (g, fr, st) = 4) := hide (by
    unfold chkF Fr.chk
    simp only
    rw [if_neg (by omega), if_neg (fun q => q h2), if_pos (.inr (.inr ⟨h3, h⟩))])
  unfold maxLen at hL hW hr
  have HBe := hide (fun w => between_any enc 0 7 w)
  rw [decide_eq_true (show (0 : Int) ≤ enc from by omega), decide_eq_true (show enc ≤ 7 from by omega)] at HBe
  have HBw := hide (fun w => between_any why 0 4 w)
  rw [decide_eq_true (show (0 : Int) ≤ why from by omega), decide_eq_true (show why ≤ 4 from by omega)] at HBw
  have hne : (why != 0) = true := bne_iff_ne.2 h3
  have hne0 : (why == 0) = false := beq_eq_false_iff_ne.2 h3
  subst h
  clear h2 hy h3
  go_enter Tryz.func16, Tryz.ntmps16
  go_wp2_with fail
  refine (unhide HBe _).mono ?_
  rintro e' w1 ⟨rfl, hw⟩
  replace hw := hw.symm
  subst hw
  go_wp2_with fail
  refine (unhide HBw _).mono ?_
  rintro e' w1 ⟨rfl, hw⟩
  replace hw := hw.symm
  subst hw
  go_wp2_with fail
  go_ret
  exact ⟨ret_int (unhide HR).symm, (Below.refl _ _).alloc (Nat.le_refl _) _⟩
set_option maxHeartbeats 1600000 in
set_option maxRecDepth 100000 in
theorem cf_s1 (L : ByteArray) (enc why : Int) (W : ByteArray) (e : Int) (r : ByteArray) (g : Int) (fr st : Bool) (w : World) (hL : L.size ≤ maxLen) (hW : W.size ≤ maxLen) (hr : r.size ≤ maxLen) (h0 : L.size ≤ 3000) (h1 : W.size ≤ 3000) (h3 : why = 0) (h4 : enc = 0) (h : ¬ (e = 0 ∧ r.size = 0 ∧ (g, fr, st) = M.st0)) :
    Calls Tryz.prog 16 #[.agg #[.string L, .int .i64 enc, .int .i64 why, .string W, .int .i64 e, .string r, .int .i64 g, .bool fr, .bool st]] w fun e' w' => e' = .returned (.int .i64 (chkF L enc why W e r (g, fr, st))) ∧ Below w.heap.size w w' := by
  have HR : Hid (chkF L enc why W e r (g, fr, st) = 1) := hide (by
    unfold chkF Fr.chk
    simp only
    rw [if_neg (by omega), if_neg (by omega), if_neg (by omega), if_pos (.inl ⟨h3, h⟩)])
  unfold maxLen at hL hW hr
  subst h3
  subst h4
  have HBe := hide (fun w => between_any 0 0 7 w)
  rw [show (decide ((0 : Int) ≤ 0) && decide ((0 : Int) ≤ 7)) = true from rfl] at HBe
  have HBw := hide (fun w => between_any 0 0 4 w)
  rw [show (decide ((0 : Int) ≤ 0) && decide ((0 : Int) ≤ 4)) = true from rfl] at HBw
  have hre := empty_eq r
  have HH := hide h
  clear h
  go_enter Tryz.func16, Tryz.ntmps16
  go_wp2_with fail
  refine (unhide HBe _).mono ?_
  rintro e' w1 ⟨rfl, hw⟩
  replace hw := hw.symm
  subst hw
  go_wp2_with fail
  refine (unhide HBw _).mono ?_
  rintro e' w1 ⟨rfl, hw⟩
  replace hw := hw.symm
  subst hw
  go_wp2_with fail
  all_goals first
    | (go_ret; exact ⟨ret_int (unhide HR).symm, balloc _ _⟩)
    | (exfalso
       apply unhide HH
       have hr' : r = ByteArray.empty := by assumption
       have he' : e = 0 := by assumption
       have hg' : g = 0 := by assumption
       have hf' : ¬ fr = true := by assumption
       have hs' : ¬ st = true := by assumption
       refine ⟨he', by rw [hr']; rfl, ?_⟩
       rw [hg', show fr = false from by simpa using hf', show st = false from by simpa using hs']
       rfl)
set_option maxHeartbeats 1600000 in
set_option maxRecDepth 100000 in
theorem cf_s2 (L W : ByteArray) (w : World) (h0 : L.size ≤ 3000) (h1 : W.size ≤ 3000) :
    Calls Tryz.prog 16 #[.agg #[.string L, .int .i64 0, .int .i64 0, .string W, .int .i64 0, .string ⟨#[]⟩, .int .i64 0, .bool false, .bool false]] w fun e' w' => e' = .returned (.int .i64 (chkF L 0 0 W 0 ⟨#[]⟩ M.st0)) ∧ Below w.heap.size w w' := by
  have z : (⟨#[]⟩ : ByteArray).size = 0 := rfl
  have HR : Hid (chkF L 0 0 W 0 ⟨#[]⟩ M.st0 = if enF L (bl W) = true then 4 else 0) := hide (by
    unfold chkF Fr.chk
    simp only
    rw [if_neg (by omega), if_neg (by omega), if_neg (by omega), if_neg (by rw [z]; rintro (h | h); exact h.2 ⟨by trivial, by trivial, by trivial⟩; exact h.1 (by trivial))]
    rfl)
  have HBe := hide (fun w => between_any 0 0 7 w)
  rw [show (decide ((0 : Int) ≤ 0) && decide ((0 : Int) ≤ 7)) = true from rfl] at HBe
  have HBw := hide (fun w => between_any 0 0 4 w)
  rw [show (decide ((0 : Int) ≤ 0) && decide ((0 : Int) ≤ 4)) = true from rfl] at HBw
  have HEn := hide (fun w => isEnough_any L W w h0 (by unfold maxLen; omega))
  clear z
  generalize enF L (bl W) = q at *
  go_enter Tryz.func16, Tryz.ntmps16
  go_wp2_with fail
  refine (unhide HBe _).mono ?_
  rintro e' w1 ⟨rfl, hw⟩
  replace hw := hw.symm
  subst hw
  go_wp2_with fail
  refine (unhide HBw _).mono ?_
  rintro e' w1 ⟨rfl, hw⟩
  replace hw := hw.symm
  subst hw
  go_wp2_with fail
  refine (unhide HEn _).mono ?_
  rintro e' w2 ⟨rfl, hb2⟩
  have HB2 := hide (bstep (balloc _ _) hb2)
  clear hb2
  cases q
  · go_wp2_with fail
    go_ret
    exact ⟨ret_int (by rw [unhide HR]; rfl), unhide HB2⟩
  · go_wp2_with fail
    go_ret
    exact ⟨ret_int (by rw [unhide HR]; rfl), unhide HB2⟩
set_option maxHeartbeats 1600000 in
set_option maxRecDepth 100000 in
theorem cf_n1 (L : ByteArray) (enc why : Int) (W : ByteArray) (e : Int) (r : ByteArray) (g : Int) (fr st : Bool) (w : World) (hL : L.size ≤ maxLen) (hW : W.size ≤ maxLen) (hr : r.size ≤ maxLen) (h0 : L.size ≤ 3000) (h1 : W.size ≤ 3000) (h2 : 0 ≤ enc ∧ enc ≤ 7) (hy : 0 ≤ why ∧ why ≤ 4) (h3 : why ≠ 0) (h4 : enc ≠ 0) (h : W.size ≠ 0) :
    Calls Tryz.prog 16 #[.agg #[.string L, .int .i64 enc, .int .i64 why, .string W, .int .i64 e, .string r, .int .i64 g, .bool fr, .bool st]] w fun e' w' => e' = .returned (.int .i64 (chkF L enc why W e r (g, fr, st))) ∧ Below w.heap.size w w' := by
  have HR : Hid (chkF L enc why W e r (g, fr, st) = 1) := hide (by
    unfold chkF Fr.chk
    simp only
    rw [if_neg (by omega), if_neg (by omega), if_neg (by omega), if_pos (.inr ⟨h3, .inl h⟩)])
  unfold maxLen at hL hW hr
  have HBe := hide (fun w => between_any enc 0 7 w)
  rw [decide_eq_true (show (0 : Int) ≤ enc from by omega), decide_eq_true (show enc ≤ 7 from by omega)] at HBe
  have HBw := hide (fun w => between_any why 0 4 w)
  rw [decide_eq_true (show (0 : Int) ≤ why from by omega), decide_eq_true (show why ≤ 4 from by omega)] at HBw
  have hne : (why != 0) = true := bne_iff_ne.2 h3
  have hne0 : (why == 0) = false := beq_eq_false_iff_ne.2 h3
  have hee : (enc == 0) = false := beq_eq_false_iff_ne.2 h4
  have hwe := empty_eq W
  rw [decide_eq_false h] at hwe
  clear h2 hy h3 h4 h
  go_enter Tryz.func16, Tryz.ntmps16
  go_wp2_with fail
  refine (unhide HBe _).mono ?_
  rintro e' w1 ⟨rfl, hw⟩
  replace hw := hw.symm
  subst hw
  go_wp2_with fail
  refine (unhide HBw _).mono ?_
  rintro e' w1 ⟨rfl, hw⟩
  replace hw := hw.symm
  subst hw
  go_wp2_with fail
  go_ret
  exact ⟨ret_int (unhide HR).symm, (Below.refl _ _).alloc (Nat.le_refl _) _⟩
set_option maxHeartbeats 1600000 in
set_option maxRecDepth 100000 in
theorem cf_n2 (L : ByteArray) (enc why : Int) (W : ByteArray) (e : Int) (r : ByteArray) (g : Int) (fr st : Bool) (w : World) (hL : L.size ≤ maxLen) (hW : W.size ≤ maxLen) (hr : r.size ≤ maxLen) (h0 : L.size ≤ 3000) (h1 : W.size ≤ 3000) (h2 : 0 ≤ enc ∧ enc ≤ 7) (hy : 0 ≤ why ∧ why ≤ 4) (h3 : why ≠ 0) (h4 : enc ≠ 0) (h5 : W.size = 0) (h : e ≠ enc) :
    Calls Tryz.prog 16 #[.agg #[.string L, .int .i64 enc, .int .i64 why, .string W, .int .i64 e, .string r, .int .i64 g, .bool fr, .bool st]] w fun e' w' => e' = .returned (.int .i64 (chkF L enc why W e r (g, fr, st))) ∧ Below w.heap.size w w' := by
  have HR : Hid (chkF L enc why W e r (g, fr, st) = 1) := hide (by
    unfold chkF Fr.chk
    simp only
    rw [if_neg (by omega), if_neg (by omega), if_neg (by omega), if_pos (.inr ⟨h3, .inr h⟩)])
  unfold maxLen at hL hW hr
  have HBe := hide (fun w => between_any enc 0 7 w)
  rw [decide_eq_true (show (0 : Int) ≤ enc from by omega), decide_eq_true (show enc ≤ 7 from by omega)] at HBe
  have HBw := hide (fun w => between_any why 0 4 w)
  rw [decide_eq_true (show (0 : Int) ≤ why from by omega), decide_eq_true (show why ≤ 4 from by omega)] at HBw
  have hne : (why != 0) = true := bne_iff_ne.2 h3
  have hne0 : (why == 0) = false := beq_eq_false_iff_ne.2 h3
  have hee : (enc == 0) = false := beq_eq_false_iff_ne.2 h4
  have hwe := empty_eq W
  rw [decide_eq_true h5] at hwe
  have hen : (e != enc) = true := bne_iff_ne.2 h
  clear h2 hy h3 h4 h
  go_enter Tryz.func16, Tryz.ntmps16
  go_wp2_with fail
  refine (unhide HBe _).mono ?_
  rintro e' w1 ⟨rfl, hw⟩
  replace hw := hw.symm
  subst hw
  go_wp2_with fail
  refine (unhide HBw _).mono ?_
  rintro e' w1 ⟨rfl, hw⟩
  replace hw := hw.symm
  subst hw
  go_wp2_with fail
  go_ret
  exact ⟨ret_int (unhide HR).symm, (Below.refl _ _).alloc (Nat.le_refl _) _⟩
set_option maxHeartbeats 1600000 in
set_option maxRecDepth 100000 in
theorem cf_n3 (L : ByteArray) (enc why : Int) (W : ByteArray) (e : Int) (r : ByteArray) (g : Int) (fr st : Bool) (w : World) (hL : L.size ≤ maxLen) (hW : W.size ≤ maxLen) (hr : r.size ≤ maxLen) (h0 : L.size ≤ 3000) (h1 : W.size ≤ 3000) (h2 : 0 ≤ enc ∧ enc ≤ 7) (hy : 0 ≤ why ∧ why ≤ 4) (h3 : why ≠ 0) (h4 : enc ≠ 0) (h5 : W.size = 0) (h : e = enc) :
    Calls Tryz.prog 16 #[.agg #[.string L, .int .i64 enc, .int .i64 why, .string W, .int .i64 e, .string r, .int .i64 g, .bool fr, .bool st]] w fun e' w' => e' = .returned (.int .i64 (chkF L enc why W e r (g, fr, st))) ∧ Below w.heap.size w w' := by
  have HR : Hid (chkF L enc why W e r (g, fr, st) = chk e r (g, fr, st)) := hide (by
    unfold chkF Fr.chk
    simp only
    rw [if_neg (by omega), if_neg (by omega), if_neg (by omega), if_neg (by rintro (q | q); exact h3 q.1; exact q.2.elim (fun z => z h5) (fun z => z h)), if_neg h3])
  have HC := hide (fun w => checkState_any e r (g, fr, st) w hr)
  unfold sv at HC
  simp only at HC
  rw [← unhide HR] at HC
  generalize chkF L enc why W e r (g, fr, st) = K at *
  unfold maxLen at hL hW hr
  have HBe := hide (fun w => between_any enc 0 7 w)
  rw [decide_eq_true (show (0 : Int) ≤ enc from by omega), decide_eq_true (show enc ≤ 7 from by omega)] at HBe
  have HBw := hide (fun w => between_any why 0 4 w)
  rw [decide_eq_true (show (0 : Int) ≤ why from by omega), decide_eq_true (show why ≤ 4 from by omega)] at HBw
  have hne : (why != 0) = true := bne_iff_ne.2 h3
  have hne0 : (why == 0) = false := beq_eq_false_iff_ne.2 h3
  have hee : (enc == 0) = false := beq_eq_false_iff_ne.2 h4
  have hwe := empty_eq W
  rw [decide_eq_true h5] at hwe
  have hen : (e != enc) = false := by rw [h]; simp
  clear h2 hy h3 h4 h
  go_enter Tryz.func16, Tryz.ntmps16
  go_wp2_with fail
  refine (unhide HBe _).mono ?_
  rintro e' w1 ⟨rfl, hw⟩
  replace hw := hw.symm
  subst hw
  go_wp2_with fail
  refine (unhide HBw _).mono ?_
  rintro e' w1 ⟨rfl, hw⟩
  replace hw := hw.symm
  subst hw
  go_wp2_with fail
  refine (unhide HC _).mono ?_
  rintro e' w2 ⟨rfl, hb2⟩
  have HB2 := hide (bstep (balloc _ _) hb2)
  clear hb2
  go_wp2_with fail
  go_ret
  exact ⟨rfl, unhide HB2⟩
theorem checkFront_any (f : Fr) (w : World) (hL : f.L.size ≤ maxLen) (hW : f.W.size ≤ maxLen) (hr : f.r.size ≤ maxLen) :
    Calls Tryz.prog 16 #[f.v] w fun e' w' => e' = .returned (.int .i64 f.chk) ∧ Below w.heap.size w w' := by
  obtain ⟨L, enc, why, W, e, r, g, fr, st⟩ := f
  show Calls Tryz.prog 16 #[.agg #[.string L, .int .i64 enc, .int .i64 why, .string W, .int .i64 e, .string r, .int .i64 g, .bool fr, .bool st]] w fun e' w' => e' = .returned (.int .i64 (chkF L enc why W e r (g, fr, st))) ∧ Below w.heap.size w w'
  simp only at hL hW hr
  by_cases h0 : 3000 < L.size
  · exact cf_L L enc why W e r g fr st w hL hW hr h0
  by_cases h1 : 3000 < W.size
  · exact cf_W L enc why W e r g fr st w hL hW hr (by omega) h1
  by_cases h2 : 0 ≤ enc ∧ enc ≤ 7
  case neg => exact cf_enc L enc why W e r g fr st w hL hW hr (by omega) (by omega) h2
  by_cases hy : 0 ≤ why ∧ why ≤ 4
  case neg => exact cf_why L enc why W e r g fr st w hL hW hr (by omega) (by omega) h2 hy
  by_cases h3 : why = 0
  · by_cases h4 : enc = 0
    case neg => exact cf_w0 L enc why W e r g fr st w hL hW hr (by omega) (by omega) h2 h3 h4
    by_cases h5 : e = 0 ∧ r.size = 0 ∧ (g, fr, st) = M.st0
    case neg => exact cf_s1 L enc why W e r g fr st w hL hW hr (by omega) (by omega) h3 h4 h5
    obtain ⟨rfl, hr0, ht⟩ := h5
    have := size0 hr0
    subst this h3 h4
    obtain ⟨rfl, rfl, rfl⟩ : g = 0 ∧ fr = false ∧ st = false := by simpa [M.st0] using ht
    exact cf_s2 L W w (by omega) (by omega)
  · by_cases h4 : enc = 0
    · exact cf_w1 L enc why W e r g fr st w hL hW hr (by omega) (by omega) h2 hy h3 h4
    by_cases h5 : W.size = 0
    case neg => exact cf_n1 L enc why W e r g fr st w hL hW hr (by omega) (by omega) h2 hy h3 h4 h5
    by_cases h6 : e = enc
    case neg => exact cf_n2 L enc why W e r g fr st w hL hW hr (by omega) (by omega) h2 hy h3 h4 h5 h6
    exact cf_n3 L enc why W e r g fr st w hL hW hr (by omega) (by omega) h2 hy h3 h4 h5 h6
end Go.Proofs.YtaiinjfnkmidbaaGreatDoor

namespace Go.Proofs.YtaiinjfnkmidbaaGreatDoor
open Go.RowKit
set_option linter.unusedVariables false

set_option maxHeartbeats 3200000 in
set_option maxRecDepth 100000 in
theorem fo_wait (L W p : ByteArray) (w : World) (hL : L.size ≤ 3000) (hs : W.size + p.size ≤ 3300) (hE : enF L (bl W ++ bl p) = false) :
    Calls Tryz.prog 18 #[.agg #[.string L, .int .i64 0, .int .i64 0, .string W, .int .i64 0, .string ⟨#[]⟩, .int .i64 0, .bool false, .bool false], .string p, .bool false] w fun e w' => e = .returned (.tuple #[.slice none 0 0, .agg #[.string L, .int .i64 0, .int .i64 0, .string (W ++ p), .int .i64 0, .string ⟨#[]⟩, .int .i64 0, .bool false, .bool false]]) ∧ Below w.heap.size w w' := by
  obtain ⟨s, hcat⟩ : ∃ s, W ++ p = s := ⟨_, rfl⟩
  have hsz : s.size ≤ 3300 := by rw [← hcat, ByteArray.size_append]; exact hs
  have HEn := hide (fun w => isEnough_any L s w hL (by unfold maxLen; omega))
  rw [← hcat, bl_app, hE, hcat] at HEn
  rw [hcat]
  have hcat2 : W.append p = s := hcat
  clear hE
  go_enter Tryz.func18, Tryz.ntmps18
  go_wp2_with fail
  refine (unhide HEn _).mono ?_
  rintro e' w1 ⟨rfl, hb⟩
  have HB : Hid (Below w.heap.size w w1) := hide (bstep (bstep (balloc _ _) (balloc _ _)) hb)
  have H0 : Hid (Fb w.heap.size ⟨L, 0, 0, W, 0, ⟨#[]⟩, M.st0⟩ w1) := hide (((Fb.new w ⟨L, 0, 0, W, 0, ⟨#[]⟩, M.st0⟩).alloc _).on hb)
  have H1 : Hid (Fb (w.heap.size + 1) (Fr.new ⟨#[]⟩) w1) := hide ((Fb.new2 w _).on hb)
  clear hb HEn hcat hcat2
  obtain ⟨a0, a1, a2, a3, a4, a5, a6, a7, a8, x0, x1, x2, x3, x4, x5, x6, x7, x8⟩ := unhide H0
  have hl0 := (unhide H0).lt
  go_wp2_with fail
  have hX0 := (unhide H0).set3 s
  have hX1 := (unhide H1).far ⟨w.heap.size, 3, none⟩ (.string s) (by simp)
  have HY := hide ((unhide HB).setCell (p := ⟨w.heap.size, 3, none⟩) (Nat.le_refl _) (.string s))
  clear a0 a1 a2 a3 a4 a5 a6 a7 a8 x0 x1 x2 x3 x4 x5 x6 x7 x8 hl0 H0 H1 HB
  generalize w1.setCell ⟨w.heap.size, 3, none⟩ (.string s) = X at *
  have hlx := hX0.lt
  have hly := hX1.lt
  obtain ⟨a0, a1, a2, a3, a4, a5, a6, a7, a8, -, -, -, -, -, -, -, -, -⟩ := hX0
  obtain ⟨b0, b1, b2, b3, b4, b5, b6, b7, b8, y0, y1, y2, y3, y4, y5, y6, y7, y8⟩ := hX1
  dsimp only [Fr.new, M.st0] at a0 a1 a2 a3 a4 a5 a6 a7 a8 b0 b1 b2 b3 b4 b5 b6 b7 b8
  go_region
  all_goals
    go_wp2_with fail
    refine bodyPost_ret (v := .tuple #[.slice none 0 0, .agg #[.string L, .int .i64 0, .int .i64 0, .string s, .int .i64 0, .string ⟨#[]⟩, .int .i64 0, .bool false, .bool false]]) (by simp [results, Tryz.results18, go_sem, b0, b1, b2, b3, b4, b5, b6, b7, b8]) rfl ⟨rfl, ?_⟩
    exact b_drew (bput9 (B := w.heap.size + 1) (unhide HY) (by omega) ⟨L, 0, 0, s, 0, ⟨#[]⟩, M.st0⟩)
-- by program
/-- What FrontOf answers. -/
def FoR (f : Fr) (p : ByteArray) (last : Bool) (w : World) (e' : Ending) (w' : World) : Prop :=
  ∃ v, e' = .returned (.tuple #[v, (f.nxt p last).v]) ∧ w'.ownsRow w.heap.size 3 1 v (f.outs p last).length ((f.outs p last).map (Value.int .i64)) ∧ Below w.heap.size w w'
set_option maxHeartbeats 3200000 in
set_option maxRecDepth 100000 in
theorem fo_on_false (L : ByteArray) (enc why e : Int) (r : ByteArray) (g : Int) (fr st : Bool) (p : ByteArray) (w : World) (hy : why ≠ 0) (he : 1 ≤ e ∧ e ≤ 7) (hk : M.Ok e (g, fr, st)) (hs : r.size + p.size ≤ 3300) :
    Calls Tryz.prog 18 #[.agg #[.string L, .int .i64 enc, .int .i64 why, .string ⟨#[]⟩, .int .i64 e, .string r, .int .i64 g, .bool fr, .bool st], .string p, .bool false] w fun e' w' => FoR ⟨L, enc, why, ⟨#[]⟩, e, r, (g, fr, st)⟩ p false w e' w' := by
  have hne : (why == 0) = false := beq_eq_false_iff_ne.2 hy
  have HYy := hide hy
  have HF := hide (fun w => feedOf_any e r (g, fr, st) p false w he hk hs)
  have HX0 : Hid (Fb w.heap.size ⟨L, enc, why, ⟨#[]⟩, e, r, (g, fr, st)⟩ ((w.alloc (.cells #[.string L, .int .i64 enc, .int .i64 why, .string ⟨#[]⟩, .int .i64 e, .string r, .int .i64 g, .bool fr, .bool st] 25)).alloc (.cells #[.string ⟨#[]⟩, .int .i64 0, .int .i64 0, .string ⟨#[]⟩, .int .i64 0, .string ⟨#[]⟩, .int .i64 0, .bool false, .bool false] 25))) := hide ((Fb.new w ⟨L, enc, why, ⟨#[]⟩, e, r, (g, fr, st)⟩).alloc _)
  have HX1 := hide (Fb.new2 w (.cells #[.string L, .int .i64 enc, .int .i64 why, .string ⟨#[]⟩, .int .i64 e, .string r, .int .i64 g, .bool fr, .bool st] 25))
  have HY := hide (bstep (balloc w (.cells #[.string L, .int .i64 enc, .int .i64 why, .string ⟨#[]⟩, .int .i64 e, .string r, .int .i64 g, .bool fr, .bool st] 25)) (balloc _ (.cells #[.string ⟨#[]⟩, .int .i64 0, .int .i64 0, .string ⟨#[]⟩, .int .i64 0, .string ⟨#[]⟩, .int .i64 0, .bool false, .bool false] 25)))
  unfold sv at HF
  dsimp only at HF
  clear hy
  go_enter Tryz.func18, Tryz.ntmps18
  go_wp2_with fail
  refine (unhide HF _).mono ?_
  rintro e' X1 ⟨v, r', t', Lo, rfl, hI, hb, k1, k2⟩
  obtain ⟨av, cv, hsv⟩ := owns_shape hI
  subst hsv
  have HP0 := hide ((unhide HX0).on hb)
  have HP1 := hide ((unhide HX1).on hb)
  have HPY := hide (bstep (unhide HY) hb)
  have hzx := (unhide HX1).lt
  have hzp := (unhide HP1).lt
  have HI := hide (owns_mono hI (show w.heap.size + 2 ≤ _ from by omega))
  have HK1 := hide k1
  have HK2 := hide k2
  obtain ⟨a0, a1, a2, a3, a4, a5, a6, a7, a8, x0, x1, x2, x3, x4, x5, x6, x7, x8⟩ := unhide HP0
  have hl0 := (unhide HP0).lt
  clear hI hb k1 k2 HF HX0 HX1 HY hzx
  unfold sv
  go_wp2_with fail
  have hX0 := ((unhide HP0).put5 e r' t').alloc (.cells #[.int .i64 e, .string r', .int .i64 t'.1, .bool t'.2.1, .bool t'.2.2] 23)
  have hX1 := ((unhide HP1).far5 (B := w.heap.size) (by omega) e r' t').alloc (.cells #[.int .i64 e, .string r', .int .i64 t'.1, .bool t'.2.1, .bool t'.2.2] 23)
  have HYY := hide ((bput5 (B := w.heap.size) (unhide HPY) (Nat.le_refl _) e r' t').alloc (by simp [World.setCell]; omega) (.cells #[.int .i64 e, .string r', .int .i64 t'.1, .bool t'.2.1, .bool t'.2.2] 23))
  have HOO := hide (owns_a (oput5 (B := w.heap.size) (unhide HI) (by omega) e r' t') (.cells #[.int .i64 e, .string r', .int .i64 t'.1, .bool t'.2.1, .bool t'.2.2] 23))
  clear a0 a1 a2 a3 a4 a5 a6 a7 a8 x0 x1 x2 x3 x4 x5 x6 x7 x8 hl0 HP0 HP1 HPY HI
  generalize ((((((X1.setCell ⟨w.heap.size, 4, none⟩ (.int .i64 e)).setCell ⟨w.heap.size, 5, none⟩ (.string r')).setCell ⟨w.heap.size, 6, none⟩ (.int .i64 t'.1)).setCell ⟨w.heap.size, 7, none⟩ (.bool t'.2.1)).setCell ⟨w.heap.size, 8, none⟩ (.bool t'.2.2)).alloc (.cells #[.int .i64 e, .string r', .int .i64 t'.1, .bool t'.2.1, .bool t'.2.2] 23)) = Z at *
  have hlx := hX0.lt
  have hly := hX1.lt
  obtain ⟨a0, a1, a2, a3, a4, a5, a6, a7, a8, -, -, -, -, -, -, -, -, -⟩ := hX0
  obtain ⟨b0, b1, b2, b3, b4, b5, b6, b7, b8, y0, y1, y2, y3, y4, y5, y6, y7, y8⟩ := hX1
  dsimp only [Fr.new, M.st0] at a0 a1 a2 a3 a4 a5 a6 a7 a8 b0 b1 b2 b3 b4 b5 b6 b7 b8
  go_region
  all_goals
    go_wp2_with fail
    refine bodyPost_ret (v := .tuple #[.slice av Lo.length cv, .agg #[.string L, .int .i64 enc, .int .i64 why, .string ⟨#[]⟩, .int .i64 e, .string r', .int .i64 t'.1, .bool t'.2.1, .bool t'.2.2]]) (by simp [results, Tryz.results18, go_sem, b0, b1, b2, b3, b4, b5, b6, b7, b8]) rfl ?_
    have HZ9 := bput9 (B := w.heap.size + 1) (unhide HYY) (by omega) ⟨L, enc, why, ⟨#[]⟩, e, r', t'⟩
    have HO9 := owns_mono (o_drew (oput9 (B := w.heap.size + 1) (unhide HOO) (by omega) ⟨L, enc, why, ⟨#[]⟩, e, r', t'⟩)) (show w.heap.size ≤ w.heap.size + 2 from by omega)
    obtain ⟨q1, q2, q3⟩ := unhide HK1 (by trivial)
    refine ⟨.slice av Lo.length cv, ?_, ?_, b_drew HZ9⟩
    · rw [nxt_on (f := ⟨L, enc, why, ⟨#[]⟩, e, r, (g, fr, st)⟩) (unhide HYy) q2 q3]; rfl
    · rw [outs_on (f := ⟨L, enc, why, ⟨#[]⟩, e, r, (g, fr, st)⟩) (unhide HYy), ← q1]; exact HO9
set_option maxHeartbeats 3200000 in
set_option maxRecDepth 100000 in
theorem fo_on_true (L : ByteArray) (enc why e : Int) (r : ByteArray) (g : Int) (fr st : Bool) (p : ByteArray) (w : World) (hy : why ≠ 0) (he : 1 ≤ e ∧ e ≤ 7) (hk : M.Ok e (g, fr, st)) (hs : r.size + p.size ≤ 3300) :
    Calls Tryz.prog 18 #[.agg #[.string L, .int .i64 enc, .int .i64 why, .string ⟨#[]⟩, .int .i64 e, .string r, .int .i64 g, .bool fr, .bool st], .string p, .bool true] w fun e' w' => FoR ⟨L, enc, why, ⟨#[]⟩, e, r, (g, fr, st)⟩ p true w e' w' := by
  have hne : (why == 0) = false := beq_eq_false_iff_ne.2 hy
  have HYy := hide hy
  have HF := hide (fun w => feedOf_any e r (g, fr, st) p true w he hk hs)
  have HX0 : Hid (Fb w.heap.size ⟨L, enc, why, ⟨#[]⟩, e, r, (g, fr, st)⟩ ((w.alloc (.cells #[.string L, .int .i64 enc, .int .i64 why, .string ⟨#[]⟩, .int .i64 e, .string r, .int .i64 g, .bool fr, .bool st] 25)).alloc (.cells #[.string ⟨#[]⟩, .int .i64 0, .int .i64 0, .string ⟨#[]⟩, .int .i64 0, .string ⟨#[]⟩, .int .i64 0, .bool false, .bool false] 25))) := hide ((Fb.new w ⟨L, enc, why, ⟨#[]⟩, e, r, (g, fr, st)⟩).alloc _)
  have HX1 := hide (Fb.new2 w (.cells #[.string L, .int .i64 enc, .int .i64 why, .string ⟨#[]⟩, .int .i64 e, .string r, .int .i64 g, .bool fr, .bool st] 25))
  have HY := hide (bstep (balloc w (.cells #[.string L, .int .i64 enc, .int .i64 why, .string ⟨#[]⟩, .int .i64 e, .string r, .int .i64 g, .bool fr, .bool st] 25)) (balloc _ (.cells #[.string ⟨#[]⟩, .int .i64 0, .int .i64 0, .string ⟨#[]⟩, .int .i64 0, .string ⟨#[]⟩, .int .i64 0, .bool false, .bool false] 25)))
  unfold sv at HF
  dsimp only at HF
  clear hy
  go_enter Tryz.func18, Tryz.ntmps18
  go_wp2_with fail
  refine (unhide HF _).mono ?_
  rintro e' X1 ⟨v, r', t', Lo, rfl, hI, hb, k1, k2⟩
  obtain ⟨av, cv, hsv⟩ := owns_shape hI
  subst hsv
  have HP0 := hide ((unhide HX0).on hb)
  have HP1 := hide ((unhide HX1).on hb)
  have HPY := hide (bstep (unhide HY) hb)
  have hzx := (unhide HX1).lt
  have hzp := (unhide HP1).lt
  have HI := hide (owns_mono hI (show w.heap.size + 2 ≤ _ from by omega))
  have HK1 := hide k1
  have HK2 := hide k2
  obtain ⟨a0, a1, a2, a3, a4, a5, a6, a7, a8, x0, x1, x2, x3, x4, x5, x6, x7, x8⟩ := unhide HP0
  have hl0 := (unhide HP0).lt
  clear hI hb k1 k2 HF HX0 HX1 HY hzx
  unfold sv
  go_wp2_with fail
  have hX0 := (((unhide HP0).put5 e r' t').put9 (Fr.new L)).alloc (.cells #[.int .i64 e, .string r', .int .i64 t'.1, .bool t'.2.1, .bool t'.2.2] 23)
  have hX1 := (((unhide HP1).far5 (B := w.heap.size) (by omega) e r' t').far9 (B := w.heap.size) (by omega) (Fr.new L)).alloc (.cells #[.int .i64 e, .string r', .int .i64 t'.1, .bool t'.2.1, .bool t'.2.2] 23)
  have HYY := hide ((bput9 (B := w.heap.size) (bput5 (B := w.heap.size) (unhide HPY) (Nat.le_refl _) e r' t') (Nat.le_refl _) (Fr.new L)).alloc (by simp [World.setCell]; omega) (.cells #[.int .i64 e, .string r', .int .i64 t'.1, .bool t'.2.1, .bool t'.2.2] 23))
  have HOO := hide (owns_a (oput9 (B := w.heap.size) (oput5 (B := w.heap.size) (unhide HI) (by omega) e r' t') (by omega) (Fr.new L)) (.cells #[.int .i64 e, .string r', .int .i64 t'.1, .bool t'.2.1, .bool t'.2.2] 23))
  clear a0 a1 a2 a3 a4 a5 a6 a7 a8 x0 x1 x2 x3 x4 x5 x6 x7 x8 hl0 HP0 HP1 HPY HI
  unfold Fr.new M.st0 at hX0 hX1 HYY HOO
  dsimp only at hX0 hX1 HYY HOO
  generalize (((((((((((((((X1.setCell ⟨w.heap.size, 4, none⟩ (.int .i64 e)).setCell ⟨w.heap.size, 5, none⟩ (.string r')).setCell ⟨w.heap.size, 6, none⟩ (.int .i64 t'.1)).setCell ⟨w.heap.size, 7, none⟩ (.bool t'.2.1)).setCell ⟨w.heap.size, 8, none⟩ (.bool t'.2.2)).setCell ⟨w.heap.size, 0, none⟩ (.string L)).setCell ⟨w.heap.size, 1, none⟩ (.int .i64 0)).setCell ⟨w.heap.size, 2, none⟩ (.int .i64 0)).setCell ⟨w.heap.size, 3, none⟩ (.string ⟨#[]⟩)).setCell ⟨w.heap.size, 4, none⟩ (.int .i64 0)).setCell ⟨w.heap.size, 5, none⟩ (.string ⟨#[]⟩)).setCell ⟨w.heap.size, 6, none⟩ (.int .i64 0)).setCell ⟨w.heap.size, 7, none⟩ (.bool false)).setCell ⟨w.heap.size, 8, none⟩ (.bool false)).alloc (.cells #[.int .i64 e, .string r', .int .i64 t'.1, .bool t'.2.1, .bool t'.2.2] 23)) = Z at *
  have hlx := hX0.lt
  have hly := hX1.lt
  obtain ⟨a0, a1, a2, a3, a4, a5, a6, a7, a8, -, -, -, -, -, -, -, -, -⟩ := hX0
  obtain ⟨b0, b1, b2, b3, b4, b5, b6, b7, b8, y0, y1, y2, y3, y4, y5, y6, y7, y8⟩ := hX1
  dsimp only [Fr.new, M.st0] at a0 a1 a2 a3 a4 a5 a6 a7 a8 b0 b1 b2 b3 b4 b5 b6 b7 b8
  go_region
  all_goals
    go_wp2_with fail
    refine bodyPost_ret (v := .tuple #[.slice av Lo.length cv, .agg #[.string L, .int .i64 0, .int .i64 0, .string ⟨#[]⟩, .int .i64 0, .string ⟨#[]⟩, .int .i64 0, .bool false, .bool false]]) (by simp [results, Tryz.results18, go_sem, b0, b1, b2, b3, b4, b5, b6, b7, b8]) rfl ?_
    have HZ9 := bput9 (B := w.heap.size + 1) (unhide HYY) (by omega) (Fr.new L)
    have HO9 := owns_mono (o_drew (oput9 (B := w.heap.size + 1) (unhide HOO) (by omega) (Fr.new L))) (show w.heap.size ≤ w.heap.size + 2 from by omega)
    obtain ⟨q1, q2, q3⟩ := unhide HK2 (by trivial)
    refine ⟨.slice av Lo.length cv, rfl, ?_, b_drew HZ9⟩
    rw [outs_end (f := ⟨L, enc, why, ⟨#[]⟩, e, r, (g, fr, st)⟩) (unhide HYy), ← q1]; exact HO9
set_option maxHeartbeats 3200000 in
set_option maxRecDepth 100000 in
theorem fo_got_false (L W p : ByteArray) (w : World) (hL : L.size ≤ 3000) (hs : W.size + p.size ≤ 3300) (hE : enF L (bl W ++ bl p) = true) :
    Calls Tryz.prog 18 #[.agg #[.string L, .int .i64 0, .int .i64 0, .string W, .int .i64 0, .string ⟨#[]⟩, .int .i64 0, .bool false, .bool false], .string p, .bool false] w fun e' w' => FoR ⟨L, 0, 0, W, 0, ⟨#[]⟩, M.st0⟩ p false w e' w' := by
  obtain ⟨s, hcat⟩ : ∃ s, W ++ p = s := ⟨_, rfl⟩
  have hsz : s.size ≤ 3300 := by rw [← hcat, ByteArray.size_append]; exact hs
  have HE := hide hE
  have HEn := hide (fun w => isEnough_any L s w hL (by unfold maxLen; omega))
  rw [← hcat, bl_app, hE, hcat] at HEn
  clear hE
  have HCh := hide (fun w => chooseOf_any L s w hL hsz)
  have hbd := chI_bd L (bl s)
  rw [bl_len] at hbd
  have HS : Hid (bl W ++ bl p = bl s) := hide (by rw [← hcat, bl_app])
  obtain ⟨n, y, m, HX⟩ : ∃ n y m, Hid (chI L (bl s) = (n, y, m)) := ⟨_, _, _, hide rfl⟩
  rw [unhide HX] at HCh hbd
  dsimp only at HCh hbd
  have HC : Hid (chI L (bl W ++ bl p) = (n, y, m)) := hide (by rw [unhide HS]; exact unhide HX)
  obtain ⟨he, hyy, hm0, hm3, hml⟩ := hbd
  obtain ⟨k, rfl⟩ : ∃ k : Nat, m = (k : Int) := ⟨m.toNat, by omega⟩
  have HQ : Hid (bl (s.extract k s.size) = (bl W ++ bl p).drop (k : Int).toNat) := hide (by rw [bl_extract, unhide HS, Int.toNat_natCast])
  have HF := hide (fun w => feedOf_any n ⟨#[]⟩ M.st0 (s.extract k s.size) false w he (M.Ok_st0 n) (by show 0 + _ ≤ _; simp; omega))
  unfold sv M.st0 at HF
  dsimp only at HF
  have hcat2 : W.append p = s := hcat
  clear HX HS
  go_enter Tryz.func18, Tryz.ntmps18
  go_wp2_with fail
  refine (unhide HEn _).mono ?_
  rintro e' w1 ⟨rfl, hb⟩
  have HB : Hid (Below w.heap.size w w1) := hide (bstep (bstep (balloc _ _) (balloc _ _)) hb)
  have H0 : Hid (Fb w.heap.size ⟨L, 0, 0, W, 0, ⟨#[]⟩, M.st0⟩ w1) := hide (((Fb.new w ⟨L, 0, 0, W, 0, ⟨#[]⟩, M.st0⟩).alloc _).on hb)
  have H1 : Hid (Fb (w.heap.size + 1) (Fr.new ⟨#[]⟩) w1) := hide ((Fb.new2 w _).on hb)
  clear hb HEn
  obtain ⟨a0, a1, a2, a3, a4, a5, a6, a7, a8, x0, x1, x2, x3, x4, x5, x6, x7, x8⟩ := unhide H0
  have hl0 := (unhide H0).lt
  go_wp2_with fail
  clear a0 a1 a2 a3 a4 a5 a6 a7 a8 x0 x1 x2 x3 x4 x5 x6 x7 x8 hl0
  refine (unhide HCh _).mono ?_
  rintro e' w2 ⟨rfl, hb⟩
  have HB2 := hide (bstep (unhide HB) hb)
  have H02 := hide ((unhide H0).on hb)
  have H12 := hide ((unhide H1).on hb)
  clear hb H0 H1 HB HCh
  obtain ⟨a0, a1, a2, a3, a4, a5, a6, a7, a8, x0, x1, x2, x3, x4, x5, x6, x7, x8⟩ := unhide H02
  have hl0 := (unhide H02).lt
  go_wp2_with fail
  have HX0 := hide ((((unhide H02).set1 n).set2 y).set3 ⟨#[]⟩ |>.put5 n ⟨#[]⟩ M.st0)
  have HX1 := hide (((((((((unhide H12).far ⟨w.heap.size, 1, none⟩ (.int .i64 n) (by simp)).far ⟨w.heap.size, 2, none⟩ (.int .i64 y) (by simp)).far ⟨w.heap.size, 3, none⟩ (.string ⟨#[]⟩) (by simp)).far ⟨w.heap.size, 4, none⟩ (.int .i64 n) (by simp)).far ⟨w.heap.size, 5, none⟩ (.string ⟨#[]⟩) (by simp)).far ⟨w.heap.size, 6, none⟩ (.int .i64 0) (by simp)).far ⟨w.heap.size, 7, none⟩ (.bool false) (by simp)).far ⟨w.heap.size, 8, none⟩ (.bool false) (by simp))
  have HY := hide (((((((((unhide HB2).setCell (p := ⟨w.heap.size, 1, none⟩) (Nat.le_refl _) (.int .i64 n)).setCell (p := ⟨w.heap.size, 2, none⟩) (Nat.le_refl _) (.int .i64 y)).setCell (p := ⟨w.heap.size, 3, none⟩) (Nat.le_refl _) (.string ⟨#[]⟩)).setCell (p := ⟨w.heap.size, 4, none⟩) (Nat.le_refl _) (.int .i64 n)).setCell (p := ⟨w.heap.size, 5, none⟩) (Nat.le_refl _) (.string ⟨#[]⟩)).setCell (p := ⟨w.heap.size, 6, none⟩) (Nat.le_refl _) (.int .i64 0)).setCell (p := ⟨w.heap.size, 7, none⟩) (Nat.le_refl _) (.bool false)).setCell (p := ⟨w.heap.size, 8, none⟩) (Nat.le_refl _) (.bool false))
  clear a0 a1 a2 a3 a4 a5 a6 a7 a8 x0 x1 x2 x3 x4 x5 x6 x7 x8 hl0 H02 H12 HB2
  unfold M.st0 at HX0
  dsimp only at HX0
  generalize ((((((((w2.setCell ⟨w.heap.size, 1, none⟩ (.int .i64 n)).setCell ⟨w.heap.size, 2, none⟩ (.int .i64 y)).setCell ⟨w.heap.size, 3, none⟩ (.string ⟨#[]⟩)).setCell ⟨w.heap.size, 4, none⟩ (.int .i64 n)).setCell ⟨w.heap.size, 5, none⟩ (.string ⟨#[]⟩)).setCell ⟨w.heap.size, 6, none⟩ (.int .i64 0)).setCell ⟨w.heap.size, 7, none⟩ (.bool false)).setCell ⟨w.heap.size, 8, none⟩ (.bool false)) = X at *
  refine (unhide HF _).mono ?_
  rintro e' X1 ⟨v, r', t', Lo, rfl, hI, hb, k1, k2⟩
  obtain ⟨av, cv, hsv⟩ := owns_shape hI
  subst hsv
  have HP0 := hide ((unhide HX0).on hb)
  have HP1 := hide ((unhide HX1).on hb)
  have HPY := hide (bstep (unhide HY) hb)
  have hzx := (unhide HX1).lt
  have hzp := (unhide HP1).lt
  have HI := hide (owns_mono hI (show w.heap.size + 2 ≤ _ from by omega))
  have HK1 := hide k1
  have HK2 := hide k2
  obtain ⟨a0, a1, a2, a3, a4, a5, a6, a7, a8, x0, x1, x2, x3, x4, x5, x6, x7, x8⟩ := unhide HP0
  have hl0 := (unhide HP0).lt
  clear hI hb k1 k2 HF HX0 HX1 HY hzx
  unfold sv
  go_wp2_with fail
  have hX0 := ((unhide HP0).put5 n r' t').alloc (.cells #[.int .i64 n, .string r', .int .i64 t'.1, .bool t'.2.1, .bool t'.2.2] 23)
  have hX1 := ((unhide HP1).far5 (B := w.heap.size) (by omega) n r' t').alloc (.cells #[.int .i64 n, .string r', .int .i64 t'.1, .bool t'.2.1, .bool t'.2.2] 23)
  have HYY := hide ((bput5 (B := w.heap.size) (unhide HPY) (Nat.le_refl _) n r' t').alloc (by simp [World.setCell]; omega) (.cells #[.int .i64 n, .string r', .int .i64 t'.1, .bool t'.2.1, .bool t'.2.2] 23))
  have HOO := hide (owns_a (oput5 (B := w.heap.size) (unhide HI) (by omega) n r' t') (.cells #[.int .i64 n, .string r', .int .i64 t'.1, .bool t'.2.1, .bool t'.2.2] 23))
  clear a0 a1 a2 a3 a4 a5 a6 a7 a8 x0 x1 x2 x3 x4 x5 x6 x7 x8 hl0 HP0 HP1 HPY HI
  generalize ((((((X1.setCell ⟨w.heap.size, 4, none⟩ (.int .i64 n)).setCell ⟨w.heap.size, 5, none⟩ (.string r')).setCell ⟨w.heap.size, 6, none⟩ (.int .i64 t'.1)).setCell ⟨w.heap.size, 7, none⟩ (.bool t'.2.1)).setCell ⟨w.heap.size, 8, none⟩ (.bool t'.2.2)).alloc (.cells #[.int .i64 n, .string r', .int .i64 t'.1, .bool t'.2.1, .bool t'.2.2] 23)) = Z at *
  have hlx := hX0.lt
  have hly := hX1.lt
  obtain ⟨a0, a1, a2, a3, a4, a5, a6, a7, a8, -, -, -, -, -, -, -, -, -⟩ := hX0
  obtain ⟨b0, b1, b2, b3, b4, b5, b6, b7, b8, y0, y1, y2, y3, y4, y5, y6, y7, y8⟩ := hX1
  dsimp only [Fr.new, M.st0] at a0 a1 a2 a3 a4 a5 a6 a7 a8 b0 b1 b2 b3 b4 b5 b6 b7 b8
  go_region
  all_goals
    go_wp2_with fail
    refine bodyPost_ret (v := .tuple #[.slice av Lo.length cv, .agg #[.string L, .int .i64 n, .int .i64 y, .string ⟨#[]⟩, .int .i64 n, .string r', .int .i64 t'.1, .bool t'.2.1, .bool t'.2.2]]) (by simp [results, Tryz.results18, go_sem, b0, b1, b2, b3, b4, b5, b6, b7, b8]) rfl ?_
    have HZ9 := bput9 (B := w.heap.size + 1) (unhide HYY) (by omega) ⟨L, n, y, ⟨#[]⟩, n, r', t'⟩
    have HO9 := owns_mono (o_drew (oput9 (B := w.heap.size + 1) (unhide HOO) (by omega) ⟨L, n, y, ⟨#[]⟩, n, r', t'⟩)) (show w.heap.size ≤ w.heap.size + 2 from by omega)
    obtain ⟨q1, q2, q3⟩ := unhide HK1 (by trivial)
    refine ⟨.slice av Lo.length cv, ?_, ?_, b_drew HZ9⟩
    · rw [nxt_got (unhide HE) (unhide HC) (unhide HQ) q2 q3]; rfl
    · rw [outs_got (unhide HE) (unhide HC) (unhide HQ), show (M.RE n M.st0 (bl ⟨#[]⟩ ++ bl (s.extract k s.size))).1 = Lo from q1.symm]; exact HO9
set_option maxHeartbeats 3200000 in
set_option maxRecDepth 100000 in
theorem fo_got_true (L W p : ByteArray) (w : World) (hL : L.size ≤ 3000) (hs : W.size + p.size ≤ 3300)  :
    Calls Tryz.prog 18 #[.agg #[.string L, .int .i64 0, .int .i64 0, .string W, .int .i64 0, .string ⟨#[]⟩, .int .i64 0, .bool false, .bool false], .string p, .bool true] w fun e' w' => FoR ⟨L, 0, 0, W, 0, ⟨#[]⟩, M.st0⟩ p true w e' w' := by
  obtain ⟨s, hcat⟩ : ∃ s, W ++ p = s := ⟨_, rfl⟩
  have hsz : s.size ≤ 3300 := by rw [← hcat, ByteArray.size_append]; exact hs
  have HCh := hide (fun w => chooseOf_any L s w hL hsz)
  have hbd := chI_bd L (bl s)
  rw [bl_len] at hbd
  have HS : Hid (bl W ++ bl p = bl s) := hide (by rw [← hcat, bl_app])
  obtain ⟨n, y, m, HX⟩ : ∃ n y m, Hid (chI L (bl s) = (n, y, m)) := ⟨_, _, _, hide rfl⟩
  rw [unhide HX] at HCh hbd
  dsimp only at HCh hbd
  have HC : Hid (chI L (bl W ++ bl p) = (n, y, m)) := hide (by rw [unhide HS]; exact unhide HX)
  obtain ⟨he, hyy, hm0, hm3, hml⟩ := hbd
  obtain ⟨k, rfl⟩ : ∃ k : Nat, m = (k : Int) := ⟨m.toNat, by omega⟩
  have HQ : Hid (bl (s.extract k s.size) = (bl W ++ bl p).drop (k : Int).toNat) := hide (by rw [bl_extract, unhide HS, Int.toNat_natCast])
  have HF := hide (fun w => feedOf_any n ⟨#[]⟩ M.st0 (s.extract k s.size) true w he (M.Ok_st0 n) (by show 0 + _ ≤ _; simp; omega))
  unfold sv M.st0 at HF
  dsimp only at HF
  have hcat2 : W.append p = s := hcat
  clear HX HS
  go_enter Tryz.func18, Tryz.ntmps18
  go_wp2_with fail
  refine (unhide HCh _).mono ?_
  rintro e' w2 ⟨rfl, hb⟩
  have HB2 : Hid (Below w.heap.size w w2) := hide (bstep (bstep (balloc _ _) (balloc _ _)) hb)
  have H02 : Hid (Fb w.heap.size ⟨L, 0, 0, W, 0, ⟨#[]⟩, M.st0⟩ w2) := hide (((Fb.new w ⟨L, 0, 0, W, 0, ⟨#[]⟩, M.st0⟩).alloc _).on hb)
  have H12 : Hid (Fb (w.heap.size + 1) (Fr.new ⟨#[]⟩) w2) := hide ((Fb.new2 w _).on hb)
  clear hb HCh
  obtain ⟨a0, a1, a2, a3, a4, a5, a6, a7, a8, x0, x1, x2, x3, x4, x5, x6, x7, x8⟩ := unhide H02
  have hl0 := (unhide H02).lt
  go_wp2_with fail
  have HX0 := hide ((((unhide H02).set1 n).set2 y).set3 ⟨#[]⟩ |>.put5 n ⟨#[]⟩ M.st0)
  have HX1 := hide (((((((((unhide H12).far ⟨w.heap.size, 1, none⟩ (.int .i64 n) (by simp)).far ⟨w.heap.size, 2, none⟩ (.int .i64 y) (by simp)).far ⟨w.heap.size, 3, none⟩ (.string ⟨#[]⟩) (by simp)).far ⟨w.heap.size, 4, none⟩ (.int .i64 n) (by simp)).far ⟨w.heap.size, 5, none⟩ (.string ⟨#[]⟩) (by simp)).far ⟨w.heap.size, 6, none⟩ (.int .i64 0) (by simp)).far ⟨w.heap.size, 7, none⟩ (.bool false) (by simp)).far ⟨w.heap.size, 8, none⟩ (.bool false) (by simp))
  have HY := hide (((((((((unhide HB2).setCell (p := ⟨w.heap.size, 1, none⟩) (Nat.le_refl _) (.int .i64 n)).setCell (p := ⟨w.heap.size, 2, none⟩) (Nat.le_refl _) (.int .i64 y)).setCell (p := ⟨w.heap.size, 3, none⟩) (Nat.le_refl _) (.string ⟨#[]⟩)).setCell (p := ⟨w.heap.size, 4, none⟩) (Nat.le_refl _) (.int .i64 n)).setCell (p := ⟨w.heap.size, 5, none⟩) (Nat.le_refl _) (.string ⟨#[]⟩)).setCell (p := ⟨w.heap.size, 6, none⟩) (Nat.le_refl _) (.int .i64 0)).setCell (p := ⟨w.heap.size, 7, none⟩) (Nat.le_refl _) (.bool false)).setCell (p := ⟨w.heap.size, 8, none⟩) (Nat.le_refl _) (.bool false))
  clear a0 a1 a2 a3 a4 a5 a6 a7 a8 x0 x1 x2 x3 x4 x5 x6 x7 x8 hl0 H02 H12 HB2
  unfold M.st0 at HX0
  dsimp only at HX0
  generalize ((((((((w2.setCell ⟨w.heap.size, 1, none⟩ (.int .i64 n)).setCell ⟨w.heap.size, 2, none⟩ (.int .i64 y)).setCell ⟨w.heap.size, 3, none⟩ (.string ⟨#[]⟩)).setCell ⟨w.heap.size, 4, none⟩ (.int .i64 n)).setCell ⟨w.heap.size, 5, none⟩ (.string ⟨#[]⟩)).setCell ⟨w.heap.size, 6, none⟩ (.int .i64 0)).setCell ⟨w.heap.size, 7, none⟩ (.bool false)).setCell ⟨w.heap.size, 8, none⟩ (.bool false)) = X at *
  refine (unhide HF _).mono ?_
  rintro e' X1 ⟨v, r', t', Lo, rfl, hI, hb, k1, k2⟩
  obtain ⟨av, cv, hsv⟩ := owns_shape hI
  subst hsv
  have HP0 := hide ((unhide HX0).on hb)
  have HP1 := hide ((unhide HX1).on hb)
  have HPY := hide (bstep (unhide HY) hb)
  have hzx := (unhide HX1).lt
  have hzp := (unhide HP1).lt
  have HI := hide (owns_mono hI (show w.heap.size + 2 ≤ _ from by omega))
  have HK1 := hide k1
  have HK2 := hide k2
  obtain ⟨a0, a1, a2, a3, a4, a5, a6, a7, a8, x0, x1, x2, x3, x4, x5, x6, x7, x8⟩ := unhide HP0
  have hl0 := (unhide HP0).lt
  clear hI hb k1 k2 HF HX0 HX1 HY hzx
  unfold sv
  go_wp2_with fail
  have hX0 := (((unhide HP0).put5 n r' t').put9 (Fr.new L)).alloc (.cells #[.int .i64 n, .string r', .int .i64 t'.1, .bool t'.2.1, .bool t'.2.2] 23)
  have hX1 := (((unhide HP1).far5 (B := w.heap.size) (by omega) n r' t').far9 (B := w.heap.size) (by omega) (Fr.new L)).alloc (.cells #[.int .i64 n, .string r', .int .i64 t'.1, .bool t'.2.1, .bool t'.2.2] 23)
  have HYY := hide ((bput9 (B := w.heap.size) (bput5 (B := w.heap.size) (unhide HPY) (Nat.le_refl _) n r' t') (Nat.le_refl _) (Fr.new L)).alloc (by simp [World.setCell]; omega) (.cells #[.int .i64 n, .string r', .int .i64 t'.1, .bool t'.2.1, .bool t'.2.2] 23))
  have HOO := hide (owns_a (oput9 (B := w.heap.size) (oput5 (B := w.heap.size) (unhide HI) (by omega) n r' t') (by omega) (Fr.new L)) (.cells #[.int .i64 n, .string r', .int .i64 t'.1, .bool t'.2.1, .bool t'.2.2] 23))
  clear a0 a1 a2 a3 a4 a5 a6 a7 a8 x0 x1 x2 x3 x4 x5 x6 x7 x8 hl0 HP0 HP1 HPY HI
  unfold Fr.new M.st0 at hX0 hX1 HYY HOO
  dsimp only at hX0 hX1 HYY HOO
  generalize (((((((((((((((X1.setCell ⟨w.heap.size, 4, none⟩ (.int .i64 n)).setCell ⟨w.heap.size, 5, none⟩ (.string r')).setCell ⟨w.heap.size, 6, none⟩ (.int .i64 t'.1)).setCell ⟨w.heap.size, 7, none⟩ (.bool t'.2.1)).setCell ⟨w.heap.size, 8, none⟩ (.bool t'.2.2)).setCell ⟨w.heap.size, 0, none⟩ (.string L)).setCell ⟨w.heap.size, 1, none⟩ (.int .i64 0)).setCell ⟨w.heap.size, 2, none⟩ (.int .i64 0)).setCell ⟨w.heap.size, 3, none⟩ (.string ⟨#[]⟩)).setCell ⟨w.heap.size, 4, none⟩ (.int .i64 0)).setCell ⟨w.heap.size, 5, none⟩ (.string ⟨#[]⟩)).setCell ⟨w.heap.size, 6, none⟩ (.int .i64 0)).setCell ⟨w.heap.size, 7, none⟩ (.bool false)).setCell ⟨w.heap.size, 8, none⟩ (.bool false)).alloc (.cells #[.int .i64 n, .string r', .int .i64 t'.1, .bool t'.2.1, .bool t'.2.2] 23)) = Z at *
  have hlx := hX0.lt
  have hly := hX1.lt
  obtain ⟨a0, a1, a2, a3, a4, a5, a6, a7, a8, -, -, -, -, -, -, -, -, -⟩ := hX0
  obtain ⟨b0, b1, b2, b3, b4, b5, b6, b7, b8, y0, y1, y2, y3, y4, y5, y6, y7, y8⟩ := hX1
  dsimp only [Fr.new, M.st0] at a0 a1 a2 a3 a4 a5 a6 a7 a8 b0 b1 b2 b3 b4 b5 b6 b7 b8
  go_region
  all_goals
    go_wp2_with fail
    refine bodyPost_ret (v := .tuple #[.slice av Lo.length cv, .agg #[.string L, .int .i64 0, .int .i64 0, .string ⟨#[]⟩, .int .i64 0, .string ⟨#[]⟩, .int .i64 0, .bool false, .bool false]]) (by simp [results, Tryz.results18, go_sem, b0, b1, b2, b3, b4, b5, b6, b7, b8]) rfl ?_
    have HZ9 := bput9 (B := w.heap.size + 1) (unhide HYY) (by omega) (Fr.new L)
    have HO9 := owns_mono (o_drew (oput9 (B := w.heap.size + 1) (unhide HOO) (by omega) (Fr.new L))) (show w.heap.size ≤ w.heap.size + 2 from by omega)
    obtain ⟨q1, q2, q3⟩ := unhide HK2 (by trivial)
    refine ⟨.slice av Lo.length cv, rfl, ?_, b_drew HZ9⟩
    rw [outs_whole (unhide HC) (unhide HQ), show (M.TE n M.st0 (bl ⟨#[]⟩ ++ bl (s.extract k s.size))).1 = Lo from q1.symm]; exact HO9
theorem frontOf_any (f : Fr) (p : ByteArray) (last : Bool) (w : World) (hk : f.chk = 0) (hp : p.size ≤ 3000) :
    Calls Tryz.prog 18 #[f.v, .string p, .bool last] w fun e' w' => FoR f p last w e' w' := by
  obtain ⟨L, enc, why, W, e, r, g, fr, st⟩ := f
  have h := hk
  unfold Fr.chk at h
  dsimp only at h
  split at h
  · cases h
  rename_i c1
  split at h
  · cases h
  split at h
  · cases h
  rename_i c3
  split at h
  · cases h
  rename_i c4
  split at h
  · rename_i c5
    subst c5
    split at h
    · cases h
    rename_i c6
    have h4 : enc = 0 := by omega
    obtain ⟨rfl, hr0, ht⟩ : e = 0 ∧ r.size = 0 ∧ (g, fr, st) = M.st0 := by
      refine Classical.byContradiction fun q => c4 (.inl ⟨rfl, q⟩)
    have hr := size0 hr0
    subst hr h4
    obtain ⟨rfl, rfl, rfl⟩ : g = 0 ∧ fr = false ∧ st = false := by simpa [M.st0] using ht
    have hW : W.size < 256 := by
      have := enF_few (name := L) (l := bl W) (by simpa using c6)
      rwa [bl_len] at this
    cases last
    · cases hE : enF L (bl W ++ bl p)
      · refine (fo_wait L W p w (by omega) (by omega) hE).mono fun e' w' hh => ?_
        obtain ⟨h1, h2⟩ := hh
        have hn : (⟨L, 0, 0, W, 0, ⟨#[]⟩, M.st0⟩ : Fr).nxt p false = ⟨L, 0, 0, W ++ p, 0, ⟨#[]⟩, M.st0⟩ := by
          unfold Fr.nxt
          rw [if_neg (by simp), if_pos rfl, if_neg (by simp [hE])]
        have ho : (⟨L, 0, 0, W, 0, ⟨#[]⟩, M.st0⟩ : Fr).outs p false = [] := by
          unfold Fr.outs
          rw [if_pos rfl, if_neg (by simp), if_neg (by simp [hE])]
        refine ⟨.slice none 0 0, ?_, ?_, h2⟩
        · rw [h1]
          show _ = Ending.returned (.tuple #[_, ((⟨L, 0, 0, W, 0, ⟨#[]⟩, M.st0⟩ : Fr).nxt p false).v])
          rw [hn]; rfl
        · show World.ownsRow w' _ _ _ _ ((⟨L, 0, 0, W, 0, ⟨#[]⟩, M.st0⟩ : Fr).outs p false).length (((⟨L, 0, 0, W, 0, ⟨#[]⟩, M.st0⟩ : Fr).outs p false).map _)
          rw [ho]; exact World.ownsRow_nil _ _ _ _
      · exact fo_got_false L W p w (by omega) (by omega) hE
    · exact fo_got_true L W p w (by omega) (by omega)
  · rename_i c5
    have hW0 : W.size = 0 := Classical.byContradiction fun q => c4 (.inr ⟨c5, .inl q⟩)
    have hee : e = enc := Classical.byContradiction fun q => c4 (.inr ⟨c5, .inr q⟩)
    have hW := size0 hW0
    subst hW hee
    obtain ⟨k1, k2, k3⟩ := chk_ok.1 h
    cases last
    · exact fo_on_false L e why e r g fr st p w c5 k1 k3 (by omega)
    · exact fo_on_true L e why e r g fr st p w c5 k1 k3 (by omega)
end Go.Proofs.YtaiinjfnkmidbaaGreatDoor
