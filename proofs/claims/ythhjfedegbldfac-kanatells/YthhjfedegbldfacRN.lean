/- The contracts of the reference's FeedOf and DecodeOf where signs are shifted and nothing more comes: what a whole text tells; nothing that was there is written. -/
import Derived.Test.YthhjfedegbldfacRM
import Derived.Test.YthhjfedegbldfacDF
namespace Go.Proofs.Ythhjfedegbldfac
open Go.RowKit
set_option linter.unusedVariables false

theorem b_drew {B : Nat} {a w : World} (h : Below B a w) : Below B a w.drew := below_drewN h 1
theorem o_drew {w : World} {base e size n : Nat} {v : Value} {xs : List Value} (h : w.ownsRow base e size v n xs) : w.drew.ownsRow base e size v n xs := owns_below h (below_drewN (Below.refl _ _) 1)

theorem Sc.far {B : Nat} {e : Int} {r : ByteArray} {t : M.St} {w : World} (h : Sc B e r t w) (p : Addr) (u : Value) (hp : p.block ≠ B) : Sc B e r t (w.setCell p u) where
  c0 := (World.cell?_setCell_other _ _ _ _ (by intro e; rw [e] at hp; exact hp rfl)).trans h.c0
  c1 := (World.cell?_setCell_other _ _ _ _ (by intro e; rw [e] at hp; exact hp rfl)).trans h.c1
  c2 := (World.cell?_setCell_other _ _ _ _ (by intro e; rw [e] at hp; exact hp rfl)).trans h.c2
  c3 := (World.cell?_setCell_other _ _ _ _ (by intro e; rw [e] at hp; exact hp rfl)).trans h.c3
  c4 := (World.cell?_setCell_other _ _ _ _ (by intro e; rw [e] at hp; exact hp rfl)).trans h.c4
  f0 := by rw [World.frozen?_setCell]; exact h.f0
  f1 := by rw [World.frozen?_setCell]; exact h.f1
  f2 := by rw [World.frozen?_setCell]; exact h.f2
  f3 := by rw [World.frozen?_setCell]; exact h.f3
  f4 := by rw [World.frozen?_setCell]; exact h.f4
theorem Rc.far {B : Nat} {w : World} (h : Rc B w) (p : Addr) (u : Value) (hp : p.block ≠ B) : Rc B (w.setCell p u) where
  b0 := (World.cell?_setCell_other _ _ _ _ (by intro e; rw [e] at hp; exact hp rfl)).trans h.b0
  b1 := (World.cell?_setCell_other _ _ _ _ (by intro e; rw [e] at hp; exact hp rfl)).trans h.b1
  b2 := (World.cell?_setCell_other _ _ _ _ (by intro e; rw [e] at hp; exact hp rfl)).trans h.b2
  b3 := (World.cell?_setCell_other _ _ _ _ (by intro e; rw [e] at hp; exact hp rfl)).trans h.b3
  b4 := (World.cell?_setCell_other _ _ _ _ (by intro e; rw [e] at hp; exact hp rfl)).trans h.b4
  g0 := by rw [World.frozen?_setCell]; exact h.g0
  g1 := by rw [World.frozen?_setCell]; exact h.g1
  g2 := by rw [World.frozen?_setCell]; exact h.g2
  g3 := by rw [World.frozen?_setCell]; exact h.g3
  g4 := by rw [World.frozen?_setCell]; exact h.g4
theorem Sc.set1 {B : Nat} {e : Int} {r : ByteArray} {t : M.St} {w : World} (h : Sc B e r t w) (x : ByteArray) : Sc B e x t (w.setCell ⟨B, 1, none⟩ (.string x)) where
  c0 := (World.cell?_setCell_other _ _ _ _ (by simp)).trans h.c0
  c1 := World.cell?_setCell_same _ _ _ h.c1
  c2 := (World.cell?_setCell_other _ _ _ _ (by simp)).trans h.c2
  c3 := (World.cell?_setCell_other _ _ _ _ (by simp)).trans h.c3
  c4 := (World.cell?_setCell_other _ _ _ _ (by simp)).trans h.c4
  f0 := by rw [World.frozen?_setCell]; exact h.f0
  f1 := by rw [World.frozen?_setCell]; exact h.f1
  f2 := by rw [World.frozen?_setCell]; exact h.f2
  f3 := by rw [World.frozen?_setCell]; exact h.f3
  f4 := by rw [World.frozen?_setCell]; exact h.f4
theorem Sc.set2 {B : Nat} {e : Int} {r : ByteArray} {t : M.St} {w : World} (h : Sc B e r t w) (x : Int) : Sc B e r (x, t.2.1, t.2.2) (w.setCell ⟨B, 2, none⟩ (.int .i64 x)) where
  c0 := (World.cell?_setCell_other _ _ _ _ (by simp)).trans h.c0
  c1 := (World.cell?_setCell_other _ _ _ _ (by simp)).trans h.c1
  c2 := World.cell?_setCell_same _ _ _ h.c2
  c3 := (World.cell?_setCell_other _ _ _ _ (by simp)).trans h.c3
  c4 := (World.cell?_setCell_other _ _ _ _ (by simp)).trans h.c4
  f0 := by rw [World.frozen?_setCell]; exact h.f0
  f1 := by rw [World.frozen?_setCell]; exact h.f1
  f2 := by rw [World.frozen?_setCell]; exact h.f2
  f3 := by rw [World.frozen?_setCell]; exact h.f3
  f4 := by rw [World.frozen?_setCell]; exact h.f4
theorem Sc.set3 {B : Nat} {e : Int} {r : ByteArray} {t : M.St} {w : World} (h : Sc B e r t w) (x : Bool) : Sc B e r (t.1, x, t.2.2) (w.setCell ⟨B, 3, none⟩ (.bool x)) where
  c0 := (World.cell?_setCell_other _ _ _ _ (by simp)).trans h.c0
  c1 := (World.cell?_setCell_other _ _ _ _ (by simp)).trans h.c1
  c2 := (World.cell?_setCell_other _ _ _ _ (by simp)).trans h.c2
  c3 := World.cell?_setCell_same _ _ _ h.c3
  c4 := (World.cell?_setCell_other _ _ _ _ (by simp)).trans h.c4
  f0 := by rw [World.frozen?_setCell]; exact h.f0
  f1 := by rw [World.frozen?_setCell]; exact h.f1
  f2 := by rw [World.frozen?_setCell]; exact h.f2
  f3 := by rw [World.frozen?_setCell]; exact h.f3
  f4 := by rw [World.frozen?_setCell]; exact h.f4
theorem Sc.drew {B : Nat} {e : Int} {r : ByteArray} {t : M.St} {w : World} (h : Sc B e r t w) : Sc B e r t w.drew := h.below (below_drewN (Below.refl w.heap.size w) 1) h.lt
theorem Rc.drew {B : Nat} {w : World} (h : Rc B w) : Rc B w.drew := h.below (below_drewN (Below.refl w.heap.size w) 1) (World.block_lt_of_cell? w _ h.b0)

set_option maxHeartbeats 3000000 in
set_option maxRecDepth 100000 in
theorem feedOf_kana (s : ByteArray) (w : World) (hs : s.size ≤ 3000) :
    Calls Try.prog 22 #[.agg #[.int .i64 6, .string ⟨#[]⟩, .int .i64 0, .bool false, .bool false], .string s, .bool true] w fun e w' => ∃ v, e = .returned (.tuple #[v, .agg #[.int .i64 6, .string ⟨#[]⟩, .int .i64 0, .bool false, .bool false]]) ∧ w'.ownsRow w.heap.size 3 1 v (M.kdec (bl s)).length ((M.kdec (bl s)).map (Value.int .i64)) ∧ Below w.heap.size w w' := by
  have hcat : (⟨#[]⟩ : ByteArray) ++ s = s := by apply ByteArray.ext; simp
  have hcat2 : ByteArray.empty ++ s = s := hcat
  have H := fun w => decodeKana_last 0 false s w (.inl rfl) (by omega)
  rw [M.gk_dec] at H
  obtain ⟨g, fr, hT⟩ : ∃ g fr, (M.Tot M.gk (0, false) (bl s)).2 = (g, fr) := ⟨_, _, rfl⟩
  rw [hT] at H
  clear hT
  obtain ⟨L, HL⟩ : ∃ L, Hid (M.kdec (bl s) = L) := ⟨_, hide rfl⟩
  rw [unhide HL] at H
  rw [unhide HL]
  go_enter Try.func22, Try.ntmps22
  go_wp2_with fail
  refine (H _).mono ?_
  rintro e w1 ⟨v, rfl, hI, hb⟩
  obtain ⟨av, cv, hsv⟩ := owns_shape hI
  subst hsv
  have HI : Hid (w1.ownsRow (w.heap.size + 3) 3 1 (.slice av L.length cv) L.length (L.map (Value.int .i64))) := hide (by simpa using hI)
  have HB : Hid (Below w.heap.size w w1) := hide (bstep (bstep (bstep (balloc _ _) (balloc _ _)) (balloc _ _)) hb)
  have h0 : Sc w.heap.size 6 ⟨#[]⟩ M.st0 w1 := Sc.below (w := ((w.alloc (.cells #[.int .i64 6, .string ⟨#[]⟩, .int .i64 0, .bool false, .bool false] 40)).alloc (.cells #[.int .i64 0, .string ⟨#[]⟩, .int .i64 0, .bool false, .bool false] 40)).alloc (.cells #[.int .i64 0, .bool false] 73)) (by constructor <;> simp [go_sem, M.st0]) hb (by simp; omega)
  have h1 : Rc (w.heap.size + 1) w1 := Rc.below (w := ((w.alloc (.cells #[.int .i64 6, .string ⟨#[]⟩, .int .i64 0, .bool false, .bool false] 40)).alloc (.cells #[.int .i64 0, .string ⟨#[]⟩, .int .i64 0, .bool false, .bool false] 40)).alloc (.cells #[.int .i64 0, .bool false] 73)) (by constructor <;> simp [go_sem]) hb (by simp)
  have h2 : Pc (w.heap.size + 2) 0 false w1 := Pc.below (w := ((w.alloc (.cells #[.int .i64 6, .string ⟨#[]⟩, .int .i64 0, .bool false, .bool false] 40)).alloc (.cells #[.int .i64 0, .string ⟨#[]⟩, .int .i64 0, .bool false, .bool false] 40)).alloc (.cells #[.int .i64 0, .bool false] 73)) (by constructor <;> simp [go_sem]) hb (by simp)
  have hl := h2.lt
  have hl1 : w.heap.size + 1 < w1.heap.size := by omega
  have hl0 : w.heap.size < w1.heap.size := by omega
  have H0 := hide h0
  have H1 := hide h1
  obtain ⟨a0, a1, a2, a3, a4, x0, x1, x2, x3, x4⟩ := h0
  obtain ⟨b0, b1, b2, b3, b4, y0, y1, y2, y3, y4⟩ := h1
  obtain ⟨p0, p1, q0, q1⟩ := h2
  unfold M.st0 at a2 a3 a4
  clear hI hb H hcat hcat2
  go_wp2_with fail
  go_region
  all_goals
    go_wp2_with fail
    have hX0 : Sc w.heap.size 6 ⟨#[]⟩ M.st0 ((((((((((w1.setCell { block := w.heap.size + 1 + 1, off := 0 } (Value.int IntKind.i64 g)).setCell { block := w.heap.size + 1 + 1, off := 1 } (Value.bool fr)).setCell { block := w.heap.size, off := 2 } (Value.int IntKind.i64 g)).setCell { block := w.heap.size, off := 3 } (Value.bool fr)).setCell { block := w.heap.size, off := 1 } (Value.string { data := #[] })).setCell { block := w.heap.size, off := 0 } (Value.int IntKind.i64 6)).setCell { block := w.heap.size, off := 1 } (Value.string { data := #[] })).setCell { block := w.heap.size, off := 2 } (Value.int IntKind.i64 0)).setCell { block := w.heap.size, off := 3 } (Value.bool false)).setCell { block := w.heap.size, off := 4 } (Value.bool false)).drew := ((((((unhide H0).far ⟨w.heap.size + 1 + 1, 0, none⟩ _ (by first | (simp; done) | (simp; omega))).far ⟨w.heap.size + 1 + 1, 1, none⟩ _ (by first | (simp; done) | (simp; omega))).set2 g).set3 fr).set1 ⟨#[]⟩ |>.rc 6 ⟨#[]⟩ M.st0).drew
    have hX1 : Rc (w.heap.size + 1) ((((((((((w1.setCell { block := w.heap.size + 1 + 1, off := 0 } (Value.int IntKind.i64 g)).setCell { block := w.heap.size + 1 + 1, off := 1 } (Value.bool fr)).setCell { block := w.heap.size, off := 2 } (Value.int IntKind.i64 g)).setCell { block := w.heap.size, off := 3 } (Value.bool fr)).setCell { block := w.heap.size, off := 1 } (Value.string { data := #[] })).setCell { block := w.heap.size, off := 0 } (Value.int IntKind.i64 6)).setCell { block := w.heap.size, off := 1 } (Value.string { data := #[] })).setCell { block := w.heap.size, off := 2 } (Value.int IntKind.i64 0)).setCell { block := w.heap.size, off := 3 } (Value.bool false)).setCell { block := w.heap.size, off := 4 } (Value.bool false)).drew := (((((((((((unhide H1).far ⟨w.heap.size + 1 + 1, 0, none⟩ _ (by first | (simp; done) | (simp; omega))).far ⟨w.heap.size + 1 + 1, 1, none⟩ _ (by first | (simp; done) | (simp; omega))).far ⟨w.heap.size, 2, none⟩ _ (by first | (simp; done) | (simp; omega))).far ⟨w.heap.size, 3, none⟩ _ (by first | (simp; done) | (simp; omega))).far ⟨w.heap.size, 1, none⟩ _ (by first | (simp; done) | (simp; omega))).far ⟨w.heap.size, 0, none⟩ _ (by first | (simp; done) | (simp; omega))).far ⟨w.heap.size, 1, none⟩ _ (by first | (simp; done) | (simp; omega))).far ⟨w.heap.size, 2, none⟩ _ (by first | (simp; done) | (simp; omega))).far ⟨w.heap.size, 3, none⟩ _ (by first | (simp; done) | (simp; omega))).far ⟨w.heap.size, 4, none⟩ _ (by first | (simp; done) | (simp; omega))).drew
    have HX : Hid (((((((((((w1.setCell { block := w.heap.size + 1 + 1, off := 0 } (Value.int IntKind.i64 g)).setCell { block := w.heap.size + 1 + 1, off := 1 } (Value.bool fr)).setCell { block := w.heap.size, off := 2 } (Value.int IntKind.i64 g)).setCell { block := w.heap.size, off := 3 } (Value.bool fr)).setCell { block := w.heap.size, off := 1 } (Value.string { data := #[] })).setCell { block := w.heap.size, off := 0 } (Value.int IntKind.i64 6)).setCell { block := w.heap.size, off := 1 } (Value.string { data := #[] })).setCell { block := w.heap.size, off := 2 } (Value.int IntKind.i64 0)).setCell { block := w.heap.size, off := 3 } (Value.bool false)).setCell { block := w.heap.size, off := 4 } (Value.bool false)).drew.ownsRow (w.heap.size + 3) 3 1 (.slice av L.length cv) L.length (L.map (Value.int .i64))) := hide (o_drew (owns_set (owns_set (owns_set (owns_set (owns_set (owns_set (owns_set (owns_set (owns_set (owns_set (unhide HI) ⟨w.heap.size + 1 + 1, 0, none⟩ (by first | (simp; done) | (simp; omega)) _) ⟨w.heap.size + 1 + 1, 1, none⟩ (by first | (simp; done) | (simp; omega)) _) ⟨w.heap.size, 2, none⟩ (by first | (simp; done) | (simp; omega)) _) ⟨w.heap.size, 3, none⟩ (by first | (simp; done) | (simp; omega)) _) ⟨w.heap.size, 1, none⟩ (by first | (simp; done) | (simp; omega)) _) ⟨w.heap.size, 0, none⟩ (by first | (simp; done) | (simp; omega)) _) ⟨w.heap.size, 1, none⟩ (by first | (simp; done) | (simp; omega)) _) ⟨w.heap.size, 2, none⟩ (by first | (simp; done) | (simp; omega)) _) ⟨w.heap.size, 3, none⟩ (by first | (simp; done) | (simp; omega)) _) ⟨w.heap.size, 4, none⟩ (by first | (simp; done) | (simp; omega)) _))
    have HY : Hid (Below w.heap.size w ((((((((((w1.setCell { block := w.heap.size + 1 + 1, off := 0 } (Value.int IntKind.i64 g)).setCell { block := w.heap.size + 1 + 1, off := 1 } (Value.bool fr)).setCell { block := w.heap.size, off := 2 } (Value.int IntKind.i64 g)).setCell { block := w.heap.size, off := 3 } (Value.bool fr)).setCell { block := w.heap.size, off := 1 } (Value.string { data := #[] })).setCell { block := w.heap.size, off := 0 } (Value.int IntKind.i64 6)).setCell { block := w.heap.size, off := 1 } (Value.string { data := #[] })).setCell { block := w.heap.size, off := 2 } (Value.int IntKind.i64 0)).setCell { block := w.heap.size, off := 3 } (Value.bool false)).setCell { block := w.heap.size, off := 4 } (Value.bool false)).drew) := hide (b_drew (bset (bset (bset (bset (bset (bset (bset (bset (bset (bset (unhide HB) ⟨w.heap.size + 1 + 1, 0, none⟩ _ (by first | (simp; done) | (simp; omega))) ⟨w.heap.size + 1 + 1, 1, none⟩ _ (by first | (simp; done) | (simp; omega))) ⟨w.heap.size, 2, none⟩ _ (by first | (simp; done) | (simp; omega))) ⟨w.heap.size, 3, none⟩ _ (by first | (simp; done) | (simp; omega))) ⟨w.heap.size, 1, none⟩ _ (by first | (simp; done) | (simp; omega))) ⟨w.heap.size, 0, none⟩ _ (by first | (simp; done) | (simp; omega))) ⟨w.heap.size, 1, none⟩ _ (by first | (simp; done) | (simp; omega))) ⟨w.heap.size, 2, none⟩ _ (by first | (simp; done) | (simp; omega))) ⟨w.heap.size, 3, none⟩ _ (by first | (simp; done) | (simp; omega))) ⟨w.heap.size, 4, none⟩ _ (by first | (simp; done) | (simp; omega))))
    generalize ((((((((((w1.setCell { block := w.heap.size + 1 + 1, off := 0 } (Value.int IntKind.i64 g)).setCell { block := w.heap.size + 1 + 1, off := 1 } (Value.bool fr)).setCell { block := w.heap.size, off := 2 } (Value.int IntKind.i64 g)).setCell { block := w.heap.size, off := 3 } (Value.bool fr)).setCell { block := w.heap.size, off := 1 } (Value.string { data := #[] })).setCell { block := w.heap.size, off := 0 } (Value.int IntKind.i64 6)).setCell { block := w.heap.size, off := 1 } (Value.string { data := #[] })).setCell { block := w.heap.size, off := 2 } (Value.int IntKind.i64 0)).setCell { block := w.heap.size, off := 3 } (Value.bool false)).setCell { block := w.heap.size, off := 4 } (Value.bool false)).drew = X at *
    clear a0 a1 a2 a3 a4 x0 x1 x2 x3 x4 b0 b1 b2 b3 b4 y0 y1 y2 y3 y4 p0 p1 q0 q1
    have hlx := hX0.lt
    obtain ⟨a0, a1, a2, a3, a4, -, -, -, -, -⟩ := hX0
    obtain ⟨b0, b1, b2, b3, b4, y0, y1, y2, y3, y4⟩ := hX1
    have hly : w.heap.size + 1 < X.heap.size := World.block_lt_of_cell? X _ b0
    unfold M.st0 at a2 a3 a4
    go_region
    all_goals
      go_wp2_with fail
      refine bodyPost_ret (v := .tuple #[.slice av L.length cv, .agg #[.int .i64 6, .string ⟨#[]⟩, .int .i64 0, .bool false, .bool false]]) (by simp [results, Try.results22, go_sem, b0, b1, b2, b3, b4]) rfl ?_
      refine ⟨.slice av L.length cv, rfl, ?_, ?_⟩
      · exact owns_mono (o_drew (owns_set (owns_set (owns_set (owns_set (owns_set (unhide HX) ⟨w.heap.size + 1, 0, none⟩ (by first | (simp; done) | (simp; omega)) _) ⟨w.heap.size + 1, 1, none⟩ (by first | (simp; done) | (simp; omega)) _) ⟨w.heap.size + 1, 2, none⟩ (by first | (simp; done) | (simp; omega)) _) ⟨w.heap.size + 1, 3, none⟩ (by first | (simp; done) | (simp; omega)) _) ⟨w.heap.size + 1, 4, none⟩ (by first | (simp; done) | (simp; omega)) _)) (by omega)
      · exact b_drew (bset (bset (bset (bset (bset (unhide HY) ⟨w.heap.size + 1, 0, none⟩ _ (by first | (simp; done) | (simp; omega))) ⟨w.heap.size + 1, 1, none⟩ _ (by first | (simp; done) | (simp; omega))) ⟨w.heap.size + 1, 2, none⟩ _ (by first | (simp; done) | (simp; omega))) ⟨w.heap.size + 1, 3, none⟩ _ (by first | (simp; done) | (simp; omega))) ⟨w.heap.size + 1, 4, none⟩ _ (by first | (simp; done) | (simp; omega)))

set_option maxHeartbeats 800000 in
set_option maxRecDepth 100000 in
theorem decodeOf_kana (s : ByteArray) (w : World) (hs : s.size ≤ 3000) :
    Calls Try.prog 12 #[.int .i64 6, .string s] w fun e w' => ∃ v, e = .returned v ∧ Ints w' v (M.kdec (bl s)) ∧ Below w.heap.size w w' := by
  have H := fun w => feedOf_kana s w hs
  generalize M.kdec (bl s) = L at *
  go_enter Try.func12, Try.ntmps12
  go_wp2_with fail
  refine (H _).mono ?_
  rintro e w1 ⟨v, rfl, hI, hb⟩
  obtain ⟨av, cv, hsv⟩ := owns_shape hI
  subst hsv
  have HI := hide (Ints.of_owns hI)
  have HB := hide hb
  clear hI hb H
  go_wp2_with fail
  go_ret
  exact ⟨_, rfl, (unhide HI).below (balloc _ _), bstep (unhide HB) (balloc _ _)⟩
end Go.Proofs.Ythhjfedegbldfac
