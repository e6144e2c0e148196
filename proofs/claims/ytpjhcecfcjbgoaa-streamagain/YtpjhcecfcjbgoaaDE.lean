/- The contracts of stream.Open and stream.Feed: a state at the beginning; what may be told of bytes that came, and the state then; nothing that was there is written. -/
import Derived.Test.YtpjhcecfcjbgoaaDD
namespace Go.Proofs.Ytpjhcecfcjbgoaa
open Go.RowKit
set_option linter.unusedVariables false

/-- The cells of a state that is answered. -/
structure Rc (B : Nat) (w : World) : Prop where
  b0 : w.cell? ⟨B, 0, none⟩ = some (.int .i64 0)
  b1 : w.cell? ⟨B, 1, none⟩ = some (.string ⟨#[]⟩)
  b2 : w.cell? ⟨B, 2, none⟩ = some (.int .i64 0)
  b3 : w.cell? ⟨B, 3, none⟩ = some (.bool false)
  b4 : w.cell? ⟨B, 4, none⟩ = some (.bool false)
  g0 : w.frozen? ⟨B, 0, none⟩ = false
  g1 : w.frozen? ⟨B, 1, none⟩ = false
  g2 : w.frozen? ⟨B, 2, none⟩ = false
  g3 : w.frozen? ⟨B, 3, none⟩ = false
  g4 : w.frozen? ⟨B, 4, none⟩ = false
theorem Rc.below {B D : Nat} {w w2 : World} (h : Rc B w) (hb : Below D w w2) (hB : B < D) : Rc B w2 where
  b0 := (hb.cell (p := ⟨B, 0, none⟩) hB).trans h.b0
  b1 := (hb.cell (p := ⟨B, 1, none⟩) hB).trans h.b1
  b2 := (hb.cell (p := ⟨B, 2, none⟩) hB).trans h.b2
  b3 := (hb.cell (p := ⟨B, 3, none⟩) hB).trans h.b3
  b4 := (hb.cell (p := ⟨B, 4, none⟩) hB).trans h.b4
  g0 := (hb.frozen (p := ⟨B, 0, none⟩) hB).trans h.g0
  g1 := (hb.frozen (p := ⟨B, 1, none⟩) hB).trans h.g1
  g2 := (hb.frozen (p := ⟨B, 2, none⟩) hB).trans h.g2
  g3 := (hb.frozen (p := ⟨B, 3, none⟩) hB).trans h.g3
  g4 := (hb.frozen (p := ⟨B, 4, none⟩) hB).trans h.g4

set_option maxHeartbeats 800000 in
set_option maxRecDepth 100000 in
theorem open_yes (e : Int) (w : World) (he : 1 ≤ e ∧ e ≤ 7) : Calls Try.prog 4 #[.int .i64 e] w fun e' w' => e' = .returned (.tuple #[sv e ⟨#[]⟩ M.st0, .int .i64 0]) ∧ Below w.heap.size w w' := by
  have H := fun w => kind_yes e w he
  go_enter Try.func4, Try.ntmps4
  go_wp2_with fail
  refine (H _).mono ?_
  rintro e' w1 ⟨rfl, hb1⟩
  have hR : Rc w.heap.size w1 := Rc.below (w := w.alloc (.cells #[.int .i64 0, .string ⟨#[]⟩, .int .i64 0, .bool false, .bool false] 23)) (by constructor <;> simp [go_sem]) hb1 (by simp)
  obtain ⟨b0, b1, b2, b3, b4, g0, g1, g2, g3, g4⟩ := hR
  have hlt : w.heap.size < w1.heap.size := World.block_lt_of_cell? w1 _ b0
  have HB := hide (bstep (balloc _ _) hb1)
  clear hb1 H
  go_wp2_with fail
  refine bodyPost_ret (v := .tuple #[sv e ⟨#[]⟩ M.st0, .int .i64 0]) (by simp [results, Try.results4, go_sem, b0, b1, b2, b3, b4, sv, M.st0]) rfl ⟨rfl, ?_⟩
  exact bset (bset (bset (bset (bset (unhide HB) ⟨w.heap.size, 0, none⟩ _ (Nat.le_refl _)) ⟨w.heap.size, 1, none⟩ _ (Nat.le_refl _)) ⟨w.heap.size, 2, none⟩ _ (Nat.le_refl _)) ⟨w.heap.size, 3, none⟩ _ (Nat.le_refl _)) ⟨w.heap.size, 4, none⟩ _ (Nat.le_refl _)
set_option maxHeartbeats 800000 in
set_option maxRecDepth 100000 in
theorem open_no (e : Int) (w : World) (he : ¬ (1 ≤ e ∧ e ≤ 7)) : Calls Try.prog 4 #[.int .i64 e] w fun e' w' => e' = .returned (.tuple #[sv 0 ⟨#[]⟩ M.st0, .int .i64 6]) ∧ Below w.heap.size w w' := by
  have H := fun w => kind_no e w he
  go_enter Try.func4, Try.ntmps4
  go_wp2_with fail
  refine (H _).mono ?_
  rintro e' w1 ⟨rfl, hb1⟩
  have hR : Rc w.heap.size w1 := Rc.below (w := w.alloc (.cells #[.int .i64 0, .string ⟨#[]⟩, .int .i64 0, .bool false, .bool false] 23)) (by constructor <;> simp [go_sem]) hb1 (by simp)
  obtain ⟨b0, b1, b2, b3, b4, g0, g1, g2, g3, g4⟩ := hR
  have hlt : w.heap.size < w1.heap.size := World.block_lt_of_cell? w1 _ b0
  have HB := hide (bstep (balloc _ _) hb1)
  clear hb1 H
  go_wp2_with fail
  refine bodyPost_ret (v := .tuple #[sv 0 ⟨#[]⟩ M.st0, .int .i64 6]) (by simp [results, Try.results4, go_sem, b0, b1, b2, b3, b4, sv, M.st0]) rfl ⟨rfl, ?_⟩
  exact bset (bset (bset (bset (bset (unhide HB) ⟨w.heap.size, 0, none⟩ _ (Nat.le_refl _)) ⟨w.heap.size, 1, none⟩ _ (Nat.le_refl _)) ⟨w.heap.size, 2, none⟩ _ (Nat.le_refl _)) ⟨w.heap.size, 3, none⟩ _ (Nat.le_refl _)) ⟨w.heap.size, 4, none⟩ _ (Nat.le_refl _)

theorem feed_all (D : Nat) (e : Int) (r : ByteArray) (t : M.St) (xs : List Int) (p : ByteArray) (w : World) (he : 1 ≤ e ∧ e ≤ 7) (hk : M.Ok e t) (hr : r.size ≤ 3) (hs : p.size ≤ 3000) (hx : xs.length ≤ 10000) (hD : Dl D e r t xs w) :
    Calls Try.prog 11 #[.pointer (some ⟨D, 0, none⟩), .string p] w fun e' w' => e' = .returned (.tuple #[]) ∧ Taken D e t xs (bl r ++ bl p) w w' := by
  by_cases h : p.size ≤ 2997
  · exact feed_short D e r t xs p w he hk.1 hr h hx hD
  · exact feed_great D e r t xs p w he hk hr (by omega) hs hx hD

/-- What Feed answers: what is told, and the state then. -/
def Fed (e : Int) (r : ByteArray) (t : M.St) (p : ByteArray) (last : Bool) (w : World) (e' : Ending) (w' : World) : Prop :=
  ∃ v r' t' L, e' = .returned (.tuple #[v, sv e r' t', .int .i64 0]) ∧ w'.ownsRow w.heap.size 3 1 v L.length (L.map (Value.int .i64)) ∧ Below w.heap.size w w' ∧
    (last = false → L = (M.RE e t (bl r ++ bl p)).1 ∧ bl r' = (M.RE e t (bl r ++ bl p)).2.2 ∧ t' = (M.RE e t (bl r ++ bl p)).2.1) ∧
    (last = true → L = (M.TE e t (bl r ++ bl p)).1 ∧ r' = ⟨#[]⟩ ∧ t' = M.st0)

set_option maxHeartbeats 3000000 in
set_option maxRecDepth 100000 in
theorem feed_more (e : Int) (r : ByteArray) (t : M.St) (p : ByteArray) (w : World) (he : 1 ≤ e ∧ e ≤ 7) (hr : M.wE e (bl r) = r.size ∧ r.size ≤ 3) (hk : M.Ok e t) (hs : p.size ≤ 3000) :
    Calls Try.prog 6 #[sv e r t, .string p, .bool false] w (Fed e r t p false w) := by
  have HC := fun w => check_any e r t w (by unfold maxLen; omega)
  rw [chk_ok.2 ⟨he, hr, hk⟩] at HC
  have hr3 := hr.2
  clear hr
  unfold sv at *
  go_enter Try.func6, Try.ntmps6
  go_wp2_with fail
  refine (HC _).mono ?_
  rintro e' w1 ⟨rfl, hb1⟩
  have HR1 : Hid (Rc (w.heap.size + 1) w1) := hide (Rc.below (w := (w.alloc (.cells #[.int .i64 e, .string r, .int .i64 t.1, .bool t.2.1, .bool t.2.2] 23)).alloc (.cells #[.int .i64 0, .string ⟨#[]⟩, .int .i64 0, .bool false, .bool false] 23)) (by constructor <;> simp [go_sem]) hb1 (by simp))
  have a0 : w1.cell? ⟨w.heap.size, 0, none⟩ = some (.int .i64 e) := (hb1.cell (p := ⟨w.heap.size, 0, none⟩) (by simp; omega)).trans (by simp [go_sem])
  have a1 : w1.cell? ⟨w.heap.size, 1, none⟩ = some (.string r) := (hb1.cell (p := ⟨w.heap.size, 1, none⟩) (by simp; omega)).trans (by simp [go_sem])
  have a2 : w1.cell? ⟨w.heap.size, 2, none⟩ = some (.int .i64 t.1) := (hb1.cell (p := ⟨w.heap.size, 2, none⟩) (by simp; omega)).trans (by simp [go_sem])
  have a3 : w1.cell? ⟨w.heap.size, 3, none⟩ = some (.bool t.2.1) := (hb1.cell (p := ⟨w.heap.size, 3, none⟩) (by simp; omega)).trans (by simp [go_sem])
  have a4 : w1.cell? ⟨w.heap.size, 4, none⟩ = some (.bool t.2.2) := (hb1.cell (p := ⟨w.heap.size, 4, none⟩) (by simp; omega)).trans (by simp [go_sem])
  have HB1 := hide (bstep (bstep (balloc _ _) (balloc _ _)) hb1)
  have hz1 : w.heap.size + 2 ≤ w1.heap.size := by have := hb1.size; simp at this; omega
  have hlt0 : w.heap.size < w1.heap.size := by omega
  clear hb1 HC
  go_wp2_with fail
  have HDl : Hid (Dl w1.heap.size e r t [] (w1.alloc (.cells #[.int .i64 e, .string r, .int .i64 t.1, .bool t.2.1, .bool t.2.2, .slice none 0 0] 38))) := hide ⟨.slice none 0 0, by constructor <;> simp [go_sem], World.ownsRow_nil _ _ _ _⟩
  refine (feed_all w1.heap.size e r t [] p _ he hk hr3 hs (by simp) (unhide HDl)).mono ?_
  rintro e' w2 ⟨rfl, r2, hr2, hD2, hB2⟩
  rw [List.nil_append] at hD2
  have HR2 := hide (((unhide HR1).below (balloc w1 (.cells #[.int .i64 e, .string r, .int .i64 t.1, .bool t.2.1, .bool t.2.2, .slice none 0 0] 38)) (by omega)).below hB2 (by omega))
  have HB2 := hide ((bstep (unhide HB1) (balloc w1 (.cells #[.int .i64 e, .string r, .int .i64 t.1, .bool t.2.1, .bool t.2.2, .slice none 0 0] 38))).trans (hB2.mono (by omega)))
  have HFew := hide (M.RE_few he t (bl r ++ bl p))
  have HOut := hide (M.RE_out he t (bl r ++ bl p))
  have HOk := hide (M.Ok_run he hk (bl r ++ bl p))
  have hlen : (bl r ++ bl p).length ≤ 3003 := by rw [List.length_append, bl_len, bl_len]; omega
  have HTE := hide (M.TE_run e t (bl r ++ bl p))
  have HDX := hide hD2
  have HRX := HR2
  have HBX := HB2
  have HL : Hid ((M.RE e t (bl r ++ bl p)).1 = (M.RE e t (bl r ++ bl p)).1) := hide rfl
  have HR' := hide hr2
  have HT' : Hid ((M.RE e t (bl r ++ bl p)).2.1 = (M.RE e t (bl r ++ bl p)).2.1) := hide rfl
  obtain ⟨D, hDD⟩ : ∃ D, w1.heap.size = D := ⟨_, rfl⟩
  rw [hDD] at hz1 hlt0 HDX
  clear hB2 HDl HOut HOk HFew HTE hD2 hr2
  generalize hL0 : (M.RE e t (bl r ++ bl p)).1 = L at HDX HL
  generalize hT0 : (M.RE e t (bl r ++ bl p)).2.1 = t2 at HDX HT'
  have HL0 := hide hL0
  have HT0 := hide hT0
  clear hL0 hT0
  obtain ⟨vv, hCx, hox⟩ := unhide HDX
  obtain ⟨ax, cx, hsx⟩ := owns_shape hox
  subst hsx
  have HIX := hide hox
  obtain ⟨d0, d1, d2, d3, d4, d5, k0, k1, k2, k3, k4, k5⟩ := hCx
  obtain ⟨b0, b1, b2, b3, b4, g0, g1, g2, g3, g4⟩ := unhide HRX
  have hDX : D < w2.heap.size := World.block_lt_of_cell? w2 _ d0
  have hBX : w.heap.size + 1 < w2.heap.size := by omega
  have hne : ¬ (w.heap.size + 1 = D) := by omega
  have hne' : ¬ (D = w.heap.size + 1) := by omega
  clear hox
  go_wp2_with fail
  go_region
  all_goals
    go_wp2_with fail
    refine bodyPost_ret (v := .tuple #[.slice ax L.length cx, .agg #[.int .i64 e, .string r2, .int .i64 t2.1, .bool t2.2.1, .bool t2.2.2], .int .i64 0]) (by simp [results, Try.results6, go_sem, b0, b1, b2, b3, b4]) rfl ?_
    refine ⟨.slice ax L.length cx, r2, t2, L, rfl, ?_, ?_, ?_, ?_⟩
    · exact owns_below (owns_mono (owns_set (owns_set (owns_set (owns_set (owns_set (unhide HIX) ⟨w.heap.size + 1, 0, none⟩ (by simp; omega) _) ⟨w.heap.size + 1, 1, none⟩ (by simp; omega) _) ⟨w.heap.size + 1, 2, none⟩ (by simp; omega) _) ⟨w.heap.size + 1, 3, none⟩ (by simp; omega) _) ⟨w.heap.size + 1, 4, none⟩ (by simp; omega) _) (by omega)) (below_drewN (Below.refl _ _) 1)
    · exact below_drewN (bset (bset (bset (bset (bset (unhide HBX) ⟨w.heap.size + 1, 0, none⟩ _ (by simp)) ⟨w.heap.size + 1, 1, none⟩ _ (by simp)) ⟨w.heap.size + 1, 2, none⟩ _ (by simp)) ⟨w.heap.size + 1, 3, none⟩ _ (by simp)) ⟨w.heap.size + 1, 4, none⟩ _ (by simp)) 1
    · intro _; exact ⟨(unhide HL0).symm, unhide HR', (unhide HT0).symm⟩
    · intro h; cases h

set_option maxHeartbeats 3000000 in
set_option maxRecDepth 100000 in
theorem feed_last (e : Int) (r : ByteArray) (t : M.St) (p : ByteArray) (w : World) (he : 1 ≤ e ∧ e ≤ 7) (hr : M.wE e (bl r) = r.size ∧ r.size ≤ 3) (hk : M.Ok e t) (hs : p.size ≤ 3000) :
    Calls Try.prog 6 #[sv e r t, .string p, .bool true] w (Fed e r t p true w) := by
  have HC := fun w => check_any e r t w (by unfold maxLen; omega)
  rw [chk_ok.2 ⟨he, hr, hk⟩] at HC
  have hr3 := hr.2
  clear hr
  unfold sv at *
  go_enter Try.func6, Try.ntmps6
  go_wp2_with fail
  refine (HC _).mono ?_
  rintro e' w1 ⟨rfl, hb1⟩
  have HR1 : Hid (Rc (w.heap.size + 1) w1) := hide (Rc.below (w := (w.alloc (.cells #[.int .i64 e, .string r, .int .i64 t.1, .bool t.2.1, .bool t.2.2] 23)).alloc (.cells #[.int .i64 0, .string ⟨#[]⟩, .int .i64 0, .bool false, .bool false] 23)) (by constructor <;> simp [go_sem]) hb1 (by simp))
  have a0 : w1.cell? ⟨w.heap.size, 0, none⟩ = some (.int .i64 e) := (hb1.cell (p := ⟨w.heap.size, 0, none⟩) (by simp; omega)).trans (by simp [go_sem])
  have a1 : w1.cell? ⟨w.heap.size, 1, none⟩ = some (.string r) := (hb1.cell (p := ⟨w.heap.size, 1, none⟩) (by simp; omega)).trans (by simp [go_sem])
  have a2 : w1.cell? ⟨w.heap.size, 2, none⟩ = some (.int .i64 t.1) := (hb1.cell (p := ⟨w.heap.size, 2, none⟩) (by simp; omega)).trans (by simp [go_sem])
  have a3 : w1.cell? ⟨w.heap.size, 3, none⟩ = some (.bool t.2.1) := (hb1.cell (p := ⟨w.heap.size, 3, none⟩) (by simp; omega)).trans (by simp [go_sem])
  have a4 : w1.cell? ⟨w.heap.size, 4, none⟩ = some (.bool t.2.2) := (hb1.cell (p := ⟨w.heap.size, 4, none⟩) (by simp; omega)).trans (by simp [go_sem])
  have HB1 := hide (bstep (bstep (balloc _ _) (balloc _ _)) hb1)
  have hz1 : w.heap.size + 2 ≤ w1.heap.size := by have := hb1.size; simp at this; omega
  have hlt0 : w.heap.size < w1.heap.size := by omega
  clear hb1 HC
  go_wp2_with fail
  have HDl : Hid (Dl w1.heap.size e r t [] (w1.alloc (.cells #[.int .i64 e, .string r, .int .i64 t.1, .bool t.2.1, .bool t.2.2, .slice none 0 0] 38))) := hide ⟨.slice none 0 0, by constructor <;> simp [go_sem], World.ownsRow_nil _ _ _ _⟩
  refine (feed_all w1.heap.size e r t [] p _ he hk hr3 hs (by simp) (unhide HDl)).mono ?_
  rintro e' w2 ⟨rfl, r2, hr2, hD2, hB2⟩
  rw [List.nil_append] at hD2
  have HR2 := hide (((unhide HR1).below (balloc w1 (.cells #[.int .i64 e, .string r, .int .i64 t.1, .bool t.2.1, .bool t.2.2, .slice none 0 0] 38)) (by omega)).below hB2 (by omega))
  have HB2 := hide ((bstep (unhide HB1) (balloc w1 (.cells #[.int .i64 e, .string r, .int .i64 t.1, .bool t.2.1, .bool t.2.2, .slice none 0 0] 38))).trans (hB2.mono (by omega)))
  have HFew := hide (M.RE_few he t (bl r ++ bl p))
  have HOut := hide (M.RE_out he t (bl r ++ bl p))
  have HOk := hide (M.Ok_run he hk (bl r ++ bl p))
  have hlen : (bl r ++ bl p).length ≤ 3003 := by rw [List.length_append, bl_len, bl_len]; omega
  have HTE := hide (M.TE_run e t (bl r ++ bl p))
  have hr23 : r2.size ≤ 3 := by rw [← bl_len, hr2]; exact unhide HFew
  have HE := end_any w1.heap.size e r2 _ _ w2 he (unhide HOk).1 hr23 (by have := unhide HOut; omega) hD2
  have HL : Hid ((M.RE e t (bl r ++ bl p)).1 ++ (M.TE e (M.RE e t (bl r ++ bl p)).2.1 (bl r2)).1 = (M.TE e t (bl r ++ bl p)).1) := hide (by rw [hr2, unhide HTE])
  generalize (M.RE e t (bl r ++ bl p)).1 ++ (M.TE e (M.RE e t (bl r ++ bl p)).2.1 (bl r2)).1 = L at *
  have hD2c := hD2
  obtain ⟨v2, hC2, ho2⟩ := hD2c
  obtain ⟨m0, m1, m2, m3, m4, m5, n0, n1, n2, n3, n4, n5⟩ := hC2
  clear hB2 ho2 HDl HOut HOk HFew HTE
  obtain ⟨D, hDD⟩ : ∃ D, w1.heap.size = D := ⟨_, rfl⟩
  rw [hDD] at hz1 hlt0 HE
  go_wp2_with fail
  refine HE.mono ?_
  rintro e' w3 ⟨rfl, hD3, hB3⟩
  have HDX := hide hD3
  have HRX := hide ((unhide HR2).below hB3 (by omega))
  have HBX := hide ((unhide HB2).trans (hB3.mono (by omega)))
  clear HE hD3 hB3 hD2
  obtain ⟨vv, hCx, hox⟩ := unhide HDX
  obtain ⟨ax, cx, hsx⟩ := owns_shape hox
  subst hsx
  have HIX := hide hox
  obtain ⟨d0, d1, d2, d3, d4, d5, k0, k1, k2, k3, k4, k5⟩ := hCx
  obtain ⟨b0, b1, b2, b3, b4, g0, g1, g2, g3, g4⟩ := unhide HRX
  have hDX : D < w3.heap.size := World.block_lt_of_cell? w3 _ d0
  have hBX : w.heap.size + 1 < w3.heap.size := by omega
  have hne : ¬ (w.heap.size + 1 = D) := by omega
  have hne' : ¬ (D = w.heap.size + 1) := by omega
  clear hox
  go_wp2_with fail
  go_region
  all_goals
    go_wp2_with fail
    refine bodyPost_ret (v := .tuple #[.slice ax L.length cx, .agg #[.int .i64 e, .string ⟨#[]⟩, .int .i64 M.st0.1, .bool M.st0.2.1, .bool M.st0.2.2], .int .i64 0]) (by simp [results, Try.results6, go_sem, b0, b1, b2, b3, b4]) rfl ?_
    refine ⟨.slice ax L.length cx, ⟨#[]⟩, M.st0, L, rfl, ?_, ?_, ?_, ?_⟩
    · exact owns_below (owns_mono (owns_set (owns_set (owns_set (owns_set (owns_set (unhide HIX) ⟨w.heap.size + 1, 0, none⟩ (by simp; omega) _) ⟨w.heap.size + 1, 1, none⟩ (by simp; omega) _) ⟨w.heap.size + 1, 2, none⟩ (by simp; omega) _) ⟨w.heap.size + 1, 3, none⟩ (by simp; omega) _) ⟨w.heap.size + 1, 4, none⟩ (by simp; omega) _) (by omega)) (below_drewN (Below.refl _ _) 1)
    · exact below_drewN (bset (bset (bset (bset (bset (unhide HBX) ⟨w.heap.size + 1, 0, none⟩ _ (by simp)) ⟨w.heap.size + 1, 1, none⟩ _ (by simp)) ⟨w.heap.size + 1, 2, none⟩ _ (by simp)) ⟨w.heap.size + 1, 3, none⟩ _ (by simp)) ⟨w.heap.size + 1, 4, none⟩ _ (by simp)) 1
    · intro h; cases h
    · intro _; exact ⟨unhide HL, rfl, rfl⟩
end Go.Proofs.Ytpjhcecfcjbgoaa
