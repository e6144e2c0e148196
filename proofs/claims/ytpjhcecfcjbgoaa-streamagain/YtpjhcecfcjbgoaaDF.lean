/- States in memory, and the contract of cartouchelaw.streamBegun: it is true; nothing that was there is written. -/
import Derived.Test.YtpjhcecfcjbgoaaDE
namespace Go.Proofs.Ytpjhcecfcjbgoaa
open Go.RowKit
set_option linter.unusedVariables false

theorem bl_inj {r : ByteArray} {xs : List Int} (h : bl r = xs) : r = strOfNums xs := by rw [← h, str_bl]
/-- A state in memory. -/
structure Sc (B : Nat) (e : Int) (r : ByteArray) (t : M.St) (w : World) : Prop where
  c0 : w.cell? ⟨B, 0, none⟩ = some (.int .i64 e)
  c1 : w.cell? ⟨B, 1, none⟩ = some (.string r)
  c2 : w.cell? ⟨B, 2, none⟩ = some (.int .i64 t.1)
  c3 : w.cell? ⟨B, 3, none⟩ = some (.bool t.2.1)
  c4 : w.cell? ⟨B, 4, none⟩ = some (.bool t.2.2)
  f0 : w.frozen? ⟨B, 0, none⟩ = false
  f1 : w.frozen? ⟨B, 1, none⟩ = false
  f2 : w.frozen? ⟨B, 2, none⟩ = false
  f3 : w.frozen? ⟨B, 3, none⟩ = false
  f4 : w.frozen? ⟨B, 4, none⟩ = false
theorem Sc.below {B D : Nat} {e : Int} {r : ByteArray} {t : M.St} {w w2 : World} (h : Sc B e r t w) (hb : Below D w w2) (hB : B < D) : Sc B e r t w2 where
  c0 := (hb.cell (p := ⟨B, 0, none⟩) hB).trans h.c0
  c1 := (hb.cell (p := ⟨B, 1, none⟩) hB).trans h.c1
  c2 := (hb.cell (p := ⟨B, 2, none⟩) hB).trans h.c2
  c3 := (hb.cell (p := ⟨B, 3, none⟩) hB).trans h.c3
  c4 := (hb.cell (p := ⟨B, 4, none⟩) hB).trans h.c4
  f0 := (hb.frozen (p := ⟨B, 0, none⟩) hB).trans h.f0
  f1 := (hb.frozen (p := ⟨B, 1, none⟩) hB).trans h.f1
  f2 := (hb.frozen (p := ⟨B, 2, none⟩) hB).trans h.f2
  f3 := (hb.frozen (p := ⟨B, 3, none⟩) hB).trans h.f3
  f4 := (hb.frozen (p := ⟨B, 4, none⟩) hB).trans h.f4
theorem Sc.lt {B : Nat} {e : Int} {r : ByteArray} {t : M.St} {w : World} (h : Sc B e r t w) : B < w.heap.size := World.block_lt_of_cell? w _ h.c0
theorem Sc.on {B : Nat} {e : Int} {r : ByteArray} {t : M.St} {w w2 : World} (h : Sc B e r t w) (hb : Below w.heap.size w w2) : Sc B e r t w2 := h.below hb h.lt
theorem Sc.new (w : World) (e : Int) (r : ByteArray) (t : M.St) : Sc w.heap.size e r t (w.alloc (.cells #[.int .i64 e, .string r, .int .i64 t.1, .bool t.2.1, .bool t.2.2] 23)) := by constructor <;> simp [go_sem]
theorem Sc.put {B : Nat} {w : World} (h : Rc B w) (e : Int) (r : ByteArray) (t : M.St) : Sc B e r t (((((w.setCell ⟨B, 0, none⟩ (.int .i64 e)).setCell ⟨B, 1, none⟩ (.string r)).setCell ⟨B, 2, none⟩ (.int .i64 t.1)).setCell ⟨B, 3, none⟩ (.bool t.2.1)).setCell ⟨B, 4, none⟩ (.bool t.2.2)) := by
  obtain ⟨b0, b1, b2, b3, b4, g0, g1, g2, g3, g4⟩ := h
  constructor <;> simp [go_sem, b0, b1, b2, b3, b4, g0, g1, g2, g3, g4]
theorem Sc.rc {B : Nat} {w : World} {r : ByteArray} {e : Int} {t : M.St} (h : Sc B e r t w) (e2 : Int) (r2 : ByteArray) (t2 : M.St) : Sc B e2 r2 t2 (((((w.setCell ⟨B, 0, none⟩ (.int .i64 e2)).setCell ⟨B, 1, none⟩ (.string r2)).setCell ⟨B, 2, none⟩ (.int .i64 t2.1)).setCell ⟨B, 3, none⟩ (.bool t2.2.1)).setCell ⟨B, 4, none⟩ (.bool t2.2.2)) := by
  obtain ⟨b0, b1, b2, b3, b4, g0, g1, g2, g3, g4⟩ := h
  constructor <;> simp [go_sem, b0, b1, b2, b3, b4, g0, g1, g2, g3, g4]
theorem bset5 {B D : Nat} {w0 w : World} {e : Int} {r : ByteArray} {t : M.St} (h : Below D w0 w) (hB : D ≤ B) : Below D w0 (((((w.setCell ⟨B, 0, none⟩ (.int .i64 e)).setCell ⟨B, 1, none⟩ (.string r)).setCell ⟨B, 2, none⟩ (.int .i64 t.1)).setCell ⟨B, 3, none⟩ (.bool t.2.1)).setCell ⟨B, 4, none⟩ (.bool t.2.2)) := (bset (bset (bset (bset (bset h ⟨B, 0, none⟩ _ hB) ⟨B, 1, none⟩ _ hB) ⟨B, 2, none⟩ _ hB) ⟨B, 3, none⟩ _ hB) ⟨B, 4, none⟩ _ hB)
theorem oset5 {B D : Nat} {w : World} {e : Int} {r : ByteArray} {t : M.St} {v : Value} {n : Nat} {xs : List Value} (h : w.ownsRow D 3 1 v n xs) (hB : B < D) : (((((w.setCell ⟨B, 0, none⟩ (.int .i64 e)).setCell ⟨B, 1, none⟩ (.string r)).setCell ⟨B, 2, none⟩ (.int .i64 t.1)).setCell ⟨B, 3, none⟩ (.bool t.2.1)).setCell ⟨B, 4, none⟩ (.bool t.2.2)).ownsRow D 3 1 v n xs := (owns_set (owns_set (owns_set (owns_set (owns_set h ⟨B, 0, none⟩ hB _) ⟨B, 1, none⟩ hB _) ⟨B, 2, none⟩ hB _) ⟨B, 3, none⟩ hB _) ⟨B, 4, none⟩ hB _)
def s1 : ByteArray := ⟨#[97, 226, 130]⟩
def s2 : ByteArray := ⟨#[172, 226]⟩
def s3 : ByteArray := ⟨#[120, 121, 122]⟩
def s4 : ByteArray := ⟨#[226, 130]⟩
theorem re_b : M.RE 1 M.st0 (bl ⟨#[]⟩ ++ bl s1) = ([97], M.st0, [226, 130]) := by decide +kernel
theorem te_b : (M.TE 1 M.st0 (bl s4 ++ bl s2)).1 = [8364, 65533] := by decide +kernel
theorem de_b : M.decE 7 (bl s3) = [65533] := by decide +kernel
theorem ck_b : chk 1 s4 M.st0 = 0 := by decide +kernel

set_option maxHeartbeats 3000000 in
set_option maxRecDepth 100000 in
theorem begunT_any (w : World) : Calls Try.prog 5 #[] w fun e w' => e = .returned (.bool true) ∧ Below w.heap.size w w' := by
  go_enter Try.func5, Try.ntmps5
  go_wp2_with fail
  refine (open_yes 1 _ (by omega)).mono ?_
  rintro e w1 ⟨rfl, hb1⟩
  have HB1 := hide hb1
  clear hb1
  unfold sv M.st0
  go_wp2_with fail
  refine (feed_more 1 ⟨#[]⟩ M.st0 s1 _ (by omega) ⟨by decide +kernel, by decide⟩ (M.Ok_st0 1) (by decide)).mono ?_
  rintro e w2 ⟨v2, r2, t2, L2, rfl, hI2, hb2, h1, -⟩
  obtain ⟨e1, e2, e3⟩ := h1 rfl
  rw [re_b] at e1 e2 e3
  have e2' : r2 = s4 := bl_inj e2
  subst e1 e2' e3
  obtain ⟨a2, c2, hs2⟩ := owns_shape hI2
  subst hs2
  have HI2 := hide (Ints.of_owns hI2)
  have HO2 := hide ((Sc.new w1 1 ⟨#[]⟩ M.st0).on hb2)
  have HB2 := hide (bstep (unhide HB1) (bstep (balloc w1 (.cells #[.int .i64 1, .string ⟨#[]⟩, .int .i64 0, .bool false, .bool false] 23)) hb2))
  clear hI2 hb2 h1 e2 HB1
  unfold sv M.st0 s4
  go_wp2_with fail
  refine (feed_last 1 s4 M.st0 s2 _ (by omega) ⟨by decide +kernel, by decide⟩ (M.Ok_st0 1) (by decide)).mono ?_
  rintro e w3 ⟨v3, r3, t3, L3, rfl, hI3, hb3, -, h1⟩
  obtain ⟨e1, e2, e3⟩ := h1 rfl
  rw [te_b] at e1
  subst e1 e2 e3
  obtain ⟨a3, c3, hs3⟩ := owns_shape hI3
  subst hs3
  have hst := bstep (balloc w2 (.cells #[.int .i64 1, .string s4, .int .i64 0, .bool false, .bool false] 23)) hb3
  have HI3 := hide (Ints.of_owns hI3)
  have HT3 := hide ((Sc.new w2 1 s4 M.st0).on hb3)
  have HO3 := hide ((unhide HO2).on hst)
  have HI23 := hide ((unhide HI2).below hst)
  have HB3 := hide (bstep (unhide HB2) hst)
  clear hI3 hb3 h1 hst HO2 HI2 HB2
  unfold sv M.st0
  go_wp2_with fail
  refine (sdecode_any 7 s3 _ (by omega) (by decide)).mono ?_
  rintro e w4 ⟨v4, rfl, hI4, hb4⟩
  rw [de_b] at hI4
  obtain ⟨a4, c4, hs4, -⟩ := id hI4
  subst hs4
  have hst := bstep (balloc w3 (.cells #[.int .i64 1, .string ⟨#[]⟩, .int .i64 0, .bool false, .bool false] 23)) hb4
  have HI4 := hide hI4
  have HU4 := hide ((Sc.new w3 1 ⟨#[]⟩ M.st0).on hb4)
  have HT4 := hide ((unhide HT3).on hst)
  have HO4 := hide ((unhide HO3).on hst)
  have HI24 := hide ((unhide HI23).below hst)
  have HI34 := hide ((unhide HI3).below hst)
  have HB4 := hide (bstep (unhide HB3) hst)
  clear hI4 hb4 hst HT3 HO3 HI23 HI3 HB3
  obtain ⟨p0, p1, p2, p3, p4, -, -, -, -, -⟩ := unhide HT4
  have hp := (unhide HT4).lt
  unfold M.st0 at p2 p3 p4
  unfold s4 at p1
  go_wp2_with fail
  refine (check_any 1 s4 M.st0 _ (by decide)).mono ?_
  rintro e w5 ⟨rfl, hb5⟩
  rw [ck_b]
  have HI45 := hide ((unhide HI4).below hb5)
  have HU5 := hide ((unhide HU4).on hb5)
  have HT5 := hide ((unhide HT4).on hb5)
  have HO5 := hide ((unhide HO4).on hb5)
  have HI25 := hide ((unhide HI24).below hb5)
  have HI35 := hide ((unhide HI34).below hb5)
  have HB5 := hide (bstep (unhide HB4) hb5)
  clear hb5 p0 p1 p2 p3 p4 hp HU4 HT4 HO4 HI24 HI34 HB4 HI4
  go_wp2_with fail
  refine (same_any _ ((unhide HI25).below (balloc _ _)) (one_int _ _)).mono ?_
  rintro e w6 ⟨rfl, hb6⟩
  rw [show ([97] == ([97] : List Int)) = true from by decide]
  have hst := bstep (balloc w5 (.cells #[.int .i64 97] 3)) hb6
  have HI46 := hide ((unhide HI45).below hst)
  have HU6 := hide ((unhide HU5).on hst)
  have HT6 := hide ((unhide HT5).on hst)
  have HO6 := hide ((unhide HO5).on hst)
  have HI36 := hide ((unhide HI35).below hst)
  have HB6 := hide (bstep (unhide HB5) hst)
  clear hb6 hst HU5 HT5 HO5 HI25 HI35 HB5 HI45
  obtain ⟨p0, p1, p2, p3, p4, -, -, -, -, -⟩ := unhide HT6
  have hp := (unhide HT6).lt
  unfold s4 at p1
  go_wp2_with fail
  refine (same_any _ ((unhide HI36).below (balloc _ _)) (two_ints _ _ _)).mono ?_
  rintro e w7 ⟨rfl, hb7⟩
  rw [show ([8364, 65533] == ([8364, 65533] : List Int)) = true from by decide]
  have hst := bstep (balloc w6 (.cells #[.int .i64 8364, .int .i64 65533] 3)) hb7
  have HI47 := hide ((unhide HI46).below hst)
  have HU7 := hide ((unhide HU6).on hst)
  have HO7 := hide ((unhide HO6).on hst)
  have HB7 := hide (bstep (unhide HB6) hst)
  clear hb7 hst HU6 HT6 HO6 HI36 HB6 HI46 p0 p1 p2 p3 p4 hp
  obtain ⟨p0, p1, p2, p3, p4, -, -, -, -, -⟩ := unhide HU7
  have hp := (unhide HU7).lt
  obtain ⟨q0, q1, q2, q3, q4, -, -, -, -, -⟩ := unhide HO7
  have hq := (unhide HO7).lt
  unfold M.st0 at p2 p3 p4 q2 q3 q4
  go_wp2_with fail
  refine (same_any _ ((unhide HI47).below (balloc _ _)) (one_int _ _)).mono ?_
  rintro e w8 ⟨rfl, hb8⟩
  rw [show ([65533] == ([65533] : List Int)) = true from by decide]
  have HB8 := hide (bstep (unhide HB7) (bstep (balloc w7 (.cells #[.int .i64 65533] 3)) hb8))
  clear hb8
  go_wp2_with fail
  go_ret
  exact ⟨rfl, unhide HB8⟩
end Go.Proofs.Ytpjhcecfcjbgoaa
