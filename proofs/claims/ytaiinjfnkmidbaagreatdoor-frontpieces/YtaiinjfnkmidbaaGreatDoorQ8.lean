/- Laws that the statements of this seat lean on, part 8 (CK6 FC6 FD6 FT6 DG6 FG6 MathZ5 PW SF CLS MB LM EA MathG EB EC SB SC ED): each a contract of a function, or a plain fact; conditions stand at each. -/
import Derived.Deep.CutRange
import Derived.Deep.RegionHeld3
import Derived.Laws.IdiomStrings
import Derived.Maps.Own
import Derived.Maps.OwnOps
import Derived.Maps.OwnSet
import Derived.Maps.Views
import Derived.Test.YtaiinjfnkmidbaaGreatDoorQ7
namespace Go.Proofs.YtaiinjfnkmidbaaGreatDoor
open Go.RowKit
set_option linter.unusedVariables false

set_option maxHeartbeats 400000 in
set_option maxRecDepth 100000 in
theorem fenc_yes (n : Int) (w : World) (hn : 1 ≤ n ∧ n ≤ 7) : Calls Tryz.prog 58 #[.int .i64 n] w fun e w' => e = .returned (.bool true) ∧ Below w.heap.size w w' := by
  have HO := hide (fun w => open_yes n w hn)
  unfold sv at HO
  clear hn
  go_enter Tryz.func58, Tryz.ntmps58
  go_wp2_with fail
  refine (unhide HO _).mono ?_
  rintro e w1 ⟨rfl, hb1⟩
  have HB1 := hide hb1
  clear hb1
  go_wp2_with fail
  go_ret
  exact ⟨rfl, bstep (unhide HB1) (balloc _ _)⟩
set_option maxHeartbeats 400000 in
set_option maxRecDepth 100000 in
theorem fenc_no (n : Int) (w : World) (hn : ¬ (1 ≤ n ∧ n ≤ 7)) : Calls Tryz.prog 58 #[.int .i64 n] w fun e w' => e = .returned (.bool false) ∧ Below w.heap.size w w' := by
  have HO := hide (fun w => open_no n w hn)
  unfold sv at HO
  clear hn
  go_enter Tryz.func58, Tryz.ntmps58
  go_wp2_with fail
  refine (unhide HO _).mono ?_
  rintro e w1 ⟨rfl, hb1⟩
  have HB1 := hide hb1
  clear hb1
  go_wp2_with fail
  go_ret
  exact ⟨rfl, bstep (unhide HB1) (balloc _ _)⟩
set_option maxHeartbeats 1600000 in
set_option maxRecDepth 100000 in
theorem cw_s1 (L : ByteArray) (enc why : Int) (W : ByteArray) (e : Int) (r : ByteArray) (g : Int) (fr st : Bool) (w : World) (h : ¬ (e = 0 ∧ r.size = 0 ∧ (g, fr, st) = M.st0)) :
    Calls Tryz.prog 59 #[.agg #[.string L, .int .i64 enc, .int .i64 why, .string W, .int .i64 e, .string r, .int .i64 g, .bool fr, .bool st]] w fun e' w' => e' = .returned (.int .i64 1) ∧ Below w.heap.size w w' := by
  have hre := empty_eq r
  have HH := hide h
  clear h
  go_enter Tryz.func59, Tryz.ntmps59
  go_wp2_with fail
  all_goals first
    | (go_ret; exact ⟨rfl, balloc _ _⟩)
    | (exfalso
       apply unhide HH
       have hr' : r = ByteArray.empty := by assumption
       have he' : e = 0 := by assumption
       have hg' : g = 0 := by assumption
       have hf' : ¬ fr = true := by assumption
       have hs' : ¬ st = true := by assumption
       refine ⟨he', by rw [hr']; rfl, ?_⟩
       rw [hg', show fr = false from by simpa using hf', show st = false from by simpa using hs']
       rfl)
set_option maxHeartbeats 1600000 in
set_option maxRecDepth 100000 in
theorem cw_s2 (L W : ByteArray) (w : World) (h0 : L.size ≤ 3000) (h1 : W.size ≤ 3000) :
    Calls Tryz.prog 59 #[.agg #[.string L, .int .i64 0, .int .i64 0, .string W, .int .i64 0, .string ⟨#[]⟩, .int .i64 0, .bool false, .bool false]] w fun e' w' => e' = .returned (.int .i64 (if enF L (bl W) = true then 4 else 0)) ∧ Below w.heap.size w w' := by
  have HEn := hide (fun w => enough_any L W w h0 (by unfold maxLen; omega))
  generalize enF L (bl W) = q at *
  go_enter Tryz.func59, Tryz.ntmps59
  go_wp2_with fail
  refine (unhide HEn _).mono ?_
  rintro e' w2 ⟨rfl, hb2⟩
  have HB2 := hide (bstep (balloc _ _) hb2)
  clear hb2
  cases q
  · go_wp2_with fail
    go_ret
    exact ⟨rfl, unhide HB2⟩
  · go_wp2_with fail
    go_ret
    exact ⟨rfl, unhide HB2⟩
theorem cells9 (w w1 : World) (L : ByteArray) (enc why : Int) (W : ByteArray) (e : Int) (r : ByteArray) (g : Int) (fr st : Bool) (hb : Below (w.alloc (.cells #[.string L, .int .i64 enc, .int .i64 why, .string W, .int .i64 e, .string r, .int .i64 g, .bool fr, .bool st] 25)).heap.size (w.alloc (.cells #[.string L, .int .i64 enc, .int .i64 why, .string W, .int .i64 e, .string r, .int .i64 g, .bool fr, .bool st] 25)) w1) :
    w1.cell? ⟨w.heap.size, 0, none⟩ = some (.string L) ∧ w1.cell? ⟨w.heap.size, 1, none⟩ = some (.int .i64 enc) ∧ w1.cell? ⟨w.heap.size, 2, none⟩ = some (.int .i64 why) ∧ w1.cell? ⟨w.heap.size, 3, none⟩ = some (.string W) ∧ w1.cell? ⟨w.heap.size, 4, none⟩ = some (.int .i64 e) ∧ w1.cell? ⟨w.heap.size, 5, none⟩ = some (.string r) ∧ w1.cell? ⟨w.heap.size, 6, none⟩ = some (.int .i64 g) ∧ w1.cell? ⟨w.heap.size, 7, none⟩ = some (.bool fr) ∧ w1.cell? ⟨w.heap.size, 8, none⟩ = some (.bool st) := by
  have h := (Fb.new w ⟨L, enc, why, W, e, r, (g, fr, st)⟩).on hb
  exact ⟨h.c0, h.c1, h.c2, h.c3, h.c4, h.c5, h.c6, h.c7, h.c8⟩
set_option maxHeartbeats 1600000 in
set_option maxRecDepth 100000 in
theorem ck_L (L : ByteArray) (enc why : Int) (W : ByteArray) (e : Int) (r : ByteArray) (g : Int) (fr st : Bool) (w : World) (hL : L.size ≤ maxLen) (hW : W.size ≤ maxLen) (hr : r.size ≤ maxLen) (h : 3000 < L.size) :
    Calls Tryz.prog 20 #[.agg #[.string L, .int .i64 enc, .int .i64 why, .string W, .int .i64 e, .string r, .int .i64 g, .bool fr, .bool st]] w fun e' w' => e' = .returned (.int .i64 (chkF L enc why W e r (g, fr, st))) ∧ Below w.heap.size w w' := by
  have HR : Hid (chkF L enc why W e r (g, fr, st) = 2) := hide (by
    unfold chkF Fr.chk
    simp only
    rw [if_pos (.inl h)])
  unfold maxLen at hL hW hr
  go_enter Tryz.func20, Tryz.ntmps20
  go_wp2_with fail
  go_ret
  exact ⟨ret_int (unhide HR).symm, balloc _ _⟩
set_option maxHeartbeats 1600000 in
set_option maxRecDepth 100000 in
theorem ck_W (L : ByteArray) (enc why : Int) (W : ByteArray) (e : Int) (r : ByteArray) (g : Int) (fr st : Bool) (w : World) (hL : L.size ≤ maxLen) (hW : W.size ≤ maxLen) (hr : r.size ≤ maxLen) (h0 : L.size ≤ 3000) (h : 3000 < W.size) :
    Calls Tryz.prog 20 #[.agg #[.string L, .int .i64 enc, .int .i64 why, .string W, .int .i64 e, .string r, .int .i64 g, .bool fr, .bool st]] w fun e' w' => e' = .returned (.int .i64 (chkF L enc why W e r (g, fr, st))) ∧ Below w.heap.size w w' := by
  have HR : Hid (chkF L enc why W e r (g, fr, st) = 2) := hide (by
    unfold chkF Fr.chk
    simp only
    rw [if_pos (.inr h)])
  unfold maxLen at hL hW hr
  go_enter Tryz.func20, Tryz.ntmps20
  go_wp2_with fail
  go_ret
  exact ⟨ret_int (unhide HR).symm, balloc _ _⟩
set_option maxHeartbeats 1600000 in
set_option maxRecDepth 100000 in
theorem ck_enc (L : ByteArray) (enc why : Int) (W : ByteArray) (e : Int) (r : ByteArray) (g : Int) (fr st : Bool) (w : World) (hL : L.size ≤ maxLen) (hW : W.size ≤ maxLen) (hr : r.size ≤ maxLen) (h0 : L.size ≤ 3000) (h1 : W.size ≤ 3000) (h : ¬ (0 ≤ enc ∧ enc ≤ 7)) :
    Calls Tryz.prog 20 #[.agg #[.string L, .int .i64 enc, .int .i64 why, .string W, .int .i64 e, .string r, .int .i64 g, .bool fr, .bool st]] w fun e' w' => e' = .returned (.int .i64 (chkF L enc why W e r (g, fr, st))) ∧ Below w.heap.size w w' := by
  have HR : Hid (chkF L enc why W e r (g, fr, st) = 6) := hide (by
    unfold chkF Fr.chk
    simp only
    rw [if_neg (by omega), if_pos h])
  unfold maxLen at hL hW hr
  have hee : (enc != 0) = true := bne_iff_ne.2 (by omega)
  have HIe := hide (fun w => fenc_no enc w (by omega))
  clear h
  go_enter Tryz.func20, Tryz.ntmps20
  go_wp2_with fail
  refine (unhide HIe _).mono ?_
  rintro e' w1 ⟨rfl, hb1⟩
  have HB1 := hide (bstep (balloc _ _) hb1)
  obtain ⟨a0, a1, a2, a3, a4, a5, a6, a7, a8⟩ := cells9 w w1 L _ _ W _ r _ _ _ hb1
  have hlt : w.heap.size < w1.heap.size := by have := hb1.size; simp at this; omega
  clear hb1
  go_wp2_with fail
  go_ret
  exact ⟨ret_int (unhide HR).symm, unhide HB1⟩
set_option maxHeartbeats 1600000 in
set_option maxRecDepth 100000 in
theorem ck_whyz (L : ByteArray) (enc why : Int) (W : ByteArray) (e : Int) (r : ByteArray) (g : Int) (fr st : Bool) (w : World) (hL : L.size ≤ maxLen) (hW : W.size ≤ maxLen) (hr : r.size ≤ maxLen) (h0 : L.size ≤ 3000) (h1 : W.size ≤ 3000) (h2 : 0 ≤ enc ∧ enc ≤ 7) (h : ¬ (0 ≤ why ∧ why ≤ 4)) (h3 : enc = 0) :
    Calls Tryz.prog 20 #[.agg #[.string L, .int .i64 enc, .int .i64 why, .string W, .int .i64 e, .string r, .int .i64 g, .bool fr, .bool st]] w fun e' w' => e' = .returned (.int .i64 (chkF L enc why W e r (g, fr, st))) ∧ Below w.heap.size w w' := by
  have HR : Hid (chkF L enc why W e r (g, fr, st) = 4) := hide (by
    unfold chkF Fr.chk
    simp only
    rw [if_neg (by omega), if_neg (fun q => q h2), if_pos (.inl h)])
  unfold maxLen at hL hW hr
  subst h3
  have hwd : (decide (why < 0) || decide (4 < why)) = true := by simp; omega
  go_enter Tryz.func20, Tryz.ntmps20
  go_wp2_with fail
  all_goals first
    | (go_ret; exact ⟨ret_int (unhide HR).symm, balloc _ _⟩)
    | (exfalso; omega)
    | (exfalso; simp_all; omega)
set_option maxHeartbeats 1600000 in
set_option maxRecDepth 100000 in
theorem ck_whye (L : ByteArray) (enc why : Int) (W : ByteArray) (e : Int) (r : ByteArray) (g : Int) (fr st : Bool) (w : World) (hL : L.size ≤ maxLen) (hW : W.size ≤ maxLen) (hr : r.size ≤ maxLen) (h0 : L.size ≤ 3000) (h1 : W.size ≤ 3000) (h2 : 0 ≤ enc ∧ enc ≤ 7) (h : ¬ (0 ≤ why ∧ why ≤ 4)) (h3 : enc ≠ 0) :
    Calls Tryz.prog 20 #[.agg #[.string L, .int .i64 enc, .int .i64 why, .string W, .int .i64 e, .string r, .int .i64 g, .bool fr, .bool st]] w fun e' w' => e' = .returned (.int .i64 (chkF L enc why W e r (g, fr, st))) ∧ Below w.heap.size w w' := by
  have HR : Hid (chkF L enc why W e r (g, fr, st) = 4) := hide (by
    unfold chkF Fr.chk
    simp only
    rw [if_neg (by omega), if_neg (fun q => q h2), if_pos (.inl h)])
  unfold maxLen at hL hW hr
  have hee : (enc != 0) = true := bne_iff_ne.2 (by omega)
  have HIe := hide (fun w => fenc_yes enc w (by omega))
  have hwd : (decide (why < 0) || decide (4 < why)) = true := by simp; omega
  go_enter Tryz.func20, Tryz.ntmps20
  go_wp2_with fail
  refine (unhide HIe _).mono ?_
  rintro e' w1 ⟨rfl, hb1⟩
  have HB1 := hide (bstep (balloc _ _) hb1)
  obtain ⟨a0, a1, a2, a3, a4, a5, a6, a7, a8⟩ := cells9 w w1 L _ _ W _ r _ _ _ hb1
  have hlt : w.heap.size < w1.heap.size := by have := hb1.size; simp at this; omega
  clear hb1
  go_wp2_with fail
  all_goals first
    | (go_ret; exact ⟨ret_int (unhide HR).symm, unhide HB1⟩)
    | (exfalso; omega)
    | (exfalso; simp_all; omega)
set_option maxHeartbeats 1600000 in
set_option maxRecDepth 100000 in
theorem ck_w0 (L : ByteArray) (enc why : Int) (W : ByteArray) (e : Int) (r : ByteArray) (g : Int) (fr st : Bool) (w : World) (hL : L.size ≤ maxLen) (hW : W.size ≤ maxLen) (hr : r.size ≤ maxLen) (h0 : L.size ≤ 3000) (h1 : W.size ≤ 3000) (h2 : 0 ≤ enc ∧ enc ≤ 7) (h3 : why = 0) (h : enc ≠ 0) :
    Calls Tryz.prog 20 #[.agg #[.string L, .int .i64 enc, .int .i64 why, .string W, .int .i64 e, .string r, .int .i64 g, .bool fr, .bool st]] w fun e' w' => e' = .returned (.int .i64 (chkF L enc why W e r (g, fr, st))) ∧ Below w.heap.size w w' := by
  have HR : Hid (chkF L enc why W e r (g, fr, st) = 4) := hide (by
    unfold chkF Fr.chk
    simp only
    rw [if_neg (by omega), if_neg (fun q => q h2), if_pos (.inr (.inl ⟨h3, h⟩))])
  unfold maxLen at hL hW hr
  have hee : (enc != 0) = true := bne_iff_ne.2 (by omega)
  have HIe := hide (fun w => fenc_yes enc w (by omega))
  subst h3
  clear h h2
  go_enter Tryz.func20, Tryz.ntmps20
  go_wp2_with fail
  refine (unhide HIe _).mono ?_
  rintro e' w1 ⟨rfl, hb1⟩
  have HB1 := hide (bstep (balloc _ _) hb1)
  obtain ⟨a0, a1, a2, a3, a4, a5, a6, a7, a8⟩ := cells9 w w1 L _ _ W _ r _ _ _ hb1
  have hlt : w.heap.size < w1.heap.size := by have := hb1.size; simp at this; omega
  clear hb1
  go_wp2_with fail
  go_ret
  exact ⟨ret_int (unhide HR).symm, unhide HB1⟩
set_option maxHeartbeats 1600000 in
set_option maxRecDepth 100000 in
theorem ck_w1 (L : ByteArray) (enc why : Int) (W : ByteArray) (e : Int) (r : ByteArray) (g : Int) (fr st : Bool) (w : World) (hL : L.size ≤ maxLen) (hW : W.size ≤ maxLen) (hr : r.size ≤ maxLen) (h0 : L.size ≤ 3000) (h1 : W.size ≤ 3000) (h2 : 0 ≤ enc ∧ enc ≤ 7) (hy : 0 ≤ why ∧ why ≤ 4) (h3 : why ≠ 0) (h : enc = 0) :
    Calls Tryz.prog 20 #[.agg #[.string L, .int .i64 enc, .int .i64 why, .string W, .int .i64 e, .string r, .int .i64 g, .bool fr, .bool st]] w fun e' w' => e' = .returned (.int .i64 (chkF L enc why W e r (g, fr, st))) ∧ Below w.heap.size w w' := by
  have HR : Hid (chkF L enc why W e r (g, fr, st) = 4) := hide (by
    unfold chkF Fr.chk
    simp only
    rw [if_neg (by omega), if_neg (fun q => q h2), if_pos (.inr (.inr ⟨h3, h⟩))])
  unfold maxLen at hL hW hr
  have hne : (why != 0) = true := bne_iff_ne.2 h3
  have hw1 : decide (why < 0) = false := decide_eq_false (by omega)
  have hw2 : decide (4 < why) = false := decide_eq_false (by omega)
  subst h
  clear h2 h3
  go_enter Tryz.func20, Tryz.ntmps20
  go_wp2_with fail
  go_ret
  exact ⟨ret_int (unhide HR).symm, balloc _ _⟩
set_option maxHeartbeats 1600000 in
set_option maxRecDepth 100000 in
theorem ck_s1 (L : ByteArray) (enc why : Int) (W : ByteArray) (e : Int) (r : ByteArray) (g : Int) (fr st : Bool) (w : World) (hL : L.size ≤ maxLen) (hW : W.size ≤ maxLen) (hr : r.size ≤ maxLen) (h0 : L.size ≤ 3000) (h1 : W.size ≤ 3000) (h3 : why = 0) (h4 : enc = 0) (h : ¬ (e = 0 ∧ r.size = 0 ∧ (g, fr, st) = M.st0)) :
    Calls Tryz.prog 20 #[.agg #[.string L, .int .i64 enc, .int .i64 why, .string W, .int .i64 e, .string r, .int .i64 g, .bool fr, .bool st]] w fun e' w' => e' = .returned (.int .i64 (chkF L enc why W e r (g, fr, st))) ∧ Below w.heap.size w w' := by
  have HR : Hid (chkF L enc why W e r (g, fr, st) = 1) := hide (by
    unfold chkF Fr.chk
    simp only
    rw [if_neg (by omega), if_neg (by omega), if_neg (by omega), if_pos (.inl ⟨h3, h⟩)])
  unfold maxLen at hL hW hr
  subst h3 h4
  have HCw := hide (fun w => cw_s1 L 0 0 W e r g fr st w h)
  clear h
  go_enter Tryz.func20, Tryz.ntmps20
  go_wp2_with fail
  refine (unhide HCw _).mono ?_
  rintro e' w1 ⟨rfl, hb1⟩
  have HB1 := hide (bstep (balloc _ _) hb1)
  clear hb1
  go_wp2_with fail
  go_ret
  exact ⟨ret_int (unhide HR).symm, unhide HB1⟩
set_option maxHeartbeats 1600000 in
set_option maxRecDepth 100000 in
theorem ck_s2 (L W : ByteArray) (w : World) (h0 : L.size ≤ 3000) (h1 : W.size ≤ 3000) :
    Calls Tryz.prog 20 #[.agg #[.string L, .int .i64 0, .int .i64 0, .string W, .int .i64 0, .string ⟨#[]⟩, .int .i64 0, .bool false, .bool false]] w fun e' w' => e' = .returned (.int .i64 (chkF L 0 0 W 0 ⟨#[]⟩ M.st0)) ∧ Below w.heap.size w w' := by
  have z : (⟨#[]⟩ : ByteArray).size = 0 := rfl
  have HR : Hid (chkF L 0 0 W 0 ⟨#[]⟩ M.st0 = if enF L (bl W) = true then 4 else 0) := hide (by
    unfold chkF Fr.chk
    simp only
    rw [if_neg (by omega), if_neg (by omega), if_neg (by omega), if_neg (by rw [z]; rintro (h | h); exact h.2 ⟨by trivial, by trivial, by trivial⟩; exact h.1 (by trivial))]
    rfl)
  have HCw := hide (fun w => cw_s2 L W w h0 h1)
  rw [← unhide HR] at HCw
  generalize chkF L 0 0 W 0 ⟨#[]⟩ M.st0 = K at *
  clear z HR
  go_enter Tryz.func20, Tryz.ntmps20
  go_wp2_with fail
  refine (unhide HCw _).mono ?_
  rintro e' w2 ⟨rfl, hb2⟩
  have HB2 := hide (bstep (balloc _ _) hb2)
  clear hb2
  go_wp2_with fail
  go_ret
  exact ⟨rfl, unhide HB2⟩
set_option maxHeartbeats 1600000 in
set_option maxRecDepth 100000 in
theorem ck_n1 (L : ByteArray) (enc why : Int) (W : ByteArray) (e : Int) (r : ByteArray) (g : Int) (fr st : Bool) (w : World) (hL : L.size ≤ maxLen) (hW : W.size ≤ maxLen) (hr : r.size ≤ maxLen) (h0 : L.size ≤ 3000) (h1 : W.size ≤ 3000) (h2 : 0 ≤ enc ∧ enc ≤ 7) (hy : 0 ≤ why ∧ why ≤ 4) (h3 : why ≠ 0) (h4 : enc ≠ 0) (h : W.size ≠ 0) :
    Calls Tryz.prog 20 #[.agg #[.string L, .int .i64 enc, .int .i64 why, .string W, .int .i64 e, .string r, .int .i64 g, .bool fr, .bool st]] w fun e' w' => e' = .returned (.int .i64 (chkF L enc why W e r (g, fr, st))) ∧ Below w.heap.size w w' := by
  have HR : Hid (chkF L enc why W e r (g, fr, st) = 1) := hide (by
    unfold chkF Fr.chk
    simp only
    rw [if_neg (by omega), if_neg (by omega), if_neg (by omega), if_pos (.inr ⟨h3, .inl h⟩)])
  unfold maxLen at hL hW hr
  have hee : (enc != 0) = true := bne_iff_ne.2 (by omega)
  have HIe := hide (fun w => fenc_yes enc w (by omega))
  have hne : (why != 0) = true := bne_iff_ne.2 h3
  have hw1 : decide (why < 0) = false := decide_eq_false (by omega)
  have hw2 : decide (4 < why) = false := decide_eq_false (by omega)
  have hwe := empty_eq W
  rw [decide_eq_false h] at hwe
  clear h2 h3 h4 h
  go_enter Tryz.func20, Tryz.ntmps20
  go_wp2_with fail
  refine (unhide HIe _).mono ?_
  rintro e' w1 ⟨rfl, hb1⟩
  have HB1 := hide (bstep (balloc _ _) hb1)
  obtain ⟨a0, a1, a2, a3, a4, a5, a6, a7, a8⟩ := cells9 w w1 L _ _ W _ r _ _ _ hb1
  have hlt : w.heap.size < w1.heap.size := by have := hb1.size; simp at this; omega
  clear hb1
  go_wp2_with fail
  go_ret
  exact ⟨ret_int (unhide HR).symm, unhide HB1⟩
set_option maxHeartbeats 1600000 in
set_option maxRecDepth 100000 in
theorem ck_n2 (L : ByteArray) (enc why : Int) (W : ByteArray) (e : Int) (r : ByteArray) (g : Int) (fr st : Bool) (w : World) (hL : L.size ≤ maxLen) (hW : W.size ≤ maxLen) (hr : r.size ≤ maxLen) (h0 : L.size ≤ 3000) (h1 : W.size ≤ 3000) (h2 : 0 ≤ enc ∧ enc ≤ 7) (hy : 0 ≤ why ∧ why ≤ 4) (h3 : why ≠ 0) (h4 : enc ≠ 0) (h5 : W.size = 0) (h : e ≠ enc) :
    Calls Tryz.prog 20 #[.agg #[.string L, .int .i64 enc, .int .i64 why, .string W, .int .i64 e, .string r, .int .i64 g, .bool fr, .bool st]] w fun e' w' => e' = .returned (.int .i64 (chkF L enc why W e r (g, fr, st))) ∧ Below w.heap.size w w' := by
  have HR : Hid (chkF L enc why W e r (g, fr, st) = 1) := hide (by
    unfold chkF Fr.chk
    simp only
    rw [if_neg (by omega), if_neg (by omega), if_neg (by omega), if_pos (.inr ⟨h3, .inr h⟩)])
  unfold maxLen at hL hW hr
  have hee : (enc != 0) = true := bne_iff_ne.2 (by omega)
  have HIe := hide (fun w => fenc_yes enc w (by omega))
  have hne : (why != 0) = true := bne_iff_ne.2 h3
  have hw1 : decide (why < 0) = false := decide_eq_false (by omega)
  have hw2 : decide (4 < why) = false := decide_eq_false (by omega)
  have hwe := empty_eq W
  rw [decide_eq_true h5] at hwe
  have hen : (e != enc) = true := bne_iff_ne.2 h
  clear h2 h3 h4 h
  go_enter Tryz.func20, Tryz.ntmps20
  go_wp2_with fail
  refine (unhide HIe _).mono ?_
  rintro e' w1 ⟨rfl, hb1⟩
  have HB1 := hide (bstep (balloc _ _) hb1)
  obtain ⟨a0, a1, a2, a3, a4, a5, a6, a7, a8⟩ := cells9 w w1 L _ _ W _ r _ _ _ hb1
  have hlt : w.heap.size < w1.heap.size := by have := hb1.size; simp at this; omega
  clear hb1
  go_wp2_with fail
  go_ret
  exact ⟨ret_int (unhide HR).symm, unhide HB1⟩
set_option maxHeartbeats 1600000 in
set_option maxRecDepth 100000 in
theorem ck_n3 (L : ByteArray) (enc why : Int) (W : ByteArray) (e : Int) (r : ByteArray) (g : Int) (fr st : Bool) (w : World) (hL : L.size ≤ maxLen) (hW : W.size ≤ maxLen) (hr : r.size ≤ maxLen) (h0 : L.size ≤ 3000) (h1 : W.size ≤ 3000) (h2 : 0 ≤ enc ∧ enc ≤ 7) (hy : 0 ≤ why ∧ why ≤ 4) (h3 : why ≠ 0) (h4 : enc ≠ 0) (h5 : W.size = 0) (h : e = enc) :
    Calls Tryz.prog 20 #[.agg #[.string L, .int .i64 enc, .int .i64 why, .string W, .int .i64 e, .string r, .int .i64 g, .bool fr, .bool st]] w fun e' w' => e' = .returned (.int .i64 (chkF L enc why W e r (g, fr, st))) ∧ Below w.heap.size w w' := by
  have HR : Hid (chkF L enc why W e r (g, fr, st) = chk e r (g, fr, st)) := hide (by
    unfold chkF Fr.chk
    simp only
    rw [if_neg (by omega), if_neg (by omega), if_neg (by omega), if_neg (by rintro (q | q); exact h3 q.1; exact q.2.elim (fun z => z h5) (fun z => z h)), if_neg h3])
  have HC := hide (fun w => check_any e r (g, fr, st) w hr)
  unfold sv at HC
  simp only at HC
  rw [← unhide HR] at HC
  generalize chkF L enc why W e r (g, fr, st) = K at *
  unfold maxLen at hL hW hr
  have hee : (enc != 0) = true := bne_iff_ne.2 (by omega)
  have HIe := hide (fun w => fenc_yes enc w (by omega))
  have hne : (why != 0) = true := bne_iff_ne.2 h3
  have hw1 : decide (why < 0) = false := decide_eq_false (by omega)
  have hw2 : decide (4 < why) = false := decide_eq_false (by omega)
  have hwe := empty_eq W
  rw [decide_eq_true h5] at hwe
  have hen : (e != enc) = false := by rw [h]; simp
  clear h2 h3 h4 h
  go_enter Tryz.func20, Tryz.ntmps20
  go_wp2_with fail
  refine (unhide HIe _).mono ?_
  rintro e' w1 ⟨rfl, hb1⟩
  have HB1 := hide (bstep (balloc _ _) hb1)
  obtain ⟨a0, a1, a2, a3, a4, a5, a6, a7, a8⟩ := cells9 w w1 L _ _ W _ r _ _ _ hb1
  have hlt : w.heap.size < w1.heap.size := by have := hb1.size; simp at this; omega
  clear hb1
  go_wp2_with fail
  refine (unhide HC _).mono ?_
  rintro e' w2 ⟨rfl, hb2⟩
  have HB2 := hide (bstep (unhide HB1) hb2)
  clear hb2
  go_wp2_with fail
  go_ret
  exact ⟨rfl, unhide HB2⟩
theorem ckSays : CkSays := by
  intro f w hL hW hr hM
  obtain ⟨L, enc, why, W, e, r, g, fr, st⟩ := f
  show Calls Tryz.prog 20 #[.agg #[.string L, .int .i64 enc, .int .i64 why, .string W, .int .i64 e, .string r, .int .i64 g, .bool fr, .bool st]] w fun e' w' => e' = .returned (.int .i64 (chkF L enc why W e r (g, fr, st))) ∧ Below w.heap.size w w'
  simp only at hL hW hr
  by_cases h0 : 3000 < L.size
  · exact ck_L L enc why W e r g fr st w hL hW hr h0
  by_cases h1 : 3000 < W.size
  · exact ck_W L enc why W e r g fr st w hL hW hr (by omega) h1
  by_cases h2 : 0 ≤ enc ∧ enc ≤ 7
  case neg => exact ck_enc L enc why W e r g fr st w hL hW hr (by omega) (by omega) h2
  by_cases hy : 0 ≤ why ∧ why ≤ 4
  case neg =>
    by_cases h4 : enc = 0
    · exact ck_whyz L enc why W e r g fr st w hL hW hr (by omega) (by omega) h2 hy h4
    · exact ck_whye L enc why W e r g fr st w hL hW hr (by omega) (by omega) h2 hy h4
  by_cases h3 : why = 0
  · by_cases h4 : enc = 0
    case neg => exact ck_w0 L enc why W e r g fr st w hL hW hr (by omega) (by omega) h2 h3 h4
    by_cases h5 : e = 0 ∧ r.size = 0 ∧ (g, fr, st) = M.st0
    case neg => exact ck_s1 L enc why W e r g fr st w hL hW hr (by omega) (by omega) h3 h4 h5
    obtain ⟨rfl, hr0, ht⟩ := h5
    have := size0 hr0
    subst this h3 h4
    obtain ⟨rfl, rfl, rfl⟩ : g = 0 ∧ fr = false ∧ st = false := by simpa [M.st0] using ht
    exact ck_s2 L W w (by omega) (by omega)
  · by_cases h4 : enc = 0
    · exact ck_w1 L enc why W e r g fr st w hL hW hr (by omega) (by omega) h2 hy h3 h4
    by_cases h5 : W.size = 0
    case neg => exact ck_n1 L enc why W e r g fr st w hL hW hr (by omega) (by omega) h2 hy h3 h4 h5
    by_cases h6 : e = enc
    case neg => exact ck_n2 L enc why W e r g fr st w hL hW hr (by omega) (by omega) h2 hy h3 h4 h5 h6
    exact ck_n3 L enc why W e r g fr st w hL hW hr (by omega) (by omega) h2 hy h3 h4 h5 h6
end Go.Proofs.YtaiinjfnkmidbaaGreatDoor

namespace Go.Proofs.YtaiinjfnkmidbaaGreatDoor
open Go.RowKit
set_option linter.unusedVariables false

set_option maxHeartbeats 800000 in
set_option maxRecDepth 100000 in
theorem bgSays : BgSays := by
  intro L w hL
  have HC := hide (fun w => clone_any L w (by omega))
  go_enter Tryz.func13, Tryz.ntmps13
  go_wp2_with fail
  refine (unhide HC _).mono ?_
  rintro e w1 ⟨rfl, hb1⟩
  have hF := (Fb.new w (Fr.new ⟨#[]⟩)).on hb1
  have HF := hide hF
  obtain ⟨c0, c1, c2, c3, c4, c5, c6, c7, c8, f0, f1, f2, f3, f4, f5, f6, f7, f8⟩ := hF
  dsimp only [Fr.new, M.st0] at c0 c1 c2 c3 c4 c5 c6 c7 c8
  have hlt := (unhide HF).lt
  have HB := hide (bstep (balloc w (.cells #[.string ⟨#[]⟩, .int .i64 0, .int .i64 0, .string ⟨#[]⟩, .int .i64 0, .string ⟨#[]⟩, .int .i64 0, .bool false, .bool false] 25)) hb1)
  clear hb1
  go_wp2_with fail
  refine bodyPost_ret (v := .tuple #[(Fr.new L).v, .int .i64 0]) (by simp [results, Tryz.results13, go_sem, c0, c1, c2, c3, c4, c5, c6, c7, c8, Fr.v, Fr.new, M.st0]) rfl ⟨rfl, ?_⟩
  exact bput9 (B := w.heap.size) (unhide HB) (Nat.le_refl _) (Fr.new L)

set_option maxHeartbeats 800000 in
set_option maxRecDepth 100000 in
theorem bgErrs : BgErrs := by
  intro L w hm hL
  unfold maxLen at hm
  go_enter Tryz.func13, Tryz.ntmps13
  go_wp2_with fail
  refine bodyPost_ret (v := .tuple #[(Fr.new ⟨#[]⟩).v, .int .i64 2]) (by simp [results, Tryz.results13, go_sem, Fr.v, Fr.new, M.st0]) rfl ⟨rfl, ?_⟩
  first | exact balloc _ _ | exact bput9 (B := w.heap.size) (balloc _ _) (Nat.le_refl _) (Fr.new ⟨#[]⟩)
end Go.Proofs.YtaiinjfnkmidbaaGreatDoor

namespace Go.Proofs.YtaiinjfnkmidbaaGreatDoor
open Go.RowKit
set_option linter.unusedVariables false

theorem Fb.c9set {B : Nat} {f : Fr} {w : World} (h : Fb B f w) (u : Value) : Fb B f (w.setCell ⟨B, 9, none⟩ u) where
  c0 := (World.cell?_setCell_other _ _ _ _ (by simp)).trans h.c0
  c1 := (World.cell?_setCell_other _ _ _ _ (by simp)).trans h.c1
  c2 := (World.cell?_setCell_other _ _ _ _ (by simp)).trans h.c2
  c3 := (World.cell?_setCell_other _ _ _ _ (by simp)).trans h.c3
  c4 := (World.cell?_setCell_other _ _ _ _ (by simp)).trans h.c4
  c5 := (World.cell?_setCell_other _ _ _ _ (by simp)).trans h.c5
  c6 := (World.cell?_setCell_other _ _ _ _ (by simp)).trans h.c6
  c7 := (World.cell?_setCell_other _ _ _ _ (by simp)).trans h.c7
  c8 := (World.cell?_setCell_other _ _ _ _ (by simp)).trans h.c8
  f0 := by rw [World.frozen?_setCell]; exact h.f0
  f1 := by rw [World.frozen?_setCell]; exact h.f1
  f2 := by rw [World.frozen?_setCell]; exact h.f2
  f3 := by rw [World.frozen?_setCell]; exact h.f3
  f4 := by rw [World.frozen?_setCell]; exact h.f4
  f5 := by rw [World.frozen?_setCell]; exact h.f5
  f6 := by rw [World.frozen?_setCell]; exact h.f6
  f7 := by rw [World.frozen?_setCell]; exact h.f7
  f8 := by rw [World.frozen?_setCell]; exact h.f8
/-- Who chooses, in memory: the front, and what has been told. -/
def Ch (C : Nat) (f : Fr) (xs : List Int) (w : World) : Prop :=
  ∃ v, Fb C f w ∧ w.cell? ⟨C, 9, none⟩ = some v ∧ w.frozen? ⟨C, 9, none⟩ = false ∧ w.ownsRow (C + 1) 3 1 v xs.length (xs.map (Value.int .i64))
/-- What is told of bytes p by a decoder. -/
def Tel (e : Int) (r : ByteArray) (t : M.St) (l : List Int) (last : Bool) (L : List Int) (r' : ByteArray) (t' : M.St) : Prop :=
  (last = false → L = (M.RE e t l).1 ∧ bl r' = (M.RE e t l).2.2 ∧ t' = (M.RE e t l).2.1) ∧ (last = true → L = (M.TE e t l).1 ∧ r' = ⟨#[]⟩ ∧ t' = M.st0)
theorem Tel.len {e : Int} (he : 1 ≤ e ∧ e ≤ 7) {r r' : ByteArray} {t t' : M.St} {l L : List Int} {last : Bool} (h : Tel e r t l last L r' t') : L.length ≤ l.length := by
  cases last
  · rw [(h.1 rfl).1]; exact M.RE_out he t l
  · rw [(h.2 rfl).1]; exact M.TE_few e _ t l (Nat.le_refl _)
theorem feed_fed (e : Int) (r : ByteArray) (t : M.St) (p : ByteArray) (last : Bool) (w : World) (he : 1 ≤ e ∧ e ≤ 7) (hr : M.wE e (bl r) = r.size ∧ r.size ≤ 3) (hk : M.Ok e t) (hs : p.size ≤ 3000) :
    Calls Tryz.prog 46 #[.agg #[.int .i64 e, .string r, .int .i64 t.1, .bool t.2.1, .bool t.2.2], .string p, .bool last] w fun e' w' => ∃ v r' t' L, e' = .returned (.tuple #[v, .agg #[.int .i64 e, .string r', .int .i64 t'.1, .bool t'.2.1, .bool t'.2.2], .int .i64 0]) ∧ w'.ownsRow w.heap.size 3 1 v L.length (L.map (Value.int .i64)) ∧ Below w.heap.size w w' ∧ Tel e r t (bl r ++ bl p) last L r' t' := by
  have h : Calls Tryz.prog 46 #[sv e r t, .string p, .bool last] w (Fed e r t p last w) := by
    cases last
    · exact feed_more e r t p w he hr hk hs
    · exact feed_last e r t p w he hr hk hs
  refine Calls.mono h fun e' w' hh => ?_
  obtain ⟨v, r', t', L, h1, h2, h3, h4, h5⟩ := hh
  exact ⟨v, r', t', L, h1, h2, h3, h4, h5⟩

set_option maxHeartbeats 1600000 in
set_option maxRecDepth 100000 in
theorem cfeed_any (C : Nat) (f : Fr) (xs : List Int) (p : ByteArray) (last : Bool) (w : World) (he : 1 ≤ f.e ∧ f.e ≤ 7) (hr : M.wE f.e (bl f.r) = f.r.size ∧ f.r.size ≤ 3) (hk : M.Ok f.e f.t) (hp : p.size ≤ 3000) (hx : xs.length ≤ 10000) (hD : Ch C f xs w) :
    Calls Tryz.prog 169 #[.pointer (some ⟨C, 0, none⟩), .string p, .bool last] w fun e' w' => e' = .returned (.tuple #[]) ∧ ∃ r' t' L, Ch C { f with r := r', t := t' } (xs ++ L) w' ∧ Below C w w' ∧ Tel f.e f.r f.t (bl f.r ++ bl p) last L r' t' := by
  obtain ⟨L0, enc, why, W, e, r, t⟩ := f
  dsimp only at *
  have HF := hide (fun w => feed_fed e r t p last w he hr hk hp)
  have hlen : (bl r ++ bl p).length ≤ 3003 := by rw [List.length_append, bl_len, bl_len]; omega
  have HLn := hide (fun (L : List Int) (r' : ByteArray) (t' : M.St) (h : Tel e r t (bl r ++ bl p) last L r' t') => Nat.le_trans (h.len he) hlen)
  obtain ⟨v, hFb, h9, g9, hO⟩ := hD
  have HFb := hide hFb
  have hC := hFb.lt
  obtain ⟨c0, c1, c2, c3, c4, c5, c6, c7, c8, f0, f1, f2, f3, f4, f5, f6, f7, f8⟩ := hFb
  dsimp only at c0 c1 c2 c3 c4 c5 c6 c7 c8
  obtain ⟨av, cv, hsv⟩ := owns_shape hO
  subst hsv
  have HO := hide hO
  clear hr hk hp hO hlen
  go_enter Tryz.func169, Tryz.ntmps169
  go_wp2_with fail
  refine (unhide HF _).mono ?_
  rintro e' w1 ⟨v1, r1, t1, L, rfl, ho1, hb1, hT⟩
  obtain ⟨a1, k1, hs1⟩ := owns_shape ho1
  subst hs1
  have hLl := unhide HLn L r1 t1 hT
  have HT := hide hT
  have hz1 := hb1.size
  have I1 := hide ((Ints.of_owns ho1).below (balloc w1 (.cells #[.int .i64 e, .string r1, .int .i64 t1.1, .bool t1.2.1, .bool t1.2.2] 23)))
  have HFb1 := hide (((unhide HFb).on hb1).alloc (.cells #[.int .i64 e, .string r1, .int .i64 t1.1, .bool t1.2.1, .bool t1.2.2] 23))
  have h91 : Hid ((w1.alloc (.cells #[.int .i64 e, .string r1, .int .i64 t1.1, .bool t1.2.1, .bool t1.2.2] 23)).cell? ⟨C, 9, none⟩ = some (.slice av xs.length cv)) := hide (((balloc w1 _).cell (p := ⟨C, 9, none⟩) (by simp; omega)).trans ((hb1.cell (p := ⟨C, 9, none⟩) hC).trans h9))
  have g91 : Hid ((w1.alloc (.cells #[.int .i64 e, .string r1, .int .i64 t1.1, .bool t1.2.1, .bool t1.2.2] 23)).frozen? ⟨C, 9, none⟩ = false) := hide (((balloc w1 _).frozen (p := ⟨C, 9, none⟩) (by simp; omega)).trans ((hb1.frozen (p := ⟨C, 9, none⟩) hC).trans g9))
  have HO1 := hide (owns_a (owns_below (unhide HO) hb1) (.cells #[.int .i64 e, .string r1, .int .i64 t1.1, .bool t1.2.1, .bool t1.2.2] 23))
  have HB1 := hide ((hb1.mono (Nat.le_of_lt hC)).trans ((balloc w1 (.cells #[.int .i64 e, .string r1, .int .i64 t1.1, .bool t1.2.1, .bool t1.2.2] 23)).mono (by omega)))
  have hS := Sc.new w1 e r1 t1
  have HSc := hide hS
  have hov : Value.ownBlock (.slice av xs.length cv) ≠ some w1.heap.size := fun h => by have := owns_lt (unhide HO) _ h; omega
  clear hb1 ho1 hT c0 c1 c2 c3 c4 c5 c6 c7 c8 f0 f1 f2 f3 f4 f5 f6 f7 f8 h9 g9 HFb HO HF
  obtain ⟨c0, c1, c2, c3, c4, c5, c6, c7, c8, f0, f1, f2, f3, f4, f5, f6, f7, f8⟩ := unhide HFb1
  dsimp only at c0 c1 c2 c3 c4 c5 c6 c7 c8
  have h9 := unhide h91
  have g9 := unhide g91
  go_wp2_with (at_builtin; refine append_keep rfl (.tmp 25) (.tmp 26) rfl (C + 1) _ xs rfl (unhide HO1) _ L rfl (unhide I1) (by omega) (by simp; omega) ?_)
  intro ao2 cap2 w2 ho2 hb2 hk2
  have HFb2 := hide ((unhide HFb1).below hb2 (Nat.lt_succ_self C))
  have h92 : w2.cell? ⟨C, 9, none⟩ = some (.slice av xs.length cv) := (hb2.cell (p := ⟨C, 9, none⟩) (Nat.lt_succ_self C)).trans (unhide h91)
  have g92 : w2.frozen? ⟨C, 9, none⟩ = false := (hb2.frozen (p := ⟨C, 9, none⟩) (Nat.lt_succ_self C)).trans (unhide g91)
  have HB2 := hide ((unhide HB1).trans (hb2.mono (Nat.le_succ C)))
  have z0 : w2.cell? ⟨w1.heap.size, 0, none⟩ = some (.int .i64 e) := (hk2 w1.heap.size 0 (by simp) hov).trans (unhide HSc).c0
  have z1 : w2.cell? ⟨w1.heap.size, 1, none⟩ = some (.string r1) := (hk2 w1.heap.size 1 (by simp) hov).trans (unhide HSc).c1
  have z2 : w2.cell? ⟨w1.heap.size, 2, none⟩ = some (.int .i64 t1.1) := (hk2 w1.heap.size 2 (by simp) hov).trans (unhide HSc).c2
  have z3 : w2.cell? ⟨w1.heap.size, 3, none⟩ = some (.bool t1.2.1) := (hk2 w1.heap.size 3 (by simp) hov).trans (unhide HSc).c3
  have z4 : w2.cell? ⟨w1.heap.size, 4, none⟩ = some (.bool t1.2.2) := (hk2 w1.heap.size 4 (by simp) hov).trans (unhide HSc).c4
  have HO2 : Hid (w2.ownsRow (C + 1) 3 1 (.slice ao2 (xs.length + L.length) cap2) (xs ++ L).length ((xs ++ L).map (Value.int .i64))) := hide (by simpa using ho2)
  have hC2 : C < w2.heap.size := (unhide HFb2).lt
  have hB2 : w1.heap.size < w2.heap.size := World.block_lt_of_cell? w2 _ z0
  have hne : ¬ (C = w1.heap.size) := by omega
  have hne' : ¬ (w1.heap.size = C) := by omega
  clear ho2 hb2 hk2 h9 g9 c0 c1 c2 c3 c4 c5 c6 c7 c8 f0 f1 f2 f3 f4 f5 f6 f7 f8 HFb1 h91 g91 HO1 HB1 HSc hS I1 hov
  obtain ⟨c0, c1, c2, c3, c4, c5, c6, c7, c8, f0, f1, f2, f3, f4, f5, f6, f7, f8⟩ := unhide HFb2
  dsimp only at c0 c1 c2 c3 c4 c5 c6 c7 c8
  go_wp2_with fail
  go_end0
  refine ⟨rfl, r1, t1, L, ⟨.slice ao2 (xs.length + L.length) cap2, ?_, ?_, ?_, ?_⟩, ?_, unhide HT⟩
  · exact Fb.put5 ((unhide HFb2).c9set _) e r1 t1
  · rw [World.cell?_setCell_other _ _ _ _ (by simp), World.cell?_setCell_other _ _ _ _ (by simp), World.cell?_setCell_other _ _ _ _ (by simp), World.cell?_setCell_other _ _ _ _ (by simp), World.cell?_setCell_other _ _ _ _ (by simp), World.cell?_setCell_same _ _ _ h92]
  · rw [World.frozen?_setCell, World.frozen?_setCell, World.frozen?_setCell, World.frozen?_setCell, World.frozen?_setCell, World.frozen?_setCell]; exact g92
  · exact oput5 (owns_set (unhide HO2) ⟨C, 9, none⟩ (Nat.lt_succ_self C) _) (Nat.lt_succ_self C) e r1 t1
  · exact bput5 (bset (unhide HB2) ⟨C, 9, none⟩ _ (Nat.le_refl _)) (Nat.le_refl _) e r1 t1

theorem Tel.app {e : Int} {r r1 r' : ByteArray} {t t1 t' : M.St} {l m L L' : List Int} {last : Bool} (h1 : Tel e r t l false L r1 t1) (h2 : Tel e r1 t1 (bl r1 ++ m) last L' r' t') : Tel e r t (l ++ m) last (L ++ L') r' t' := by
  obtain ⟨a1, a2, a3⟩ := h1.1 rfl
  rw [a2, a3] at h2
  refine ⟨fun h => ?_, fun h => ?_⟩
  · obtain ⟨b1, b2, b3⟩ := h2.1 h
    rw [M.RE_app, a1, b1]
    exact ⟨rfl, b2, b3⟩
  · obtain ⟨b1, b2, b3⟩ := h2.2 h
    rw [M.TE_app, a1, b1]
    exact ⟨rfl, b2, b3⟩
theorem Tel.right {e : Int} (he : 1 ≤ e ∧ e ≤ 7) {r r' : ByteArray} {t t' : M.St} {l L : List Int} (hk : M.Ok e t) (h : Tel e r t l false L r' t') : (M.wE e (bl r') = r'.size ∧ r'.size ≤ 3) ∧ M.Ok e t' := by
  obtain ⟨_, a2, a3⟩ := h.1 rfl
  have hz : r'.size = (M.RE e t l).2.2.length := by rw [← bl_len, a2]
  refine ⟨⟨?_, ?_⟩, ?_⟩
  · rw [a2, hz]; exact M.RE_left he t l
  · rw [hz]; exact M.RE_few he t l
  · rw [a3]; exact M.Ok_run he hk l
set_option maxHeartbeats 800000 in
set_option maxRecDepth 100000 in
theorem ctell_any (C : Nat) (f : Fr) (xs : List Int) (p : ByteArray) (last : Bool) (w : World) (he : 1 ≤ f.e ∧ f.e ≤ 7) (hr : M.wE f.e (bl f.r) = f.r.size ∧ f.r.size ≤ 3) (hk : M.Ok f.e f.t) (hp : p.size ≤ 6000) (hx : xs.length ≤ 5000) (hD : Ch C f xs w) :
    Calls Tryz.prog 107 #[.pointer (some ⟨C, 0, none⟩), .string p, .bool last] w fun e' w' => e' = .returned (.tuple #[]) ∧ ∃ r' t' L, Ch C { f with r := r', t := t' } (xs ++ L) w' ∧ Below C w w' ∧ Tel f.e f.r f.t (bl f.r ++ bl p) last L r' t' := by
  by_cases h3 : p.size ≤ 3000
  · have H := hide (cfeed_any C f xs p last w he hr hk h3 (by omega) hD)
    clear hr hk hx hD he
    go_enter Tryz.func107, Tryz.ntmps107
    go_wp2_with fail
    refine wp_loop_rounds 1 ?_
    rw [rounds_succ]
    go_wp2_with fail
    refine (unhide H).mono ?_
    rintro e' w1 ⟨rfl, h1⟩
    have H1 := hide h1
    clear h1 H
    go_wp2_with fail
    go_end0
    exact ⟨rfl, unhide H1⟩
  · have H1 := hide (cfeed_any C f xs (p.extract 0 3000) false w he hr hk (by simp; omega) (by omega) hD)
    have hlen : (bl f.r ++ bl (p.extract 0 3000)).length ≤ 3003 := by rw [List.length_append, bl_len, bl_len]; simp; omega
    have HS : Hid (bl f.r ++ bl p = (bl f.r ++ bl (p.extract 0 3000)) ++ bl (p.extract 3000 p.size)) := hide (by rw [bl_take, bl_extract, List.append_assoc, List.take_append_drop])
    have hb0 : (p.extract 3000 p.size).size ≤ 3000 := by simp; omega
    obtain ⟨b, HBq⟩ : ∃ b, Hid (p.extract 3000 p.size = b) := ⟨_, hide rfl⟩
    rw [unhide HBq] at hb0 HS
    have hbq := unhide HBq
    have hh3 : 3000 < p.size := by omega
    clear hr hD
    go_enter Tryz.func107, Tryz.ntmps107
    go_wp2_with fail
    refine wp_loop_rounds 2 ?_
    rw [rounds_succ]
    go_wp2_with fail
    refine (unhide H1).mono ?_
    rintro e' w1 ⟨rfl, r1, t1, L1, hC1, hB1, hT1⟩
    have hr1 := hT1.right he hk
    have hl1 := hT1.len he
    have H2 := hide (cfeed_any C { f with r := r1, t := t1 } (xs ++ L1) b last w1 he hr1.1 hr1.2 hb0 (by rw [List.length_append]; omega) hC1)
    have HT1 := hide hT1
    have HB1 := hide hB1
    clear H1 hC1 hB1 hT1 hr1 hk hlen hl1 he hx
    go_wp2_with fail
    rw [rounds_succ]
    go_wp2_with fail
    refine (unhide H2).mono ?_
    rintro e' w2 ⟨rfl, r2, t2, L2, hC2, hB2, hT2⟩
    have H3 : Hid (∃ r' t' L, Ch C { f with r := r', t := t' } (xs ++ L) w2 ∧ Below C w w2 ∧ Tel f.e f.r f.t (bl f.r ++ bl p) last L r' t') := hide (by
      refine ⟨r2, t2, L1 ++ L2, ?_, (unhide HB1).trans hB2, ?_⟩
      · rw [← List.append_assoc]; exact hC2
      · rw [unhide HS]; exact Tel.app (unhide HT1) hT2)
    clear H2 hC2 hB2 hT2
    go_wp2_with fail
    go_end0
    exact ⟨rfl, unhide H3⟩
end Go.Proofs.YtaiinjfnkmidbaaGreatDoor

namespace Go.Proofs.YtaiinjfnkmidbaaGreatDoor
open Go.RowKit
set_option linter.unusedVariables false

theorem ch_cut (L all : ByteArray) : chI L (bl (all.extract 0 (min all.size 256))) = chI L (bl all) := by
  rw [bl_take]
  by_cases h : all.size ≤ 256
  · rw [Nat.min_eq_left h, List.take_of_length_le (by rw [bl_len]; omega)]
  · rw [Nat.min_eq_right (by omega)]
    have e : chI L ((bl all).take 256 ++ (bl all).drop 256) = chI L ((bl all).take 256) := chI_more (by
      unfold enF
      rw [decide_eq_true (show 256 ≤ ((bl all).take 256).length from by rw [List.length_take, bl_len]; omega)]
      simp) _
    rw [List.take_append_drop] at e
    exact e.symm
theorem Ch.below {C : Nat} {f : Fr} {xs : List Int} {w w2 : World} (h : Ch C f xs w) (hb : Below w.heap.size w w2) : Ch C f xs w2 := by
  obtain ⟨v, h1, h2, h3, h4⟩ := h
  exact ⟨v, h1.on hb, (hb.cell (p := ⟨C, 9, none⟩) h1.lt).trans h2, (hb.frozen (p := ⟨C, 9, none⟩) h1.lt).trans h3, owns_below h4 hb⟩

theorem Ch.lt {C : Nat} {f : Fr} {xs : List Int} {w : World} (h : Ch C f xs w) : C < w.heap.size := by
  obtain ⟨v, h1, _⟩ := h
  exact h1.lt
theorem Ch.put {C k : Nat} {f g : Fr} {xs : List Int} {w : World} {u : Value} (h : Ch C f xs w) (hk : k ≠ 9) (hg : Fb C f w → Fb C g (w.setCell ⟨C, k, none⟩ u)) : Ch C g xs (w.setCell ⟨C, k, none⟩ u) := by
  obtain ⟨v, h1, h2, h3, h4⟩ := h
  exact ⟨v, hg h1, (World.cell?_setCell_other _ _ _ _ (by intro h; cases h; exact hk rfl)).trans h2, by rw [World.frozen?_setCell]; exact h3, owns_set h4 ⟨C, k, none⟩ (Nat.lt_succ_self C) _⟩
theorem Ch.put5 {C : Nat} {f : Fr} {xs : List Int} {w : World} (h : Ch C f xs w) (e : Int) (r : ByteArray) (t : M.St) : Ch C { f with e := e, r := r, t := t } xs (((((w.setCell ⟨C, 4, none⟩ (.int .i64 e)).setCell ⟨C, 5, none⟩ (.string r)).setCell ⟨C, 6, none⟩ (.int .i64 t.1)).setCell ⟨C, 7, none⟩ (.bool t.2.1)).setCell ⟨C, 8, none⟩ (.bool t.2.2)) :=
  ((((h.put (by decide) (fun q => q.set4 e)).put (by decide) (fun q => q.set5 r)).put (by decide) (fun q => q.set6 t.1)).put (by decide) (fun q => q.set7 t.2.1)).put (by decide) (fun q => q.set8 t.2.2)
theorem Ch.put9 {C : Nat} {f : Fr} {xs : List Int} {w : World} (h : Ch C f xs w) (g : Fr) : Ch C g xs (((((((((w.setCell ⟨C, 0, none⟩ (.string g.L)).setCell ⟨C, 1, none⟩ (.int .i64 g.enc)).setCell ⟨C, 2, none⟩ (.int .i64 g.why)).setCell ⟨C, 3, none⟩ (.string g.W)).setCell ⟨C, 4, none⟩ (.int .i64 g.e)).setCell ⟨C, 5, none⟩ (.string g.r)).setCell ⟨C, 6, none⟩ (.int .i64 g.t.1)).setCell ⟨C, 7, none⟩ (.bool g.t.2.1)).setCell ⟨C, 8, none⟩ (.bool g.t.2.2)) :=
  ((((((((h.put (by decide) (fun q => q.set0 g.L)).put (by decide) (fun q => q.set1 g.enc)).put (by decide) (fun q => q.set2 g.why)).put (by decide) (fun q => q.set3 g.W)).put (by decide) (fun q => q.set4 g.e)).put (by decide) (fun q => q.set5 g.r)).put (by decide) (fun q => q.set6 g.t.1)).put (by decide) (fun q => q.set7 g.t.2.1)).put (by decide) (fun q => q.set8 g.t.2.2)
theorem wE_nil {n : Int} (hn : 1 ≤ n ∧ n ≤ 7) : M.wE n (bl ⟨#[]⟩) = (⟨#[]⟩ : ByteArray).size ∧ (⟨#[]⟩ : ByteArray).size ≤ 3 := by
  obtain rfl | rfl | rfl | rfl | rfl | rfl | rfl := M.seven hn <;> decide +kernel

set_option maxHeartbeats 3200000 in
set_option maxRecDepth 100000 in
theorem cchoose_any (C : Nat) (L W all : ByteArray) (w : World) (hL : L.size ≤ 3000) (hall : all.size ≤ 6000) (hM : Mx w) (hD : Ch C ⟨L, 0, 0, W, 0, ⟨#[]⟩, M.st0⟩ [] w) :
    Calls Tryz.prog 106 #[.pointer (some ⟨C, 0, none⟩), .string all] w fun e' w' => e' = .returned (.string (all.extract (chI L (bl all)).2.2.toNat all.size)) ∧ Ch C ⟨L, (chI L (bl all)).1, (chI L (bl all)).2.1, ⟨#[]⟩, (chI L (bl all)).1, ⟨#[]⟩, M.st0⟩ [] w' ∧ Below C w w' := by
  have hbd := chI_bd L (bl all)
  rw [bl_len] at hbd
  have HCh := hide (fun w h => chSays L (all.extract 0 (min all.size 256)) w hL (by simp; omega) h)
  rw [ch_cut] at HCh
  have HOp := hide (fun w => open_yes (chI L (bl all)).1 w hbd.1)
  unfold sv M.st0 at HOp
  dsimp only at HOp
  generalize (chI L (bl all)).1 = n at *
  generalize (chI L (bl all)).2.1 = y at *
  generalize hm : (chI L (bl all)).2.2 = m at *
  obtain ⟨k, rfl⟩ : ∃ k : Nat, m = (k : Int) := ⟨m.toNat, by omega⟩
  rw [Int.toNat_natCast]
  have hkl : k ≤ all.size := by omega
  have HM := hide hM
  obtain ⟨v, hFb, h9, g9, hO⟩ := hD
  have HFb := hide hFb
  have hC := hFb.lt
  have HD := hide (show Ch C ⟨L, 0, 0, W, 0, ⟨#[]⟩, M.st0⟩ [] w from ⟨v, hFb, h9, g9, hO⟩)
  have c0 := hFb.c0
  dsimp only at c0
  have hcl : ∀ w', Below w.heap.size w w' → w'.cell? ⟨C, 0, none⟩ = some (.string L) := fun w' hb => (hb.cell (p := ⟨C, 0, none⟩) hC).trans c0
  have hmin : min (all.size : Int) 256 = ((min all.size 256 : Nat) : Int) := by omega
  have hsl : ∀ wx, (Instr.slice 9 (.string all) none (some (.int .i64 (min (all.size : Int) 256))) none).run Tryz.prog wx = .ok (.string (all.extract 0 (min all.size 256))) wx := fun wx => by
    rw [hmin]
    exact run_slice_string_h (P := Tryz.prog) wx 9 all Tryz.underlying9 .i64 ((min all.size 256 : Nat) : Int) (by omega) (by omega)
  clear hbd hm hM hFb h9 g9 hO c0 hmin
  go_enter Tryz.func106, Tryz.ntmps106
  go_wp2_with fail
  go_region_held3 (fun w' => Below w.heap.size w w') (first | exact below_drewN (Below.refl _ _) 1 | assumption)
    ((first
      | (go_at_call 12; refine (unhide HCh _ ((unhide HM).below (by assumption))).mono ?_; rintro e' z ⟨rfl, hz⟩; have hS := bstep (by assumption) hz; clear hz)))
  have hCz : C < z.heap.size := by have := hS.size; omega
  have HDz := hide ((unhide HD).below hS)
  have HBz := hide (hS.mono (Nat.le_of_lt hC))
  obtain ⟨c0, c1, c2, c3, c4, c5, c6, c7, c8, f0, f1, f2, f3, f4, f5, f6, f7, f8⟩ := (unhide HFb).on hS
  dsimp only [M.st0] at c0 c1 c2 c3 c4 c5 c6 c7 c8
  clear hcl hsl hS HCh HD HFb
  go_wp2_with fail
  refine (unhide HOp _).mono ?_
  rintro e' w2 ⟨rfl, hb2⟩
  have H2 := hide (((((unhide HDz).put (k := 1) (by decide) (fun q => q.set1 n)).put (k := 2) (by decide) (fun q => q.set2 y)).put (k := 3) (by decide) (fun q => q.set3 ⟨#[]⟩)).below hb2)
  have HB2 := hide ((bset (bset (bset (unhide HBz) ⟨C, 1, none⟩ (.int .i64 n) (Nat.le_refl _)) ⟨C, 2, none⟩ (.int .i64 y) (Nat.le_refl _)) ⟨C, 3, none⟩ (.string ⟨#[]⟩) (Nat.le_refl _)).trans (hb2.mono (by simp; omega)))
  have hC2 := (unhide H2).lt
  clear hb2 c0 c1 c2 c3 c4 c5 c6 c7 c8 f0 f1 f2 f3 f4 f5 f6 f7 f8 HDz HBz
  obtain ⟨v2, q2, -, -, -⟩ := unhide H2
  obtain ⟨c0, c1, c2, c3, c4, c5, c6, c7, c8, f0, f1, f2, f3, f4, f5, f6, f7, f8⟩ := q2
  dsimp only [M.st0] at c0 c1 c2 c3 c4 c5 c6 c7 c8
  go_wp2_with fail
  go_ret
  exact ⟨rfl, Ch.put5 (unhide H2) n ⟨#[]⟩ M.st0, bput5 (unhide HB2) (Nat.le_refl _) n ⟨#[]⟩ M.st0⟩
set_option maxHeartbeats 1600000 in
set_option maxRecDepth 100000 in
theorem ctake_on_false (C : Nat) (L : ByteArray) (enc why e : Int) (r : ByteArray) (t : M.St) (p : ByteArray) (w : World) (hy : why ≠ 0) (he : 1 ≤ e ∧ e ≤ 7) (hr : M.wE e (bl r) = r.size ∧ r.size ≤ 3) (hk : M.Ok e t) (hp : p.size ≤ 3000) (hD : Ch C ⟨L, enc, why, ⟨#[]⟩, e, r, t⟩ [] w) :
    Calls Tryz.prog 50 #[.pointer (some ⟨C, 0, none⟩), .string p, .bool false] w fun e' w' => e' = .returned (.tuple #[]) ∧ Ch C (Fr.nxt ⟨L, enc, why, ⟨#[]⟩, e, r, t⟩ p false) (Fr.outs ⟨L, enc, why, ⟨#[]⟩, e, r, t⟩ p false) w' ∧ Below C w w' := by
  have H := hide (ctell_any C ⟨L, enc, why, ⟨#[]⟩, e, r, t⟩ [] p false w he hr hk (by omega) (by simp) hD)
  have hyb : (why == 0) = false := beq_eq_false_iff_ne.2 hy
  have HY := hide hy
  have hC := hD.lt
  obtain ⟨v, q, -, -, -⟩ := hD
  obtain ⟨c0, c1, c2, c3, c4, c5, c6, c7, c8, f0, f1, f2, f3, f4, f5, f6, f7, f8⟩ := q
  dsimp only at c0 c1 c2 c3 c4 c5 c6 c7 c8
  clear hy he hr hk hp
  go_enter Tryz.func50, Tryz.ntmps50
  go_wp2_with fail
  refine (unhide H).mono ?_
  rintro e' w1 ⟨rfl, r1, t1, L1, hC1, hB1, hT1⟩
  rw [List.nil_append] at hC1

  have HN : Hid (Ch C (Fr.nxt ⟨L, enc, why, ⟨#[]⟩, e, r, t⟩ p false) (Fr.outs ⟨L, enc, why, ⟨#[]⟩, e, r, t⟩ p false) w1) := hide (by
    obtain ⟨a1, a2, a3⟩ := hT1.1 rfl
    rw [nxt_on (f := ⟨L, enc, why, ⟨#[]⟩, e, r, t⟩) (unhide HY) a2 a3, outs_on (f := ⟨L, enc, why, ⟨#[]⟩, e, r, t⟩) (unhide HY), ← a1]
    exact hC1)
  have HB1 := hide hB1
  clear hC1 hB1 hT1 H c0 c1 c2 c3 c4 c5 c6 c7 c8 f0 f1 f2 f3 f4 f5 f6 f7 f8
  go_wp2_with fail
  go_end0
  exact ⟨rfl, unhide HN, unhide HB1⟩

set_option maxHeartbeats 1600000 in
set_option maxRecDepth 100000 in
theorem ctake_on_true (C : Nat) (L : ByteArray) (enc why e : Int) (r : ByteArray) (t : M.St) (p : ByteArray) (w : World) (hy : why ≠ 0) (he : 1 ≤ e ∧ e ≤ 7) (hr : M.wE e (bl r) = r.size ∧ r.size ≤ 3) (hk : M.Ok e t) (hp : p.size ≤ 3000) (hD : Ch C ⟨L, enc, why, ⟨#[]⟩, e, r, t⟩ [] w) :
    Calls Tryz.prog 50 #[.pointer (some ⟨C, 0, none⟩), .string p, .bool true] w fun e' w' => e' = .returned (.tuple #[]) ∧ Ch C (Fr.nxt ⟨L, enc, why, ⟨#[]⟩, e, r, t⟩ p true) (Fr.outs ⟨L, enc, why, ⟨#[]⟩, e, r, t⟩ p true) w' ∧ Below C w w' := by
  have H := hide (ctell_any C ⟨L, enc, why, ⟨#[]⟩, e, r, t⟩ [] p true w he hr hk (by omega) (by simp) hD)
  have hyb : (why == 0) = false := beq_eq_false_iff_ne.2 hy
  have HY := hide hy
  have hC := hD.lt
  obtain ⟨v, q, -, -, -⟩ := hD
  obtain ⟨c0, c1, c2, c3, c4, c5, c6, c7, c8, f0, f1, f2, f3, f4, f5, f6, f7, f8⟩ := q
  dsimp only at c0 c1 c2 c3 c4 c5 c6 c7 c8
  clear hy he hr hk hp
  go_enter Tryz.func50, Tryz.ntmps50
  go_wp2_with fail
  refine (unhide H).mono ?_
  rintro e' w1 ⟨rfl, r1, t1, L1, hC1, hB1, hT1⟩
  rw [List.nil_append] at hC1

  have HN : Hid (Fr.outs ⟨L, enc, why, ⟨#[]⟩, e, r, t⟩ p true = L1) := hide (by
    obtain ⟨a1, a2, a3⟩ := hT1.2 rfl
    rw [outs_end (f := ⟨L, enc, why, ⟨#[]⟩, e, r, t⟩) (unhide HY), ← a1])
  have HC1 := hide hC1
  have HB1 := hide hB1
  have hC2 := hC1.lt
  clear hB1 hT1 H c0 c1 c2 c3 c4 c5 c6 c7 c8 f0 f1 f2 f3 f4 f5 f6 f7 f8
  obtain ⟨v1, q1, -, -, -⟩ := hC1
  obtain ⟨c0, c1, c2, c3, c4, c5, c6, c7, c8, f0, f1, f2, f3, f4, f5, f6, f7, f8⟩ := q1
  dsimp only at c0 c1 c2 c3 c4 c5 c6 c7 c8
  go_wp2_with fail
  go_end0
  refine ⟨rfl, ?_, bput9 (unhide HB1) (Nat.le_refl _) (Fr.new L)⟩
  rw [unhide HN]
  exact Ch.put9 (unhide HC1) (Fr.new L)

set_option maxHeartbeats 1600000 in
set_option maxRecDepth 100000 in
theorem ctake_wait (C : Nat) (L W p : ByteArray) (w : World) (hL : L.size ≤ 3000) (hW : W.size < 256) (hp : p.size ≤ 3000) (hM : Mx w) (hE : enF L (bl W ++ bl p) = false) (hD : Ch C ⟨L, 0, 0, W, 0, ⟨#[]⟩, M.st0⟩ [] w) :
    Calls Tryz.prog 50 #[.pointer (some ⟨C, 0, none⟩), .string p, .bool false] w fun e' w' => e' = .returned (.tuple #[]) ∧ Ch C (Fr.nxt ⟨L, 0, 0, W, 0, ⟨#[]⟩, M.st0⟩ p false) (Fr.outs ⟨L, 0, 0, W, 0, ⟨#[]⟩, M.st0⟩ p false) w' ∧ Below C w w' := by
  have HM := hide hM
  have HD := hide hD
  have hC := hD.lt
  obtain ⟨s, hs1⟩ : ∃ s, W ++ p = s := ⟨_, rfl⟩
  have hs2 : W.append p = s := hs1
  have hsz : s.size ≤ 3255 := by rw [← hs1]; simp; omega
  have HS : Hid (bl s = bl W ++ bl p) := hide (by rw [← hs1, bl_app])
  have HEn := hide (fun w => enough_any L s w hL (by unfold maxLen; omega))
  rw [unhide HS, hE] at HEn
  have HCl := hide (fun w => clone_any s w (by omega))
  have HN : Hid (∀ w', Ch C ⟨L, 0, 0, s, 0, ⟨#[]⟩, M.st0⟩ [] w' → Ch C (Fr.nxt ⟨L, 0, 0, W, 0, ⟨#[]⟩, M.st0⟩ p false) (Fr.outs ⟨L, 0, 0, W, 0, ⟨#[]⟩, M.st0⟩ p false) w') := hide (fun w' h => by rw [nxt_wait hE, outs_wait hE, hs1]; exact h)
  obtain ⟨v, q, -, -, -⟩ := hD
  obtain ⟨c0, c1, c2, c3, c4, c5, c6, c7, c8, f0, f1, f2, f3, f4, f5, f6, f7, f8⟩ := q
  dsimp only [M.st0] at c0 c1 c2 c3 c4 c5 c6 c7 c8
  clear hM
  clear hE
  go_enter Tryz.func50, Tryz.ntmps50
  go_wp2_with fail
  refine (unhide HEn _).mono ?_
  rintro e' w1 ⟨rfl, hb1⟩
  have HB1 := hide (hb1.mono (Nat.le_of_lt hC))
  have HM1 := hide ((unhide HM).below hb1)
  have HD1 := hide ((unhide HD).below hb1)
  have hC1 := (unhide HD1).lt
  clear hb1 HEn HM HD c0 c1 c2 c3 c4 c5 c6 c7 c8 f0 f1 f2 f3 f4 f5 f6 f7 f8
  obtain ⟨v1, q1, -, -, -⟩ := unhide HD1
  obtain ⟨c0, c1, c2, c3, c4, c5, c6, c7, c8, f0, f1, f2, f3, f4, f5, f6, f7, f8⟩ := q1
  dsimp only [M.st0] at c0 c1 c2 c3 c4 c5 c6 c7 c8
  go_wp2_with fail
  refine (unhide HCl _).mono ?_
  rintro e' w2 ⟨rfl, hb2⟩
  have HD2 := hide ((unhide HD1).below hb2)
  have HB2 := hide ((unhide HB1).trans (hb2.mono (Nat.le_of_lt hC1)))
  have hC2 := (unhide HD2).lt
  clear hb2 HD1 HB1 HCl c0 c1 c2 c3 c4 c5 c6 c7 c8 f0 f1 f2 f3 f4 f5 f6 f7 f8
  obtain ⟨v2, q2, -, -, -⟩ := unhide HD2
  obtain ⟨c0, c1, c2, c3, c4, c5, c6, c7, c8, f0, f1, f2, f3, f4, f5, f6, f7, f8⟩ := q2
  dsimp only [M.st0] at c0 c1 c2 c3 c4 c5 c6 c7 c8
  go_wp2_with fail
  first | go_end0 | refine bodyPost_ret (results_none rfl _ _ _) rfl ?_
  exact ⟨rfl, unhide HN _ ((unhide HD2).put (k := 3) (by decide) (fun q => q.set3 s)), bset (unhide HB2) ⟨C, 3, none⟩ _ (Nat.le_refl _)⟩

set_option maxHeartbeats 1600000 in
set_option maxRecDepth 100000 in
theorem ctake_got_false (C : Nat) (L W p : ByteArray) (w : World) (hL : L.size ≤ 3000) (hW : W.size < 256) (hp : p.size ≤ 3000) (hM : Mx w) (hE : enF L (bl W ++ bl p) = true) (hD : Ch C ⟨L, 0, 0, W, 0, ⟨#[]⟩, M.st0⟩ [] w) :
    Calls Tryz.prog 50 #[.pointer (some ⟨C, 0, none⟩), .string p, .bool false] w fun e' w' => e' = .returned (.tuple #[]) ∧ Ch C (Fr.nxt ⟨L, 0, 0, W, 0, ⟨#[]⟩, M.st0⟩ p false) (Fr.outs ⟨L, 0, 0, W, 0, ⟨#[]⟩, M.st0⟩ p false) w' ∧ Below C w w' := by
  have HM := hide hM
  have HD := hide hD
  have hC := hD.lt
  obtain ⟨s, hs1⟩ : ∃ s, W ++ p = s := ⟨_, rfl⟩
  have hs2 : W.append p = s := hs1
  have hsz : s.size ≤ 3255 := by rw [← hs1]; simp; omega
  have HS : Hid (bl s = bl W ++ bl p) := hide (by rw [← hs1, bl_app])
  have HEn := hide (fun w => enough_any L s w hL (by unfold maxLen; omega))
  rw [unhide HS, hE] at HEn
  have hbd := chI_bd L (bl s)
  rw [bl_len] at hbd
  obtain ⟨n, y, m, HX⟩ : ∃ n y m, Hid (chI L (bl s) = (n, y, m)) := ⟨_, _, _, hide rfl⟩
  have HCo := hide (fun w h hd => cchoose_any C L W s w hL (by omega) h hd)
  rw [unhide HX] at HCo hbd
  dsimp only at HCo hbd
  obtain ⟨hn, hyb, hm0, hm3, hml⟩ := hbd
  obtain ⟨q', HQ⟩ : ∃ q', Hid (s.extract m.toNat s.size = q') := ⟨_, hide rfl⟩
  have hqz : q'.size ≤ 3255 := by rw [← unhide HQ]; simp; omega
  rw [unhide HQ] at HCo
  have HQ2 : Hid (bl q' = (bl W ++ bl p).drop m.toNat) := hide (by rw [← unhide HQ, bl_extract, unhide HS])
  have HX2 : Hid (chI L (bl W ++ bl p) = (n, y, m)) := hide (by rw [← unhide HS]; exact unhide HX)
  have HTl := hide (fun w hd => ctell_any C ⟨L, n, y, ⟨#[]⟩, n, ⟨#[]⟩, M.st0⟩ [] q' false w hn (wE_nil hn) (M.Ok_st0 n) (by omega) (by simp) hd)
  have HN : Hid (∀ w' r1 t1 L1, Ch C ⟨L, n, y, ⟨#[]⟩, n, r1, t1⟩ L1 w' → Tel n ⟨#[]⟩ M.st0 (bl ⟨#[]⟩ ++ bl q') false L1 r1 t1 → Ch C (Fr.nxt ⟨L, 0, 0, W, 0, ⟨#[]⟩, M.st0⟩ p false) (Fr.outs ⟨L, 0, 0, W, 0, ⟨#[]⟩, M.st0⟩ p false) w') := hide (fun w' r1 t1 L1 h ht => by
    obtain ⟨a1, a2, a3⟩ := ht.1 rfl
    rw [nxt_got hE (unhide HX2) (unhide HQ2) a2 a3, outs_got hE (unhide HX2) (unhide HQ2), ← a1]
    exact h)
  obtain ⟨v, q, -, -, -⟩ := hD
  obtain ⟨c0, c1, c2, c3, c4, c5, c6, c7, c8, f0, f1, f2, f3, f4, f5, f6, f7, f8⟩ := q
  dsimp only [M.st0] at c0 c1 c2 c3 c4 c5 c6 c7 c8
  clear hM
  clear hE
  clear hn hyb hm0 hm3 hml hqz HQ HX HQ2 HX2 HS
  go_enter Tryz.func50, Tryz.ntmps50
  go_wp2_with fail
  refine (unhide HEn _).mono ?_
  rintro e' w1 ⟨rfl, hb1⟩
  have HB1 := hide (hb1.mono (Nat.le_of_lt hC))
  have HM1 := hide ((unhide HM).below hb1)
  have HD1 := hide ((unhide HD).below hb1)
  have hC1 := (unhide HD1).lt
  clear hb1 HEn HM HD c0 c1 c2 c3 c4 c5 c6 c7 c8 f0 f1 f2 f3 f4 f5 f6 f7 f8
  go_wp2_with fail
  refine (unhide HCo _ (unhide HM1) (unhide HD1)).mono ?_
  rintro e' w2 ⟨rfl, hD2, hb2⟩
  have HB2 := hide ((unhide HB1).trans hb2)
  clear HB1 HD1 HM1
  have HD2 := hide hD2
  clear hb2 hD2 HCo
  go_wp2_with fail
  refine (unhide HTl _ (unhide HD2)).mono ?_
  rintro e' w3 ⟨rfl, r1, t1, L1, hC3, hB3, hT3⟩
  rw [List.nil_append] at hC3
  have HB3 := hide ((unhide HB2).trans hB3)
  have HE := hide (unhide HN w3 r1 t1 L1 hC3 hT3)
  clear hC3 hB3 hT3 HTl HN HB2 HD2
  go_wp2_with fail
  go_end0
  exact ⟨rfl, unhide HE, unhide HB3⟩

set_option maxHeartbeats 1600000 in
set_option maxRecDepth 100000 in
theorem ctake_got_true (C : Nat) (L W p : ByteArray) (w : World) (hL : L.size ≤ 3000) (hW : W.size < 256) (hp : p.size ≤ 3000) (hM : Mx w) (hD : Ch C ⟨L, 0, 0, W, 0, ⟨#[]⟩, M.st0⟩ [] w) :
    Calls Tryz.prog 50 #[.pointer (some ⟨C, 0, none⟩), .string p, .bool true] w fun e' w' => e' = .returned (.tuple #[]) ∧ Ch C (Fr.nxt ⟨L, 0, 0, W, 0, ⟨#[]⟩, M.st0⟩ p true) (Fr.outs ⟨L, 0, 0, W, 0, ⟨#[]⟩, M.st0⟩ p true) w' ∧ Below C w w' := by
  have HM := hide hM
  have HD := hide hD
  have hC := hD.lt
  obtain ⟨s, hs1⟩ : ∃ s, W ++ p = s := ⟨_, rfl⟩
  have hs2 : W.append p = s := hs1
  have hsz : s.size ≤ 3255 := by rw [← hs1]; simp; omega
  have HS : Hid (bl s = bl W ++ bl p) := hide (by rw [← hs1, bl_app])
  have hbd := chI_bd L (bl s)
  rw [bl_len] at hbd
  obtain ⟨n, y, m, HX⟩ : ∃ n y m, Hid (chI L (bl s) = (n, y, m)) := ⟨_, _, _, hide rfl⟩
  have HCo := hide (fun w h hd => cchoose_any C L W s w hL (by omega) h hd)
  rw [unhide HX] at HCo hbd
  dsimp only at HCo hbd
  obtain ⟨hn, hyb, hm0, hm3, hml⟩ := hbd
  obtain ⟨q', HQ⟩ : ∃ q', Hid (s.extract m.toNat s.size = q') := ⟨_, hide rfl⟩
  have hqz : q'.size ≤ 3255 := by rw [← unhide HQ]; simp; omega
  rw [unhide HQ] at HCo
  have HQ2 : Hid (bl q' = (bl W ++ bl p).drop m.toNat) := hide (by rw [← unhide HQ, bl_extract, unhide HS])
  have HX2 : Hid (chI L (bl W ++ bl p) = (n, y, m)) := hide (by rw [← unhide HS]; exact unhide HX)
  have HTl := hide (fun w hd => ctell_any C ⟨L, n, y, ⟨#[]⟩, n, ⟨#[]⟩, M.st0⟩ [] q' true w hn (wE_nil hn) (M.Ok_st0 n) (by omega) (by simp) hd)
  have HN : Hid (∀ r1 t1 L1, Tel n ⟨#[]⟩ M.st0 (bl ⟨#[]⟩ ++ bl q') true L1 r1 t1 → Fr.outs ⟨L, 0, 0, W, 0, ⟨#[]⟩, M.st0⟩ p true = L1) := hide (fun r1 t1 L1 ht => by
    obtain ⟨a1, a2, a3⟩ := ht.2 rfl
    rw [outs_whole (unhide HX2) (unhide HQ2), ← a1])
  obtain ⟨v, q, -, -, -⟩ := hD
  obtain ⟨c0, c1, c2, c3, c4, c5, c6, c7, c8, f0, f1, f2, f3, f4, f5, f6, f7, f8⟩ := q
  dsimp only [M.st0] at c0 c1 c2 c3 c4 c5 c6 c7 c8
  clear hM
  clear hn hyb hm0 hm3 hml hqz HQ HX HQ2 HX2 HS
  go_enter Tryz.func50, Tryz.ntmps50
  go_wp2_with fail
  refine (unhide HCo _ (unhide HM) (unhide HD)).mono ?_
  rintro e' w2 ⟨rfl, hD2, hb2⟩
  have HB2 := hide hb2
  clear HM HD c0 c1 c2 c3 c4 c5 c6 c7 c8 f0 f1 f2 f3 f4 f5 f6 f7 f8
  have HD2 := hide hD2
  clear hb2 hD2 HCo
  go_wp2_with fail
  refine (unhide HTl _ (unhide HD2)).mono ?_
  rintro e' w3 ⟨rfl, r1, t1, L1, hC3, hB3, hT3⟩
  rw [List.nil_append] at hC3
  have HB3 := hide ((unhide HB2).trans hB3)
  have HE := hide (unhide HN r1 t1 L1 hT3)
  have HC3 := hide hC3
  have hC4 := hC3.lt
  clear hB3 hT3 HTl HN HB2 HD2
  obtain ⟨v3, q3, -, -, -⟩ := hC3
  obtain ⟨c0, c1, c2, c3, c4, c5, c6, c7, c8, f0, f1, f2, f3, f4, f5, f6, f7, f8⟩ := q3
  dsimp only at c0 c1 c2 c3 c4 c5 c6 c7 c8
  go_wp2_with fail
  go_end0
  refine ⟨rfl, ?_, bput9 (unhide HB3) (Nat.le_refl _) (Fr.new L)⟩
  rw [unhide HE]
  exact Ch.put9 (unhide HC3) (Fr.new L)

theorem ctake_any (C : Nat) (f : Fr) (p : ByteArray) (last : Bool) (w : World) (hk : f.chk = 0) (hp : p.size ≤ 3000) (hM : Mx w) (hD : Ch C f [] w) :
    Calls Tryz.prog 50 #[.pointer (some ⟨C, 0, none⟩), .string p, .bool last] w fun e' w' => e' = .returned (.tuple #[]) ∧ Ch C (f.nxt p last) (f.outs p last) w' ∧ Below C w w' := by
  obtain ⟨L, enc, why, W, e, r, g, fr, st⟩ := f
  have h := hk
  unfold Fr.chk at h
  dsimp only at h
  split at h
  · cases h
  rename_i c1
  split at h
  · cases h
  split at h
  · cases h
  rename_i c3
  split at h
  · cases h
  rename_i c4
  split at h
  · rename_i c5
    subst c5
    split at h
    · cases h
    rename_i c6
    have h4 : enc = 0 := by omega
    obtain ⟨rfl, hr0, ht⟩ : e = 0 ∧ r.size = 0 ∧ (g, fr, st) = M.st0 := by
      refine Classical.byContradiction fun q => c4 (.inl ⟨rfl, q⟩)
    have hr := size0 hr0
    subst hr h4
    obtain ⟨rfl, rfl, rfl⟩ : g = 0 ∧ fr = false ∧ st = false := by simpa [M.st0] using ht
    have hW : W.size < 256 := by
      have := enF_few (name := L) (l := bl W) (by simpa using c6)
      rwa [bl_len] at this
    cases last
    · cases hE : enF L (bl W ++ bl p)
      · exact ctake_wait C L W p w (by omega) hW hp hM hE hD
      · exact ctake_got_false C L W p w (by omega) hW hp hM hE hD
    · exact ctake_got_true C L W p w (by omega) hW hp hM hD
  · rename_i c5
    have hW0 : W.size = 0 := Classical.byContradiction fun q => c4 (.inr ⟨c5, .inl q⟩)
    have hee : e = enc := Classical.byContradiction fun q => c4 (.inr ⟨c5, .inr q⟩)
    have hW := size0 hW0
    subst hW hee
    obtain ⟨k1, k2, k3⟩ := chk_ok.1 h
    cases last
    · exact ctake_on_false C L e why e r (g, fr, st) p w c5 k1 k2 k3 hp hD
    · exact ctake_on_true C L e why e r (g, fr, st) p w c5 k1 k2 k3 hp hD
end Go.Proofs.YtaiinjfnkmidbaaGreatDoor

namespace Go.Proofs.YtaiinjfnkmidbaaGreatDoor
open Go.RowKit
set_option linter.unusedVariables false

def InF6 (W : World) (N : Fr) (O : List Int) (a x f : Value) (wx : World) : Prop :=
  ∃ av cv B, a = .slice av O.length cv ∧ x = .pointer (some ⟨B, 0, none⟩) ∧ f = .int .i64 0 ∧ Fb B N wx ∧ Ints wx (.slice av O.length cv) O ∧ Below W.heap.size W wx
theorem InF6.a {W w1 : World} {N : Fr} {O : List Int} {av : Option Addr} {cv : Nat} (HW : Below W.heap.size W w1) (HI : w1.ownsRow W.heap.size 3 1 (.slice av O.length cv) O.length (O.map (Value.int .i64))) :
    InF6 W N O (.slice av O.length cv) (.pointer (some ⟨w1.heap.size, 0, none⟩)) (.int .i64 0) (w1.alloc (.cells #[.string N.L, .int .i64 N.enc, .int .i64 N.why, .string N.W, .int .i64 N.e, .string N.r, .int .i64 N.t.1, .bool N.t.2.1, .bool N.t.2.2] 25)) :=
  ⟨av, cv, w1.heap.size, rfl, rfl, rfl, Fb.new w1 N, (Ints.of_owns HI).below (balloc _ _), bstep HW (balloc _ _)⟩
theorem InF6.b {W w1 : World} {N N0 : Fr} {O : List Int} {av : Option Addr} {cv : Nat} (HW : Below W.heap.size W w1) (HR : Fb W.heap.size N0 w1) (HI : w1.ownsRow (W.heap.size + 1) 3 1 (.slice av O.length cv) O.length (O.map (Value.int .i64))) :
    InF6 W N O (.slice av O.length cv) (.pointer (some ⟨W.heap.size, 0, none⟩)) (.int .i64 0) (((((((((w1.setCell ⟨W.heap.size, 0, none⟩ (.string N.L)).setCell ⟨W.heap.size, 1, none⟩ (.int .i64 N.enc)).setCell ⟨W.heap.size, 2, none⟩ (.int .i64 N.why)).setCell ⟨W.heap.size, 3, none⟩ (.string N.W)).setCell ⟨W.heap.size, 4, none⟩ (.int .i64 N.e)).setCell ⟨W.heap.size, 5, none⟩ (.string N.r)).setCell ⟨W.heap.size, 6, none⟩ (.int .i64 N.t.1)).setCell ⟨W.heap.size, 7, none⟩ (.bool N.t.2.1)).setCell ⟨W.heap.size, 8, none⟩ (.bool N.t.2.2)) :=
  ⟨av, cv, W.heap.size, rfl, rfl, rfl, HR.put9 N, Ints.of_owns (oput9 HI (Nat.lt_succ_self _) N), bput9 HW (Nat.le_refl _) N⟩
theorem Fb.made {W w1 : World} (hb : Below ((W.alloc (.cells #[.string ⟨#[]⟩, .int .i64 0, .int .i64 0, .string ⟨#[]⟩, .int .i64 0, .string ⟨#[]⟩, .int .i64 0, .bool false, .bool false] 25)).drew).heap.size ((W.alloc (.cells #[.string ⟨#[]⟩, .int .i64 0, .int .i64 0, .string ⟨#[]⟩, .int .i64 0, .string ⟨#[]⟩, .int .i64 0, .bool false, .bool false] 25)).drew) w1) : Fb W.heap.size (Fr.new ⟨#[]⟩) w1 :=
  ((Fb.new W (Fr.new ⟨#[]⟩)).on (below_drewN (Below.refl _ _) 1)).on hb
theorem bl_mid6 (s : ByteArray) (i j : Nat) : bl (s.extract i j) = ((bl s).drop i).take (j - i) := by simp [bl, ByteArray.data_extract]
theorem chk_sizes {f : Fr} (h : f.chk = 0) : f.L.size ≤ 3000 ∧ f.W.size ≤ 3000 ∧ f.r.size ≤ 3000 := by
  unfold Fr.chk at h
  split at h
  · cases h
  rename_i h1
  split at h
  · cases h
  split at h
  · cases h
  split at h
  · cases h
  rename_i h4
  split at h
  · rename_i h5
    refine ⟨by omega, by omega, ?_⟩
    have : f.e = 0 ∧ f.r.size = 0 ∧ f.t = M.st0 := by
      rcases Classical.em (f.e = 0 ∧ f.r.size = 0 ∧ f.t = M.st0) with a | a
      · exact a
      · exact absurd (.inl ⟨h5, a⟩) h4
    omega
  · have := (chk_ok.1 h).2.1.2
    exact ⟨by omega, by omega, by omega⟩
/-- In whatever pieces the bytes come: each front is right, says of its choice what the whole says, and what is told is what the whole tells. -/
theorem pieces6 {name s : ByteArray} {c m : Nat} (h0 : name.size ≤ 3000) (hcm : c + m ≤ s.size) :
    (Fr.new name).chk = 0 ∧ ((Fr.new name).nxt (s.extract 0 c) false).chk = 0 ∧ (((Fr.new name).nxt (s.extract 0 c) false).nxt (s.extract c (c + m)) false).chk = 0 ∧
    (((Fr.new name).nxt (s.extract 0 c) false).nxt (s.extract c (c + m)) false).nxt (s.extract (c + m) s.size) true = Fr.new name ∧
    ((Fr.new name).outs (s.extract 0 c) false ++ ((Fr.new name).nxt (s.extract 0 c) false).outs (s.extract c (c + m)) false) ++ (((Fr.new name).nxt (s.extract 0 c) false).nxt (s.extract c (c + m)) false).outs (s.extract (c + m) s.size) true = whI name (bl s) ∧
    (((Fr.new name).nxt (s.extract 0 c) false).why = 0 ∨ (((Fr.new name).nxt (s.extract 0 c) false).why = (chI name (bl s)).2.1 ∧ ((Fr.new name).nxt (s.extract 0 c) false).enc = (chI name (bl s)).1)) ∧
    ((((Fr.new name).nxt (s.extract 0 c) false).nxt (s.extract c (c + m)) false).why = 0 ∨ ((((Fr.new name).nxt (s.extract 0 c) false).nxt (s.extract c (c + m)) false).why = (chI name (bl s)).2.1 ∧ (((Fr.new name).nxt (s.extract 0 c) false).nxt (s.extract c (c + m)) false).enc = (chI name (bl s)).1)) := by
  have e12 : bl s = (bl (s.extract 0 c) ++ bl (s.extract c (c + m))) ++ bl (s.extract (c + m) s.size) := by rw [bl_take, bl_extract, bl_mid6, Nat.add_sub_cancel_left, ← List.take_add, List.take_append_drop]
  have i0 := Infr.start name
  have i1 := i0.step (s.extract 0 c)
  have i2 := i1.step (s.extract c (c + m))
  have i3 := i2.last (s.extract (c + m) s.size)
  have e3 : bl (⟨#[]⟩ ++ s.extract 0 c ++ s.extract c (c + m) ++ s.extract (c + m) s.size) = bl s := by
    rw [bl_app, bl_app, bl_app, e12]; rfl
  have c1 := i1.chosen (s.extract c (c + m) ++ s.extract (c + m) s.size)
  have e4 : bl (⟨#[]⟩ ++ s.extract 0 c ++ (s.extract c (c + m) ++ s.extract (c + m) s.size)) = bl s := by
    rw [bl_app, bl_app, bl_app, e12, show bl ⟨#[]⟩ = [] from rfl]; simp only [List.nil_append, List.append_assoc]
  have c2 := i2.chosen (s.extract (c + m) s.size)
  rw [e4] at c1
  rw [e3] at c2 i3
  refine ⟨i0.chk h0, i1.chk h0, i2.chk h0, i3.1, ?_, c1, c2⟩
  rw [← i3.2]
  simp [List.append_assoc]
end Go.Proofs.YtaiinjfnkmidbaaGreatDoor

namespace Go.Proofs.YtaiinjfnkmidbaaGreatDoor
open Go.RowKit
set_option linter.unusedVariables false

theorem nxt_L (f : Fr) (p : ByteArray) (last : Bool) : (f.nxt p last).L = f.L := by
  unfold Fr.nxt
  split
  · rfl
  · split
    · split <;> rfl
    · rfl
theorem Ch.new (w : World) (L : ByteArray) (enc why : Int) (W : ByteArray) (e : Int) (r : ByteArray) (g : Int) (fr st : Bool) : Ch w.heap.size ⟨L, enc, why, W, e, r, (g, fr, st)⟩ [] (w.alloc (.cells #[.string L, .int .i64 enc, .int .i64 why, .string W, .int .i64 e, .string r, .int .i64 g, .bool fr, .bool st, .slice none 0 0] 84)) :=
  ⟨.slice none 0 0, by constructor <;> simp [go_sem], by simp [go_sem], by simp [go_sem], World.ownsRow_nil _ _ _ _⟩
set_option maxHeartbeats 3200000 in
set_option maxRecDepth 100000 in
theorem fdSays : FdSays := by
  intro f p last w hk hp hM
  have hz := chk_sizes hk
  have HCk := hide (fun w h => ckSays f w (by unfold maxLen; omega) (by unfold maxLen; omega) (by unfold maxLen; omega) h)
  rw [hk] at HCk
  have HTk := hide (fun C w hm hd => ctake_any C f p last w hk hp hm hd)
  have HNL := hide (nxt_L f p last)
  have HM := hide hM
  obtain ⟨L, enc, why, W, e, r, g, fr, st⟩ := f
  generalize Fr.nxt ⟨L, enc, why, W, e, r, g, fr, st⟩ p last = N at *
  generalize Fr.outs ⟨L, enc, why, W, e, r, g, fr, st⟩ p last = xs at *
  dsimp only at hz HNL
  have HCl := hide (fun w => clone_any N.L w (by rw [unhide HNL]; omega))
  obtain ⟨nL, nenc, nwhy, nW, ne, nr, ng, nfr, nst⟩ := N
  unfold Fr.v at HCk ⊢
  dsimp only at HCk HCl ⊢
  clear hk hM hz HNL
  go_enter Tryz.func14, Tryz.ntmps14
  go_wp2_with fail
  refine (unhide HCk _ ((unhide HM).below (bstep (balloc w (.cells #[.string L, .int .i64 enc, .int .i64 why, .string W, .int .i64 e, .string r, .int .i64 g, .bool fr, .bool st] 25)) (balloc _ (.cells #[.string ⟨#[]⟩, .int .i64 0, .int .i64 0, .string ⟨#[]⟩, .int .i64 0, .string ⟨#[]⟩, .int .i64 0, .bool false, .bool false] 25))))).mono ?_
  rintro e' w1 ⟨rfl, hb1⟩
  have HR1 := hide ((Fb.new2 w (.cells #[.string L, .int .i64 enc, .int .i64 why, .string W, .int .i64 e, .string r, .int .i64 g, .bool fr, .bool st] 25)).on hb1)
  have HF1 := hide (((Fb.new w ⟨L, enc, why, W, e, r, (g, fr, st)⟩).alloc (.cells #[.string ⟨#[]⟩, .int .i64 0, .int .i64 0, .string ⟨#[]⟩, .int .i64 0, .string ⟨#[]⟩, .int .i64 0, .bool false, .bool false] 25)).on hb1)
  have HB1 := hide (bstep (bstep (balloc w (.cells #[.string L, .int .i64 enc, .int .i64 why, .string W, .int .i64 e, .string r, .int .i64 g, .bool fr, .bool st] 25)) (balloc _ (.cells #[.string ⟨#[]⟩, .int .i64 0, .int .i64 0, .string ⟨#[]⟩, .int .i64 0, .string ⟨#[]⟩, .int .i64 0, .bool false, .bool false] 25))) hb1)
  have hz1 : w.heap.size + 2 ≤ w1.heap.size := by have := hb1.size; simp at this; omega
  clear hb1 HCk
  obtain ⟨c0, c1, c2, c3, c4, c5, c6, c7, c8, f0, f1, f2, f3, f4, f5, f6, f7, f8⟩ := unhide HF1
  dsimp only at c0 c1 c2 c3 c4 c5 c6 c7 c8
  have hBl : w.heap.size < w1.heap.size := by omega
  go_wp2_with fail
  refine (unhide HTk _ _ ((unhide HM).below (bstep (unhide HB1) (balloc w1 (.cells #[.string L, .int .i64 enc, .int .i64 why, .string W, .int .i64 e, .string r, .int .i64 g, .bool fr, .bool st, .slice none 0 0] 84)))) (Ch.new w1 L enc why W e r g fr st)).mono ?_
  rintro e' w2 ⟨rfl, hC2, hB2⟩
  have HB2 := hide ((bstep (unhide HB1) (balloc w1 (.cells #[.string L, .int .i64 enc, .int .i64 why, .string W, .int .i64 e, .string r, .int .i64 g, .bool fr, .bool st, .slice none 0 0] 84))).trans (hB2.mono (by omega)))
  have HR2 := hide (((unhide HR1).alloc (.cells #[.string L, .int .i64 enc, .int .i64 why, .string W, .int .i64 e, .string r, .int .i64 g, .bool fr, .bool st, .slice none 0 0] 84)).below hB2 (by omega))
  have hlt2 := hC2.lt
  have HC2 := hide hC2
  generalize hCq : w1.heap.size = C at *
  clear hCq hB2 HTk HF1 HB1 HR1 c0 c1 c2 c3 c4 c5 c6 c7 c8 f0 f1 f2 f3 f4 f5 f6 f7 f8 hBl
  obtain ⟨v2, q2, -, -, -⟩ := hC2
  obtain ⟨c0, c1, c2, c3, c4, c5, c6, c7, c8, f0, f1, f2, f3, f4, f5, f6, f7, f8⟩ := q2
  dsimp only at c0 c1 c2 c3 c4 c5 c6 c7 c8
  go_wp2_with fail
  refine (unhide HCl _).mono ?_
  rintro e' w3 ⟨rfl, hb3⟩
  have HC3 := hide ((unhide HC2).below hb3)
  have HR3 := hide ((unhide HR2).on hb3)
  have HB3 := hide (bstep (unhide HB2) hb3)
  have hlt3 := (unhide HC3).lt
  have hltR := (unhide HR3).lt
  clear hb3 HC2 HR2 HB2 HCl c0 c1 c2 c3 c4 c5 c6 c7 c8 f0 f1 f2 f3 f4 f5 f6 f7 f8 hlt2
  obtain ⟨v3, q3, h9, g9, hO⟩ := unhide HC3
  obtain ⟨av, cv, hsv⟩ := owns_shape hO
  subst hsv
  have HO := hide hO
  obtain ⟨c0, c1, c2, c3, c4, c5, c6, c7, c8, f0, f1, f2, f3, f4, f5, f6, f7, f8⟩ := q3
  dsimp only at c0 c1 c2 c3 c4 c5 c6 c7 c8
  obtain ⟨b0, b1, b2, b3, b4, b5, b6, b7, b8, g0, g1, g2, g3, g4, g5, g6, g7, g8⟩ := unhide HR3
  dsimp only [Fr.new, M.st0] at b0 b1 b2 b3 b4 b5 b6 b7 b8
  have hne : ¬ (w.heap.size + 1 = C) := by omega
  have hne' : ¬ (C = w.heap.size + 1) := by omega
  clear hO
  go_wp2_with fail
  go_region
  all_goals
    go_wp2_with fail
    refine bodyPost_ret (v := .tuple #[.slice av xs.length cv, .agg #[.string nL, .int .i64 nenc, .int .i64 nwhy, .string nW, .int .i64 ne, .string nr, .int .i64 ng, .bool nfr, .bool nst], .int .i64 0]) (by simp [results, Tryz.results14, go_sem, b0, b1, b2, b3, b4, b5, b6, b7, b8]) rfl ?_
    have HZ9 := bput9 (B := w.heap.size + 1) (bset (unhide HB3) ⟨C, 0, none⟩ (.string nL) (by simp; omega)) (by omega) ⟨nL, nenc, nwhy, nW, ne, nr, (ng, nfr, nst)⟩
    have HO9 := owns_mono (owns_below (oput9 (B := w.heap.size + 1) (owns_set (unhide HO) ⟨C, 0, none⟩ (Nat.lt_succ_self C) (.string nL)) (by omega) ⟨nL, nenc, nwhy, nW, ne, nr, (ng, nfr, nst)⟩) (below_drewN (Below.refl _ _) 1)) (show w.heap.size ≤ C + 1 from by omega)
    exact ⟨.slice av xs.length cv, rfl, HO9, below_drewN HZ9 1⟩
set_option maxHeartbeats 3200000 in
set_option maxRecDepth 100000 in
theorem fdErrs : FdErrs := by
  intro f p last w hL hW hr hpm h hM
  have HCk := hide (fun w h => ckSays f w hL hW hr h)
  have HM := hide hM
  unfold maxLen at hpm
  by_cases hk : f.chk = 0
  · have h3 : 3000 < p.size := by rcases h with h | h; exact absurd hk h; exact h
    rw [hk] at HCk ⊢
    rw [if_pos rfl]
    obtain ⟨L, enc, why, W, e, r, g, fr, st⟩ := f
    unfold Fr.v at HCk ⊢
    dsimp only [Fr.new, M.st0] at HCk ⊢
    clear hk hM hL hW hr h
    go_enter Tryz.func14, Tryz.ntmps14
    go_wp2_with fail
    refine (unhide HCk _ ((unhide HM).below (bstep (balloc w (.cells #[.string L, .int .i64 enc, .int .i64 why, .string W, .int .i64 e, .string r, .int .i64 g, .bool fr, .bool st] 25)) (balloc _ (.cells #[.string ⟨#[]⟩, .int .i64 0, .int .i64 0, .string ⟨#[]⟩, .int .i64 0, .string ⟨#[]⟩, .int .i64 0, .bool false, .bool false] 25))))).mono ?_
    rintro e' w1 ⟨rfl, hb1⟩
    have HR1 := hide ((Fb.new2 w (.cells #[.string L, .int .i64 enc, .int .i64 why, .string W, .int .i64 e, .string r, .int .i64 g, .bool fr, .bool st] 25)).on hb1)
    have HF1 := hide (((Fb.new w ⟨L, enc, why, W, e, r, (g, fr, st)⟩).alloc (.cells #[.string ⟨#[]⟩, .int .i64 0, .int .i64 0, .string ⟨#[]⟩, .int .i64 0, .string ⟨#[]⟩, .int .i64 0, .bool false, .bool false] 25)).on hb1)
    have HB1 := hide (bstep (bstep (balloc w (.cells #[.string L, .int .i64 enc, .int .i64 why, .string W, .int .i64 e, .string r, .int .i64 g, .bool fr, .bool st] 25)) (balloc _ (.cells #[.string ⟨#[]⟩, .int .i64 0, .int .i64 0, .string ⟨#[]⟩, .int .i64 0, .string ⟨#[]⟩, .int .i64 0, .bool false, .bool false] 25))) hb1)
    have hz1 : w.heap.size + 2 ≤ w1.heap.size := by have := hb1.size; simp at this; omega
    clear hb1 HCk
    obtain ⟨b0, b1, b2, b3, b4, b5, b6, b7, b8, g0, g1, g2, g3, g4, g5, g6, g7, g8⟩ := unhide HR1
    dsimp only [Fr.new, M.st0] at b0 b1 b2 b3 b4 b5 b6 b7 b8
    have hlt := (unhide HR1).lt
    go_wp2_with fail
    refine bodyPost_ret (v := .tuple #[.slice none 0 0, .agg #[.string ⟨#[]⟩, .int .i64 0, .int .i64 0, .string ⟨#[]⟩, .int .i64 0, .string ⟨#[]⟩, .int .i64 0, .bool false, .bool false], .int .i64 2]) (by simp [results, Tryz.results14, go_sem, b0, b1, b2, b3, b4, b5, b6, b7, b8]) rfl ?_
    exact ⟨.slice none 0 0, rfl, Ints.nil _, bput9 (B := w.heap.size + 1) (unhide HB1) (by omega) (Fr.new ⟨#[]⟩)⟩
  · rw [if_neg hk]
    have hkb : (f.chk != 0) = true := bne_iff_ne.2 hk
    generalize f.chk = K at *
    obtain ⟨L, enc, why, W, e, r, g, fr, st⟩ := f
    unfold Fr.v at HCk ⊢
    dsimp only [Fr.new, M.st0] at HCk ⊢
    clear hk hM hL hW hr h
    go_enter Tryz.func14, Tryz.ntmps14
    go_wp2_with fail
    refine (unhide HCk _ ((unhide HM).below (bstep (balloc w (.cells #[.string L, .int .i64 enc, .int .i64 why, .string W, .int .i64 e, .string r, .int .i64 g, .bool fr, .bool st] 25)) (balloc _ (.cells #[.string ⟨#[]⟩, .int .i64 0, .int .i64 0, .string ⟨#[]⟩, .int .i64 0, .string ⟨#[]⟩, .int .i64 0, .bool false, .bool false] 25))))).mono ?_
    rintro e' w1 ⟨rfl, hb1⟩
    have HR1 := hide ((Fb.new2 w (.cells #[.string L, .int .i64 enc, .int .i64 why, .string W, .int .i64 e, .string r, .int .i64 g, .bool fr, .bool st] 25)).on hb1)
    have HF1 := hide (((Fb.new w ⟨L, enc, why, W, e, r, (g, fr, st)⟩).alloc (.cells #[.string ⟨#[]⟩, .int .i64 0, .int .i64 0, .string ⟨#[]⟩, .int .i64 0, .string ⟨#[]⟩, .int .i64 0, .bool false, .bool false] 25)).on hb1)
    have HB1 := hide (bstep (bstep (balloc w (.cells #[.string L, .int .i64 enc, .int .i64 why, .string W, .int .i64 e, .string r, .int .i64 g, .bool fr, .bool st] 25)) (balloc _ (.cells #[.string ⟨#[]⟩, .int .i64 0, .int .i64 0, .string ⟨#[]⟩, .int .i64 0, .string ⟨#[]⟩, .int .i64 0, .bool false, .bool false] 25))) hb1)
    have hz1 : w.heap.size + 2 ≤ w1.heap.size := by have := hb1.size; simp at this; omega
    clear hb1 HCk
    obtain ⟨b0, b1, b2, b3, b4, b5, b6, b7, b8, g0, g1, g2, g3, g4, g5, g6, g7, g8⟩ := unhide HR1
    dsimp only [Fr.new, M.st0] at b0 b1 b2 b3 b4 b5 b6 b7 b8
    have hlt := (unhide HR1).lt
    go_wp2_with fail
    refine bodyPost_ret (v := .tuple #[.slice none 0 0, .agg #[.string ⟨#[]⟩, .int .i64 0, .int .i64 0, .string ⟨#[]⟩, .int .i64 0, .string ⟨#[]⟩, .int .i64 0, .bool false, .bool false], .int .i64 K]) (by simp [results, Tryz.results14, go_sem, b0, b1, b2, b3, b4, b5, b6, b7, b8]) rfl ?_
    exact ⟨.slice none 0 0, rfl, Ints.nil _, bput9 (B := w.heap.size + 1) (unhide HB1) (by omega) (Fr.new ⟨#[]⟩)⟩
end Go.Proofs.YtaiinjfnkmidbaaGreatDoor

namespace Go.Proofs.YtaiinjfnkmidbaaGreatDoor

theorem begun_scan : scnI [60, 33, 45, 45, 32, 60, 109, 101, 116, 97, 32, 99, 104, 97, 114, 115, 101, 116, 61, 117, 116, 102, 45, 56, 62, 32, 45, 45, 62, 60, 112, 32, 97, 61, 39, 62, 39, 62, 60, 77, 69, 84, 65, 32, 99, 111, 110, 116, 101, 110, 116, 61, 39, 116, 101, 120, 116, 47, 104, 116, 109, 108, 59, 99, 104, 97, 114, 115, 101, 116, 61, 108, 97, 116, 105, 110, 49, 39, 32, 104, 116, 116, 112, 45, 101, 113, 117, 105, 118, 61, 67, 111, 110, 116, 101, 110, 116, 45, 84, 121, 112, 101, 62] = 4 := by decide +kernel
theorem begun_meta : metaI [(csB, ⟨#[117, 116, 102, 45, 49, 54]⟩)] = 1 := by decide +kernel
theorem begun_user : scnI [60, 33, 45, 45, 62, 60, 109, 101, 116, 97, 32, 99, 104, 97, 114, 115, 101, 116, 61, 120, 45, 117, 115, 101, 114, 45, 100, 101, 102, 105, 110, 101, 100, 62] = 4 := by decide +kernel
end Go.Proofs.YtaiinjfnkmidbaaGreatDoor

namespace Go.Proofs.YtaiinjfnkmidbaaGreatDoor
open Go.RowKit
set_option linter.unusedVariables false

def plain (s : ByteArray) : Bool := (bl s).all pl && decide (s.size ≠ 0)
end Go.Proofs.YtaiinjfnkmidbaaGreatDoor

namespace Go.Proofs.YtaiinjfnkmidbaaGreatDoor
open Go.RowKit
set_option linter.unusedVariables false

def MetaSays : Prop := ∀ (v : Value) (L : List (ByteArray × ByteArray)) (w : World), Ats w v L → L.length ≤ 3000 → (∀ x ∈ L, x.1.size ≤ 3000 ∧ x.2.size ≤ 3000) → Mx w → Calls Tryz.prog 66 #[v] w fun e w' => e = .returned (.tuple #[.int .i64 (metaI L), .int .i64 0]) ∧ Below w.heap.size w w'
def ScanSays : Prop := ∀ (s : ByteArray) (w : World), s.size ≤ 3000 → Mx w → Calls Tryz.prog 30 #[.string s] w fun e w' => e = .returned (.tuple #[.int .i64 (scnI (bl s)), .int .i64 0]) ∧ Below w.heap.size w w'
theorem ats_one {w : World} {b cap : Nat} {x1 y1 : ByteArray} (h0 : w.cell? ⟨b, 0, none⟩ = some (.string x1)) (h1 : w.cell? ⟨b, 1, none⟩ = some (.string y1)) : Ats w (.slice (some ⟨b, 0, none⟩) 1 cap) [(x1, y1)] := by
  refine ⟨_, _, rfl, by simp [maxLen], .inr ⟨b, 0, rfl, fun i hi => ?_⟩⟩
  match i, hi with
  | 0, _ => exact ⟨h0, h1⟩
set_option maxHeartbeats 1600000 in
set_option maxRecDepth 100000 in
theorem scanBegun_any (hM : MetaSays) (hS : ScanSays) (w : World) (hMx : Mx w) : Calls Tryz.prog 27 #[] w fun e w' => e = .returned (.bool true) ∧ Below w.heap.size w w' := by
  have HMx := hide hMx
  clear hMx
  have s1 := fun w => hS ⟨#[60, 33, 45, 45, 32, 60, 109, 101, 116, 97, 32, 99, 104, 97, 114, 115, 101, 116, 61, 117, 116, 102, 45, 56, 62, 32, 45, 45, 62, 60, 112, 32, 97, 61, 39, 62, 39, 62, 60, 77, 69, 84, 65, 32, 99, 111, 110, 116, 101, 110, 116, 61, 39, 116, 101, 120, 116, 47, 104, 116, 109, 108, 59, 99, 104, 97, 114, 115, 101, 116, 61, 108, 97, 116, 105, 110, 49, 39, 32, 104, 116, 116, 112, 45, 101, 113, 117, 105, 118, 61, 67, 111, 110, 116, 101, 110, 116, 45, 84, 121, 112, 101, 62]⟩ w (by decide)
  rw [show bl ⟨#[60, 33, 45, 45, 32, 60, 109, 101, 116, 97, 32, 99, 104, 97, 114, 115, 101, 116, 61, 117, 116, 102, 45, 56, 62, 32, 45, 45, 62, 60, 112, 32, 97, 61, 39, 62, 39, 62, 60, 77, 69, 84, 65, 32, 99, 111, 110, 116, 101, 110, 116, 61, 39, 116, 101, 120, 116, 47, 104, 116, 109, 108, 59, 99, 104, 97, 114, 115, 101, 116, 61, 108, 97, 116, 105, 110, 49, 39, 32, 104, 116, 116, 112, 45, 101, 113, 117, 105, 118, 61, 67, 111, 110, 116, 101, 110, 116, 45, 84, 121, 112, 101, 62]⟩ = [60, 33, 45, 45, 32, 60, 109, 101, 116, 97, 32, 99, 104, 97, 114, 115, 101, 116, 61, 117, 116, 102, 45, 56, 62, 32, 45, 45, 62, 60, 112, 32, 97, 61, 39, 62, 39, 62, 60, 77, 69, 84, 65, 32, 99, 111, 110, 116, 101, 110, 116, 61, 39, 116, 101, 120, 116, 47, 104, 116, 109, 108, 59, 99, 104, 97, 114, 115, 101, 116, 61, 108, 97, 116, 105, 110, 49, 39, 32, 104, 116, 116, 112, 45, 101, 113, 117, 105, 118, 61, 67, 111, 110, 116, 101, 110, 116, 45, 84, 121, 112, 101, 62] from by decide, begun_scan] at s1
  have s2 := fun w => hS ⟨#[60, 33, 45, 45, 62, 60, 109, 101, 116, 97, 32, 99, 104, 97, 114, 115, 101, 116, 61, 120, 45, 117, 115, 101, 114, 45, 100, 101, 102, 105, 110, 101, 100, 62]⟩ w (by decide)
  rw [show bl ⟨#[60, 33, 45, 45, 62, 60, 109, 101, 116, 97, 32, 99, 104, 97, 114, 115, 101, 116, 61, 120, 45, 117, 115, 101, 114, 45, 100, 101, 102, 105, 110, 101, 100, 62]⟩ = [60, 33, 45, 45, 62, 60, 109, 101, 116, 97, 32, 99, 104, 97, 114, 115, 101, 116, 61, 120, 45, 117, 115, 101, 114, 45, 100, 101, 102, 105, 110, 101, 100, 62] from by decide, begun_user] at s2
  have s3 : ∀ (v : Value) (w : World), Ats w v [(csB, ⟨#[117, 116, 102, 45, 49, 54]⟩)] → Mx w → Calls Tryz.prog 66 #[v] w fun e w' => e = .returned (.tuple #[.int .i64 1, .int .i64 0]) ∧ Below w.heap.size w w' := fun v w h hx => by
    have := hM v [(csB, ⟨#[117, 116, 102, 45, 49, 54]⟩)] w h (by decide) (by decide) hx
    rw [begun_meta] at this
    exact this
  unfold csB at s3
  have HS3 := hide s3
  clear hM hS s3
  go_enter Tryz.func27, Tryz.ntmps27
  go_wp2_with fail
  refine (s1 _ (by first | exact unhide HMx | exact (unhide HMx).below (unhide (by assumption)) | exact (unhide HMx).below (bstep (unhide (by assumption)) (balloc _ _)))).mono ?_
  rintro e w1 ⟨rfl, hb1⟩
  have HB1 := hide hb1
  clear hb1 s1
  go_wp2_with fail
  refine (unhide HS3 _ _ (ats_one (by simp) (by simp)) (by first | exact unhide HMx | exact (unhide HMx).below (unhide (by assumption)) | exact (unhide HMx).below (bstep (unhide (by assumption)) (balloc _ _)))).mono ?_
  rintro e w2 ⟨rfl, hb2⟩
  have HB2 := hide (bstep (bstep (unhide HB1) (balloc _ _)) hb2)
  clear hb2 HB1 HS3
  go_wp2_with fail
  refine (s2 _ (by first | exact unhide HMx | exact (unhide HMx).below (unhide (by assumption)) | exact (unhide HMx).below (bstep (unhide (by assumption)) (balloc _ _)))).mono ?_
  rintro e w3 ⟨rfl, hb3⟩
  have HB3 := hide (bstep (unhide HB2) hb3)
  clear hb3 s2 HB2
  go_wp2_with fail
  go_ret
  exact ⟨rfl, unhide HB3⟩
end Go.Proofs.YtaiinjfnkmidbaaGreatDoor

namespace Go.Proofs.YtaiinjfnkmidbaaGreatDoor
open Go.RowKit

theorem metaSays : MetaSays := fun _ _ w hv hl hs hM => Meta_ok w hv hl hs hM
theorem scanSays : ScanSays := fun s w hs hM => Scan_ok s w hs hM
end Go.Proofs.YtaiinjfnkmidbaaGreatDoor

namespace Go.Proofs.YtaiinjfnkmidbaaGreatDoor
open Go.RowKit
set_option linter.unusedVariables false

set_option maxHeartbeats 800000 in
set_option maxRecDepth 100000 in
theorem markBegun_any (w : World) : Calls Tryz.prog 25 #[] w fun e w' => e = .returned (.bool true) ∧ Below w.heap.size w w' := by
  have s1 := fun w => Sniff_any ⟨#[239, 187, 191, 97]⟩ w (by decide)
  rw [show M.sn (bl ⟨#[239, 187, 191, 97]⟩) = (1, 3) from by decide] at s1
  have s2 := fun w => Sniff_any ⟨#[254, 255]⟩ w (by decide)
  rw [show M.sn (bl ⟨#[254, 255]⟩) = (3, 2) from by decide] at s2
  have p1 : ∀ w : World, Calls Tryz.prog 61 #[.int .i64 2, .string ⟨#[120]⟩] w fun e w' => e = .returned (.tuple #[.string ⟨#[255, 254, 120]⟩, .int .i64 0]) ∧ Below w.heap.size w w' := fun w => (Put_any 2 ⟨#[120]⟩ w (by decide) (by decide)).mono fun e w' h => by
    obtain ⟨t, h1, h2, h3⟩ := h
    have : t = ⟨#[255, 254, 120]⟩ := by rw [← str_bl t, h2]; decide
    rw [this] at h1
    exact ⟨h1, h3⟩
  have m1 := fun w => May_any ⟨#[239]⟩ w (by decide)
  rw [show M.may (bl ⟨#[239]⟩) = true from by decide] at m1
  have m2 := fun w => May_any ⟨#[97]⟩ w (by decide)
  rw [show M.may (bl ⟨#[97]⟩) = false from by decide] at m2
  simp only at s1 s2
  go_enter Tryz.func25, Tryz.ntmps25
  go_wp2_with fail
  refine (s1 _).mono ?_
  rintro e w1 ⟨rfl, hb1⟩
  have HB1 := hide hb1
  clear hb1 s1
  go_wp2_with fail
  refine (s2 _).mono ?_
  rintro e w2 ⟨rfl, hb2⟩
  have HB2 := hide (bstep (unhide HB1) hb2)
  clear hb2 s2 HB1
  go_wp2_with fail
  refine (p1 _).mono ?_
  rintro e w3 ⟨rfl, hb3⟩
  have HB3 := hide (bstep (unhide HB2) hb3)
  clear hb3 p1 HB2
  go_wp2_with fail
  refine (m1 _).mono ?_
  rintro e w4 ⟨rfl, hb4⟩
  have HB4 := hide (bstep (unhide HB3) hb4)
  clear hb4 m1 HB3
  go_wp2_with fail
  refine (m2 _).mono ?_
  rintro e w5 ⟨rfl, hb5⟩
  have HB5 := hide (bstep (unhide HB4) hb5)
  clear hb5 m2 HB4
  go_wp2_with fail
  go_ret
  exact ⟨rfl, unhide HB5⟩
end Go.Proofs.YtaiinjfnkmidbaaGreatDoor

namespace Go.Proofs.YtaiinjfnkmidbaaGreatDoor
open Go.RowKit
set_option linter.unusedVariables false

set_option maxHeartbeats 400000 in
set_option maxRecDepth 100000 in
theorem Trim_ok (s : ByteArray) (w : World) (hs : s.size ≤ 3000) :
    Calls Tryz.prog 63 #[.string s] w fun e w' => e = .returned (.tuple #[.string (strOfNums (trI (bl s))), .int .i64 0]) ∧ Below w.heap.size w w' := by
  have HC := hide (fun w => trim_any s w hs)
  have hz := tr_size s hs
  generalize strOfNums (trI (bl s)) = r at HC hz ⊢
  go_enter Tryz.func63, Tryz.ntmps63
  go_wp2_with (first | (go_at_call 73; refine (unhide HC _).mono ?_; rintro e w1 ⟨rfl, hb⟩) | (go_at_call 49; refine (clone_any r _ (by omega)).mono ?_; rintro e w2 ⟨rfl, hb'⟩) | go_in)
  go_ret2
  exact ⟨rfl, bstep hb hb'⟩
set_option maxHeartbeats 800000 in
set_option maxRecDepth 100000 in
theorem labelBegun_any (w : World) : Calls Tryz.prog 26 #[] w fun e w' => e = .returned (.bool true) ∧ Below w.heap.size w w' := by
  have s1 := fun w => Trim_ok ⟨#[9, 32, 97, 32, 98, 32, 10]⟩ w (by decide)
  rw [show strOfNums (trI (bl ⟨#[9, 32, 97, 32, 98, 32, 10]⟩)) = ⟨#[97, 32, 98]⟩ from by decide +kernel] at s1
  have s2 := fun w => Fold_ok ⟨#[65, 196, 122]⟩ w (by decide)
  rw [show strOfNums (fdI (bl ⟨#[65, 196, 122]⟩)) = ⟨#[97, 196, 122]⟩ from by decide +kernel] at s2
  have s3 := fun w => Find_ok ⟨#[32, 76, 97, 116, 105, 110, 49, 13]⟩ w (by decide)
  rw [show findI ⟨#[32, 76, 97, 116, 105, 110, 49, 13]⟩ = 4 from by decide +kernel] at s3
  have s4 := fun w => Name_yes 3 w (by decide)
  rw [show nameI 3 = ⟨#[117, 116, 102, 45, 49, 54, 98, 101]⟩ from by decide +kernel] at s4
  have s5 := fun w => Name_no 0 w (by decide)
  go_enter Tryz.func26, Tryz.ntmps26
  go_wp2_with fail
  refine (s1 _).mono ?_
  rintro e w1 ⟨rfl, hb1⟩
  have HB1 := hide hb1
  clear hb1 s1
  go_wp2_with fail
  refine (s2 _).mono ?_
  rintro e w2 ⟨rfl, hb2⟩
  have HB2 := hide (bstep (unhide HB1) hb2)
  clear hb2 s2 HB1
  go_wp2_with fail
  refine (s3 _).mono ?_
  rintro e w3 ⟨rfl, hb3⟩
  have HB3 := hide (bstep (unhide HB2) hb3)
  clear hb3 s3 HB2
  go_wp2_with fail
  refine (s4 _).mono ?_
  rintro e w4 ⟨rfl, hb4⟩
  have HB4 := hide (bstep (unhide HB3) hb4)
  clear hb4 s4 HB3
  go_wp2_with fail
  refine (s5 _).mono ?_
  rintro e w5 ⟨rfl, hb5⟩
  have HB5 := hide (bstep (unhide HB4) hb5)
  clear hb5 s5 HB4
  go_wp2_with fail
  go_ret
  exact ⟨rfl, unhide HB5⟩
end Go.Proofs.YtaiinjfnkmidbaaGreatDoor

namespace Go.Proofs.YtaiinjfnkmidbaaGreatDoor
open Go.RowKit
set_option linter.unusedVariables false

/-- The place of a number, or -1. -/
def plc (xs : List Int) (n : Int) : Int := match xs.findIdx? (· == n) with | some k => k | none => -1
theorem plc_hit {xs : List Int} {n : Int} {k : Nat} (hk : k < xs.length) (h : ∀ j, j < k → xs.getD j 0 ≠ n) (hn : xs.getD k 0 = n) : plc xs n = k := by
  have e : xs.findIdx? (· == n) = some k := by
    rw [List.findIdx?_eq_some_iff_getElem]
    refine ⟨hk, by simpa [List.getD, hk] using hn, fun j hj => ?_⟩
    have := h j hj
    have hj' : j < xs.length := by omega
    simpa [List.getD, hj'] using this
  unfold plc; rw [e]
theorem plc_miss {xs : List Int} {n : Int} (h : ∀ j, j < xs.length → xs.getD j 0 ≠ n) : plc xs n = -1 := by
  have e : xs.findIdx? (· == n) = none := by
    rw [List.findIdx?_eq_none_iff]
    intro x hx
    obtain ⟨j, hj, rfl⟩ := List.getElem_of_mem hx
    have := h j hj
    simpa [List.getD, hj] using this
  unfold plc; rw [e]
theorem plc_has (xs : List Int) (n : Int) : decide (0 ≤ plc xs n) = xs.any (· == n) := by
  unfold plc
  cases h : xs.findIdx? (· == n) with
  | some k =>
    rw [List.findIdx?_eq_some_iff_getElem] at h
    obtain ⟨hk, hq, _⟩ := h
    have : xs.any (· == n) = true := List.any_eq_true.2 ⟨xs[k], List.getElem_mem _, hq⟩
    rw [this]; simp
  | none =>
    rw [List.findIdx?_eq_none_iff] at h
    have : xs.any (· == n) = false := by rw [List.any_eq_false]; intro x hx; simp [h x hx]
    rw [this]; simp

set_option maxHeartbeats 400000 in
set_option maxRecDepth 100000 in
theorem index_ints {v : Value} {xs : List Int} (n : Int) (w : World) (hx : Ints w v xs) :
    Calls Tryz.prog 194 #[v, .int .i64 n] w fun e w' => e = .returned (.int .i64 (plc xs n)) ∧ w' = w := by
  obtain ⟨ao, cap, rfl, hm, -, hc⟩ := id hx
  unfold maxLen at hm
  clear hx
  have HC := hide hc
  clear hc
  go_enter Tryz.func194, Tryz.ntmps194
  go_wp2_with fail
  go_loop [8] (fun i => ∃ k : Nat, k ≤ xs.length ∧ i = .int .i64 k ∧ Hid (∀ j, j < k → xs.getD j 0 ≠ n)) (fun i => xs.length - (intOf i).toNat)
  case atStart => exact ⟨0, by omega, rfl, hide (fun j hj => by omega)⟩
  case round =>
    obtain ⟨k, hk, rfl, HN⟩ := hrel
    by_cases hlt : k < xs.length
    · obtain ⟨b, off, rfl, hc⟩ : ∃ b off, ao = some ⟨b, off, none⟩ ∧ ∀ i, i < xs.length → w.cell? ⟨b, off + i, none⟩ = some (.int .i64 (xs.getD i 0)) := by
        rcases unhide HC with h | h
        · subst h; simp at hlt
        · exact h
      have hcell := hc k hlt
      have hbr : b < w.heap.size := World.block_lt_of_cell? w _ hcell
      obtain ⟨p, HP⟩ : ∃ p, Hid (xs.getD k 0 = p) := ⟨_, hide rfl⟩
      rw [unhide HP] at hcell
      clear hc
      by_cases hq : n = p
      · subst hq
        have HR := hide (plc_hit hlt (unhide HN) (unhide HP))
        go_wp2_with fail
        go_ret
        exact ⟨by rw [unhide HR]; rfl, rfl⟩
      · have hq' : (n == p) = false := by simpa using hq
        have HN' : Hid (∀ j, j < k + 1 → xs.getD j 0 ≠ n) := hide (fun j hj => by
          by_cases e : j = k
          · rw [e, unhide HP]; exact fun h => hq h.symm
          · exact unhide HN j (by omega))
        clear HN
        go_wp2_with fail
        go_round
        case rel => exact ⟨k + 1, by omega, by go_num, HN'⟩
        case measure => simp [intOf]; omega
    · have HR : Hid (plc xs n = -1) := hide (plc_miss (fun j hj => unhide HN j (by omega)))
      go_wp2_with fail
      go_ret
      exact ⟨by rw [unhide HR]; rfl, rfl⟩

set_option maxHeartbeats 400000 in
set_option maxRecDepth 100000 in
theorem contains_ints {v : Value} {xs : List Int} (n : Int) (w : World) (hx : Ints w v xs) :
    Calls Tryz.prog 144 #[v, .int .i64 n] w fun e w' => e = .returned (.bool (xs.any (· == n))) ∧ w' = w := by
  have H := index_ints n w hx
  obtain ⟨ao, cap, rfl, hm, -, hc⟩ := id hx
  have HD := hide (plc_has xs n)
  generalize plc xs n = q at *
  generalize xs.any (· == n) = r at *
  clear hx hc
  go_enter Tryz.func144, Tryz.ntmps144
  go_wp2_with fail
  refine H.mono ?_
  rintro e w1 ⟨rfl, hw⟩
  replace hw := hw.symm
  subst hw
  go_wp2_with fail
  go_ret
  refine ⟨?_, rfl⟩
  rw [← unhide HD]
  rfl
end Go.Proofs.YtaiinjfnkmidbaaGreatDoor

namespace Go.Proofs.YtaiinjfnkmidbaaGreatDoor.M

def outE (n : Int) : Int := if n = 2 ∨ n = 3 ∨ n = 7 then 1 else n
def hasE (n p : Int) : Bool := if n = 4 then hasB false p else if n = 5 then hasB true p else if n = 6 then anyK p else true
/-- The digits of a number, as bytes. -/
def digs (n : Nat) : List Int := if h : n < 10 then [48 + (n : Int)] else digs (n / 10) ++ [48 + ((n % 10 : Nat) : Int)]
termination_by n
decreasing_by omega
/-- A number that is told. -/
def tld (p : Int) : List Int := [38, 35] ++ digs p.toNat ++ [59]
/-- The code points that are written where all may be told. -/
def ptE (n p : Int) : List Int := if hasE n p then [p] else tld p
def ptsE (n : Int) (l : List Int) : List Int := l.flatMap (ptE n)
def encB (n : Int) (l : List Int) : List Int := if n = 4 then encS false l else if n = 5 then encS true l else if n = 6 then kenc l else enc l

theorem digs_lo {n : Nat} (h : n < 10) : digs n = [48 + (n : Int)] := by rw [digs, dif_pos h]
theorem digs_hi {n : Nat} (h : ¬ n < 10) : digs n = digs (n / 10) ++ [48 + ((n % 10 : Nat) : Int)] := by rw [digs, dif_neg h]
theorem digs_bd (n : Nat) : ∀ x ∈ digs n, 48 ≤ x ∧ x ≤ 57 := by
  induction n using Nat.strongRecOn with
  | _ n ih =>
    intro x hx
    by_cases h : n < 10
    · rw [digs_lo h] at hx; simp at hx; omega
    · rw [digs_hi h] at hx
      rcases List.mem_append.1 hx with h1 | h1
      · exact ih (n / 10) (by omega) x h1
      · simp at h1; omega
theorem digs_len : ∀ (k n : Nat), 1 ≤ k → n < 10 ^ k → (digs n).length ≤ k := by
  intro k
  induction k with
  | zero => intro n h; omega
  | succ k ih =>
    intro n _ hn
    by_cases h : n < 10
    · rw [digs_lo h]; simp
    · have hk : 1 ≤ k := by
        rcases Nat.eq_zero_or_pos k with rfl | h'
        · simp at hn; omega
        · exact h'
      have := ih (n / 10) hk (by rw [Nat.pow_succ] at hn; omega)
      rw [digs_hi h]; simp; omega
theorem tld_bd (p : Int) : ∀ x ∈ tld p, 35 ≤ x ∧ x ≤ 59 := by
  intro x hx
  unfold tld at hx
  simp only [List.mem_append, List.mem_cons, List.not_mem_nil, or_false] at hx
  rcases hx with ((rfl | rfl) | h) | rfl
  · omega
  · omega
  · have := digs_bd _ x h; omega
  · omega
theorem sclr_bd {p : Int} (h : sclr p = true) : 0 ≤ p ∧ p ≤ 1114111 := by
  have := (sclr_iff p).1 h; omega
theorem digs_seven {p : Int} (h : sclr p = true) : (digs p.toNat).length ≤ 7 := by
  have := sclr_bd h
  exact digs_len 7 _ (by omega) (by have : (10 : Nat) ^ 7 = 10000000 := rfl; omega)
theorem tld_len {p : Int} (h : sclr p = true) : (tld p).length ≤ 10 := by
  have := digs_seven h
  unfold tld; simp; omega
theorem ptE_len {n p : Int} (h : sclr p = true) : (ptE n p).length ≤ 10 := by
  unfold ptE; split
  · simp
  · exact tld_len h
theorem ptsE_len (n : Int) (l : List Int) (h : l.all sclr = true) : (ptsE n l).length ≤ 10 * l.length := by
  induction l with
  | nil => simp [ptsE]
  | cons p t ih =>
    rw [List.all_cons, Bool.and_eq_true] at h
    have h1 := ptE_len (n := n) h.1
    have h2 := ih h.2
    have e : ptsE n (p :: t) = ptE n p ++ ptsE n t := rfl
    rw [e, List.length_append, List.length_cons]; omega
theorem ptsE_snoc (n : Int) (l : List Int) (p : Int) : ptsE n (l ++ [p]) = ptsE n l ++ ptE n p := by simp [ptsE]
theorem ptE_yes {n p : Int} (h : hasE n p = true) : ptE n p = [p] := by unfold ptE; rw [if_pos h]
theorem ptE_no {n p : Int} (h : hasE n p = false) : ptE n p = tld p := by unfold ptE; rw [if_neg (by simp [h])]
theorem ptsE_all (n : Int) (l : List Int) (h : l.all (hasE n) = true) : ptsE n l = l := by
  induction l with
  | nil => rfl
  | cons p t ih =>
    rw [List.all_cons, Bool.and_eq_true] at h
    have e : ptsE n (p :: t) = ptE n p ++ ptsE n t := rfl
    rw [e, ih h.2, ptE_yes h.1]; rfl
theorem hasB_low (user : Bool) {p : Int} (h0 : 0 ≤ p) (h1 : p < 128) : hasB user p = true := by
  obtain ⟨k, hk, rfl⟩ := byte_nat h0 (by omega : p ≤ 255)
  have : pt user (k : Int) = k := by unfold pt; rw [if_pos h1]
  rw [← this]; exact hasB_pt user hk
theorem hasE_low (n : Int) {p : Int} (h0 : 28 ≤ p) (h1 : p < 128) : hasE n p = true := by
  unfold hasE
  split
  · exact hasB_low _ (by omega) h1
  · split
    · exact hasB_low _ (by omega) h1
    · split
      · have : pln p = true := by unfold pln; exact decide_eq_true (by omega)
        unfold anyK; rw [pln_has this]; rfl
      · rfl
theorem tld_has (n p : Int) : (tld p).all (hasE n) = true := by
  rw [List.all_eq_true]
  intro x hx
  have := tld_bd p x hx
  exact hasE_low n (by omega) (by omega)
theorem ptE_has (n p : Int) : (ptE n p).all (hasE n) = true := by
  unfold ptE; split
  · rename_i h; simp [h]
  · exact tld_has n p
theorem ptsE_has (n : Int) (l : List Int) : (ptsE n l).all (hasE n) = true := by
  induction l with
  | nil => rfl
  | cons p t ih =>
    have e : ptsE n (p :: t) = ptE n p ++ ptsE n t := rfl
    rw [e, List.all_append, ptE_has, ih]; rfl
theorem tld_sclr (p : Int) : (tld p).all sclr = true := by
  rw [List.all_eq_true]
  intro x hx
  have := tld_bd p x hx
  rw [sclr_iff]; omega
theorem ptsE_sclr (n : Int) (l : List Int) (h : l.all sclr = true) : (ptsE n l).all sclr = true := by
  induction l with
  | nil => rfl
  | cons p t ih =>
    rw [List.all_cons, Bool.and_eq_true] at h
    have e : ptsE n (p :: t) = ptE n p ++ ptsE n t := rfl
    rw [e, List.all_append, ih h.2, Bool.and_true]
    unfold ptE; split
    · simp [h.1]
    · exact tld_sclr p
theorem hasE_out (n p : Int) : hasE (outE n) p = hasE n p := by
  unfold outE; split
  · rename_i h
    unfold hasE
    rw [if_neg (by omega), if_neg (by omega), if_neg (by omega), if_neg (by omega), if_neg (by omega), if_neg (by omega)]
  · rfl
theorem encB_out (n : Int) (l : List Int) : encB (outE n) l = encB n l := by
  unfold outE; split
  · rename_i h
    unfold encB
    rw [if_neg (by omega), if_neg (by omega), if_neg (by omega), if_neg (by omega), if_neg (by omega), if_neg (by omega)]
  · rfl
theorem outE_bd {n : Int} (h : 1 ≤ n ∧ n ≤ 7) : outE n = 1 ∨ outE n = 4 ∨ outE n = 5 ∨ outE n = 6 := by
  unfold outE; split <;> omega
theorem hasE_four (p : Int) : hasE 4 p = hasB false p := rfl
theorem hasE_five (p : Int) : hasE 5 p = hasB true p := rfl
theorem hasE_six (p : Int) : hasE 6 p = anyK p := rfl
theorem hasE_one {n : Int} (h : outE n = 1) (p : Int) : hasE n p = true := by rw [← hasE_out, h]; rfl
theorem ptsE_one {n : Int} (h : outE n = 1) (l : List Int) : ptsE n l = l := ptsE_all n l (by rw [List.all_eq_true]; intro x _; exact hasE_one h x)
theorem hasS (user : Bool) (p : Int) : hasE (if user then 5 else 4) p = hasB user p := by cases user <;> rfl
theorem encB_S (user : Bool) (l : List Int) : encB (if user then 5 else 4) l = encS user l := by cases user <;> rfl
theorem encB_6 (l : List Int) : encB 6 l = kenc l := rfl
theorem encB_1 (l : List Int) : encB 1 l = enc l := rfl
end Go.Proofs.YtaiinjfnkmidbaaGreatDoor.M

namespace Go.Proofs.YtaiinjfnkmidbaaGreatDoor
open Go.RowKit
set_option linter.unusedVariables false

/-- The first k bytes. -/
def bts (k : Nat) : List Int := (List.range k).map (fun j : Nat => (j : Int))
theorem bts_snoc (k : Nat) : bts (k + 1) = bts k ++ [(k : Int)] := by simp [bts, List.range_succ]
theorem bts_len (k : Nat) : (bts k).length = k := by simp [bts]
theorem bts_byt : ∀ x ∈ bts 256, 0 ≤ x ∧ x ≤ 255 := by
  intro x hx
  simp only [bts, List.mem_map, List.mem_range] at hx
  obtain ⟨j, hj, rfl⟩ := hx
  omega
theorem map_tbl (g : Int → Int) (k : Nat) : ((List.range k).map (fun j : Nat => (j : Int))).map g = (List.range k).map (fun j : Nat => g (j : Int)) := by
  rw [List.map_map]; rfl
theorem bts_dec (user : Bool) : M.decS user (bts 256) = M.tblOf user 256 := map_tbl _ 256
theorem any_tbl (f : Nat → Int) (n : Int) (k : Nat) : ((List.range k).map f).any (· == n) = (List.range k).any (fun c => f c == n) := by
  rw [List.any_map]; rfl
theorem tbl_has (user : Bool) (n : Int) : (M.tblOf user 256).any (· == n) = M.hasB user n := any_tbl _ n 256
/-- What a round of eachByte's loop knows. -/
def InB (w wr : World) (k : Nat) (v : Value) : Prop := wr.ownsRow w.heap.size 5 1 v (bts k).length ((bts k).map (Value.int .u8)) ∧ Below w.heap.size w wr

set_option maxHeartbeats 800000 in
set_option maxRecDepth 100000 in
theorem eachByte_any (w : World) : Calls Tryz.prog 142 #[] w fun e w' => e = .returned (.string (strOfNums (bts 256))) ∧ Below w.heap.size w w' := by
  have HI : Hid (InB w w 0 (.slice none 0 0)) := hide ⟨World.ownsRow_nil _ _ _ _, Below.refl _ _⟩
  go_enter Tryz.func142, Tryz.ntmps142
  go_wp2_with fail
  go_loopw [1, 3] (fun v i wr => ∃ k : Nat, k ≤ 256 ∧ i = .int .i64 k ∧ InB w wr k v) (fun _ i _ => 256 - (intOf i).toNat)
  case atStart => exact ⟨0, by omega, rfl, unhide HI⟩
  case round =>
    obtain ⟨k, hk, rfl, hI⟩ := hrel
    clear HI
    have hz := hI.2.size
    have hl := hide (bts_len k)
    obtain ⟨av, capv, hsh⟩ := owns_shape hI.1
    subst hsh
    by_cases hlt : k < 256
    · have HO := hide hI.1
      have HB := hide hI.2
      have HS := hide (bts_snoc k)
      clear hI
      generalize bts k = ns at *
      have hln := unhide hl
      go_wp2_with (at_builtin; refine append_byte rfl (.tmp 6) (.tmp 9) rfl w.heap.size _ ns rfl (unhide HO) (k : Int) rfl (by omega) (by omega) ?_)
      intro ao2 cap2 w2 ho2 hb2
      have HJ : Hid (w2.ownsRow w.heap.size 5 1 (.slice ao2 (k + 1) cap2) (bts (k + 1)).length ((bts (k + 1)).map (Value.int .u8))) := hide (by rw [unhide HS]; simpa [hln] using ho2)
      have HB2 := hide ((unhide HB).trans hb2)
      clear ho2 hb2
      go_wp2_with fail
      go_roundw
      case rel => exact ⟨k + 1, by omega, by go_num, unhide HJ, unhide HB2⟩
      case measure => simp [intOf]; omega
    · obtain rfl : k = 256 := by omega
      have hcv := conv_owned hI.1
      have hb := hide hI.2
      clear hI hl
      go_wp2_with fail
      go_ret
      exact ⟨rfl, unhide hb⟩

theorem Gi_of {p : Int} (h : M.sclr p = true) : Gi p := by have := M.sclr_bd h; unfold Gi; omega
/-- The points that known's function of a byte a sign looks through lie at block B. -/
def Pts (user : Bool) (B : Nat) (w : World) : Prop := ∃ v, w.cell? ⟨B, 0, none⟩ = some v ∧ Ints w v (M.tblOf user 256)
theorem Pts.below {user : Bool} {B : Nat} {w w' : World} (h : Pts user B w) (hb : Below w.heap.size w w') : Pts user B w' := by
  obtain ⟨v, h1, h2⟩ := h
  exact ⟨v, (hb.cell (p := ⟨B, 0, none⟩) (World.block_lt_of_cell? w _ h1)).trans h1, h2.below hb⟩

set_option maxHeartbeats 400000 in
set_option maxRecDepth 100000 in
theorem hasS_any (user : Bool) (B : Nat) (p : Int) (w : World) (h : Pts user B w) :
    Calls Tryz.prog 143 #[.int .i64 p, .pointer (some ⟨B, 0, none⟩)] w fun e w' => e = .returned (.bool (M.hasB user p)) ∧ w' = w := by
  obtain ⟨v, hc, hI⟩ := h
  have hl := World.block_lt_of_cell? w _ hc
  simp only at hl
  have H := hide (contains_ints p w hI)
  rw [tbl_has] at H
  obtain ⟨ao, cap, rfl, -, -, -⟩ := hI
  go_enter Tryz.func143, Tryz.ntmps143
  go_wp2_with fail
  refine (unhide H).mono ?_
  rintro e w1 ⟨rfl, hw⟩
  replace hw := hw.symm
  subst hw
  go_wp2_with fail
  go_ret
  exact ⟨rfl, rfl⟩

set_option maxHeartbeats 400000 in
set_option maxRecDepth 100000 in
theorem hasK_any (p : Int) (w : World) (h : Gi p) :
    Calls Tryz.prog 145 #[.int .i64 p] w fun e w' => e = .returned (.bool (M.anyK p)) ∧ Below w.heap.size w w' := by
  have H := hide (kencode_any _ [p] _ (one_int w p) (by simp) (by intro n hn; simp at hn; rw [hn]; exact h))
  have HB := hide (balloc w (.cells #[.int .i64 p] 3))
  cases hq : M.anyK p
  · rw [encodedK_no (by simp [hq])] at H
    go_enter Tryz.func145, Tryz.ntmps145
    go_wp2_with fail
    refine (unhide H).mono ?_
    rintro e w1 ⟨rfl, hb⟩
    have HB1 := hide (bstep (unhide HB) hb)
    clear hb
    go_wp2_with fail
    go_ret
    exact ⟨rfl, unhide HB1⟩
  · rw [encodedK_yes (by simp [hq])] at H
    go_enter Tryz.func145, Tryz.ntmps145
    go_wp2_with fail
    refine (unhide H).mono ?_
    rintro e w1 ⟨rfl, hb⟩
    have HB1 := hide (bstep (unhide HB) hb)
    clear hb
    go_wp2_with fail
    go_ret
    exact ⟨rfl, unhide HB1⟩

set_option maxHeartbeats 400000 in
set_option maxRecDepth 100000 in
theorem hasU_any (p : Int) (w : World) : Calls Tryz.prog 147 #[.int .i64 p] w fun e w' => e = .returned (.bool true) ∧ w' = w := by
  go_enter Tryz.func147, Tryz.ntmps147
  go_wp2
  go_ret
  exact ⟨rfl, rfl⟩

set_option maxHeartbeats 800000 in
set_option maxRecDepth 100000 in
theorem knownS_any (user : Bool) (n : Int) (hn : n = if user then 5 else 4) (w : World) :
    Calls Tryz.prog 88 #[.int .i64 n] w fun e w' => ∃ B, e = .returned (.func (Fn.func 143) #[] #[.pointer (some ⟨B, 0, none⟩)]) ∧ Pts user B w' ∧ Below w.heap.size w w' := by
  have H1 := hide (fun w => eachByte_any w)
  have H2 := hide (fun w => decodeS_any user (strOfNums (bts 256)) w (by rw [strOfNums_size, bts_len]; omega))
  rw [bl_str _ bts_byt, bts_dec] at H2
  generalize strOfNums (bts 256) = s at *
  cases user
  all_goals
    simp only [Bool.false_eq_true, if_false, if_true] at hn
    subst hn
    go_enter Tryz.func88, Tryz.ntmps88
    go_wp2_with fail
    refine (unhide H1 _).mono ?_
    rintro e w1 ⟨rfl, hb1⟩
    have HB1 := hide hb1
    clear hb1 H1
    go_wp2_with fail
    refine (unhide H2 _).mono ?_
    rintro e w2 ⟨v, rfl, hI, hb2⟩
    have HB2 := hide (bstep (unhide HB1) hb2)
    have HI := hide hI
    obtain ⟨ao, cap, rfl, -, -, -⟩ := hI
    clear hb2 H2
    go_wp2_with fail
    go_ret
    refine ⟨_, rfl, ⟨_, ?_, (unhide HI).below (balloc _ _)⟩, bstep (unhide HB2) (balloc _ _)⟩
    simp

set_option maxHeartbeats 400000 in
set_option maxRecDepth 100000 in
theorem knownK_any (w : World) : Calls Tryz.prog 88 #[.int .i64 6] w fun e w' => e = .returned (.func (Fn.func 145) #[] #[]) ∧ w' = w := by
  go_enter Tryz.func88, Tryz.ntmps88
  go_wp2
  go_ret
  exact ⟨rfl, rfl⟩
set_option maxHeartbeats 400000 in
set_option maxRecDepth 100000 in
theorem knownU_any (w : World) : Calls Tryz.prog 88 #[.int .i64 1] w fun e w' => e = .returned (.func (Fn.func 147) #[] #[]) ∧ w' = w := by
  go_enter Tryz.func88, Tryz.ntmps88
  go_wp2
  go_ret
  exact ⟨rfl, rfl⟩
end Go.Proofs.YtaiinjfnkmidbaaGreatDoor

namespace Go.Proofs.YtaiinjfnkmidbaaGreatDoor
open Go.RowKit
set_option linter.unusedVariables false

/-- strconv.Itoa answers the numeral of each scalar, in this world and in those that follow it. -/
def Tb (w : World) : Prop := ∀ w', Below w.heap.size w w' → ∀ p, M.sclr p = true → Calls Tryz.prog 207 #[.int .i64 p] w' fun e w'' => e = .returned (.string (strOfNums (M.digs p.toNat))) ∧ Below w'.heap.size w' w''
theorem Tb.below {w w1 : World} (h : Tb w) (hb : Below w.heap.size w w1) : Tb w1 := fun w' h' => h w' (bstep hb h')

/-- The code points xs lie in the variable at block B. -/
def Acc (B : Nat) (xs : List Int) (v : Value) (w : World) : Prop := w.heap[B]? = some (.cells #[v] 31 (0, 0)) ∧ w.ownsRow (B + 1) 3 1 v xs.length (xs.map (Value.int .i64)) ∧ B + 1 ≤ w.heap.size
theorem Acc.below {B : Nat} {xs : List Int} {v : Value} {w w' : World} (h : Acc B xs v w) (hb : Below w.heap.size w w') : Acc B xs v w' := by
  obtain ⟨h1, h2, h3⟩ := h
  exact ⟨(hb.block B (by omega)).trans h1, owns_below h2 hb, Nat.le_trans h3 hb.size⟩
/-- Rows of other things than integers stay. -/
def Kp (B : Nat) (w w' : World) : Prop := ∀ b c fz, b ≠ B → w.heap[b]? = some (.cells c 5 fz) → w'.heap[b]? = some (.cells c 5 fz)

theorem not_own {w : World} {base n : Nat} {v : Value} {xs : List Value} (h : w.ownsRow base 3 1 v n xs) {b : Nat} {c : Array Value} {fz : Nat × Nat} (hb : w.heap[b]? = some (.cells c 5 fz)) : some b ≠ v.ownBlock := by
  intro e
  rcases h.2 with ⟨hv, _⟩ | ⟨g, cap, cur, hv, _, hg, _⟩
  · rw [hv] at e; simp [Value.ownBlock] at e
  · rw [hv] at e
    simp only [Value.ownBlock, Option.some.injEq] at e
    subst e
    rw [hg] at hb
    simp at hb

set_option maxHeartbeats 400000 in
set_option maxRecDepth 100000 in
theorem push_any (B : Nat) (p : Int) (v : Value) (xs : List Int) (w : World) (hA : Acc B xs v w) (hn : xs.length ≤ 40000) :
    Calls Tryz.prog 158 #[.int .i64 p, .pointer (some ⟨B, 0, none⟩)] w fun e w' => e = .returned (.tuple #[]) ∧ ∃ v', Acc B (xs ++ [p]) v' w' ∧ Below B w w' ∧ Kp B w w' := by
  obtain ⟨hv, hown, hlt⟩ := hA
  have hc := cell_of_one hv
  have hf := free_of_one hv
  obtain ⟨i0, hi, hz0, hz1, hz2⟩ := info_parts info3
  have hB : B < w.heap.size := by omega
  have HV := hide hv
  have HNO := hide (fun (b : Nat) (c : Array Value) (fz : Nat × Nat) (h : w.heap[b]? = some (.cells c 5 fz)) => not_own hown h)
  clear hv
  go_enter Tryz.func158, Tryz.ntmps158
  go_wp2_with (at_builtin; refine wpList_append_own _ rfl (.tmp 3) (.tmp 5) 31 rfl (B + 1) 3 i0 (.int .i64 0) 1 8 Tryz.underlying31 hi hz0 hz1 hz2 rfl (by decide) _ _ _ rfl (hown.alloc _) ⟨w.heap.size, 0, none⟩ 1 1 [.int .i64 p] rfl rfl ?c1 ?c2 ?c3 ?c4 ?c5 ?_)
  case c1 =>
    intro j u hj
    match j, hj with
    | 0, hj => simp at hj; subst hj; simp [Addr.add]
  case c2 => intro u hu; simp at hu; subst hu; rfl
  case c3 => unfold maxLen; omega
  case c4 => omega
  case c5 => simp; omega
  intro v' w1 hown' hgrow _
  obtain ⟨ao', cap', rfl⟩ := owns_shape hown'
  have hne : some B ≠ v.ownBlock := fun e => by have := hown.lt B e.symm; omega
  have hv1 : w1.heap[B]? = some (.cells #[v] 31 (0, 0)) := by
    rw [hgrow.block B (by simp; omega) hne, Below.heap_alloc _ _ _ hB]
    exact unhide HV
  have hc1 := cell_of_one hv1
  have hf1 := free_of_one hv1
  have R1 := hide (one_setCell (u := .slice ao' (xs.length + 1) cap') hv1)
  have R2 := hide (ownsRow_setCell_below hown' (a := ⟨B, 0, none⟩) (show B < B + 1 by omega) (.slice ao' (xs.length + 1) cap'))
  have R3 : Below B w (w1.setCell ⟨B, 0, none⟩ (.slice ao' (xs.length + 1) cap')) := by
    have h1 := ((Below.refl B w).alloc (by omega) (.cells #[.int .i64 p] 3)).grown hgrow (by simp; omega) (fun k hk => by have := hown.lt k hk; omega)
    exact h1.setCell (Nat.le_refl _) _
  have R4 : Hid (Kp B w (w1.setCell ⟨B, 0, none⟩ (.slice ao' (xs.length + 1) cap'))) := hide (fun b c fz h2 h1 => by
    have hbl := lt_of_block h1
    rw [Below.heap_setCell _ _ _ _ h2, hgrow.block b (by simp; omega) (unhide HNO b c fz h1), Below.heap_alloc _ _ _ hbl]
    exact h1)
  have R5 : Hid (B + 1 ≤ (w1.setCell ⟨B, 0, none⟩ (.slice ao' (xs.length + 1) cap')).heap.size) := hide (Nat.le_trans hlt R3.size)
  have HR3 := hide R3
  clear hc hf hv1 HV hown hown' hgrow R3
  go_wp2_with fail
  go_end0
  exact ⟨rfl, _, ⟨unhide R1, by simpa using unhide R2, unhide R5⟩, unhide HR3, unhide R4⟩

theorem bytesRow_at (s : ByteArray) (cap j : Nat) (h : j < s.size) : (bytesRow s cap)[j]? = some (.int .u8 ((bl s).getD j 0)) := by
  have hb := bl_get s j h
  rw [List.getD_eq_getElem?_getD, hb]
  unfold bytesRow
  rw [Array.getElem?_append_left (by simp; exact h)]
  simp [h]
  rfl
/-- What a round of putNumber's loop knows. -/
def InN (B bb : Nat) (xs : List Int) (s : ByteArray) (C : Array Value) (fz : Nat × Nat) (w wr : World) (k : Nat) : Prop := (∃ v, Acc B (xs ++ (bl s).take k) v wr) ∧ Below B w wr ∧ wr.heap[bb]? = some (.cells C 5 fz)

set_option maxHeartbeats 800000 in
set_option maxRecDepth 100000 in
theorem putNumber_any (B : Nat) (p : Int) (v : Value) (xs : List Int) (w : World) (hT : Tb w) (hp : M.sclr p = true) (hA : Acc B xs v w) (hn : xs.length ≤ 30000) :
    Calls Tryz.prog 159 #[.int .i64 p, .func (Fn.func 158) #[] #[.pointer (some ⟨B, 0, none⟩)]] w fun e w' => e = .returned (.tuple #[]) ∧ ∃ v', Acc B (xs ++ M.tld p) v' w' ∧ Below B w w' := by
  have HT := hide (hT w (Below.refl _ _) p hp)
  have hz : (strOfNums (M.digs p.toNat)).size ≤ 7 := by rw [strOfNums_size]; exact M.digs_seven hp
  have HL : Hid (bl ((⟨#[38, 35]⟩ : ByteArray) ++ strOfNums (M.digs p.toNat) ++ (⟨#[59]⟩ : ByteArray)) = M.tld p) := hide (by
    rw [bl_app, bl_app, bl_str _ (fun x hx => by have := M.digs_bd _ x hx; omega)]
    unfold M.tld
    rw [show bl ⟨#[38, 35]⟩ = [38, 35] from by decide, show bl ⟨#[59]⟩ = [59] from by decide])
  have hBw : B ≤ w.heap.size := by have := hA.2.2; omega
  have HA := hide hA
  generalize strOfNums (M.digs p.toNat) = d at *
  clear hT hp hA
  have z2 : (⟨#[38, 35]⟩ : ByteArray).size = 2 := rfl
  have z1 : (⟨#[59]⟩ : ByteArray).size = 1 := rfl
  have hsz : ((⟨#[38, 35]⟩ : ByteArray) ++ d ++ (⟨#[59]⟩ : ByteArray)).size ≤ 10 := by rw [ByteArray.size_append, ByteArray.size_append, z1, z2]; omega
  go_enter Tryz.func159, Tryz.ntmps159
  go_wp2_with fail
  refine (unhide HT).mono ?_
  rintro e w1 ⟨rfl, hb1⟩
  have HB1 := hide hb1
  have HA1 := hide ((unhide HA).below hb1)
  clear hb1 HT HA
  have hcv := run_bytes_of_string (P := Tryz.prog) w1 9 151 5 ((⟨#[38, 35]⟩ : ByteArray) ++ d ++ (⟨#[59]⟩ : ByteArray)) Tryz.underlying9 Tryz.underlying151 Tryz.underlying5
  go_wp2_with fail
  have hsn : ((⟨#[38, 35]⟩ : ByteArray) ++ d ++ (⟨#[59]⟩ : ByteArray)).size = 2 + d.size + 1 := by rw [ByteArray.size_append, ByteArray.size_append, z1, z2]
  have HSN := hide hsn
  have HCl : Hid (∀ cap j, j < 2 + d.size + 1 → (bytesRow ((⟨#[38, 35]⟩ : ByteArray) ++ d ++ (⟨#[59]⟩ : ByteArray)) cap)[j]? = some (.int .u8 ((bl ((⟨#[38, 35]⟩ : ByteArray) ++ d ++ (⟨#[59]⟩ : ByteArray))).getD j 0))) := hide (fun cap j hj => bytesRow_at _ cap j (by rw [hsn]; exact hj))
  clear hcv hsn hsz
  generalize grownCap w1 (2 + d.size + 1) 0 5 = cap at *
  replace HCl := hide (unhide HCl cap)
  have HBy := hide (bl_byt ((⟨#[38, 35]⟩ : ByteArray) ++ d ++ (⟨#[59]⟩ : ByteArray)))
  generalize bytesRow ((⟨#[38, 35]⟩ : ByteArray) ++ d ++ (⟨#[59]⟩ : ByteArray)) cap = C at *
  obtain ⟨s, HS⟩ : ∃ s, Hid (((⟨#[38, 35]⟩ : ByteArray) ++ d ++ (⟨#[59]⟩ : ByteArray)) = s) := ⟨_, hide rfl⟩
  rw [unhide HS] at HL HSN HCl HBy
  have HBW : Hid (Below w1.heap.size w1 (w1.alloc (.cells C 5 (C.size, C.size + 1))).drew) := hide ((balloc _ _).drew)
  have HBB : Hid ((w1.alloc (.cells C 5 (C.size, C.size + 1))).drew.heap[w1.heap.size]? = some (.cells C 5 (C.size, C.size + 1))) := hide (heap_alloc_new w1 _)
  have HAW := hide ((unhide HA1).below (unhide HBW))
  have hBl : B < w1.heap.size := by have := (unhide HA1).2.2; omega
  generalize (w1.alloc (.cells C 5 (C.size, C.size + 1))).drew = W at *
  generalize (C.size, C.size + 1) = fz at *
  have HI : Hid (InN B w1.heap.size xs s C fz w W 0) := hide ⟨⟨v, by simpa using unhide HAW⟩, (bstep (unhide HB1) (unhide HBW)).mono hBw, unhide HBB⟩
  clear HAW HBW HBB
  go_loopw [12] (fun i wr => ∃ k : Nat, k ≤ 2 + d.size + 1 ∧ i = .int .i64 k ∧ InN B w1.heap.size xs s C fz w wr k) (fun i _ => 2 + d.size + 1 - (intOf i).toNat)
  case atStart => exact ⟨0, by omega, rfl, unhide HI⟩
  case round =>
    obtain ⟨k, hk, rfl, ⟨v2, hA2⟩, hB2, hh2⟩ := hrel
    clear HI
    by_cases hlt : k < 2 + d.size + 1
    · have hbd := unhide HBy ((bl s).getD k 0) (by rw [List.getD_eq_getElem?_getD, List.getElem?_eq_getElem (by rw [bl_len, unhide HSN]; exact hlt)]; simp)
      have hcl : wr.cell? ⟨w1.heap.size, k, none⟩ = some (.int .u8 ((bl s).getD k 0)) := by simp [World.cell?, hh2, unhide HCl k hlt]
      have hbr : w1.heap.size < wr.heap.size := lt_of_block hh2
      have HTk : Hid ((bl s).take (k + 1) = (bl s).take k ++ [(bl s).getD k 0]) := hide (take_snoc _ k (by rw [bl_len, unhide HSN]; exact hlt))
      have HZ : Hid ((xs ++ (bl s).take k).length ≤ 40000) := hide (by rw [List.length_append, List.length_take]; omega)
      have HH2 := hide hh2
      have HA2 := hide hA2
      have HB2 := hide hB2
      obtain ⟨c, HC⟩ : ∃ c, Hid ((bl s).getD k 0 = c) := ⟨_, hide rfl⟩
      rw [unhide HC] at hbd hcl HTk
      clear hA2 hB2 hh2
      go_wp2_with fail
      refine (push_any B c v2 _ _ (unhide HA2) (unhide HZ)).mono ?_
      rintro e w2 ⟨rfl, v3, hA3, hB3, hK3⟩
      have HI : Hid (InN B w1.heap.size xs s C fz w w2 (k + 1)) := hide ⟨⟨v3, by rw [unhide HTk, ← List.append_assoc]; exact hA3⟩, (unhide HB2).trans hB3, hK3 _ _ _ (by omega) (unhide HH2)⟩
      clear hA3 hB3 hK3
      go_wp2_with fail
      go_roundw
      case rel => exact ⟨k + 1, by omega, by go_num, unhide HI⟩
      case measure => simp [intOf]; omega
    · have HE : Hid ((bl s).take k = M.tld p) := hide (by rw [List.take_of_length_le (by rw [bl_len, unhide HSN]; omega), unhide HL])
      rw [unhide HE] at hA2
      have HA2 := hide hA2
      have HB2 := hide hB2
      clear hA2 hB2 hh2
      go_wp2_with fail
      go_end0
      exact ⟨rfl, v2, unhide HA2, unhide HB2⟩
end Go.Proofs.YtaiinjfnkmidbaaGreatDoor

namespace Go.Proofs.YtaiinjfnkmidbaaGreatDoor
open Go.RowKit Go.Maps
set_option linter.unusedVariables false

theorem law3 : Keyed Tryz.prog 3 := int_keyed Tryz.underlying3
theorem zero5 (w : World) : (zeroValue 5).run Tryz.prog w = .ok (.int .u8 0) w := by kernel_rfl

/-- The map of the first k bytes' code points. -/
def Dk (user : Bool) : Nat → DataW Unit
  | 0 => .map []
  | k + 1 => (Dk user k).put (.int .i64 (M.pt user k)) (.lit (.int .u8 k))

theorem Dk_map (user : Bool) : ∀ k, IsMap (Dk user k)
  | 0 => isMap_empty
  | k + 1 => (Dk_map user k).put _ _
theorem lit_ne {a b : Int} (h : a ≠ b) : (Lit.int .i64 a) ≠ .int .i64 b := fun e => h (by injection e)

theorem Dk_has (user : Bool) (n : Int) : ∀ k, Maps.has (Dk user k) (.int .i64 n) = (List.range k).any (fun c => M.pt user (c : Nat) == n)
  | 0 => by simp [Dk, Maps.has]
  | k + 1 => by
    rw [List.range_succ, List.any_append, ← Dk_has user n k]
    by_cases h : M.pt user k = n
    · subst h
      rw [Dk, has_put_same (Dk_map user k) (by trivial)]
      simp
    · rw [Dk, has_put_other (lit_ne (fun e => h e.symm))]
      simp [h]

theorem Dk_at (user : Bool) {j : Nat} : ∀ k, j < k → k ≤ 256 → (Dk user k).atKey (.int .i64 (M.pt user j)) (.lit (.int .u8 0)) = .lit (.int .u8 j)
  | 0, h, _ => by omega
  | k + 1, h, hk => by
    by_cases e : j = k
    · subst e
      rw [Dk, atKey_put_same (Dk_map user j) (by trivial)]
    · rw [Dk, atKey_put_other (lit_ne (fun e' => e (M.pt_inj user (by omega) (by omega) e')))]
      exact Dk_at user k (by omega) (by omega)

theorem D_has (user : Bool) (n : Int) : Maps.has (Dk user 256) (.int .i64 n) = M.hasB user n := Dk_has user n 256
theorem D_at (user : Bool) {n : Int} (h : M.hasB user n = true) : (Dk user 256).atKey (.int .i64 n) (.lit (.int .u8 0)) = .lit (.int .u8 (M.bof user n)) := by
  obtain ⟨k, hk, e, hp⟩ := M.bof_spec user h
  rw [e, ← hp]
  exact Dk_at user 256 hk (by omega)

/-- Block b is the map of all bytes. -/
def IsB (user : Bool) (w : World) (b : Nat) : Prop := w.ownsMap Tryz.prog 3 (plainElem (H := Unit) Tryz.prog 5) b 256 (Dk user 256)
theorem IsB.below {user : Bool} {w w' : World} {b B : Nat} (h : IsB user w b) (hb : Below B w w') (hB : b < B) : IsB user w' b := by
  obtain ⟨es, clock, h1, h2⟩ := h
  exact ⟨es, clock, (hb.block b hB).trans h1, h2⟩
theorem IsB.lt {user : Bool} {w : World} {b : Nat} (h : IsB user w b) : b < w.heap.size := by
  obtain ⟨es, clock, h1, _⟩ := h
  exact lt_of_block h1

set_option maxHeartbeats 400000 in
set_option maxRecDepth 100000 in
theorem bytesOf_any (user : Bool) (w : World) : Calls Tryz.prog 228 #[.bool user] w fun e w' => e = .returned (.map (some w.heap.size)) ∧ IsB user w' w.heap.size ∧ Below w.heap.size w w' := by
  have hmm : ∀ w : World, (Instr.makeMap 206 (some (.int .i64 256))).run Tryz.prog w = .ok (.map (some w.heap.size)) (w.alloc (.map #[] 0)) := fun w => rfl
  go_enter Tryz.func228, Tryz.ntmps228
  go_wp2_with fail
  refine (pointsOf_any user _).mono ?_
  rintro e w1 ⟨v1, rfl, hI1, hb1⟩
  obtain ⟨ao1, cap1, hsh1, -, -, hc1⟩ := hI1
  subst hsh1
  rw [M.tblOf_len]
  rw [M.tblOf_len] at hc1
  obtain ⟨b, off, rfl, hcc⟩ : ∃ b off, ao1 = some ⟨b, off, none⟩ ∧ ∀ i, i < 256 → w1.cell? ⟨b, off + i, none⟩ = some (.int .i64 ((M.tblOf user 256).getD i 0)) := by
    rcases hc1 with h | h
    · have := congrArg List.length h; rw [M.tblOf_len] at this; simp at this
    · exact h
  have hmap : w1.heap[w.heap.size]? = some (.map #[] 0) := (hb1.block _ (by simp)).trans (heap_alloc_new _ _)
  have hne : b ≠ w.heap.size := by
    intro e
    have := hcc 0 (by omega)
    rw [e] at this
    simp [World.cell?, hmap] at this
  have hown0 : w1.ownsMap Tryz.prog 3 (plainElem (H := Unit) Tryz.prog 5) w.heap.size 0 (Dk user 0) := by
    obtain ⟨es, clock, h1, h2⟩ := World.ownsMap_made (H := Unit) w Tryz.prog 3 (plainElem (H := Unit) Tryz.prog 5)
    exact ⟨es, clock, (hb1.block _ (by simp)).trans h1, h2⟩
  have hbl : b < w1.heap.size := World.block_lt_of_cell? w1 _ (hcc 0 (by omega))
  have HI : Hid (w1.ownsMap Tryz.prog 3 (plainElem (H := Unit) Tryz.prog 5) w.heap.size 0 (Dk user 0) ∧ (∀ i, i < 256 → w1.cell? ⟨b, off + i, none⟩ = some (.int .i64 ((M.tblOf user 256).getD i 0))) ∧ Below w.heap.size w w1) := hide ⟨hown0, hcc, bstep (balloc _ _) hb1⟩
  clear hc1 hcc hown0 hmap hb1
  go_wp2_with fail
  go_loopw [10] (fun i wr => ∃ k : Nat, k ≤ 256 ∧ i = .int .i64 k ∧ Hid (wr.ownsMap Tryz.prog 3 (plainElem (H := Unit) Tryz.prog 5) w.heap.size k (Dk user k) ∧ (∀ i, i < 256 → wr.cell? ⟨b, off + i, none⟩ = some (.int .i64 ((M.tblOf user 256).getD i 0))) ∧ Below w.heap.size w wr)) (fun i _ => 256 - (intOf i).toNat)
  case atStart => exact ⟨0, by omega, rfl, HI⟩
  case round =>
    obtain ⟨k, hk, rfl, HJ⟩ := hrel
    clear HI
    obtain ⟨hown, hcl, hbw⟩ := unhide HJ
    by_cases hlt : k < 256
    · have hcell := hcl k hlt
      rw [M.tblOf_get user hlt] at hcell
      have hpb := M.pt_bd user hlt
      have HS : Hid (Dk user (k + 1) = (Dk user k).put (.int .i64 (M.pt user k)) (.lit (.int .u8 k))) := hide rfl
      have hkey : keyOf Tryz.prog 3 (.int .i64 (M.pt user k)) = some (.int .i64 (M.pt user k)) := keyOf_int_mk Tryz.underlying3 (WalkArith.wf_i64 (by omega))
      have hwf : (Lit.int .u8 (k : Int)).wf = true := WalkArith.wf_u8 (by omega)
      obtain ⟨p, HP⟩ : ∃ p, Hid (M.pt user (k : Int) = p) := ⟨_, rfl⟩
      rw [unhide HP] at hcell hpb hkey HS
      have hbr : b < wr.heap.size := World.block_lt_of_cell? wr _ hcell
      have HCL := hide hcl
      have HBW := hide hbw
      clear hcl hbw
      go_wp2_with (at_mapUpdate; refine wpList_mapUpdate_own _ rfl _ _ _ 206 rfl 3 5 law3 Tryz.underlying206 _ w.heap.size k _ rfl hown (by unfold maxLen; omega) _ _ _ rfl rfl hkey _ [] (plainElem_int Tryz.underlying5 hwf) ?_)
      intro w2 hown2 hgrow
      have HK : Hid (w2.ownsMap Tryz.prog 3 (plainElem (H := Unit) Tryz.prog 5) w.heap.size (k + 1) (Dk user (k + 1)) ∧ (∀ i, i < 256 → w2.cell? ⟨b, off + i, none⟩ = some (.int .i64 ((M.tblOf user 256).getD i 0))) ∧ Below w.heap.size w w2) := by
        refine hide ⟨by rw [unhide HS]; exact hown2, fun i hi => ?_, (unhide HBW).grown hgrow (unhide HBW).size (fun j hj => by cases hj; exact Nat.le_refl _)⟩
        rw [← unhide HCL i hi]
        have := hgrow.block b hbr (fun e => hne (by injection e))
        simp only [World.cell?, this]
      clear hown hown2 hgrow
      go_wp2_with fail
      go_roundw
      case rel => exact ⟨k + 1, by omega, by go_num, HK⟩
      case measure => simp [intOf]; omega
    · have ek : k = 256 := by omega
      subst ek
      go_wp2_with fail
      go_ret
      exact ⟨rfl, hown, hbw⟩

theorem lit_inj {a b : Int} (h : (DataW.lit (.int .u8 a) : DataW Unit) = .lit (.int .u8 b)) : b = a := by
  injection h with e
  injection e with _ e
  exact e.symm

end Go.Proofs.YtaiinjfnkmidbaaGreatDoor

namespace Go.Proofs.YtaiinjfnkmidbaaGreatDoor
open Go.RowKit Go.Maps
set_option linter.unusedVariables false

/-- What Encode answers of at most 3000 integers. -/
def encResS (user : Bool) (xs : List Int) : Value := if xs.all (M.hasB user) then .tuple #[.string (strOfNums (M.encS user xs)), .int .i64 0] else .tuple #[.string ⟨#[]⟩, .int .i64 5]
theorem encResS_yes {user : Bool} {xs : List Int} (h : xs.all (M.hasB user) = true) : encResS user xs = .tuple #[.string (strOfNums (M.encS user xs)), .int .i64 0] := by unfold encResS; rw [if_pos h]
theorem encResS_no {user : Bool} {xs : List Int} (h : xs.all (M.hasB user) = false) : encResS user xs = .tuple #[.string ⟨#[]⟩, .int .i64 5] := by unfold encResS; rw [if_neg (by simp [h])]

/-- What a round of Encode's loop knows. -/
def InTS (user : Bool) (xs : List Int) (w wr : World) (k : Nat) (v : Value) : Prop :=
  wr.ownsRow w.heap.size 5 1 v (M.encS user (xs.take k)).length ((M.encS user (xs.take k)).map (Value.int .u8)) ∧ Below w.heap.size w wr ∧ (xs.take k).all (M.hasB user) = true

theorem InTS.step {user : Bool} {xs : List Int} {w wr w2 : World} {k : Nat} {v v2 : Value} {p c : Int} (h : InTS user xs w wr k v) (hk : k < xs.length) (hp : xs.getD k 0 = p) (hs : M.hasB user p = true) (hc : M.bof user p = c)
    (ho : w2.ownsRow w.heap.size 5 1 v2 (M.encS user (xs.take k) ++ [c]).length ((M.encS user (xs.take k) ++ [c]).map (Value.int .u8))) (hb : Below w.heap.size wr w2) : InTS user xs w w2 (k + 1) v2 := by
  refine ⟨?_, h.2.1.trans hb, ?_⟩
  · rw [take_snoc xs k hk, M.encS_snoc, hp, hc]; exact ho
  · rw [take_snoc xs k hk, List.all_append, h.2.2, hp]; simpa using hs

set_option maxHeartbeats 400000 in
set_option maxRecDepth 100000 in
theorem encodeS_any (user : Bool) {v : Value} {xs : List Int} (w : World) (hx : Ints w v xs) (hwf : ∀ n ∈ xs, (Lit.int .i64 n).wf = true) (h : xs.length ≤ 3000) :
    Calls Tryz.prog 208 #[.bool user, v] w fun e w' => e = .returned (encResS user xs) ∧ Below w.heap.size w w' := by
  obtain ⟨ao, cap, rfl, hm, -, hc⟩ := id hx
  obtain ⟨i0, hi, hz0, hz1, hz2⟩ := info_parts info5
  clear hx
  have HC := hide hc
  have HWF := hide hwf
  clear hc hwf
  go_enter Tryz.func208, Tryz.ntmps208
  go_wp2_with fail
  refine (bytesOf_any user _).mono ?_
  rintro e w1 ⟨rfl, hB1, hb1⟩
  have hlt1 := hB1.lt
  have HB1 := hide hB1
  have HI : Hid (InTS user xs w1 w1 0 (.slice none 0 0)) := hide ⟨World.ownsRow_nil _ _ _ _, Below.refl _ _, by simp⟩
  have HBW := hide hb1
  clear hB1 hb1
  go_wp2_with fail
  go_loopw [7, 19] (fun v i wr => ∃ k : Nat, k ≤ xs.length ∧ i = .int .i64 k ∧ InTS user xs w1 wr k v) (fun _ i _ => xs.length - (intOf i).toNat)
  case atStart => exact ⟨0, by omega, rfl, unhide HI⟩
  case round =>
    obtain ⟨k, hk, rfl, hI⟩ := hrel
    clear HI
    have hz := hI.2.1.size
    have hl : Hid ((M.encS user (xs.take k)).length = k) := hide (by rw [M.encS_len, List.length_take]; omega)
    by_cases hlt : k < xs.length
    · obtain ⟨b, off, rfl, hc⟩ : ∃ b off, ao = some ⟨b, off, none⟩ ∧ ∀ i, i < xs.length → w.cell? ⟨b, off + i, none⟩ = some (.int .i64 (xs.getD i 0)) := by
        rcases unhide HC with h | h
        · subst h; simp at hlt
        · exact h
      have hcell : wr.cell? ⟨b, off + k, none⟩ = some (.int .i64 (xs.getD k 0)) := ((bstep (unhide HBW) hI.2.1).cell (p := ⟨b, off + k, none⟩) (World.block_lt_of_cell? w _ (hc k hlt))).trans (hc k hlt)
      have hbr : b < wr.heap.size := World.block_lt_of_cell? wr _ hcell
      have hpw := unhide HWF (xs.getD k 0) (by simp [hlt])
      obtain ⟨p, HP⟩ : ∃ p, Hid (xs.getD k 0 = p) := ⟨_, rfl⟩
      rw [unhide HP] at hcell hpw
      have hkey : keyOf Tryz.prog 3 (.int .i64 p) = some (.int .i64 p) := keyOf_int_mk Tryz.underlying3 hpw
      have hown : wr.ownsMap Tryz.prog 3 (plainElem (H := Unit) Tryz.prog 5) w.heap.size 256 (Dk user 256) := (unhide HB1).below hI.2.1 hlt1
      obtain ⟨q, HQ⟩ : ∃ q, Hid (M.hasB user p = q) := ⟨_, rfl⟩
      have hq : Maps.has (Dk user 256) (.int .i64 p) = q := (D_has user p).trans (unhide HQ)
      obtain ⟨ao2, cap2, hsh⟩ := owns_shape hI.1
      subst hsh
      clear hc hpw
      cases q
      · go_wp2_with (at_lookup; refine wpList_lookup_own_ok_int _ rfl _ _ 206 rfl 3 5 .u8 law3 Tryz.underlying206 Tryz.underlying5 (zero5 _) w.heap.size 256 _ rfl hown _ _ rfl hkey ?_; intro c hat hwc)
        go_ret2
        refine ⟨?_, bstep (unhide HBW) hI.2.1⟩
        have : xs.all (M.hasB user) = false := by
          rw [List.all_eq_false]
          refine ⟨xs.getD k 0, by simp [hlt], by rw [unhide HP, unhide HQ]; simp⟩
        rw [encResS_no this]; rfl
      · have hbd := M.bof_bd user (unhide HQ)
        have HAT := hide (D_at user (unhide HQ))
        obtain ⟨B, HB⟩ : ∃ B, Hid (M.bof user p = B) := ⟨_, rfl⟩
        rw [unhide HB] at hbd HAT
        have hI' := hI.1
        go_wp2_with (first | (at_lookup; refine wpList_lookup_own_ok_int _ rfl _ _ 206 rfl 3 5 .u8 law3 Tryz.underlying206 Tryz.underlying5 (zero5 _) w.heap.size 256 _ rfl hown _ _ rfl hkey ?_; intro c hat hwc; have hcB : c = B := lit_inj ((unhide HAT).symm.trans hat); subst hcB; clear hat hwc) | (at_builtin; refine wpList_append_own _ rfl (.tmp 31) (.tmp 33) 151 rfl w1.heap.size 5 i0 (.int .u8 0) 1 1 Tryz.underlying151 hi hz0 hz1 hz2 rfl (by decide) _ _ _ rfl (hI'.alloc _) ⟨wr.heap.size, 0, none⟩ 1 1 [.int .u8 c] rfl rfl ?c1 ?c2 ?c3 ?c4 ?c5 ?_))
        case c1 =>
          intro j u hj
          match j, hj with
          | 0, hj => simp at hj; subst hj; simp [Addr.add]
        case c2 => intro u hu; simp at hu; subst hu; rfl
        case c3 => have := unhide hl; unfold maxLen; omega
        case c4 => have := unhide hl; omega
        case c5 => simp; omega
        intro v' w2 hown' hgrow _
        obtain ⟨ao', cap', rfl⟩ := owns_shape hown'
        have HJ : Hid (InTS user xs w1 w2 (k + 1) (.slice ao' ((M.encS user (xs.take k)).length + 1) cap')) := hide (hI.step hlt (unhide HP) (unhide HQ) (unhide HB) (by simpa using hown') (((Below.refl _ _).alloc hz _).grown hgrow (by simp; omega) (fun j hj => by have := hI'.lt j hj; omega)))
        clear hI hI' hown hown' hgrow
        go_wp2_with fail
        go_roundw
        case rel => exact ⟨k + 1, by omega, by go_num, by simpa using unhide HJ⟩
        case measure => simp [intOf]; omega
    · have ek : k = xs.length := by omega
      have hcv := conv_owned hI.1
      obtain ⟨o1, o2, o3⟩ := hI
      have hb := hide (bstep (unhide HBW) o2)
      have et : xs.take k = xs := List.take_of_length_le (by omega)
      rw [et] at hcv o1 o3
      obtain ⟨ao2, cap2, hsh⟩ := owns_shape o1
      subst hsh
      have HA := hide o3
      clear o1 o2 o3 et hl
      go_wp2_with fail
      go_ret2
      refine ⟨?_, unhide hb⟩
      rw [encResS_yes (unhide HA)]; rfl
end Go.Proofs.YtaiinjfnkmidbaaGreatDoor

namespace Go.Proofs.YtaiinjfnkmidbaaGreatDoor
open Go.RowKit
set_option linter.unusedVariables false

set_option maxHeartbeats 400000 in
set_option maxRecDepth 100000 in
theorem bytesOfK_any (v : Value) (xs : List Int) (w : World) (hI : Ints w v xs) (hlen : xs.length ≤ 30000) (hgi : ∀ n ∈ xs, Gi n) (ha : xs.all M.anyK = true) :
    Calls Tryz.prog 160 #[.int .i64 6, v] w fun e w' => e = .returned (.string (strOfNums (M.kenc xs))) ∧ Below w.heap.size w w' := by
  have H := hide (write_any v xs w hI hlen hgi)
  rw [wrote_yes ha] at H
  obtain ⟨ao, cap, rfl, -, -, -⟩ := hI
  clear hgi ha
  go_enter Tryz.func160, Tryz.ntmps160
  go_wp2_with fail
  refine (unhide H).mono ?_
  rintro e w1 ⟨rfl, hb⟩
  have HB := hide hb
  clear hb H
  go_wp2_with fail
  go_ret
  exact ⟨rfl, unhide HB⟩

/-- What a round of bytesOf's loop knows. -/
def InO (user : Bool) (xs : List Int) (w wr : World) (k : Nat) (v : Value) : Prop :=
  wr.ownsRow w.heap.size 5 1 v (M.encS user (xs.take k)).length ((M.encS user (xs.take k)).map (Value.int .u8)) ∧ Below w.heap.size w wr

set_option maxHeartbeats 800000 in
set_option maxRecDepth 100000 in
theorem bytesOfS_any (user : Bool) (n : Int) (hn : n = if user then 5 else 4) (base : Nat) (v : Value) (xs : List Int) (w : World) (hown : w.ownsRow base 3 1 v xs.length (xs.map (Value.int .i64))) (hlen : xs.length ≤ 30000) (hwf : ∀ n ∈ xs, (Lit.int .i64 n).wf = true) (ha : xs.all (M.hasB user) = true) :
    Calls Tryz.prog 160 #[.int .i64 n, v] w fun e w' => e = .returned (.string (strOfNums (M.encS user xs))) ∧ Below w.heap.size w w' := by
  have hcl : xs.length ≠ 0 → ∃ g cap, v = .slice (some ⟨g, 0, none⟩) xs.length cap ∧ xs.length ≤ cap ∧ ∀ i, i < xs.length → w.cell? ⟨g, i, none⟩ = some (.int .i64 (xs.getD i 0)) := by
    intro h0
    rcases hown.2 with ⟨_, h⟩ | ⟨g, cap, cur, hv, _, hg, hnc, _⟩
    · exact absurd h h0
    · refine ⟨g, cap, hv, hnc, ?_⟩
      obtain ⟨ao, cap', h1, _, _, h2⟩ := Ints.of_owns hown
      rw [hv] at h1
      cases h1
      rcases h2 with rfl | ⟨b, off, h2, h3⟩
      · simp at h0
      · cases h2
        intro i hi
        have := h3 i hi
        rwa [Nat.zero_add] at this
  obtain ⟨ao, cap, rfl⟩ := owns_shape hown
  have HC := hide hcl
  have HW := hide hwf
  have HA := hide ha
  have h6 : (n == 6) = false := by subst hn; cases user <;> rfl
  have h5 : (n == 5) = user := by subst hn; cases user <;> rfl
  have HI : Hid (InO user xs w w 0 (.slice none 0 0)) := hide ⟨World.ownsRow_nil _ _ _ _, Below.refl _ _⟩
  clear hcl hwf ha hown hn
  go_enter Tryz.func160, Tryz.ntmps160
  go_wp2_with fail
  go_loopw [7, 8] (fun v i wr => ∃ k : Nat, k ≤ xs.length + 3000 ∧ i = .int .i64 k ∧ InO user xs w wr k v) (fun _ i _ => xs.length + 3000 - (intOf i).toNat)
  case atStart => exact ⟨0, by omega, rfl, unhide HI⟩
  case round =>
    obtain ⟨k, hk, rfl, hI⟩ := hrel
    clear HI
    have hz := hI.2.size
    obtain ⟨av, capv, hsh⟩ := owns_shape hI.1
    subst hsh
    by_cases hlt : k < xs.length
    · obtain ⟨g, cap', hv, hnc, hcs⟩ := unhide HC (by omega)
      cases hv
      obtain ⟨m, hm⟩ : ∃ m : Nat, m = min (k + 3000) xs.length := ⟨_, rfl⟩
      have hmin : min ((k : Int) + 3000) (xs.length : Int) = (m : Int) := by rw [hm]; omega
      have hmc : m ≤ cap := by omega
      have hkm : k ≤ m := by omega
      have hkc : ¬ (cap = k) := by omega
      have HM := hide hm
      have HIs : Hid (Ints wr (.slice (some ⟨g, k, none⟩) (m - k) (cap - k)) ((xs.drop k).take 3000)) := hide (by
        refine ⟨some ⟨g, k, none⟩, cap - k, ?_, ?_, (fun h => by cases h), .inr ⟨g, k, rfl, fun i hi => ?_⟩⟩
        · rw [List.length_take, List.length_drop]; congr 1; omega
        · rw [List.length_take, List.length_drop]; unfold maxLen; omega
        · rw [List.length_take, List.length_drop] at hi
          have hk1 := hcs (k + i) (by omega)
          rw [hI.2.cell (p := ⟨g, k + i, none⟩) (World.block_lt_of_cell? w _ hk1), hk1]
          congr 2
          rw [List.getD_eq_getElem?_getD, List.getD_eq_getElem?_getD, List.getElem?_take, if_pos (by omega), List.getElem?_drop])
      have HAl : Hid (((xs.drop k).take 3000).all (M.hasB user) = true) := hide (by
        rw [List.all_eq_true]
        intro x hx
        exact List.all_eq_true.1 (unhide HA) x (List.mem_of_mem_drop (List.mem_of_mem_take hx)))
      have HE := hide (encodeS_any user wr (unhide HIs) (fun n hn => unhide HW n (List.mem_of_mem_drop (List.mem_of_mem_take hn))) (by rw [List.length_take]; omega))
      rw [encResS_yes (unhide HAl)] at HE
      have HT : Hid (M.encS user (xs.take (k + 3000)) = M.encS user (xs.take k) ++ M.encS user ((xs.drop k).take 3000)) := hide (by
        rw [List.take_add]; unfold M.encS; rw [List.map_append])
      have HBy : Hid (∀ x ∈ M.encS user ((xs.drop k).take 3000), 0 ≤ x ∧ x ≤ 255) := hide (M.encS_byt user _ (unhide HAl))
      have hl1 : Hid ((M.encS user (xs.take k)).length ≤ 30000) := hide (by rw [M.encS_len, List.length_take]; omega)
      have hl2 : Hid ((M.encS user ((xs.drop k).take 3000)).length ≤ 3000) := hide (by rw [M.encS_len, List.length_take]; omega)
      have HO := hide hI.1
      have HB := hide hI.2
      clear hI hcs hm HIs HAl
      generalize M.encS user ((xs.drop k).take 3000) = ms at *
      generalize M.encS user (xs.take k) = ns at *
      have hl1' := unhide hl1
      have hl2' := unhide hl2
      go_wp2_with fail
      refine (unhide HE).mono ?_
      rintro e w1 ⟨rfl, hb1⟩
      have hz1 := hb1.size
      have HB1 := hide hb1
      have HO1 := hide (owns_below (unhide HO) hb1)
      clear hb1 HE HO
      go_wp2_with (at_builtin; refine append_str rfl (.tmp 39) (.tmp 40) rfl w.heap.size _ ns rfl (unhide HO1) ms (unhide HBy) rfl (by omega) (by omega) ?_)
      intro ao2 cap2 w2 ho2 hb2
      have HJ : Hid (InO user xs w w2 (k + 3000) (.slice ao2 (ns ++ ms).length cap2)) := hide ⟨by rw [unhide HT]; simpa using ho2, (bstep (unhide HB) (unhide HB1)).trans hb2⟩
      clear ho2 hb2
      go_wp2_with fail
      go_roundw
      case rel => exact ⟨k + 3000, by omega, by go_num, by simpa using unhide HJ⟩
      case measure => simp [intOf]; omega
    · have HT : Hid (xs.take k = xs) := hide (List.take_of_length_le (by omega))
      unfold InO at hI
      rw [unhide HT] at hI ⊢
      have hcv := conv_owned hI.1
      have HB := hide hI.2
      clear hI
      go_wp2_with fail
      go_ret
      exact ⟨rfl, unhide HB⟩
end Go.Proofs.YtaiinjfnkmidbaaGreatDoor
