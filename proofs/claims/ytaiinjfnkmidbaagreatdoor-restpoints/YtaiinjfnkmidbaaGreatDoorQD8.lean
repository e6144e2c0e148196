/- Laws that the statements of this seat lean on, part 8 (CK6 FC6 FD6 FT6 DG6 FG6 SB SC ED EW Enc8 EE EH EI MR): each a contract of a function, or a plain fact; conditions stand at each. -/
import Derived.BigQuiet
import Derived.Deep.CutRange
import Derived.Deep.QuietTactic
import Derived.Deep.RegionHeld3
import Derived.Laws.AppendOwnNone
import Derived.Laws.BitsLemmas
import Derived.Laws.BytesArg
import Derived.Maps.Own
import Derived.Maps.OwnOps
import Derived.Maps.OwnSet
import Derived.Maps.Views
import Derived.ProofKit
import Derived.WalkKit
import Derived.WalkSmall
import Derived.Test.YtaiinjfnkmidbaaGreatDoorQD7
namespace Go.Proofs.YtaiinjfnkmidbaaGreatDoor
open Go.RowKit
set_option linter.unusedVariables false

set_option maxHeartbeats 400000 in
set_option maxRecDepth 100000 in
theorem fenc_yes (n : Int) (w : World) (hn : 1 ≤ n ∧ n ≤ 7) : Calls Tryz.prog 58 #[.int .i64 n] w fun e w' => e = .returned (.bool true) ∧ Below w.heap.size w w' := by
  have HO := hide (fun w => open_yes n w hn)
  unfold sv at HO
  clear hn
  go_enter Tryz.func58, Tryz.ntmps58
  go_wp2_with fail
  refine (unhide HO _).mono ?_
  rintro e w1 ⟨rfl, hb1⟩
  have HB1 := hide hb1
  clear hb1
  go_wp2_with fail
  go_ret
  exact ⟨rfl, bstep (unhide HB1) (balloc _ _)⟩
set_option maxHeartbeats 400000 in
set_option maxRecDepth 100000 in
theorem fenc_no (n : Int) (w : World) (hn : ¬ (1 ≤ n ∧ n ≤ 7)) : Calls Tryz.prog 58 #[.int .i64 n] w fun e w' => e = .returned (.bool false) ∧ Below w.heap.size w w' := by
  have HO := hide (fun w => open_no n w hn)
  unfold sv at HO
  clear hn
  go_enter Tryz.func58, Tryz.ntmps58
  go_wp2_with fail
  refine (unhide HO _).mono ?_
  rintro e w1 ⟨rfl, hb1⟩
  have HB1 := hide hb1
  clear hb1
  go_wp2_with fail
  go_ret
  exact ⟨rfl, bstep (unhide HB1) (balloc _ _)⟩
set_option maxHeartbeats 1600000 in
set_option maxRecDepth 100000 in
theorem cw_s1 (L : ByteArray) (enc why : Int) (W : ByteArray) (e : Int) (r : ByteArray) (g : Int) (fr st : Bool) (w : World) (h : ¬ (e = 0 ∧ r.size = 0 ∧ (g, fr, st) = M.st0)) :
    Calls Tryz.prog 59 #[.agg #[.string L, .int .i64 enc, .int .i64 why, .string W, .int .i64 e, .string r, .int .i64 g, .bool fr, .bool st]] w fun e' w' => e' = .returned (.int .i64 1) ∧ Below w.heap.size w w' := by
  have hre := empty_eq r
  have HH := hide h
  clear h
  go_enter Tryz.func59, Tryz.ntmps59
  go_wp2_with fail
  all_goals first
    | (go_ret; exact ⟨rfl, balloc _ _⟩)
    | (exfalso
       apply unhide HH
       have hr' : r = ByteArray.empty := by assumption
       have he' : e = 0 := by assumption
       have hg' : g = 0 := by assumption
       have hf' : ¬ fr = true := by assumption
       have hs' : ¬ st = true := by assumption
       refine ⟨he', by rw [hr']; rfl, ?_⟩
       rw [hg', show fr = false from by simpa using hf', show st = false from by simpa using hs']
       rfl)
set_option maxHeartbeats 1600000 in
set_option maxRecDepth 100000 in
theorem cw_s2 (L W : ByteArray) (w : World) (h0 : L.size ≤ 3000) (h1 : W.size ≤ 3000) :
    Calls Tryz.prog 59 #[.agg #[.string L, .int .i64 0, .int .i64 0, .string W, .int .i64 0, .string ⟨#[]⟩, .int .i64 0, .bool false, .bool false]] w fun e' w' => e' = .returned (.int .i64 (if enF L (bl W) = true then 4 else 0)) ∧ Below w.heap.size w w' := by
  have HEn := hide (fun w => enough_any L W w h0 (by unfold maxLen; omega))
  generalize enF L (bl W) = q at *
  go_enter Tryz.func59, Tryz.ntmps59
  go_wp2_with fail
  refine (unhide HEn _).mono ?_
  rintro e' w2 ⟨rfl, hb2⟩
  have HB2 := hide (bstep (balloc _ _) hb2)
  clear hb2
  cases q
  · go_wp2_with fail
    go_ret
    exact ⟨rfl, unhide HB2⟩
  · go_wp2_with fail
    go_ret
    exact ⟨rfl, unhide HB2⟩
theorem cells9 (w w1 : World) (L : ByteArray) (enc why : Int) (W : ByteArray) (e : Int) (r : ByteArray) (g : Int) (fr st : Bool) (hb : Below (w.alloc (.cells #[.string L, .int .i64 enc, .int .i64 why, .string W, .int .i64 e, .string r, .int .i64 g, .bool fr, .bool st] 25)).heap.size (w.alloc (.cells #[.string L, .int .i64 enc, .int .i64 why, .string W, .int .i64 e, .string r, .int .i64 g, .bool fr, .bool st] 25)) w1) :
    w1.cell? ⟨w.heap.size, 0, none⟩ = some (.string L) ∧ w1.cell? ⟨w.heap.size, 1, none⟩ = some (.int .i64 enc) ∧ w1.cell? ⟨w.heap.size, 2, none⟩ = some (.int .i64 why) ∧ w1.cell? ⟨w.heap.size, 3, none⟩ = some (.string W) ∧ w1.cell? ⟨w.heap.size, 4, none⟩ = some (.int .i64 e) ∧ w1.cell? ⟨w.heap.size, 5, none⟩ = some (.string r) ∧ w1.cell? ⟨w.heap.size, 6, none⟩ = some (.int .i64 g) ∧ w1.cell? ⟨w.heap.size, 7, none⟩ = some (.bool fr) ∧ w1.cell? ⟨w.heap.size, 8, none⟩ = some (.bool st) := by
  have h := (Fb.new w ⟨L, enc, why, W, e, r, (g, fr, st)⟩).on hb
  exact ⟨h.c0, h.c1, h.c2, h.c3, h.c4, h.c5, h.c6, h.c7, h.c8⟩
set_option maxHeartbeats 1600000 in
set_option maxRecDepth 100000 in
theorem ck_L (L : ByteArray) (enc why : Int) (W : ByteArray) (e : Int) (r : ByteArray) (g : Int) (fr st : Bool) (w : World) (hL : L.size ≤ maxLen) (hW : W.size ≤ maxLen) (hr : r.size ≤ maxLen) (h : 3000 < L.size) :
    Calls Tryz.prog 20 #[.agg #[.string L, .int .i64 enc, .int .i64 why, .string W, .int .i64 e, .string r, .int .i64 g, .bool fr, .bool st]] w fun e' w' => e' = .returned (.int .i64 (chkF L enc why W e r (g, fr, st))) ∧ Below w.heap.size w w' := by
  have HR : Hid (chkF L enc why W e r (g, fr, st) = 2) := hide (by
    unfold chkF Fr.chk
    simp only
    rw [if_pos (.inl h)])
  unfold maxLen at hL hW hr
  go_enter Tryz.func20, Tryz.ntmps20
  go_wp2_with fail
  go_ret
  exact ⟨ret_int (unhide HR).symm, balloc _ _⟩
set_option maxHeartbeats 1600000 in
set_option maxRecDepth 100000 in
theorem ck_W (L : ByteArray) (enc why : Int) (W : ByteArray) (e : Int) (r : ByteArray) (g : Int) (fr st : Bool) (w : World) (hL : L.size ≤ maxLen) (hW : W.size ≤ maxLen) (hr : r.size ≤ maxLen) (h0 : L.size ≤ 3000) (h : 3000 < W.size) :
    Calls Tryz.prog 20 #[.agg #[.string L, .int .i64 enc, .int .i64 why, .string W, .int .i64 e, .string r, .int .i64 g, .bool fr, .bool st]] w fun e' w' => e' = .returned (.int .i64 (chkF L enc why W e r (g, fr, st))) ∧ Below w.heap.size w w' := by
  have HR : Hid (chkF L enc why W e r (g, fr, st) = 2) := hide (by
    unfold chkF Fr.chk
    simp only
    rw [if_pos (.inr h)])
  unfold maxLen at hL hW hr
  go_enter Tryz.func20, Tryz.ntmps20
  go_wp2_with fail
  go_ret
  exact ⟨ret_int (unhide HR).symm, balloc _ _⟩
set_option maxHeartbeats 1600000 in
set_option maxRecDepth 100000 in
theorem ck_enc (L : ByteArray) (enc why : Int) (W : ByteArray) (e : Int) (r : ByteArray) (g : Int) (fr st : Bool) (w : World) (hL : L.size ≤ maxLen) (hW : W.size ≤ maxLen) (hr : r.size ≤ maxLen) (h0 : L.size ≤ 3000) (h1 : W.size ≤ 3000) (h : ¬ (0 ≤ enc ∧ enc ≤ 7)) :
    Calls Tryz.prog 20 #[.agg #[.string L, .int .i64 enc, .int .i64 why, .string W, .int .i64 e, .string r, .int .i64 g, .bool fr, .bool st]] w fun e' w' => e' = .returned (.int .i64 (chkF L enc why W e r (g, fr, st))) ∧ Below w.heap.size w w' := by
  have HR : Hid (chkF L enc why W e r (g, fr, st) = 6) := hide (by
    unfold chkF Fr.chk
    simp only
    rw [if_neg (by omega), if_pos h])
  unfold maxLen at hL hW hr
  have hee : (enc != 0) = true := bne_iff_ne.2 (by omega)
  have HIe := hide (fun w => fenc_no enc w (by omega))
  clear h
  go_enter Tryz.func20, Tryz.ntmps20
  go_wp2_with fail
  refine (unhide HIe _).mono ?_
  rintro e' w1 ⟨rfl, hb1⟩
  have HB1 := hide (bstep (balloc _ _) hb1)
  obtain ⟨a0, a1, a2, a3, a4, a5, a6, a7, a8⟩ := cells9 w w1 L _ _ W _ r _ _ _ hb1
  have hlt : w.heap.size < w1.heap.size := by have := hb1.size; simp at this; omega
  clear hb1
  go_wp2_with fail
  go_ret
  exact ⟨ret_int (unhide HR).symm, unhide HB1⟩
set_option maxHeartbeats 1600000 in
set_option maxRecDepth 100000 in
theorem ck_whyz (L : ByteArray) (enc why : Int) (W : ByteArray) (e : Int) (r : ByteArray) (g : Int) (fr st : Bool) (w : World) (hL : L.size ≤ maxLen) (hW : W.size ≤ maxLen) (hr : r.size ≤ maxLen) (h0 : L.size ≤ 3000) (h1 : W.size ≤ 3000) (h2 : 0 ≤ enc ∧ enc ≤ 7) (h : ¬ (0 ≤ why ∧ why ≤ 4)) (h3 : enc = 0) :
    Calls Tryz.prog 20 #[.agg #[.string L, .int .i64 enc, .int .i64 why, .string W, .int .i64 e, .string r, .int .i64 g, .bool fr, .bool st]] w fun e' w' => e' = .returned (.int .i64 (chkF L enc why W e r (g, fr, st))) ∧ Below w.heap.size w w' := by
  have HR : Hid (chkF L enc why W e r (g, fr, st) = 4) := hide (by
    unfold chkF Fr.chk
    simp only
    rw [if_neg (by omega), if_neg (fun q => q h2), if_pos (.inl h)])
  unfold maxLen at hL hW hr
  subst h3
  have hwd : (decide (why < 0) || decide (4 < why)) = true := by simp; omega
  go_enter Tryz.func20, Tryz.ntmps20
  go_wp2_with fail
  all_goals first
    | (go_ret; exact ⟨ret_int (unhide HR).symm, balloc _ _⟩)
    | (exfalso; omega)
    | (exfalso; simp_all; omega)
set_option maxHeartbeats 1600000 in
set_option maxRecDepth 100000 in
theorem ck_whye (L : ByteArray) (enc why : Int) (W : ByteArray) (e : Int) (r : ByteArray) (g : Int) (fr st : Bool) (w : World) (hL : L.size ≤ maxLen) (hW : W.size ≤ maxLen) (hr : r.size ≤ maxLen) (h0 : L.size ≤ 3000) (h1 : W.size ≤ 3000) (h2 : 0 ≤ enc ∧ enc ≤ 7) (h : ¬ (0 ≤ why ∧ why ≤ 4)) (h3 : enc ≠ 0) :
    Calls Tryz.prog 20 #[.agg #[.string L, .int .i64 enc, .int .i64 why, .string W, .int .i64 e, .string r, .int .i64 g, .bool fr, .bool st]] w fun e' w' => e' = .returned (.int .i64 (chkF L enc why W e r (g, fr, st))) ∧ Below w.heap.size w w' := by
  have HR : Hid (chkF L enc why W e r (g, fr, st) = 4) := hide (by
    unfold chkF Fr.chk
    simp only
    rw [if_neg (by omega), if_neg (fun q => q h2), if_pos (.inl h)])
  unfold maxLen at hL hW hr
  have hee : (enc != 0) = true := bne_iff_ne.2 (by omega)
  have HIe := hide (fun w => fenc_yes enc w (by omega))
  have hwd : (decide (why < 0) || decide (4 < why)) = true := by simp; omega
  go_enter Tryz.func20, Tryz.ntmps20
  go_wp2_with fail
  refine (unhide HIe _).mono ?_
  rintro e' w1 ⟨rfl, hb1⟩
  have HB1 := hide (bstep (balloc _ _) hb1)
  obtain ⟨a0, a1, a2, a3, a4, a5, a6, a7, a8⟩ := cells9 w w1 L _ _ W _ r _ _ _ hb1
  have hlt : w.heap.size < w1.heap.size := by have := hb1.size; simp at this; omega
  clear hb1
  go_wp2_with fail
  all_goals first
    | (go_ret; exact ⟨ret_int (unhide HR).symm, unhide HB1⟩)
    | (exfalso; omega)
    | (exfalso; simp_all; omega)
set_option maxHeartbeats 1600000 in
set_option maxRecDepth 100000 in
theorem ck_w0 (L : ByteArray) (enc why : Int) (W : ByteArray) (e : Int) (r : ByteArray) (g : Int) (fr st : Bool) (w : World) (hL : L.size ≤ maxLen) (hW : W.size ≤ maxLen) (hr : r.size ≤ maxLen) (h0 : L.size ≤ 3000) (h1 : W.size ≤ 3000) (h2 : 0 ≤ enc ∧ enc ≤ 7) (h3 : why = 0) (h : enc ≠ 0) :
    Calls Tryz.prog 20 #[.agg #[.string L, .int .i64 enc, .int .i64 why, .string W, .int .i64 e, .string r, .int .i64 g, .bool fr, .bool st]] w fun e' w' => e' = .returned (.int .i64 (chkF L enc why W e r (g, fr, st))) ∧ Below w.heap.size w w' := by
  have HR : Hid (chkF L enc why W e r (g, fr, st) = 4) := hide (by
    unfold chkF Fr.chk
    simp only
    rw [if_neg (by omega), if_neg (fun q => q h2), if_pos (.inr (.inl ⟨h3, h⟩))])
  unfold maxLen at hL hW hr
  have hee : (enc != 0) = true := bne_iff_ne.2 (by omega)
  have HIe := hide (fun w => fenc_yes enc w (by omega))
  subst h3
  clear h h2
  go_enter Tryz.func20, Tryz.ntmps20
  go_wp2_with fail
  refine (unhide HIe _).mono ?_
  rintro e' w1 ⟨rfl, hb1⟩
  have HB1 := hide (bstep (balloc _ _) hb1)
  obtain ⟨a0, a1, a2, a3, a4, a5, a6, a7, a8⟩ := cells9 w w1 L _ _ W _ r _ _ _ hb1
  have hlt : w.heap.size < w1.heap.size := by have := hb1.size; simp at this; omega
  clear hb1
  go_wp2_with fail
  go_ret
  exact ⟨ret_int (unhide HR).symm, unhide HB1⟩
set_option maxHeartbeats 1600000 in
set_option maxRecDepth 100000 in
theorem ck_w1 (L : ByteArray) (enc why : Int) (W : ByteArray) (e : Int) (r : ByteArray) (g : Int) (fr st : Bool) (w : World) (hL : L.size ≤ maxLen) (hW : W.size ≤ maxLen) (hr : r.size ≤ maxLen) (h0 : L.size ≤ 3000) (h1 : W.size ≤ 3000) (h2 : 0 ≤ enc ∧ enc ≤ 7) (hy : 0 ≤ why ∧ why ≤ 4) (h3 : why ≠ 0) (h : enc = 0) :
    Calls Tryz.prog 20 #[.agg #[.string L, .int .i64 enc, .int .i64 why, .string W, .int .i64 e, .string r, .int .i64 g, .bool fr, .bool st]] w fun e' w' => e' = .returned (.int .i64 (chkF L enc why W e r (g, fr, st))) ∧ Below w.heap.size w w' := by
  have HR : Hid (chkF L enc why W e r (g, fr, st) = 4) := hide (by
    unfold chkF Fr.chk
    simp only
    rw [if_neg (by omega), if_neg (fun q => q h2), if_pos (.inr (.inr ⟨h3, h⟩))])
  unfold maxLen at hL hW hr
  have hne : (why != 0) = true := bne_iff_ne.2 h3
  have hw1 : decide (why < 0) = false := decide_eq_false (by omega)
  have hw2 : decide (4 < why) = false := decide_eq_false (by omega)
  subst h
  clear h2 h3
  go_enter Tryz.func20, Tryz.ntmps20
  go_wp2_with fail
  go_ret
  exact ⟨ret_int (unhide HR).symm, balloc _ _⟩
set_option maxHeartbeats 1600000 in
set_option maxRecDepth 100000 in
theorem ck_s1 (L : ByteArray) (enc why : Int) (W : ByteArray) (e : Int) (r : ByteArray) (g : Int) (fr st : Bool) (w : World) (hL : L.size ≤ maxLen) (hW : W.size ≤ maxLen) (hr : r.size ≤ maxLen) (h0 : L.size ≤ 3000) (h1 : W.size ≤ 3000) (h3 : why = 0) (h4 : enc = 0) (h : ¬ (e = 0 ∧ r.size = 0 ∧ (g, fr, st) = M.st0)) :
    Calls Tryz.prog 20 #[.agg #[.string L, .int .i64 enc, .int .i64 why, .string W, .int .i64 e, .string r, .int .i64 g, .bool fr, .bool st]] w fun e' w' => e' = .returned (.int .i64 (chkF L enc why W e r (g, fr, st))) ∧ Below w.heap.size w w' := by
  have HR : Hid (chkF L enc why W e r (g, fr, st) = 1) := hide (by
    unfold chkF Fr.chk
    simp only
    rw [if_neg (by omega), if_neg (by omega), if_neg (by omega), if_pos (.inl ⟨h3, h⟩)])
  unfold maxLen at hL hW hr
  subst h3 h4
  have HCw := hide (fun w => cw_s1 L 0 0 W e r g fr st w h)
  clear h
  go_enter Tryz.func20, Tryz.ntmps20
  go_wp2_with fail
  refine (unhide HCw _).mono ?_
  rintro e' w1 ⟨rfl, hb1⟩
  have HB1 := hide (bstep (balloc _ _) hb1)
  clear hb1
  go_wp2_with fail
  go_ret
  exact ⟨ret_int (unhide HR).symm, unhide HB1⟩
set_option maxHeartbeats 1600000 in
set_option maxRecDepth 100000 in
theorem ck_s2 (L W : ByteArray) (w : World) (h0 : L.size ≤ 3000) (h1 : W.size ≤ 3000) :
    Calls Tryz.prog 20 #[.agg #[.string L, .int .i64 0, .int .i64 0, .string W, .int .i64 0, .string ⟨#[]⟩, .int .i64 0, .bool false, .bool false]] w fun e' w' => e' = .returned (.int .i64 (chkF L 0 0 W 0 ⟨#[]⟩ M.st0)) ∧ Below w.heap.size w w' := by
  have z : (⟨#[]⟩ : ByteArray).size = 0 := rfl
  have HR : Hid (chkF L 0 0 W 0 ⟨#[]⟩ M.st0 = if enF L (bl W) = true then 4 else 0) := hide (by
    unfold chkF Fr.chk
    simp only
    rw [if_neg (by omega), if_neg (by omega), if_neg (by omega), if_neg (by rw [z]; rintro (h | h); exact h.2 ⟨by trivial, by trivial, by trivial⟩; exact h.1 (by trivial))]
    rfl)
  have HCw := hide (fun w => cw_s2 L W w h0 h1)
  rw [← unhide HR] at HCw
  generalize chkF L 0 0 W 0 ⟨#[]⟩ M.st0 = K at *
  clear z HR
  go_enter Tryz.func20, Tryz.ntmps20
  go_wp2_with fail
  refine (unhide HCw _).mono ?_
  rintro e' w2 ⟨rfl, hb2⟩
  have HB2 := hide (bstep (balloc _ _) hb2)
  clear hb2
  go_wp2_with fail
  go_ret
  exact ⟨rfl, unhide HB2⟩
set_option maxHeartbeats 1600000 in
set_option maxRecDepth 100000 in
theorem ck_n1 (L : ByteArray) (enc why : Int) (W : ByteArray) (e : Int) (r : ByteArray) (g : Int) (fr st : Bool) (w : World) (hL : L.size ≤ maxLen) (hW : W.size ≤ maxLen) (hr : r.size ≤ maxLen) (h0 : L.size ≤ 3000) (h1 : W.size ≤ 3000) (h2 : 0 ≤ enc ∧ enc ≤ 7) (hy : 0 ≤ why ∧ why ≤ 4) (h3 : why ≠ 0) (h4 : enc ≠ 0) (h : W.size ≠ 0) :
    Calls Tryz.prog 20 #[.agg #[.string L, .int .i64 enc, .int .i64 why, .string W, .int .i64 e, .string r, .int .i64 g, .bool fr, .bool st]] w fun e' w' => e' = .returned (.int .i64 (chkF L enc why W e r (g, fr, st))) ∧ Below w.heap.size w w' := by
  have HR : Hid (chkF L enc why W e r (g, fr, st) = 1) := hide (by
    unfold chkF Fr.chk
    simp only
    rw [if_neg (by omega), if_neg (by omega), if_neg (by omega), if_pos (.inr ⟨h3, .inl h⟩)])
  unfold maxLen at hL hW hr
  have hee : (enc != 0) = true := bne_iff_ne.2 (by omega)
  have HIe := hide (fun w => fenc_yes enc w (by omega))
  have hne : (why != 0) = true := bne_iff_ne.2 h3
  have hw1 : decide (why < 0) = false := decide_eq_false (by omega)
  have hw2 : decide (4 < why) = false := decide_eq_false (by omega)
  have hwe := empty_eq W
  rw [decide_eq_false h] at hwe
  clear h2 h3 h4 h
  go_enter Tryz.func20, Tryz.ntmps20
  go_wp2_with fail
  refine (unhide HIe _).mono ?_
  rintro e' w1 ⟨rfl, hb1⟩
  have HB1 := hide (bstep (balloc _ _) hb1)
  obtain ⟨a0, a1, a2, a3, a4, a5, a6, a7, a8⟩ := cells9 w w1 L _ _ W _ r _ _ _ hb1
  have hlt : w.heap.size < w1.heap.size := by have := hb1.size; simp at this; omega
  clear hb1
  go_wp2_with fail
  go_ret
  exact ⟨ret_int (unhide HR).symm, unhide HB1⟩
set_option maxHeartbeats 1600000 in
set_option maxRecDepth 100000 in
theorem ck_n2 (L : ByteArray) (enc why : Int) (W : ByteArray) (e : Int) (r : ByteArray) (g : Int) (fr st : Bool) (w : World) (hL : L.size ≤ maxLen) (hW : W.size ≤ maxLen) (hr : r.size ≤ maxLen) (h0 : L.size ≤ 3000) (h1 : W.size ≤ 3000) (h2 : 0 ≤ enc ∧ enc ≤ 7) (hy : 0 ≤ why ∧ why ≤ 4) (h3 : why ≠ 0) (h4 : enc ≠ 0) (h5 : W.size = 0) (h : e ≠ enc) :
    Calls Tryz.prog 20 #[.agg #[.string L, .int .i64 enc, .int .i64 why, .string W, .int .i64 e, .string r, .int .i64 g, .bool fr, .bool st]] w fun e' w' => e' = .returned (.int .i64 (chkF L enc why W e r (g, fr, st))) ∧ Below w.heap.size w w' := by
  have HR : Hid (chkF L enc why W e r (g, fr, st) = 1) := hide (by
    unfold chkF Fr.chk
    simp only
    rw [if_neg (by omega), if_neg (by omega), if_neg (by omega), if_pos (.inr ⟨h3, .inr h⟩)])
  unfold maxLen at hL hW hr
  have hee : (enc != 0) = true := bne_iff_ne.2 (by omega)
  have HIe := hide (fun w => fenc_yes enc w (by omega))
  have hne : (why != 0) = true := bne_iff_ne.2 h3
  have hw1 : decide (why < 0) = false := decide_eq_false (by omega)
  have hw2 : decide (4 < why) = false := decide_eq_false (by omega)
  have hwe := empty_eq W
  rw [decide_eq_true h5] at hwe
  have hen : (e != enc) = true := bne_iff_ne.2 h
  clear h2 h3 h4 h
  go_enter Tryz.func20, Tryz.ntmps20
  go_wp2_with fail
  refine (unhide HIe _).mono ?_
  rintro e' w1 ⟨rfl, hb1⟩
  have HB1 := hide (bstep (balloc _ _) hb1)
  obtain ⟨a0, a1, a2, a3, a4, a5, a6, a7, a8⟩ := cells9 w w1 L _ _ W _ r _ _ _ hb1
  have hlt : w.heap.size < w1.heap.size := by have := hb1.size; simp at this; omega
  clear hb1
  go_wp2_with fail
  go_ret
  exact ⟨ret_int (unhide HR).symm, unhide HB1⟩
set_option maxHeartbeats 1600000 in
set_option maxRecDepth 100000 in
theorem ck_n3 (L : ByteArray) (enc why : Int) (W : ByteArray) (e : Int) (r : ByteArray) (g : Int) (fr st : Bool) (w : World) (hL : L.size ≤ maxLen) (hW : W.size ≤ maxLen) (hr : r.size ≤ maxLen) (h0 : L.size ≤ 3000) (h1 : W.size ≤ 3000) (h2 : 0 ≤ enc ∧ enc ≤ 7) (hy : 0 ≤ why ∧ why ≤ 4) (h3 : why ≠ 0) (h4 : enc ≠ 0) (h5 : W.size = 0) (h : e = enc) :
    Calls Tryz.prog 20 #[.agg #[.string L, .int .i64 enc, .int .i64 why, .string W, .int .i64 e, .string r, .int .i64 g, .bool fr, .bool st]] w fun e' w' => e' = .returned (.int .i64 (chkF L enc why W e r (g, fr, st))) ∧ Below w.heap.size w w' := by
  have HR : Hid (chkF L enc why W e r (g, fr, st) = chk e r (g, fr, st)) := hide (by
    unfold chkF Fr.chk
    simp only
    rw [if_neg (by omega), if_neg (by omega), if_neg (by omega), if_neg (by rintro (q | q); exact h3 q.1; exact q.2.elim (fun z => z h5) (fun z => z h)), if_neg h3])
  have HC := hide (fun w => check_any e r (g, fr, st) w hr)
  unfold sv at HC
  simp only at HC
  rw [← unhide HR] at HC
  generalize chkF L enc why W e r (g, fr, st) = K at *
  unfold maxLen at hL hW hr
  have hee : (enc != 0) = true := bne_iff_ne.2 (by omega)
  have HIe := hide (fun w => fenc_yes enc w (by omega))
  have hne : (why != 0) = true := bne_iff_ne.2 h3
  have hw1 : decide (why < 0) = false := decide_eq_false (by omega)
  have hw2 : decide (4 < why) = false := decide_eq_false (by omega)
  have hwe := empty_eq W
  rw [decide_eq_true h5] at hwe
  have hen : (e != enc) = false := by rw [h]; simp
  clear h2 h3 h4 h
  go_enter Tryz.func20, Tryz.ntmps20
  go_wp2_with fail
  refine (unhide HIe _).mono ?_
  rintro e' w1 ⟨rfl, hb1⟩
  have HB1 := hide (bstep (balloc _ _) hb1)
  obtain ⟨a0, a1, a2, a3, a4, a5, a6, a7, a8⟩ := cells9 w w1 L _ _ W _ r _ _ _ hb1
  have hlt : w.heap.size < w1.heap.size := by have := hb1.size; simp at this; omega
  clear hb1
  go_wp2_with fail
  refine (unhide HC _).mono ?_
  rintro e' w2 ⟨rfl, hb2⟩
  have HB2 := hide (bstep (unhide HB1) hb2)
  clear hb2
  go_wp2_with fail
  go_ret
  exact ⟨rfl, unhide HB2⟩
theorem ckSays : CkSays := by
  intro f w hL hW hr hM
  obtain ⟨L, enc, why, W, e, r, g, fr, st⟩ := f
  show Calls Tryz.prog 20 #[.agg #[.string L, .int .i64 enc, .int .i64 why, .string W, .int .i64 e, .string r, .int .i64 g, .bool fr, .bool st]] w fun e' w' => e' = .returned (.int .i64 (chkF L enc why W e r (g, fr, st))) ∧ Below w.heap.size w w'
  simp only at hL hW hr
  by_cases h0 : 3000 < L.size
  · exact ck_L L enc why W e r g fr st w hL hW hr h0
  by_cases h1 : 3000 < W.size
  · exact ck_W L enc why W e r g fr st w hL hW hr (by omega) h1
  by_cases h2 : 0 ≤ enc ∧ enc ≤ 7
  case neg => exact ck_enc L enc why W e r g fr st w hL hW hr (by omega) (by omega) h2
  by_cases hy : 0 ≤ why ∧ why ≤ 4
  case neg =>
    by_cases h4 : enc = 0
    · exact ck_whyz L enc why W e r g fr st w hL hW hr (by omega) (by omega) h2 hy h4
    · exact ck_whye L enc why W e r g fr st w hL hW hr (by omega) (by omega) h2 hy h4
  by_cases h3 : why = 0
  · by_cases h4 : enc = 0
    case neg => exact ck_w0 L enc why W e r g fr st w hL hW hr (by omega) (by omega) h2 h3 h4
    by_cases h5 : e = 0 ∧ r.size = 0 ∧ (g, fr, st) = M.st0
    case neg => exact ck_s1 L enc why W e r g fr st w hL hW hr (by omega) (by omega) h3 h4 h5
    obtain ⟨rfl, hr0, ht⟩ := h5
    have := size0 hr0
    subst this h3 h4
    obtain ⟨rfl, rfl, rfl⟩ : g = 0 ∧ fr = false ∧ st = false := by simpa [M.st0] using ht
    exact ck_s2 L W w (by omega) (by omega)
  · by_cases h4 : enc = 0
    · exact ck_w1 L enc why W e r g fr st w hL hW hr (by omega) (by omega) h2 hy h3 h4
    by_cases h5 : W.size = 0
    case neg => exact ck_n1 L enc why W e r g fr st w hL hW hr (by omega) (by omega) h2 hy h3 h4 h5
    by_cases h6 : e = enc
    case neg => exact ck_n2 L enc why W e r g fr st w hL hW hr (by omega) (by omega) h2 hy h3 h4 h5 h6
    exact ck_n3 L enc why W e r g fr st w hL hW hr (by omega) (by omega) h2 hy h3 h4 h5 h6
end Go.Proofs.YtaiinjfnkmidbaaGreatDoor

namespace Go.Proofs.YtaiinjfnkmidbaaGreatDoor
open Go.RowKit
set_option linter.unusedVariables false

set_option maxHeartbeats 800000 in
set_option maxRecDepth 100000 in
theorem bgSays : BgSays := by
  intro L w hL
  have HC := hide (fun w => clone_any L w (by omega))
  go_enter Tryz.func13, Tryz.ntmps13
  go_wp2_with fail
  refine (unhide HC _).mono ?_
  rintro e w1 ⟨rfl, hb1⟩
  have hF := (Fb.new w (Fr.new ⟨#[]⟩)).on hb1
  have HF := hide hF
  obtain ⟨c0, c1, c2, c3, c4, c5, c6, c7, c8, f0, f1, f2, f3, f4, f5, f6, f7, f8⟩ := hF
  dsimp only [Fr.new, M.st0] at c0 c1 c2 c3 c4 c5 c6 c7 c8
  have hlt := (unhide HF).lt
  have HB := hide (bstep (balloc w (.cells #[.string ⟨#[]⟩, .int .i64 0, .int .i64 0, .string ⟨#[]⟩, .int .i64 0, .string ⟨#[]⟩, .int .i64 0, .bool false, .bool false] 25)) hb1)
  clear hb1
  go_wp2_with fail
  refine bodyPost_ret (v := .tuple #[(Fr.new L).v, .int .i64 0]) (by simp [results, Tryz.results13, go_sem, c0, c1, c2, c3, c4, c5, c6, c7, c8, Fr.v, Fr.new, M.st0]) rfl ⟨rfl, ?_⟩
  exact bput9 (B := w.heap.size) (unhide HB) (Nat.le_refl _) (Fr.new L)

set_option maxHeartbeats 800000 in
set_option maxRecDepth 100000 in
theorem bgErrs : BgErrs := by
  intro L w hm hL
  unfold maxLen at hm
  go_enter Tryz.func13, Tryz.ntmps13
  go_wp2_with fail
  refine bodyPost_ret (v := .tuple #[(Fr.new ⟨#[]⟩).v, .int .i64 2]) (by simp [results, Tryz.results13, go_sem, Fr.v, Fr.new, M.st0]) rfl ⟨rfl, ?_⟩
  first | exact balloc _ _ | exact bput9 (B := w.heap.size) (balloc _ _) (Nat.le_refl _) (Fr.new ⟨#[]⟩)
end Go.Proofs.YtaiinjfnkmidbaaGreatDoor

namespace Go.Proofs.YtaiinjfnkmidbaaGreatDoor
open Go.RowKit
set_option linter.unusedVariables false

theorem Fb.c9set {B : Nat} {f : Fr} {w : World} (h : Fb B f w) (u : Value) : Fb B f (w.setCell ⟨B, 9, none⟩ u) where
  c0 := (World.cell?_setCell_other _ _ _ _ (by simp)).trans h.c0
  c1 := (World.cell?_setCell_other _ _ _ _ (by simp)).trans h.c1
  c2 := (World.cell?_setCell_other _ _ _ _ (by simp)).trans h.c2
  c3 := (World.cell?_setCell_other _ _ _ _ (by simp)).trans h.c3
  c4 := (World.cell?_setCell_other _ _ _ _ (by simp)).trans h.c4
  c5 := (World.cell?_setCell_other _ _ _ _ (by simp)).trans h.c5
  c6 := (World.cell?_setCell_other _ _ _ _ (by simp)).trans h.c6
  c7 := (World.cell?_setCell_other _ _ _ _ (by simp)).trans h.c7
  c8 := (World.cell?_setCell_other _ _ _ _ (by simp)).trans h.c8
  f0 := by rw [World.frozen?_setCell]; exact h.f0
  f1 := by rw [World.frozen?_setCell]; exact h.f1
  f2 := by rw [World.frozen?_setCell]; exact h.f2
  f3 := by rw [World.frozen?_setCell]; exact h.f3
  f4 := by rw [World.frozen?_setCell]; exact h.f4
  f5 := by rw [World.frozen?_setCell]; exact h.f5
  f6 := by rw [World.frozen?_setCell]; exact h.f6
  f7 := by rw [World.frozen?_setCell]; exact h.f7
  f8 := by rw [World.frozen?_setCell]; exact h.f8
/-- Who chooses, in memory: the front, and what has been told. -/
def Ch (C : Nat) (f : Fr) (xs : List Int) (w : World) : Prop :=
  ∃ v, Fb C f w ∧ w.cell? ⟨C, 9, none⟩ = some v ∧ w.frozen? ⟨C, 9, none⟩ = false ∧ w.ownsRow (C + 1) 3 1 v xs.length (xs.map (Value.int .i64))
/-- What is told of bytes p by a decoder. -/
def Tel (e : Int) (r : ByteArray) (t : M.St) (l : List Int) (last : Bool) (L : List Int) (r' : ByteArray) (t' : M.St) : Prop :=
  (last = false → L = (M.RE e t l).1 ∧ bl r' = (M.RE e t l).2.2 ∧ t' = (M.RE e t l).2.1) ∧ (last = true → L = (M.TE e t l).1 ∧ r' = ⟨#[]⟩ ∧ t' = M.st0)
theorem Tel.len {e : Int} (he : 1 ≤ e ∧ e ≤ 7) {r r' : ByteArray} {t t' : M.St} {l L : List Int} {last : Bool} (h : Tel e r t l last L r' t') : L.length ≤ l.length := by
  cases last
  · rw [(h.1 rfl).1]; exact M.RE_out he t l
  · rw [(h.2 rfl).1]; exact M.TE_few e _ t l (Nat.le_refl _)
theorem feed_fed (e : Int) (r : ByteArray) (t : M.St) (p : ByteArray) (last : Bool) (w : World) (he : 1 ≤ e ∧ e ≤ 7) (hr : M.wE e (bl r) = r.size ∧ r.size ≤ 3) (hk : M.Ok e t) (hs : p.size ≤ 3000) :
    Calls Tryz.prog 46 #[.agg #[.int .i64 e, .string r, .int .i64 t.1, .bool t.2.1, .bool t.2.2], .string p, .bool last] w fun e' w' => ∃ v r' t' L, e' = .returned (.tuple #[v, .agg #[.int .i64 e, .string r', .int .i64 t'.1, .bool t'.2.1, .bool t'.2.2], .int .i64 0]) ∧ w'.ownsRow w.heap.size 3 1 v L.length (L.map (Value.int .i64)) ∧ Below w.heap.size w w' ∧ Tel e r t (bl r ++ bl p) last L r' t' := by
  have h : Calls Tryz.prog 46 #[sv e r t, .string p, .bool last] w (Fed e r t p last w) := by
    cases last
    · exact feed_more e r t p w he hr hk hs
    · exact feed_last e r t p w he hr hk hs
  refine Calls.mono h fun e' w' hh => ?_
  obtain ⟨v, r', t', L, h1, h2, h3, h4, h5⟩ := hh
  exact ⟨v, r', t', L, h1, h2, h3, h4, h5⟩

set_option maxHeartbeats 1600000 in
set_option maxRecDepth 100000 in
theorem cfeed_any (C : Nat) (f : Fr) (xs : List Int) (p : ByteArray) (last : Bool) (w : World) (he : 1 ≤ f.e ∧ f.e ≤ 7) (hr : M.wE f.e (bl f.r) = f.r.size ∧ f.r.size ≤ 3) (hk : M.Ok f.e f.t) (hp : p.size ≤ 3000) (hx : xs.length ≤ 10000) (hD : Ch C f xs w) :
    Calls Tryz.prog 169 #[.pointer (some ⟨C, 0, none⟩), .string p, .bool last] w fun e' w' => e' = .returned (.tuple #[]) ∧ ∃ r' t' L, Ch C { f with r := r', t := t' } (xs ++ L) w' ∧ Below C w w' ∧ Tel f.e f.r f.t (bl f.r ++ bl p) last L r' t' := by
  obtain ⟨L0, enc, why, W, e, r, t⟩ := f
  dsimp only at *
  have HF := hide (fun w => feed_fed e r t p last w he hr hk hp)
  have hlen : (bl r ++ bl p).length ≤ 3003 := by rw [List.length_append, bl_len, bl_len]; omega
  have HLn := hide (fun (L : List Int) (r' : ByteArray) (t' : M.St) (h : Tel e r t (bl r ++ bl p) last L r' t') => Nat.le_trans (h.len he) hlen)
  obtain ⟨v, hFb, h9, g9, hO⟩ := hD
  have HFb := hide hFb
  have hC := hFb.lt
  obtain ⟨c0, c1, c2, c3, c4, c5, c6, c7, c8, f0, f1, f2, f3, f4, f5, f6, f7, f8⟩ := hFb
  dsimp only at c0 c1 c2 c3 c4 c5 c6 c7 c8
  obtain ⟨av, cv, hsv⟩ := owns_shape hO
  subst hsv
  have HO := hide hO
  clear hr hk hp hO hlen
  go_enter Tryz.func169, Tryz.ntmps169
  go_wp2_with fail
  refine (unhide HF _).mono ?_
  rintro e' w1 ⟨v1, r1, t1, L, rfl, ho1, hb1, hT⟩
  obtain ⟨a1, k1, hs1⟩ := owns_shape ho1
  subst hs1
  have hLl := unhide HLn L r1 t1 hT
  have HT := hide hT
  have hz1 := hb1.size
  have I1 := hide ((Ints.of_owns ho1).below (balloc w1 (.cells #[.int .i64 e, .string r1, .int .i64 t1.1, .bool t1.2.1, .bool t1.2.2] 23)))
  have HFb1 := hide (((unhide HFb).on hb1).alloc (.cells #[.int .i64 e, .string r1, .int .i64 t1.1, .bool t1.2.1, .bool t1.2.2] 23))
  have h91 : Hid ((w1.alloc (.cells #[.int .i64 e, .string r1, .int .i64 t1.1, .bool t1.2.1, .bool t1.2.2] 23)).cell? ⟨C, 9, none⟩ = some (.slice av xs.length cv)) := hide (((balloc w1 _).cell (p := ⟨C, 9, none⟩) (by simp; omega)).trans ((hb1.cell (p := ⟨C, 9, none⟩) hC).trans h9))
  have g91 : Hid ((w1.alloc (.cells #[.int .i64 e, .string r1, .int .i64 t1.1, .bool t1.2.1, .bool t1.2.2] 23)).frozen? ⟨C, 9, none⟩ = false) := hide (((balloc w1 _).frozen (p := ⟨C, 9, none⟩) (by simp; omega)).trans ((hb1.frozen (p := ⟨C, 9, none⟩) hC).trans g9))
  have HO1 := hide (owns_a (owns_below (unhide HO) hb1) (.cells #[.int .i64 e, .string r1, .int .i64 t1.1, .bool t1.2.1, .bool t1.2.2] 23))
  have HB1 := hide ((hb1.mono (Nat.le_of_lt hC)).trans ((balloc w1 (.cells #[.int .i64 e, .string r1, .int .i64 t1.1, .bool t1.2.1, .bool t1.2.2] 23)).mono (by omega)))
  have hS := Sc.new w1 e r1 t1
  have HSc := hide hS
  have hov : Value.ownBlock (.slice av xs.length cv) ≠ some w1.heap.size := fun h => by have := owns_lt (unhide HO) _ h; omega
  clear hb1 ho1 hT c0 c1 c2 c3 c4 c5 c6 c7 c8 f0 f1 f2 f3 f4 f5 f6 f7 f8 h9 g9 HFb HO HF
  obtain ⟨c0, c1, c2, c3, c4, c5, c6, c7, c8, f0, f1, f2, f3, f4, f5, f6, f7, f8⟩ := unhide HFb1
  dsimp only at c0 c1 c2 c3 c4 c5 c6 c7 c8
  have h9 := unhide h91
  have g9 := unhide g91
  go_wp2_with (at_builtin; refine append_keep rfl (.tmp 25) (.tmp 26) rfl (C + 1) _ xs rfl (unhide HO1) _ L rfl (unhide I1) (by omega) (by simp; omega) ?_)
  intro ao2 cap2 w2 ho2 hb2 hk2
  have HFb2 := hide ((unhide HFb1).below hb2 (Nat.lt_succ_self C))
  have h92 : w2.cell? ⟨C, 9, none⟩ = some (.slice av xs.length cv) := (hb2.cell (p := ⟨C, 9, none⟩) (Nat.lt_succ_self C)).trans (unhide h91)
  have g92 : w2.frozen? ⟨C, 9, none⟩ = false := (hb2.frozen (p := ⟨C, 9, none⟩) (Nat.lt_succ_self C)).trans (unhide g91)
  have HB2 := hide ((unhide HB1).trans (hb2.mono (Nat.le_succ C)))
  have z0 : w2.cell? ⟨w1.heap.size, 0, none⟩ = some (.int .i64 e) := (hk2 w1.heap.size 0 (by simp) hov).trans (unhide HSc).c0
  have z1 : w2.cell? ⟨w1.heap.size, 1, none⟩ = some (.string r1) := (hk2 w1.heap.size 1 (by simp) hov).trans (unhide HSc).c1
  have z2 : w2.cell? ⟨w1.heap.size, 2, none⟩ = some (.int .i64 t1.1) := (hk2 w1.heap.size 2 (by simp) hov).trans (unhide HSc).c2
  have z3 : w2.cell? ⟨w1.heap.size, 3, none⟩ = some (.bool t1.2.1) := (hk2 w1.heap.size 3 (by simp) hov).trans (unhide HSc).c3
  have z4 : w2.cell? ⟨w1.heap.size, 4, none⟩ = some (.bool t1.2.2) := (hk2 w1.heap.size 4 (by simp) hov).trans (unhide HSc).c4
  have HO2 : Hid (w2.ownsRow (C + 1) 3 1 (.slice ao2 (xs.length + L.length) cap2) (xs ++ L).length ((xs ++ L).map (Value.int .i64))) := hide (by simpa using ho2)
  have hC2 : C < w2.heap.size := (unhide HFb2).lt
  have hB2 : w1.heap.size < w2.heap.size := World.block_lt_of_cell? w2 _ z0
  have hne : ¬ (C = w1.heap.size) := by omega
  have hne' : ¬ (w1.heap.size = C) := by omega
  clear ho2 hb2 hk2 h9 g9 c0 c1 c2 c3 c4 c5 c6 c7 c8 f0 f1 f2 f3 f4 f5 f6 f7 f8 HFb1 h91 g91 HO1 HB1 HSc hS I1 hov
  obtain ⟨c0, c1, c2, c3, c4, c5, c6, c7, c8, f0, f1, f2, f3, f4, f5, f6, f7, f8⟩ := unhide HFb2
  dsimp only at c0 c1 c2 c3 c4 c5 c6 c7 c8
  go_wp2_with fail
  go_end0
  refine ⟨rfl, r1, t1, L, ⟨.slice ao2 (xs.length + L.length) cap2, ?_, ?_, ?_, ?_⟩, ?_, unhide HT⟩
  · exact Fb.put5 ((unhide HFb2).c9set _) e r1 t1
  · rw [World.cell?_setCell_other _ _ _ _ (by simp), World.cell?_setCell_other _ _ _ _ (by simp), World.cell?_setCell_other _ _ _ _ (by simp), World.cell?_setCell_other _ _ _ _ (by simp), World.cell?_setCell_other _ _ _ _ (by simp), World.cell?_setCell_same _ _ _ h92]
  · rw [World.frozen?_setCell, World.frozen?_setCell, World.frozen?_setCell, World.frozen?_setCell, World.frozen?_setCell, World.frozen?_setCell]; exact g92
  · exact oput5 (owns_set (unhide HO2) ⟨C, 9, none⟩ (Nat.lt_succ_self C) _) (Nat.lt_succ_self C) e r1 t1
  · exact bput5 (bset (unhide HB2) ⟨C, 9, none⟩ _ (Nat.le_refl _)) (Nat.le_refl _) e r1 t1

theorem Tel.app {e : Int} {r r1 r' : ByteArray} {t t1 t' : M.St} {l m L L' : List Int} {last : Bool} (h1 : Tel e r t l false L r1 t1) (h2 : Tel e r1 t1 (bl r1 ++ m) last L' r' t') : Tel e r t (l ++ m) last (L ++ L') r' t' := by
  obtain ⟨a1, a2, a3⟩ := h1.1 rfl
  rw [a2, a3] at h2
  refine ⟨fun h => ?_, fun h => ?_⟩
  · obtain ⟨b1, b2, b3⟩ := h2.1 h
    rw [M.RE_app, a1, b1]
    exact ⟨rfl, b2, b3⟩
  · obtain ⟨b1, b2, b3⟩ := h2.2 h
    rw [M.TE_app, a1, b1]
    exact ⟨rfl, b2, b3⟩
theorem Tel.right {e : Int} (he : 1 ≤ e ∧ e ≤ 7) {r r' : ByteArray} {t t' : M.St} {l L : List Int} (hk : M.Ok e t) (h : Tel e r t l false L r' t') : (M.wE e (bl r') = r'.size ∧ r'.size ≤ 3) ∧ M.Ok e t' := by
  obtain ⟨_, a2, a3⟩ := h.1 rfl
  have hz : r'.size = (M.RE e t l).2.2.length := by rw [← bl_len, a2]
  refine ⟨⟨?_, ?_⟩, ?_⟩
  · rw [a2, hz]; exact M.RE_left he t l
  · rw [hz]; exact M.RE_few he t l
  · rw [a3]; exact M.Ok_run he hk l
set_option maxHeartbeats 800000 in
set_option maxRecDepth 100000 in
theorem ctell_any (C : Nat) (f : Fr) (xs : List Int) (p : ByteArray) (last : Bool) (w : World) (he : 1 ≤ f.e ∧ f.e ≤ 7) (hr : M.wE f.e (bl f.r) = f.r.size ∧ f.r.size ≤ 3) (hk : M.Ok f.e f.t) (hp : p.size ≤ 6000) (hx : xs.length ≤ 5000) (hD : Ch C f xs w) :
    Calls Tryz.prog 107 #[.pointer (some ⟨C, 0, none⟩), .string p, .bool last] w fun e' w' => e' = .returned (.tuple #[]) ∧ ∃ r' t' L, Ch C { f with r := r', t := t' } (xs ++ L) w' ∧ Below C w w' ∧ Tel f.e f.r f.t (bl f.r ++ bl p) last L r' t' := by
  by_cases h3 : p.size ≤ 3000
  · have H := hide (cfeed_any C f xs p last w he hr hk h3 (by omega) hD)
    clear hr hk hx hD he
    go_enter Tryz.func107, Tryz.ntmps107
    go_wp2_with fail
    refine wp_loop_rounds 1 ?_
    rw [rounds_succ]
    go_wp2_with fail
    refine (unhide H).mono ?_
    rintro e' w1 ⟨rfl, h1⟩
    have H1 := hide h1
    clear h1 H
    go_wp2_with fail
    go_end0
    exact ⟨rfl, unhide H1⟩
  · have H1 := hide (cfeed_any C f xs (p.extract 0 3000) false w he hr hk (by simp; omega) (by omega) hD)
    have hlen : (bl f.r ++ bl (p.extract 0 3000)).length ≤ 3003 := by rw [List.length_append, bl_len, bl_len]; simp; omega
    have HS : Hid (bl f.r ++ bl p = (bl f.r ++ bl (p.extract 0 3000)) ++ bl (p.extract 3000 p.size)) := hide (by rw [bl_take, bl_extract, List.append_assoc, List.take_append_drop])
    have hb0 : (p.extract 3000 p.size).size ≤ 3000 := by simp; omega
    obtain ⟨b, HBq⟩ : ∃ b, Hid (p.extract 3000 p.size = b) := ⟨_, hide rfl⟩
    rw [unhide HBq] at hb0 HS
    have hbq := unhide HBq
    have hh3 : 3000 < p.size := by omega
    clear hr hD
    go_enter Tryz.func107, Tryz.ntmps107
    go_wp2_with fail
    refine wp_loop_rounds 2 ?_
    rw [rounds_succ]
    go_wp2_with fail
    refine (unhide H1).mono ?_
    rintro e' w1 ⟨rfl, r1, t1, L1, hC1, hB1, hT1⟩
    have hr1 := hT1.right he hk
    have hl1 := hT1.len he
    have H2 := hide (cfeed_any C { f with r := r1, t := t1 } (xs ++ L1) b last w1 he hr1.1 hr1.2 hb0 (by rw [List.length_append]; omega) hC1)
    have HT1 := hide hT1
    have HB1 := hide hB1
    clear H1 hC1 hB1 hT1 hr1 hk hlen hl1 he hx
    go_wp2_with fail
    rw [rounds_succ]
    go_wp2_with fail
    refine (unhide H2).mono ?_
    rintro e' w2 ⟨rfl, r2, t2, L2, hC2, hB2, hT2⟩
    have H3 : Hid (∃ r' t' L, Ch C { f with r := r', t := t' } (xs ++ L) w2 ∧ Below C w w2 ∧ Tel f.e f.r f.t (bl f.r ++ bl p) last L r' t') := hide (by
      refine ⟨r2, t2, L1 ++ L2, ?_, (unhide HB1).trans hB2, ?_⟩
      · rw [← List.append_assoc]; exact hC2
      · rw [unhide HS]; exact Tel.app (unhide HT1) hT2)
    clear H2 hC2 hB2 hT2
    go_wp2_with fail
    go_end0
    exact ⟨rfl, unhide H3⟩
end Go.Proofs.YtaiinjfnkmidbaaGreatDoor

namespace Go.Proofs.YtaiinjfnkmidbaaGreatDoor
open Go.RowKit
set_option linter.unusedVariables false

theorem ch_cut (L all : ByteArray) : chI L (bl (all.extract 0 (min all.size 256))) = chI L (bl all) := by
  rw [bl_take]
  by_cases h : all.size ≤ 256
  · rw [Nat.min_eq_left h, List.take_of_length_le (by rw [bl_len]; omega)]
  · rw [Nat.min_eq_right (by omega)]
    have e : chI L ((bl all).take 256 ++ (bl all).drop 256) = chI L ((bl all).take 256) := chI_more (by
      unfold enF
      rw [decide_eq_true (show 256 ≤ ((bl all).take 256).length from by rw [List.length_take, bl_len]; omega)]
      simp) _
    rw [List.take_append_drop] at e
    exact e.symm
theorem Ch.below {C : Nat} {f : Fr} {xs : List Int} {w w2 : World} (h : Ch C f xs w) (hb : Below w.heap.size w w2) : Ch C f xs w2 := by
  obtain ⟨v, h1, h2, h3, h4⟩ := h
  exact ⟨v, h1.on hb, (hb.cell (p := ⟨C, 9, none⟩) h1.lt).trans h2, (hb.frozen (p := ⟨C, 9, none⟩) h1.lt).trans h3, owns_below h4 hb⟩

theorem Ch.lt {C : Nat} {f : Fr} {xs : List Int} {w : World} (h : Ch C f xs w) : C < w.heap.size := by
  obtain ⟨v, h1, _⟩ := h
  exact h1.lt
theorem Ch.put {C k : Nat} {f g : Fr} {xs : List Int} {w : World} {u : Value} (h : Ch C f xs w) (hk : k ≠ 9) (hg : Fb C f w → Fb C g (w.setCell ⟨C, k, none⟩ u)) : Ch C g xs (w.setCell ⟨C, k, none⟩ u) := by
  obtain ⟨v, h1, h2, h3, h4⟩ := h
  exact ⟨v, hg h1, (World.cell?_setCell_other _ _ _ _ (by intro h; cases h; exact hk rfl)).trans h2, by rw [World.frozen?_setCell]; exact h3, owns_set h4 ⟨C, k, none⟩ (Nat.lt_succ_self C) _⟩
theorem Ch.put5 {C : Nat} {f : Fr} {xs : List Int} {w : World} (h : Ch C f xs w) (e : Int) (r : ByteArray) (t : M.St) : Ch C { f with e := e, r := r, t := t } xs (((((w.setCell ⟨C, 4, none⟩ (.int .i64 e)).setCell ⟨C, 5, none⟩ (.string r)).setCell ⟨C, 6, none⟩ (.int .i64 t.1)).setCell ⟨C, 7, none⟩ (.bool t.2.1)).setCell ⟨C, 8, none⟩ (.bool t.2.2)) :=
  ((((h.put (by decide) (fun q => q.set4 e)).put (by decide) (fun q => q.set5 r)).put (by decide) (fun q => q.set6 t.1)).put (by decide) (fun q => q.set7 t.2.1)).put (by decide) (fun q => q.set8 t.2.2)
theorem Ch.put9 {C : Nat} {f : Fr} {xs : List Int} {w : World} (h : Ch C f xs w) (g : Fr) : Ch C g xs (((((((((w.setCell ⟨C, 0, none⟩ (.string g.L)).setCell ⟨C, 1, none⟩ (.int .i64 g.enc)).setCell ⟨C, 2, none⟩ (.int .i64 g.why)).setCell ⟨C, 3, none⟩ (.string g.W)).setCell ⟨C, 4, none⟩ (.int .i64 g.e)).setCell ⟨C, 5, none⟩ (.string g.r)).setCell ⟨C, 6, none⟩ (.int .i64 g.t.1)).setCell ⟨C, 7, none⟩ (.bool g.t.2.1)).setCell ⟨C, 8, none⟩ (.bool g.t.2.2)) :=
  ((((((((h.put (by decide) (fun q => q.set0 g.L)).put (by decide) (fun q => q.set1 g.enc)).put (by decide) (fun q => q.set2 g.why)).put (by decide) (fun q => q.set3 g.W)).put (by decide) (fun q => q.set4 g.e)).put (by decide) (fun q => q.set5 g.r)).put (by decide) (fun q => q.set6 g.t.1)).put (by decide) (fun q => q.set7 g.t.2.1)).put (by decide) (fun q => q.set8 g.t.2.2)
theorem wE_nil {n : Int} (hn : 1 ≤ n ∧ n ≤ 7) : M.wE n (bl ⟨#[]⟩) = (⟨#[]⟩ : ByteArray).size ∧ (⟨#[]⟩ : ByteArray).size ≤ 3 := by
  obtain rfl | rfl | rfl | rfl | rfl | rfl | rfl := M.seven hn <;> decide +kernel

set_option maxHeartbeats 3200000 in
set_option maxRecDepth 100000 in
theorem cchoose_any (C : Nat) (L W all : ByteArray) (w : World) (hL : L.size ≤ 3000) (hall : all.size ≤ 6000) (hM : Mx w) (hD : Ch C ⟨L, 0, 0, W, 0, ⟨#[]⟩, M.st0⟩ [] w) :
    Calls Tryz.prog 106 #[.pointer (some ⟨C, 0, none⟩), .string all] w fun e' w' => e' = .returned (.string (all.extract (chI L (bl all)).2.2.toNat all.size)) ∧ Ch C ⟨L, (chI L (bl all)).1, (chI L (bl all)).2.1, ⟨#[]⟩, (chI L (bl all)).1, ⟨#[]⟩, M.st0⟩ [] w' ∧ Below C w w' := by
  have hbd := chI_bd L (bl all)
  rw [bl_len] at hbd
  have HCh := hide (fun w h => chSays L (all.extract 0 (min all.size 256)) w hL (by simp; omega) h)
  rw [ch_cut] at HCh
  have HOp := hide (fun w => open_yes (chI L (bl all)).1 w hbd.1)
  unfold sv M.st0 at HOp
  dsimp only at HOp
  generalize (chI L (bl all)).1 = n at *
  generalize (chI L (bl all)).2.1 = y at *
  generalize hm : (chI L (bl all)).2.2 = m at *
  obtain ⟨k, rfl⟩ : ∃ k : Nat, m = (k : Int) := ⟨m.toNat, by omega⟩
  rw [Int.toNat_natCast]
  have hkl : k ≤ all.size := by omega
  have HM := hide hM
  obtain ⟨v, hFb, h9, g9, hO⟩ := hD
  have HFb := hide hFb
  have hC := hFb.lt
  have HD := hide (show Ch C ⟨L, 0, 0, W, 0, ⟨#[]⟩, M.st0⟩ [] w from ⟨v, hFb, h9, g9, hO⟩)
  have c0 := hFb.c0
  dsimp only at c0
  have hcl : ∀ w', Below w.heap.size w w' → w'.cell? ⟨C, 0, none⟩ = some (.string L) := fun w' hb => (hb.cell (p := ⟨C, 0, none⟩) hC).trans c0
  have hmin : min (all.size : Int) 256 = ((min all.size 256 : Nat) : Int) := by omega
  have hsl : ∀ wx, (Instr.slice 9 (.string all) none (some (.int .i64 (min (all.size : Int) 256))) none).run Tryz.prog wx = .ok (.string (all.extract 0 (min all.size 256))) wx := fun wx => by
    rw [hmin]
    exact run_slice_string_h (P := Tryz.prog) wx 9 all Tryz.underlying9 .i64 ((min all.size 256 : Nat) : Int) (by omega) (by omega)
  clear hbd hm hM hFb h9 g9 hO c0 hmin
  go_enter Tryz.func106, Tryz.ntmps106
  go_wp2_with fail
  go_region_held3 (fun w' => Below w.heap.size w w') (first | exact below_drewN (Below.refl _ _) 1 | assumption)
    ((first
      | (go_at_call 12; refine (unhide HCh _ ((unhide HM).below (by assumption))).mono ?_; rintro e' z ⟨rfl, hz⟩; have hS := bstep (by assumption) hz; clear hz)))
  have hCz : C < z.heap.size := by have := hS.size; omega
  have HDz := hide ((unhide HD).below hS)
  have HBz := hide (hS.mono (Nat.le_of_lt hC))
  obtain ⟨c0, c1, c2, c3, c4, c5, c6, c7, c8, f0, f1, f2, f3, f4, f5, f6, f7, f8⟩ := (unhide HFb).on hS
  dsimp only [M.st0] at c0 c1 c2 c3 c4 c5 c6 c7 c8
  clear hcl hsl hS HCh HD HFb
  go_wp2_with fail
  refine (unhide HOp _).mono ?_
  rintro e' w2 ⟨rfl, hb2⟩
  have H2 := hide (((((unhide HDz).put (k := 1) (by decide) (fun q => q.set1 n)).put (k := 2) (by decide) (fun q => q.set2 y)).put (k := 3) (by decide) (fun q => q.set3 ⟨#[]⟩)).below hb2)
  have HB2 := hide ((bset (bset (bset (unhide HBz) ⟨C, 1, none⟩ (.int .i64 n) (Nat.le_refl _)) ⟨C, 2, none⟩ (.int .i64 y) (Nat.le_refl _)) ⟨C, 3, none⟩ (.string ⟨#[]⟩) (Nat.le_refl _)).trans (hb2.mono (by simp; omega)))
  have hC2 := (unhide H2).lt
  clear hb2 c0 c1 c2 c3 c4 c5 c6 c7 c8 f0 f1 f2 f3 f4 f5 f6 f7 f8 HDz HBz
  obtain ⟨v2, q2, -, -, -⟩ := unhide H2
  obtain ⟨c0, c1, c2, c3, c4, c5, c6, c7, c8, f0, f1, f2, f3, f4, f5, f6, f7, f8⟩ := q2
  dsimp only [M.st0] at c0 c1 c2 c3 c4 c5 c6 c7 c8
  go_wp2_with fail
  go_ret
  exact ⟨rfl, Ch.put5 (unhide H2) n ⟨#[]⟩ M.st0, bput5 (unhide HB2) (Nat.le_refl _) n ⟨#[]⟩ M.st0⟩
set_option maxHeartbeats 1600000 in
set_option maxRecDepth 100000 in
theorem ctake_on_false (C : Nat) (L : ByteArray) (enc why e : Int) (r : ByteArray) (t : M.St) (p : ByteArray) (w : World) (hy : why ≠ 0) (he : 1 ≤ e ∧ e ≤ 7) (hr : M.wE e (bl r) = r.size ∧ r.size ≤ 3) (hk : M.Ok e t) (hp : p.size ≤ 3000) (hD : Ch C ⟨L, enc, why, ⟨#[]⟩, e, r, t⟩ [] w) :
    Calls Tryz.prog 50 #[.pointer (some ⟨C, 0, none⟩), .string p, .bool false] w fun e' w' => e' = .returned (.tuple #[]) ∧ Ch C (Fr.nxt ⟨L, enc, why, ⟨#[]⟩, e, r, t⟩ p false) (Fr.outs ⟨L, enc, why, ⟨#[]⟩, e, r, t⟩ p false) w' ∧ Below C w w' := by
  have H := hide (ctell_any C ⟨L, enc, why, ⟨#[]⟩, e, r, t⟩ [] p false w he hr hk (by omega) (by simp) hD)
  have hyb : (why == 0) = false := beq_eq_false_iff_ne.2 hy
  have HY := hide hy
  have hC := hD.lt
  obtain ⟨v, q, -, -, -⟩ := hD
  obtain ⟨c0, c1, c2, c3, c4, c5, c6, c7, c8, f0, f1, f2, f3, f4, f5, f6, f7, f8⟩ := q
  dsimp only at c0 c1 c2 c3 c4 c5 c6 c7 c8
  clear hy he hr hk hp
  go_enter Tryz.func50, Tryz.ntmps50
  go_wp2_with fail
  refine (unhide H).mono ?_
  rintro e' w1 ⟨rfl, r1, t1, L1, hC1, hB1, hT1⟩
  rw [List.nil_append] at hC1

  have HN : Hid (Ch C (Fr.nxt ⟨L, enc, why, ⟨#[]⟩, e, r, t⟩ p false) (Fr.outs ⟨L, enc, why, ⟨#[]⟩, e, r, t⟩ p false) w1) := hide (by
    obtain ⟨a1, a2, a3⟩ := hT1.1 rfl
    rw [nxt_on (f := ⟨L, enc, why, ⟨#[]⟩, e, r, t⟩) (unhide HY) a2 a3, outs_on (f := ⟨L, enc, why, ⟨#[]⟩, e, r, t⟩) (unhide HY), ← a1]
    exact hC1)
  have HB1 := hide hB1
  clear hC1 hB1 hT1 H c0 c1 c2 c3 c4 c5 c6 c7 c8 f0 f1 f2 f3 f4 f5 f6 f7 f8
  go_wp2_with fail
  go_end0
  exact ⟨rfl, unhide HN, unhide HB1⟩

set_option maxHeartbeats 1600000 in
set_option maxRecDepth 100000 in
theorem ctake_on_true (C : Nat) (L : ByteArray) (enc why e : Int) (r : ByteArray) (t : M.St) (p : ByteArray) (w : World) (hy : why ≠ 0) (he : 1 ≤ e ∧ e ≤ 7) (hr : M.wE e (bl r) = r.size ∧ r.size ≤ 3) (hk : M.Ok e t) (hp : p.size ≤ 3000) (hD : Ch C ⟨L, enc, why, ⟨#[]⟩, e, r, t⟩ [] w) :
    Calls Tryz.prog 50 #[.pointer (some ⟨C, 0, none⟩), .string p, .bool true] w fun e' w' => e' = .returned (.tuple #[]) ∧ Ch C (Fr.nxt ⟨L, enc, why, ⟨#[]⟩, e, r, t⟩ p true) (Fr.outs ⟨L, enc, why, ⟨#[]⟩, e, r, t⟩ p true) w' ∧ Below C w w' := by
  have H := hide (ctell_any C ⟨L, enc, why, ⟨#[]⟩, e, r, t⟩ [] p true w he hr hk (by omega) (by simp) hD)
  have hyb : (why == 0) = false := beq_eq_false_iff_ne.2 hy
  have HY := hide hy
  have hC := hD.lt
  obtain ⟨v, q, -, -, -⟩ := hD
  obtain ⟨c0, c1, c2, c3, c4, c5, c6, c7, c8, f0, f1, f2, f3, f4, f5, f6, f7, f8⟩ := q
  dsimp only at c0 c1 c2 c3 c4 c5 c6 c7 c8
  clear hy he hr hk hp
  go_enter Tryz.func50, Tryz.ntmps50
  go_wp2_with fail
  refine (unhide H).mono ?_
  rintro e' w1 ⟨rfl, r1, t1, L1, hC1, hB1, hT1⟩
  rw [List.nil_append] at hC1

  have HN : Hid (Fr.outs ⟨L, enc, why, ⟨#[]⟩, e, r, t⟩ p true = L1) := hide (by
    obtain ⟨a1, a2, a3⟩ := hT1.2 rfl
    rw [outs_end (f := ⟨L, enc, why, ⟨#[]⟩, e, r, t⟩) (unhide HY), ← a1])
  have HC1 := hide hC1
  have HB1 := hide hB1
  have hC2 := hC1.lt
  clear hB1 hT1 H c0 c1 c2 c3 c4 c5 c6 c7 c8 f0 f1 f2 f3 f4 f5 f6 f7 f8
  obtain ⟨v1, q1, -, -, -⟩ := hC1
  obtain ⟨c0, c1, c2, c3, c4, c5, c6, c7, c8, f0, f1, f2, f3, f4, f5, f6, f7, f8⟩ := q1
  dsimp only at c0 c1 c2 c3 c4 c5 c6 c7 c8
  go_wp2_with fail
  go_end0
  refine ⟨rfl, ?_, bput9 (unhide HB1) (Nat.le_refl _) (Fr.new L)⟩
  rw [unhide HN]
  exact Ch.put9 (unhide HC1) (Fr.new L)

set_option maxHeartbeats 1600000 in
set_option maxRecDepth 100000 in
theorem ctake_wait (C : Nat) (L W p : ByteArray) (w : World) (hL : L.size ≤ 3000) (hW : W.size < 256) (hp : p.size ≤ 3000) (hM : Mx w) (hE : enF L (bl W ++ bl p) = false) (hD : Ch C ⟨L, 0, 0, W, 0, ⟨#[]⟩, M.st0⟩ [] w) :
    Calls Tryz.prog 50 #[.pointer (some ⟨C, 0, none⟩), .string p, .bool false] w fun e' w' => e' = .returned (.tuple #[]) ∧ Ch C (Fr.nxt ⟨L, 0, 0, W, 0, ⟨#[]⟩, M.st0⟩ p false) (Fr.outs ⟨L, 0, 0, W, 0, ⟨#[]⟩, M.st0⟩ p false) w' ∧ Below C w w' := by
  have HM := hide hM
  have HD := hide hD
  have hC := hD.lt
  obtain ⟨s, hs1⟩ : ∃ s, W ++ p = s := ⟨_, rfl⟩
  have hs2 : W.append p = s := hs1
  have hsz : s.size ≤ 3255 := by rw [← hs1]; simp; omega
  have HS : Hid (bl s = bl W ++ bl p) := hide (by rw [← hs1, bl_app])
  have HEn := hide (fun w => enough_any L s w hL (by unfold maxLen; omega))
  rw [unhide HS, hE] at HEn
  have HCl := hide (fun w => clone_any s w (by omega))
  have HN : Hid (∀ w', Ch C ⟨L, 0, 0, s, 0, ⟨#[]⟩, M.st0⟩ [] w' → Ch C (Fr.nxt ⟨L, 0, 0, W, 0, ⟨#[]⟩, M.st0⟩ p false) (Fr.outs ⟨L, 0, 0, W, 0, ⟨#[]⟩, M.st0⟩ p false) w') := hide (fun w' h => by rw [nxt_wait hE, outs_wait hE, hs1]; exact h)
  obtain ⟨v, q, -, -, -⟩ := hD
  obtain ⟨c0, c1, c2, c3, c4, c5, c6, c7, c8, f0, f1, f2, f3, f4, f5, f6, f7, f8⟩ := q
  dsimp only [M.st0] at c0 c1 c2 c3 c4 c5 c6 c7 c8
  clear hM
  clear hE
  go_enter Tryz.func50, Tryz.ntmps50
  go_wp2_with fail
  refine (unhide HEn _).mono ?_
  rintro e' w1 ⟨rfl, hb1⟩
  have HB1 := hide (hb1.mono (Nat.le_of_lt hC))
  have HM1 := hide ((unhide HM).below hb1)
  have HD1 := hide ((unhide HD).below hb1)
  have hC1 := (unhide HD1).lt
  clear hb1 HEn HM HD c0 c1 c2 c3 c4 c5 c6 c7 c8 f0 f1 f2 f3 f4 f5 f6 f7 f8
  obtain ⟨v1, q1, -, -, -⟩ := unhide HD1
  obtain ⟨c0, c1, c2, c3, c4, c5, c6, c7, c8, f0, f1, f2, f3, f4, f5, f6, f7, f8⟩ := q1
  dsimp only [M.st0] at c0 c1 c2 c3 c4 c5 c6 c7 c8
  go_wp2_with fail
  refine (unhide HCl _).mono ?_
  rintro e' w2 ⟨rfl, hb2⟩
  have HD2 := hide ((unhide HD1).below hb2)
  have HB2 := hide ((unhide HB1).trans (hb2.mono (Nat.le_of_lt hC1)))
  have hC2 := (unhide HD2).lt
  clear hb2 HD1 HB1 HCl c0 c1 c2 c3 c4 c5 c6 c7 c8 f0 f1 f2 f3 f4 f5 f6 f7 f8
  obtain ⟨v2, q2, -, -, -⟩ := unhide HD2
  obtain ⟨c0, c1, c2, c3, c4, c5, c6, c7, c8, f0, f1, f2, f3, f4, f5, f6, f7, f8⟩ := q2
  dsimp only [M.st0] at c0 c1 c2 c3 c4 c5 c6 c7 c8
  go_wp2_with fail
  first | go_end0 | refine bodyPost_ret (results_none rfl _ _ _) rfl ?_
  exact ⟨rfl, unhide HN _ ((unhide HD2).put (k := 3) (by decide) (fun q => q.set3 s)), bset (unhide HB2) ⟨C, 3, none⟩ _ (Nat.le_refl _)⟩

set_option maxHeartbeats 1600000 in
set_option maxRecDepth 100000 in
theorem ctake_got_false (C : Nat) (L W p : ByteArray) (w : World) (hL : L.size ≤ 3000) (hW : W.size < 256) (hp : p.size ≤ 3000) (hM : Mx w) (hE : enF L (bl W ++ bl p) = true) (hD : Ch C ⟨L, 0, 0, W, 0, ⟨#[]⟩, M.st0⟩ [] w) :
    Calls Tryz.prog 50 #[.pointer (some ⟨C, 0, none⟩), .string p, .bool false] w fun e' w' => e' = .returned (.tuple #[]) ∧ Ch C (Fr.nxt ⟨L, 0, 0, W, 0, ⟨#[]⟩, M.st0⟩ p false) (Fr.outs ⟨L, 0, 0, W, 0, ⟨#[]⟩, M.st0⟩ p false) w' ∧ Below C w w' := by
  have HM := hide hM
  have HD := hide hD
  have hC := hD.lt
  obtain ⟨s, hs1⟩ : ∃ s, W ++ p = s := ⟨_, rfl⟩
  have hs2 : W.append p = s := hs1
  have hsz : s.size ≤ 3255 := by rw [← hs1]; simp; omega
  have HS : Hid (bl s = bl W ++ bl p) := hide (by rw [← hs1, bl_app])
  have HEn := hide (fun w => enough_any L s w hL (by unfold maxLen; omega))
  rw [unhide HS, hE] at HEn
  have hbd := chI_bd L (bl s)
  rw [bl_len] at hbd
  obtain ⟨n, y, m, HX⟩ : ∃ n y m, Hid (chI L (bl s) = (n, y, m)) := ⟨_, _, _, hide rfl⟩
  have HCo := hide (fun w h hd => cchoose_any C L W s w hL (by omega) h hd)
  rw [unhide HX] at HCo hbd
  dsimp only at HCo hbd
  obtain ⟨hn, hyb, hm0, hm3, hml⟩ := hbd
  obtain ⟨q', HQ⟩ : ∃ q', Hid (s.extract m.toNat s.size = q') := ⟨_, hide rfl⟩
  have hqz : q'.size ≤ 3255 := by rw [← unhide HQ]; simp; omega
  rw [unhide HQ] at HCo
  have HQ2 : Hid (bl q' = (bl W ++ bl p).drop m.toNat) := hide (by rw [← unhide HQ, bl_extract, unhide HS])
  have HX2 : Hid (chI L (bl W ++ bl p) = (n, y, m)) := hide (by rw [← unhide HS]; exact unhide HX)
  have HTl := hide (fun w hd => ctell_any C ⟨L, n, y, ⟨#[]⟩, n, ⟨#[]⟩, M.st0⟩ [] q' false w hn (wE_nil hn) (M.Ok_st0 n) (by omega) (by simp) hd)
  have HN : Hid (∀ w' r1 t1 L1, Ch C ⟨L, n, y, ⟨#[]⟩, n, r1, t1⟩ L1 w' → Tel n ⟨#[]⟩ M.st0 (bl ⟨#[]⟩ ++ bl q') false L1 r1 t1 → Ch C (Fr.nxt ⟨L, 0, 0, W, 0, ⟨#[]⟩, M.st0⟩ p false) (Fr.outs ⟨L, 0, 0, W, 0, ⟨#[]⟩, M.st0⟩ p false) w') := hide (fun w' r1 t1 L1 h ht => by
    obtain ⟨a1, a2, a3⟩ := ht.1 rfl
    rw [nxt_got hE (unhide HX2) (unhide HQ2) a2 a3, outs_got hE (unhide HX2) (unhide HQ2), ← a1]
    exact h)
  obtain ⟨v, q, -, -, -⟩ := hD
  obtain ⟨c0, c1, c2, c3, c4, c5, c6, c7, c8, f0, f1, f2, f3, f4, f5, f6, f7, f8⟩ := q
  dsimp only [M.st0] at c0 c1 c2 c3 c4 c5 c6 c7 c8
  clear hM
  clear hE
  clear hn hyb hm0 hm3 hml hqz HQ HX HQ2 HX2 HS
  go_enter Tryz.func50, Tryz.ntmps50
  go_wp2_with fail
  refine (unhide HEn _).mono ?_
  rintro e' w1 ⟨rfl, hb1⟩
  have HB1 := hide (hb1.mono (Nat.le_of_lt hC))
  have HM1 := hide ((unhide HM).below hb1)
  have HD1 := hide ((unhide HD).below hb1)
  have hC1 := (unhide HD1).lt
  clear hb1 HEn HM HD c0 c1 c2 c3 c4 c5 c6 c7 c8 f0 f1 f2 f3 f4 f5 f6 f7 f8
  go_wp2_with fail
  refine (unhide HCo _ (unhide HM1) (unhide HD1)).mono ?_
  rintro e' w2 ⟨rfl, hD2, hb2⟩
  have HB2 := hide ((unhide HB1).trans hb2)
  clear HB1 HD1 HM1
  have HD2 := hide hD2
  clear hb2 hD2 HCo
  go_wp2_with fail
  refine (unhide HTl _ (unhide HD2)).mono ?_
  rintro e' w3 ⟨rfl, r1, t1, L1, hC3, hB3, hT3⟩
  rw [List.nil_append] at hC3
  have HB3 := hide ((unhide HB2).trans hB3)
  have HE := hide (unhide HN w3 r1 t1 L1 hC3 hT3)
  clear hC3 hB3 hT3 HTl HN HB2 HD2
  go_wp2_with fail
  go_end0
  exact ⟨rfl, unhide HE, unhide HB3⟩

set_option maxHeartbeats 1600000 in
set_option maxRecDepth 100000 in
theorem ctake_got_true (C : Nat) (L W p : ByteArray) (w : World) (hL : L.size ≤ 3000) (hW : W.size < 256) (hp : p.size ≤ 3000) (hM : Mx w) (hD : Ch C ⟨L, 0, 0, W, 0, ⟨#[]⟩, M.st0⟩ [] w) :
    Calls Tryz.prog 50 #[.pointer (some ⟨C, 0, none⟩), .string p, .bool true] w fun e' w' => e' = .returned (.tuple #[]) ∧ Ch C (Fr.nxt ⟨L, 0, 0, W, 0, ⟨#[]⟩, M.st0⟩ p true) (Fr.outs ⟨L, 0, 0, W, 0, ⟨#[]⟩, M.st0⟩ p true) w' ∧ Below C w w' := by
  have HM := hide hM
  have HD := hide hD
  have hC := hD.lt
  obtain ⟨s, hs1⟩ : ∃ s, W ++ p = s := ⟨_, rfl⟩
  have hs2 : W.append p = s := hs1
  have hsz : s.size ≤ 3255 := by rw [← hs1]; simp; omega
  have HS : Hid (bl s = bl W ++ bl p) := hide (by rw [← hs1, bl_app])
  have hbd := chI_bd L (bl s)
  rw [bl_len] at hbd
  obtain ⟨n, y, m, HX⟩ : ∃ n y m, Hid (chI L (bl s) = (n, y, m)) := ⟨_, _, _, hide rfl⟩
  have HCo := hide (fun w h hd => cchoose_any C L W s w hL (by omega) h hd)
  rw [unhide HX] at HCo hbd
  dsimp only at HCo hbd
  obtain ⟨hn, hyb, hm0, hm3, hml⟩ := hbd
  obtain ⟨q', HQ⟩ : ∃ q', Hid (s.extract m.toNat s.size = q') := ⟨_, hide rfl⟩
  have hqz : q'.size ≤ 3255 := by rw [← unhide HQ]; simp; omega
  rw [unhide HQ] at HCo
  have HQ2 : Hid (bl q' = (bl W ++ bl p).drop m.toNat) := hide (by rw [← unhide HQ, bl_extract, unhide HS])
  have HX2 : Hid (chI L (bl W ++ bl p) = (n, y, m)) := hide (by rw [← unhide HS]; exact unhide HX)
  have HTl := hide (fun w hd => ctell_any C ⟨L, n, y, ⟨#[]⟩, n, ⟨#[]⟩, M.st0⟩ [] q' true w hn (wE_nil hn) (M.Ok_st0 n) (by omega) (by simp) hd)
  have HN : Hid (∀ r1 t1 L1, Tel n ⟨#[]⟩ M.st0 (bl ⟨#[]⟩ ++ bl q') true L1 r1 t1 → Fr.outs ⟨L, 0, 0, W, 0, ⟨#[]⟩, M.st0⟩ p true = L1) := hide (fun r1 t1 L1 ht => by
    obtain ⟨a1, a2, a3⟩ := ht.2 rfl
    rw [outs_whole (unhide HX2) (unhide HQ2), ← a1])
  obtain ⟨v, q, -, -, -⟩ := hD
  obtain ⟨c0, c1, c2, c3, c4, c5, c6, c7, c8, f0, f1, f2, f3, f4, f5, f6, f7, f8⟩ := q
  dsimp only [M.st0] at c0 c1 c2 c3 c4 c5 c6 c7 c8
  clear hM
  clear hn hyb hm0 hm3 hml hqz HQ HX HQ2 HX2 HS
  go_enter Tryz.func50, Tryz.ntmps50
  go_wp2_with fail
  refine (unhide HCo _ (unhide HM) (unhide HD)).mono ?_
  rintro e' w2 ⟨rfl, hD2, hb2⟩
  have HB2 := hide hb2
  clear HM HD c0 c1 c2 c3 c4 c5 c6 c7 c8 f0 f1 f2 f3 f4 f5 f6 f7 f8
  have HD2 := hide hD2
  clear hb2 hD2 HCo
  go_wp2_with fail
  refine (unhide HTl _ (unhide HD2)).mono ?_
  rintro e' w3 ⟨rfl, r1, t1, L1, hC3, hB3, hT3⟩
  rw [List.nil_append] at hC3
  have HB3 := hide ((unhide HB2).trans hB3)
  have HE := hide (unhide HN r1 t1 L1 hT3)
  have HC3 := hide hC3
  have hC4 := hC3.lt
  clear hB3 hT3 HTl HN HB2 HD2
  obtain ⟨v3, q3, -, -, -⟩ := hC3
  obtain ⟨c0, c1, c2, c3, c4, c5, c6, c7, c8, f0, f1, f2, f3, f4, f5, f6, f7, f8⟩ := q3
  dsimp only at c0 c1 c2 c3 c4 c5 c6 c7 c8
  go_wp2_with fail
  go_end0
  refine ⟨rfl, ?_, bput9 (unhide HB3) (Nat.le_refl _) (Fr.new L)⟩
  rw [unhide HE]
  exact Ch.put9 (unhide HC3) (Fr.new L)

theorem ctake_any (C : Nat) (f : Fr) (p : ByteArray) (last : Bool) (w : World) (hk : f.chk = 0) (hp : p.size ≤ 3000) (hM : Mx w) (hD : Ch C f [] w) :
    Calls Tryz.prog 50 #[.pointer (some ⟨C, 0, none⟩), .string p, .bool last] w fun e' w' => e' = .returned (.tuple #[]) ∧ Ch C (f.nxt p last) (f.outs p last) w' ∧ Below C w w' := by
  obtain ⟨L, enc, why, W, e, r, g, fr, st⟩ := f
  have h := hk
  unfold Fr.chk at h
  dsimp only at h
  split at h
  · cases h
  rename_i c1
  split at h
  · cases h
  split at h
  · cases h
  rename_i c3
  split at h
  · cases h
  rename_i c4
  split at h
  · rename_i c5
    subst c5
    split at h
    · cases h
    rename_i c6
    have h4 : enc = 0 := by omega
    obtain ⟨rfl, hr0, ht⟩ : e = 0 ∧ r.size = 0 ∧ (g, fr, st) = M.st0 := by
      refine Classical.byContradiction fun q => c4 (.inl ⟨rfl, q⟩)
    have hr := size0 hr0
    subst hr h4
    obtain ⟨rfl, rfl, rfl⟩ : g = 0 ∧ fr = false ∧ st = false := by simpa [M.st0] using ht
    have hW : W.size < 256 := by
      have := enF_few (name := L) (l := bl W) (by simpa using c6)
      rwa [bl_len] at this
    cases last
    · cases hE : enF L (bl W ++ bl p)
      · exact ctake_wait C L W p w (by omega) hW hp hM hE hD
      · exact ctake_got_false C L W p w (by omega) hW hp hM hE hD
    · exact ctake_got_true C L W p w (by omega) hW hp hM hD
  · rename_i c5
    have hW0 : W.size = 0 := Classical.byContradiction fun q => c4 (.inr ⟨c5, .inl q⟩)
    have hee : e = enc := Classical.byContradiction fun q => c4 (.inr ⟨c5, .inr q⟩)
    have hW := size0 hW0
    subst hW hee
    obtain ⟨k1, k2, k3⟩ := chk_ok.1 h
    cases last
    · exact ctake_on_false C L e why e r (g, fr, st) p w c5 k1 k2 k3 hp hD
    · exact ctake_on_true C L e why e r (g, fr, st) p w c5 k1 k2 k3 hp hD
end Go.Proofs.YtaiinjfnkmidbaaGreatDoor

namespace Go.Proofs.YtaiinjfnkmidbaaGreatDoor
open Go.RowKit
set_option linter.unusedVariables false

def InF6 (W : World) (N : Fr) (O : List Int) (a x f : Value) (wx : World) : Prop :=
  ∃ av cv B, a = .slice av O.length cv ∧ x = .pointer (some ⟨B, 0, none⟩) ∧ f = .int .i64 0 ∧ Fb B N wx ∧ Ints wx (.slice av O.length cv) O ∧ Below W.heap.size W wx
theorem InF6.a {W w1 : World} {N : Fr} {O : List Int} {av : Option Addr} {cv : Nat} (HW : Below W.heap.size W w1) (HI : w1.ownsRow W.heap.size 3 1 (.slice av O.length cv) O.length (O.map (Value.int .i64))) :
    InF6 W N O (.slice av O.length cv) (.pointer (some ⟨w1.heap.size, 0, none⟩)) (.int .i64 0) (w1.alloc (.cells #[.string N.L, .int .i64 N.enc, .int .i64 N.why, .string N.W, .int .i64 N.e, .string N.r, .int .i64 N.t.1, .bool N.t.2.1, .bool N.t.2.2] 25)) :=
  ⟨av, cv, w1.heap.size, rfl, rfl, rfl, Fb.new w1 N, (Ints.of_owns HI).below (balloc _ _), bstep HW (balloc _ _)⟩
theorem InF6.b {W w1 : World} {N N0 : Fr} {O : List Int} {av : Option Addr} {cv : Nat} (HW : Below W.heap.size W w1) (HR : Fb W.heap.size N0 w1) (HI : w1.ownsRow (W.heap.size + 1) 3 1 (.slice av O.length cv) O.length (O.map (Value.int .i64))) :
    InF6 W N O (.slice av O.length cv) (.pointer (some ⟨W.heap.size, 0, none⟩)) (.int .i64 0) (((((((((w1.setCell ⟨W.heap.size, 0, none⟩ (.string N.L)).setCell ⟨W.heap.size, 1, none⟩ (.int .i64 N.enc)).setCell ⟨W.heap.size, 2, none⟩ (.int .i64 N.why)).setCell ⟨W.heap.size, 3, none⟩ (.string N.W)).setCell ⟨W.heap.size, 4, none⟩ (.int .i64 N.e)).setCell ⟨W.heap.size, 5, none⟩ (.string N.r)).setCell ⟨W.heap.size, 6, none⟩ (.int .i64 N.t.1)).setCell ⟨W.heap.size, 7, none⟩ (.bool N.t.2.1)).setCell ⟨W.heap.size, 8, none⟩ (.bool N.t.2.2)) :=
  ⟨av, cv, W.heap.size, rfl, rfl, rfl, HR.put9 N, Ints.of_owns (oput9 HI (Nat.lt_succ_self _) N), bput9 HW (Nat.le_refl _) N⟩
theorem chk_sizes {f : Fr} (h : f.chk = 0) : f.L.size ≤ 3000 ∧ f.W.size ≤ 3000 ∧ f.r.size ≤ 3000 := by
  unfold Fr.chk at h
  split at h
  · cases h
  rename_i h1
  split at h
  · cases h
  split at h
  · cases h
  split at h
  · cases h
  rename_i h4
  split at h
  · rename_i h5
    refine ⟨by omega, by omega, ?_⟩
    have : f.e = 0 ∧ f.r.size = 0 ∧ f.t = M.st0 := by
      rcases Classical.em (f.e = 0 ∧ f.r.size = 0 ∧ f.t = M.st0) with a | a
      · exact a
      · exact absurd (.inl ⟨h5, a⟩) h4
    omega
  · have := (chk_ok.1 h).2.1.2
    exact ⟨by omega, by omega, by omega⟩
end Go.Proofs.YtaiinjfnkmidbaaGreatDoor

namespace Go.Proofs.YtaiinjfnkmidbaaGreatDoor
open Go.RowKit
set_option linter.unusedVariables false

theorem nxt_L (f : Fr) (p : ByteArray) (last : Bool) : (f.nxt p last).L = f.L := by
  unfold Fr.nxt
  split
  · rfl
  · split
    · split <;> rfl
    · rfl
theorem Ch.new (w : World) (L : ByteArray) (enc why : Int) (W : ByteArray) (e : Int) (r : ByteArray) (g : Int) (fr st : Bool) : Ch w.heap.size ⟨L, enc, why, W, e, r, (g, fr, st)⟩ [] (w.alloc (.cells #[.string L, .int .i64 enc, .int .i64 why, .string W, .int .i64 e, .string r, .int .i64 g, .bool fr, .bool st, .slice none 0 0] 84)) :=
  ⟨.slice none 0 0, by constructor <;> simp [go_sem], by simp [go_sem], by simp [go_sem], World.ownsRow_nil _ _ _ _⟩
set_option maxHeartbeats 3200000 in
set_option maxRecDepth 100000 in
theorem fdSays : FdSays := by
  intro f p last w hk hp hM
  have hz := chk_sizes hk
  have HCk := hide (fun w h => ckSays f w (by unfold maxLen; omega) (by unfold maxLen; omega) (by unfold maxLen; omega) h)
  rw [hk] at HCk
  have HTk := hide (fun C w hm hd => ctake_any C f p last w hk hp hm hd)
  have HNL := hide (nxt_L f p last)
  have HM := hide hM
  obtain ⟨L, enc, why, W, e, r, g, fr, st⟩ := f
  generalize Fr.nxt ⟨L, enc, why, W, e, r, g, fr, st⟩ p last = N at *
  generalize Fr.outs ⟨L, enc, why, W, e, r, g, fr, st⟩ p last = xs at *
  dsimp only at hz HNL
  have HCl := hide (fun w => clone_any N.L w (by rw [unhide HNL]; omega))
  obtain ⟨nL, nenc, nwhy, nW, ne, nr, ng, nfr, nst⟩ := N
  unfold Fr.v at HCk ⊢
  dsimp only at HCk HCl ⊢
  clear hk hM hz HNL
  go_enter Tryz.func14, Tryz.ntmps14
  go_wp2_with fail
  refine (unhide HCk _ ((unhide HM).below (bstep (balloc w (.cells #[.string L, .int .i64 enc, .int .i64 why, .string W, .int .i64 e, .string r, .int .i64 g, .bool fr, .bool st] 25)) (balloc _ (.cells #[.string ⟨#[]⟩, .int .i64 0, .int .i64 0, .string ⟨#[]⟩, .int .i64 0, .string ⟨#[]⟩, .int .i64 0, .bool false, .bool false] 25))))).mono ?_
  rintro e' w1 ⟨rfl, hb1⟩
  have HR1 := hide ((Fb.new2 w (.cells #[.string L, .int .i64 enc, .int .i64 why, .string W, .int .i64 e, .string r, .int .i64 g, .bool fr, .bool st] 25)).on hb1)
  have HF1 := hide (((Fb.new w ⟨L, enc, why, W, e, r, (g, fr, st)⟩).alloc (.cells #[.string ⟨#[]⟩, .int .i64 0, .int .i64 0, .string ⟨#[]⟩, .int .i64 0, .string ⟨#[]⟩, .int .i64 0, .bool false, .bool false] 25)).on hb1)
  have HB1 := hide (bstep (bstep (balloc w (.cells #[.string L, .int .i64 enc, .int .i64 why, .string W, .int .i64 e, .string r, .int .i64 g, .bool fr, .bool st] 25)) (balloc _ (.cells #[.string ⟨#[]⟩, .int .i64 0, .int .i64 0, .string ⟨#[]⟩, .int .i64 0, .string ⟨#[]⟩, .int .i64 0, .bool false, .bool false] 25))) hb1)
  have hz1 : w.heap.size + 2 ≤ w1.heap.size := by have := hb1.size; simp at this; omega
  clear hb1 HCk
  obtain ⟨c0, c1, c2, c3, c4, c5, c6, c7, c8, f0, f1, f2, f3, f4, f5, f6, f7, f8⟩ := unhide HF1
  dsimp only at c0 c1 c2 c3 c4 c5 c6 c7 c8
  have hBl : w.heap.size < w1.heap.size := by omega
  go_wp2_with fail
  refine (unhide HTk _ _ ((unhide HM).below (bstep (unhide HB1) (balloc w1 (.cells #[.string L, .int .i64 enc, .int .i64 why, .string W, .int .i64 e, .string r, .int .i64 g, .bool fr, .bool st, .slice none 0 0] 84)))) (Ch.new w1 L enc why W e r g fr st)).mono ?_
  rintro e' w2 ⟨rfl, hC2, hB2⟩
  have HB2 := hide ((bstep (unhide HB1) (balloc w1 (.cells #[.string L, .int .i64 enc, .int .i64 why, .string W, .int .i64 e, .string r, .int .i64 g, .bool fr, .bool st, .slice none 0 0] 84))).trans (hB2.mono (by omega)))
  have HR2 := hide (((unhide HR1).alloc (.cells #[.string L, .int .i64 enc, .int .i64 why, .string W, .int .i64 e, .string r, .int .i64 g, .bool fr, .bool st, .slice none 0 0] 84)).below hB2 (by omega))
  have hlt2 := hC2.lt
  have HC2 := hide hC2
  generalize hCq : w1.heap.size = C at *
  clear hCq hB2 HTk HF1 HB1 HR1 c0 c1 c2 c3 c4 c5 c6 c7 c8 f0 f1 f2 f3 f4 f5 f6 f7 f8 hBl
  obtain ⟨v2, q2, -, -, -⟩ := hC2
  obtain ⟨c0, c1, c2, c3, c4, c5, c6, c7, c8, f0, f1, f2, f3, f4, f5, f6, f7, f8⟩ := q2
  dsimp only at c0 c1 c2 c3 c4 c5 c6 c7 c8
  go_wp2_with fail
  refine (unhide HCl _).mono ?_
  rintro e' w3 ⟨rfl, hb3⟩
  have HC3 := hide ((unhide HC2).below hb3)
  have HR3 := hide ((unhide HR2).on hb3)
  have HB3 := hide (bstep (unhide HB2) hb3)
  have hlt3 := (unhide HC3).lt
  have hltR := (unhide HR3).lt
  clear hb3 HC2 HR2 HB2 HCl c0 c1 c2 c3 c4 c5 c6 c7 c8 f0 f1 f2 f3 f4 f5 f6 f7 f8 hlt2
  obtain ⟨v3, q3, h9, g9, hO⟩ := unhide HC3
  obtain ⟨av, cv, hsv⟩ := owns_shape hO
  subst hsv
  have HO := hide hO
  obtain ⟨c0, c1, c2, c3, c4, c5, c6, c7, c8, f0, f1, f2, f3, f4, f5, f6, f7, f8⟩ := q3
  dsimp only at c0 c1 c2 c3 c4 c5 c6 c7 c8
  obtain ⟨b0, b1, b2, b3, b4, b5, b6, b7, b8, g0, g1, g2, g3, g4, g5, g6, g7, g8⟩ := unhide HR3
  dsimp only [Fr.new, M.st0] at b0 b1 b2 b3 b4 b5 b6 b7 b8
  have hne : ¬ (w.heap.size + 1 = C) := by omega
  have hne' : ¬ (C = w.heap.size + 1) := by omega
  clear hO
  go_wp2_with fail
  go_region
  all_goals
    go_wp2_with fail
    refine bodyPost_ret (v := .tuple #[.slice av xs.length cv, .agg #[.string nL, .int .i64 nenc, .int .i64 nwhy, .string nW, .int .i64 ne, .string nr, .int .i64 ng, .bool nfr, .bool nst], .int .i64 0]) (by simp [results, Tryz.results14, go_sem, b0, b1, b2, b3, b4, b5, b6, b7, b8]) rfl ?_
    have HZ9 := bput9 (B := w.heap.size + 1) (bset (unhide HB3) ⟨C, 0, none⟩ (.string nL) (by simp; omega)) (by omega) ⟨nL, nenc, nwhy, nW, ne, nr, (ng, nfr, nst)⟩
    have HO9 := owns_mono (owns_below (oput9 (B := w.heap.size + 1) (owns_set (unhide HO) ⟨C, 0, none⟩ (Nat.lt_succ_self C) (.string nL)) (by omega) ⟨nL, nenc, nwhy, nW, ne, nr, (ng, nfr, nst)⟩) (below_drewN (Below.refl _ _) 1)) (show w.heap.size ≤ C + 1 from by omega)
    exact ⟨.slice av xs.length cv, rfl, HO9, below_drewN HZ9 1⟩
set_option maxHeartbeats 3200000 in
set_option maxRecDepth 100000 in
theorem fdErrs : FdErrs := by
  intro f p last w hL hW hr hpm h hM
  have HCk := hide (fun w h => ckSays f w hL hW hr h)
  have HM := hide hM
  unfold maxLen at hpm
  by_cases hk : f.chk = 0
  · have h3 : 3000 < p.size := by rcases h with h | h; exact absurd hk h; exact h
    rw [hk] at HCk ⊢
    rw [if_pos rfl]
    obtain ⟨L, enc, why, W, e, r, g, fr, st⟩ := f
    unfold Fr.v at HCk ⊢
    dsimp only [Fr.new, M.st0] at HCk ⊢
    clear hk hM hL hW hr h
    go_enter Tryz.func14, Tryz.ntmps14
    go_wp2_with fail
    refine (unhide HCk _ ((unhide HM).below (bstep (balloc w (.cells #[.string L, .int .i64 enc, .int .i64 why, .string W, .int .i64 e, .string r, .int .i64 g, .bool fr, .bool st] 25)) (balloc _ (.cells #[.string ⟨#[]⟩, .int .i64 0, .int .i64 0, .string ⟨#[]⟩, .int .i64 0, .string ⟨#[]⟩, .int .i64 0, .bool false, .bool false] 25))))).mono ?_
    rintro e' w1 ⟨rfl, hb1⟩
    have HR1 := hide ((Fb.new2 w (.cells #[.string L, .int .i64 enc, .int .i64 why, .string W, .int .i64 e, .string r, .int .i64 g, .bool fr, .bool st] 25)).on hb1)
    have HF1 := hide (((Fb.new w ⟨L, enc, why, W, e, r, (g, fr, st)⟩).alloc (.cells #[.string ⟨#[]⟩, .int .i64 0, .int .i64 0, .string ⟨#[]⟩, .int .i64 0, .string ⟨#[]⟩, .int .i64 0, .bool false, .bool false] 25)).on hb1)
    have HB1 := hide (bstep (bstep (balloc w (.cells #[.string L, .int .i64 enc, .int .i64 why, .string W, .int .i64 e, .string r, .int .i64 g, .bool fr, .bool st] 25)) (balloc _ (.cells #[.string ⟨#[]⟩, .int .i64 0, .int .i64 0, .string ⟨#[]⟩, .int .i64 0, .string ⟨#[]⟩, .int .i64 0, .bool false, .bool false] 25))) hb1)
    have hz1 : w.heap.size + 2 ≤ w1.heap.size := by have := hb1.size; simp at this; omega
    clear hb1 HCk
    obtain ⟨b0, b1, b2, b3, b4, b5, b6, b7, b8, g0, g1, g2, g3, g4, g5, g6, g7, g8⟩ := unhide HR1
    dsimp only [Fr.new, M.st0] at b0 b1 b2 b3 b4 b5 b6 b7 b8
    have hlt := (unhide HR1).lt
    go_wp2_with fail
    refine bodyPost_ret (v := .tuple #[.slice none 0 0, .agg #[.string ⟨#[]⟩, .int .i64 0, .int .i64 0, .string ⟨#[]⟩, .int .i64 0, .string ⟨#[]⟩, .int .i64 0, .bool false, .bool false], .int .i64 2]) (by simp [results, Tryz.results14, go_sem, b0, b1, b2, b3, b4, b5, b6, b7, b8]) rfl ?_
    exact ⟨.slice none 0 0, rfl, Ints.nil _, bput9 (B := w.heap.size + 1) (unhide HB1) (by omega) (Fr.new ⟨#[]⟩)⟩
  · rw [if_neg hk]
    have hkb : (f.chk != 0) = true := bne_iff_ne.2 hk
    generalize f.chk = K at *
    obtain ⟨L, enc, why, W, e, r, g, fr, st⟩ := f
    unfold Fr.v at HCk ⊢
    dsimp only [Fr.new, M.st0] at HCk ⊢
    clear hk hM hL hW hr h
    go_enter Tryz.func14, Tryz.ntmps14
    go_wp2_with fail
    refine (unhide HCk _ ((unhide HM).below (bstep (balloc w (.cells #[.string L, .int .i64 enc, .int .i64 why, .string W, .int .i64 e, .string r, .int .i64 g, .bool fr, .bool st] 25)) (balloc _ (.cells #[.string ⟨#[]⟩, .int .i64 0, .int .i64 0, .string ⟨#[]⟩, .int .i64 0, .string ⟨#[]⟩, .int .i64 0, .bool false, .bool false] 25))))).mono ?_
    rintro e' w1 ⟨rfl, hb1⟩
    have HR1 := hide ((Fb.new2 w (.cells #[.string L, .int .i64 enc, .int .i64 why, .string W, .int .i64 e, .string r, .int .i64 g, .bool fr, .bool st] 25)).on hb1)
    have HF1 := hide (((Fb.new w ⟨L, enc, why, W, e, r, (g, fr, st)⟩).alloc (.cells #[.string ⟨#[]⟩, .int .i64 0, .int .i64 0, .string ⟨#[]⟩, .int .i64 0, .string ⟨#[]⟩, .int .i64 0, .bool false, .bool false] 25)).on hb1)
    have HB1 := hide (bstep (bstep (balloc w (.cells #[.string L, .int .i64 enc, .int .i64 why, .string W, .int .i64 e, .string r, .int .i64 g, .bool fr, .bool st] 25)) (balloc _ (.cells #[.string ⟨#[]⟩, .int .i64 0, .int .i64 0, .string ⟨#[]⟩, .int .i64 0, .string ⟨#[]⟩, .int .i64 0, .bool false, .bool false] 25))) hb1)
    have hz1 : w.heap.size + 2 ≤ w1.heap.size := by have := hb1.size; simp at this; omega
    clear hb1 HCk
    obtain ⟨b0, b1, b2, b3, b4, b5, b6, b7, b8, g0, g1, g2, g3, g4, g5, g6, g7, g8⟩ := unhide HR1
    dsimp only [Fr.new, M.st0] at b0 b1 b2 b3 b4 b5 b6 b7 b8
    have hlt := (unhide HR1).lt
    go_wp2_with fail
    refine bodyPost_ret (v := .tuple #[.slice none 0 0, .agg #[.string ⟨#[]⟩, .int .i64 0, .int .i64 0, .string ⟨#[]⟩, .int .i64 0, .string ⟨#[]⟩, .int .i64 0, .bool false, .bool false], .int .i64 K]) (by simp [results, Tryz.results14, go_sem, b0, b1, b2, b3, b4, b5, b6, b7, b8]) rfl ?_
    exact ⟨.slice none 0 0, rfl, Ints.nil _, bput9 (B := w.heap.size + 1) (unhide HB1) (by omega) (Fr.new ⟨#[]⟩)⟩
end Go.Proofs.YtaiinjfnkmidbaaGreatDoor

namespace Go.Proofs.YtaiinjfnkmidbaaGreatDoor
open Go.RowKit Go.Maps
set_option linter.unusedVariables false

theorem law3 : Keyed Tryz.prog 3 := int_keyed Tryz.underlying3
theorem zero5 (w : World) : (zeroValue 5).run Tryz.prog w = .ok (.int .u8 0) w := by kernel_rfl

/-- The map of the first k bytes' code points. -/
def Dk (user : Bool) : Nat → DataW Unit
  | 0 => .map []
  | k + 1 => (Dk user k).put (.int .i64 (M.pt user k)) (.lit (.int .u8 k))

theorem Dk_map (user : Bool) : ∀ k, IsMap (Dk user k)
  | 0 => isMap_empty
  | k + 1 => (Dk_map user k).put _ _
theorem lit_ne {a b : Int} (h : a ≠ b) : (Lit.int .i64 a) ≠ .int .i64 b := fun e => h (by injection e)

theorem Dk_has (user : Bool) (n : Int) : ∀ k, Maps.has (Dk user k) (.int .i64 n) = (List.range k).any (fun c => M.pt user (c : Nat) == n)
  | 0 => by simp [Dk, Maps.has]
  | k + 1 => by
    rw [List.range_succ, List.any_append, ← Dk_has user n k]
    by_cases h : M.pt user k = n
    · subst h
      rw [Dk, has_put_same (Dk_map user k) (by trivial)]
      simp
    · rw [Dk, has_put_other (lit_ne (fun e => h e.symm))]
      simp [h]

theorem Dk_at (user : Bool) {j : Nat} : ∀ k, j < k → k ≤ 256 → (Dk user k).atKey (.int .i64 (M.pt user j)) (.lit (.int .u8 0)) = .lit (.int .u8 j)
  | 0, h, _ => by omega
  | k + 1, h, hk => by
    by_cases e : j = k
    · subst e
      rw [Dk, atKey_put_same (Dk_map user j) (by trivial)]
    · rw [Dk, atKey_put_other (lit_ne (fun e' => e (M.pt_inj user (by omega) (by omega) e')))]
      exact Dk_at user k (by omega) (by omega)

theorem D_has (user : Bool) (n : Int) : Maps.has (Dk user 256) (.int .i64 n) = M.hasB user n := Dk_has user n 256
theorem D_at (user : Bool) {n : Int} (h : M.hasB user n = true) : (Dk user 256).atKey (.int .i64 n) (.lit (.int .u8 0)) = .lit (.int .u8 (M.bof user n)) := by
  obtain ⟨k, hk, e, hp⟩ := M.bof_spec user h
  rw [e, ← hp]
  exact Dk_at user 256 hk (by omega)

/-- Block b is the map of all bytes. -/
def IsB (user : Bool) (w : World) (b : Nat) : Prop := w.ownsMap Tryz.prog 3 (plainElem (H := Unit) Tryz.prog 5) b 256 (Dk user 256)
theorem IsB.below {user : Bool} {w w' : World} {b B : Nat} (h : IsB user w b) (hb : Below B w w') (hB : b < B) : IsB user w' b := by
  obtain ⟨es, clock, h1, h2⟩ := h
  exact ⟨es, clock, (hb.block b hB).trans h1, h2⟩
theorem IsB.lt {user : Bool} {w : World} {b : Nat} (h : IsB user w b) : b < w.heap.size := by
  obtain ⟨es, clock, h1, _⟩ := h
  exact lt_of_block h1

set_option maxHeartbeats 400000 in
set_option maxRecDepth 100000 in
theorem bytesOf_any (user : Bool) (w : World) : Calls Tryz.prog 228 #[.bool user] w fun e w' => e = .returned (.map (some w.heap.size)) ∧ IsB user w' w.heap.size ∧ Below w.heap.size w w' := by
  have hmm : ∀ w : World, (Instr.makeMap 206 (some (.int .i64 256))).run Tryz.prog w = .ok (.map (some w.heap.size)) (w.alloc (.map #[] 0)) := fun w => rfl
  go_enter Tryz.func228, Tryz.ntmps228
  go_wp2_with fail
  refine (pointsOf_any user _).mono ?_
  rintro e w1 ⟨v1, rfl, hI1, hb1⟩
  obtain ⟨ao1, cap1, hsh1, -, -, hc1⟩ := hI1
  subst hsh1
  rw [M.tblOf_len]
  rw [M.tblOf_len] at hc1
  obtain ⟨b, off, rfl, hcc⟩ : ∃ b off, ao1 = some ⟨b, off, none⟩ ∧ ∀ i, i < 256 → w1.cell? ⟨b, off + i, none⟩ = some (.int .i64 ((M.tblOf user 256).getD i 0)) := by
    rcases hc1 with h | h
    · have := congrArg List.length h; rw [M.tblOf_len] at this; simp at this
    · exact h
  have hmap : w1.heap[w.heap.size]? = some (.map #[] 0) := (hb1.block _ (by simp)).trans (heap_alloc_new _ _)
  have hne : b ≠ w.heap.size := by
    intro e
    have := hcc 0 (by omega)
    rw [e] at this
    simp [World.cell?, hmap] at this
  have hown0 : w1.ownsMap Tryz.prog 3 (plainElem (H := Unit) Tryz.prog 5) w.heap.size 0 (Dk user 0) := by
    obtain ⟨es, clock, h1, h2⟩ := World.ownsMap_made (H := Unit) w Tryz.prog 3 (plainElem (H := Unit) Tryz.prog 5)
    exact ⟨es, clock, (hb1.block _ (by simp)).trans h1, h2⟩
  have hbl : b < w1.heap.size := World.block_lt_of_cell? w1 _ (hcc 0 (by omega))
  have HI : Hid (w1.ownsMap Tryz.prog 3 (plainElem (H := Unit) Tryz.prog 5) w.heap.size 0 (Dk user 0) ∧ (∀ i, i < 256 → w1.cell? ⟨b, off + i, none⟩ = some (.int .i64 ((M.tblOf user 256).getD i 0))) ∧ Below w.heap.size w w1) := hide ⟨hown0, hcc, bstep (balloc _ _) hb1⟩
  clear hc1 hcc hown0 hmap hb1
  go_wp2_with fail
  go_loopw [10] (fun i wr => ∃ k : Nat, k ≤ 256 ∧ i = .int .i64 k ∧ Hid (wr.ownsMap Tryz.prog 3 (plainElem (H := Unit) Tryz.prog 5) w.heap.size k (Dk user k) ∧ (∀ i, i < 256 → wr.cell? ⟨b, off + i, none⟩ = some (.int .i64 ((M.tblOf user 256).getD i 0))) ∧ Below w.heap.size w wr)) (fun i _ => 256 - (intOf i).toNat)
  case atStart => exact ⟨0, by omega, rfl, HI⟩
  case round =>
    obtain ⟨k, hk, rfl, HJ⟩ := hrel
    clear HI
    obtain ⟨hown, hcl, hbw⟩ := unhide HJ
    by_cases hlt : k < 256
    · have hcell := hcl k hlt
      rw [M.tblOf_get user hlt] at hcell
      have hpb := M.pt_bd user hlt
      have HS : Hid (Dk user (k + 1) = (Dk user k).put (.int .i64 (M.pt user k)) (.lit (.int .u8 k))) := hide rfl
      have hkey : keyOf Tryz.prog 3 (.int .i64 (M.pt user k)) = some (.int .i64 (M.pt user k)) := keyOf_int_mk Tryz.underlying3 (WalkArith.wf_i64 (by omega))
      have hwf : (Lit.int .u8 (k : Int)).wf = true := WalkArith.wf_u8 (by omega)
      obtain ⟨p, HP⟩ : ∃ p, Hid (M.pt user (k : Int) = p) := ⟨_, rfl⟩
      rw [unhide HP] at hcell hpb hkey HS
      have hbr : b < wr.heap.size := World.block_lt_of_cell? wr _ hcell
      have HCL := hide hcl
      have HBW := hide hbw
      clear hcl hbw
      go_wp2_with (at_mapUpdate; refine wpList_mapUpdate_own _ rfl _ _ _ 206 rfl 3 5 law3 Tryz.underlying206 _ w.heap.size k _ rfl hown (by unfold maxLen; omega) _ _ _ rfl rfl hkey _ [] (plainElem_int Tryz.underlying5 hwf) ?_)
      intro w2 hown2 hgrow
      have HK : Hid (w2.ownsMap Tryz.prog 3 (plainElem (H := Unit) Tryz.prog 5) w.heap.size (k + 1) (Dk user (k + 1)) ∧ (∀ i, i < 256 → w2.cell? ⟨b, off + i, none⟩ = some (.int .i64 ((M.tblOf user 256).getD i 0))) ∧ Below w.heap.size w w2) := by
        refine hide ⟨by rw [unhide HS]; exact hown2, fun i hi => ?_, (unhide HBW).grown hgrow (unhide HBW).size (fun j hj => by cases hj; exact Nat.le_refl _)⟩
        rw [← unhide HCL i hi]
        have := hgrow.block b hbr (fun e => hne (by injection e))
        simp only [World.cell?, this]
      clear hown hown2 hgrow
      go_wp2_with fail
      go_roundw
      case rel => exact ⟨k + 1, by omega, by go_num, HK⟩
      case measure => simp [intOf]; omega
    · have ek : k = 256 := by omega
      subst ek
      go_wp2_with fail
      go_ret
      exact ⟨rfl, hown, hbw⟩

theorem lit_inj {a b : Int} (h : (DataW.lit (.int .u8 a) : DataW Unit) = .lit (.int .u8 b)) : b = a := by
  injection h with e
  injection e with _ e
  exact e.symm

end Go.Proofs.YtaiinjfnkmidbaaGreatDoor

namespace Go.Proofs.YtaiinjfnkmidbaaGreatDoor
open Go.RowKit Go.Maps
set_option linter.unusedVariables false

/-- What Encode answers of at most 3000 integers. -/
def encResS (user : Bool) (xs : List Int) : Value := if xs.all (M.hasB user) then .tuple #[.string (strOfNums (M.encS user xs)), .int .i64 0] else .tuple #[.string ⟨#[]⟩, .int .i64 5]
theorem encResS_yes {user : Bool} {xs : List Int} (h : xs.all (M.hasB user) = true) : encResS user xs = .tuple #[.string (strOfNums (M.encS user xs)), .int .i64 0] := by unfold encResS; rw [if_pos h]
theorem encResS_no {user : Bool} {xs : List Int} (h : xs.all (M.hasB user) = false) : encResS user xs = .tuple #[.string ⟨#[]⟩, .int .i64 5] := by unfold encResS; rw [if_neg (by simp [h])]

/-- What a round of Encode's loop knows. -/
def InTS (user : Bool) (xs : List Int) (w wr : World) (k : Nat) (v : Value) : Prop :=
  wr.ownsRow w.heap.size 5 1 v (M.encS user (xs.take k)).length ((M.encS user (xs.take k)).map (Value.int .u8)) ∧ Below w.heap.size w wr ∧ (xs.take k).all (M.hasB user) = true

theorem InTS.step {user : Bool} {xs : List Int} {w wr w2 : World} {k : Nat} {v v2 : Value} {p c : Int} (h : InTS user xs w wr k v) (hk : k < xs.length) (hp : xs.getD k 0 = p) (hs : M.hasB user p = true) (hc : M.bof user p = c)
    (ho : w2.ownsRow w.heap.size 5 1 v2 (M.encS user (xs.take k) ++ [c]).length ((M.encS user (xs.take k) ++ [c]).map (Value.int .u8))) (hb : Below w.heap.size wr w2) : InTS user xs w w2 (k + 1) v2 := by
  refine ⟨?_, h.2.1.trans hb, ?_⟩
  · rw [take_snoc xs k hk, M.encS_snoc, hp, hc]; exact ho
  · rw [take_snoc xs k hk, List.all_append, h.2.2, hp]; simpa using hs

set_option maxHeartbeats 400000 in
set_option maxRecDepth 100000 in
theorem encodeS_any (user : Bool) {v : Value} {xs : List Int} (w : World) (hx : Ints w v xs) (hwf : ∀ n ∈ xs, (Lit.int .i64 n).wf = true) (h : xs.length ≤ 3000) :
    Calls Tryz.prog 208 #[.bool user, v] w fun e w' => e = .returned (encResS user xs) ∧ Below w.heap.size w w' := by
  obtain ⟨ao, cap, rfl, hm, -, hc⟩ := id hx
  obtain ⟨i0, hi, hz0, hz1, hz2⟩ := info_parts info5
  clear hx
  have HC := hide hc
  have HWF := hide hwf
  clear hc hwf
  go_enter Tryz.func208, Tryz.ntmps208
  go_wp2_with fail
  refine (bytesOf_any user _).mono ?_
  rintro e w1 ⟨rfl, hB1, hb1⟩
  have hlt1 := hB1.lt
  have HB1 := hide hB1
  have HI : Hid (InTS user xs w1 w1 0 (.slice none 0 0)) := hide ⟨World.ownsRow_nil _ _ _ _, Below.refl _ _, by simp⟩
  have HBW := hide hb1
  clear hB1 hb1
  go_wp2_with fail
  go_loopw [7, 19] (fun v i wr => ∃ k : Nat, k ≤ xs.length ∧ i = .int .i64 k ∧ InTS user xs w1 wr k v) (fun _ i _ => xs.length - (intOf i).toNat)
  case atStart => exact ⟨0, by omega, rfl, unhide HI⟩
  case round =>
    obtain ⟨k, hk, rfl, hI⟩ := hrel
    clear HI
    have hz := hI.2.1.size
    have hl : Hid ((M.encS user (xs.take k)).length = k) := hide (by rw [M.encS_len, List.length_take]; omega)
    by_cases hlt : k < xs.length
    · obtain ⟨b, off, rfl, hc⟩ : ∃ b off, ao = some ⟨b, off, none⟩ ∧ ∀ i, i < xs.length → w.cell? ⟨b, off + i, none⟩ = some (.int .i64 (xs.getD i 0)) := by
        rcases unhide HC with h | h
        · subst h; simp at hlt
        · exact h
      have hcell : wr.cell? ⟨b, off + k, none⟩ = some (.int .i64 (xs.getD k 0)) := ((bstep (unhide HBW) hI.2.1).cell (p := ⟨b, off + k, none⟩) (World.block_lt_of_cell? w _ (hc k hlt))).trans (hc k hlt)
      have hbr : b < wr.heap.size := World.block_lt_of_cell? wr _ hcell
      have hpw := unhide HWF (xs.getD k 0) (by simp [hlt])
      obtain ⟨p, HP⟩ : ∃ p, Hid (xs.getD k 0 = p) := ⟨_, rfl⟩
      rw [unhide HP] at hcell hpw
      have hkey : keyOf Tryz.prog 3 (.int .i64 p) = some (.int .i64 p) := keyOf_int_mk Tryz.underlying3 hpw
      have hown : wr.ownsMap Tryz.prog 3 (plainElem (H := Unit) Tryz.prog 5) w.heap.size 256 (Dk user 256) := (unhide HB1).below hI.2.1 hlt1
      obtain ⟨q, HQ⟩ : ∃ q, Hid (M.hasB user p = q) := ⟨_, rfl⟩
      have hq : Maps.has (Dk user 256) (.int .i64 p) = q := (D_has user p).trans (unhide HQ)
      obtain ⟨ao2, cap2, hsh⟩ := owns_shape hI.1
      subst hsh
      clear hc hpw
      cases q
      · go_wp2_with (at_lookup; refine wpList_lookup_own_ok_int _ rfl _ _ 206 rfl 3 5 .u8 law3 Tryz.underlying206 Tryz.underlying5 (zero5 _) w.heap.size 256 _ rfl hown _ _ rfl hkey ?_; intro c hat hwc)
        go_ret2
        refine ⟨?_, bstep (unhide HBW) hI.2.1⟩
        have : xs.all (M.hasB user) = false := by
          rw [List.all_eq_false]
          refine ⟨xs.getD k 0, by simp [hlt], by rw [unhide HP, unhide HQ]; simp⟩
        rw [encResS_no this]; rfl
      · have hbd := M.bof_bd user (unhide HQ)
        have HAT := hide (D_at user (unhide HQ))
        obtain ⟨B, HB⟩ : ∃ B, Hid (M.bof user p = B) := ⟨_, rfl⟩
        rw [unhide HB] at hbd HAT
        have hI' := hI.1
        go_wp2_with (first | (at_lookup; refine wpList_lookup_own_ok_int _ rfl _ _ 206 rfl 3 5 .u8 law3 Tryz.underlying206 Tryz.underlying5 (zero5 _) w.heap.size 256 _ rfl hown _ _ rfl hkey ?_; intro c hat hwc; have hcB : c = B := lit_inj ((unhide HAT).symm.trans hat); subst hcB; clear hat hwc) | (at_builtin; refine wpList_append_own _ rfl (.tmp 31) (.tmp 33) 151 rfl w1.heap.size 5 i0 (.int .u8 0) 1 1 Tryz.underlying151 hi hz0 hz1 hz2 rfl (by decide) _ _ _ rfl (hI'.alloc _) ⟨wr.heap.size, 0, none⟩ 1 1 [.int .u8 c] rfl rfl ?c1 ?c2 ?c3 ?c4 ?c5 ?_))
        case c1 =>
          intro j u hj
          match j, hj with
          | 0, hj => simp at hj; subst hj; simp [Addr.add]
        case c2 => intro u hu; simp at hu; subst hu; rfl
        case c3 => have := unhide hl; unfold maxLen; omega
        case c4 => have := unhide hl; omega
        case c5 => simp; omega
        intro v' w2 hown' hgrow _
        obtain ⟨ao', cap', rfl⟩ := owns_shape hown'
        have HJ : Hid (InTS user xs w1 w2 (k + 1) (.slice ao' ((M.encS user (xs.take k)).length + 1) cap')) := hide (hI.step hlt (unhide HP) (unhide HQ) (unhide HB) (by simpa using hown') (((Below.refl _ _).alloc hz _).grown hgrow (by simp; omega) (fun j hj => by have := hI'.lt j hj; omega)))
        clear hI hI' hown hown' hgrow
        go_wp2_with fail
        go_roundw
        case rel => exact ⟨k + 1, by omega, by go_num, by simpa using unhide HJ⟩
        case measure => simp [intOf]; omega
    · have ek : k = xs.length := by omega
      have hcv := conv_owned hI.1
      obtain ⟨o1, o2, o3⟩ := hI
      have hb := hide (bstep (unhide HBW) o2)
      have et : xs.take k = xs := List.take_of_length_le (by omega)
      rw [et] at hcv o1 o3
      obtain ⟨ao2, cap2, hsh⟩ := owns_shape o1
      subst hsh
      have HA := hide o3
      clear o1 o2 o3 et hl
      go_wp2_with fail
      go_ret2
      refine ⟨?_, unhide hb⟩
      rw [encResS_yes (unhide HA)]; rfl
end Go.Proofs.YtaiinjfnkmidbaaGreatDoor

namespace Go.Proofs.YtaiinjfnkmidbaaGreatDoor
open Go.RowKit
set_option linter.unusedVariables false

set_option maxHeartbeats 400000 in
set_option maxRecDepth 100000 in
theorem bytesOfK_any (v : Value) (xs : List Int) (w : World) (hI : Ints w v xs) (hlen : xs.length ≤ 30000) (hgi : ∀ n ∈ xs, Gi n) (ha : xs.all M.anyK = true) :
    Calls Tryz.prog 160 #[.int .i64 6, v] w fun e w' => e = .returned (.string (strOfNums (M.kenc xs))) ∧ Below w.heap.size w w' := by
  have H := hide (write_any v xs w hI hlen hgi)
  rw [wrote_yes ha] at H
  obtain ⟨ao, cap, rfl, -, -, -⟩ := hI
  clear hgi ha
  go_enter Tryz.func160, Tryz.ntmps160
  go_wp2_with fail
  refine (unhide H).mono ?_
  rintro e w1 ⟨rfl, hb⟩
  have HB := hide hb
  clear hb H
  go_wp2_with fail
  go_ret
  exact ⟨rfl, unhide HB⟩

/-- What a round of bytesOf's loop knows. -/
def InO (user : Bool) (xs : List Int) (w wr : World) (k : Nat) (v : Value) : Prop :=
  wr.ownsRow w.heap.size 5 1 v (M.encS user (xs.take k)).length ((M.encS user (xs.take k)).map (Value.int .u8)) ∧ Below w.heap.size w wr

set_option maxHeartbeats 800000 in
set_option maxRecDepth 100000 in
theorem bytesOfS_any (user : Bool) (n : Int) (hn : n = if user then 5 else 4) (base : Nat) (v : Value) (xs : List Int) (w : World) (hown : w.ownsRow base 3 1 v xs.length (xs.map (Value.int .i64))) (hlen : xs.length ≤ 30000) (hwf : ∀ n ∈ xs, (Lit.int .i64 n).wf = true) (ha : xs.all (M.hasB user) = true) :
    Calls Tryz.prog 160 #[.int .i64 n, v] w fun e w' => e = .returned (.string (strOfNums (M.encS user xs))) ∧ Below w.heap.size w w' := by
  have hcl : xs.length ≠ 0 → ∃ g cap, v = .slice (some ⟨g, 0, none⟩) xs.length cap ∧ xs.length ≤ cap ∧ ∀ i, i < xs.length → w.cell? ⟨g, i, none⟩ = some (.int .i64 (xs.getD i 0)) := by
    intro h0
    rcases hown.2 with ⟨_, h⟩ | ⟨g, cap, cur, hv, _, hg, hnc, _⟩
    · exact absurd h h0
    · refine ⟨g, cap, hv, hnc, ?_⟩
      obtain ⟨ao, cap', h1, _, _, h2⟩ := Ints.of_owns hown
      rw [hv] at h1
      cases h1
      rcases h2 with rfl | ⟨b, off, h2, h3⟩
      · simp at h0
      · cases h2
        intro i hi
        have := h3 i hi
        rwa [Nat.zero_add] at this
  obtain ⟨ao, cap, rfl⟩ := owns_shape hown
  have HC := hide hcl
  have HW := hide hwf
  have HA := hide ha
  have h6 : (n == 6) = false := by subst hn; cases user <;> rfl
  have h5 : (n == 5) = user := by subst hn; cases user <;> rfl
  have HI : Hid (InO user xs w w 0 (.slice none 0 0)) := hide ⟨World.ownsRow_nil _ _ _ _, Below.refl _ _⟩
  clear hcl hwf ha hown hn
  go_enter Tryz.func160, Tryz.ntmps160
  go_wp2_with fail
  go_loopw [7, 8] (fun v i wr => ∃ k : Nat, k ≤ xs.length + 3000 ∧ i = .int .i64 k ∧ InO user xs w wr k v) (fun _ i _ => xs.length + 3000 - (intOf i).toNat)
  case atStart => exact ⟨0, by omega, rfl, unhide HI⟩
  case round =>
    obtain ⟨k, hk, rfl, hI⟩ := hrel
    clear HI
    have hz := hI.2.size
    obtain ⟨av, capv, hsh⟩ := owns_shape hI.1
    subst hsh
    by_cases hlt : k < xs.length
    · obtain ⟨g, cap', hv, hnc, hcs⟩ := unhide HC (by omega)
      cases hv
      obtain ⟨m, hm⟩ : ∃ m : Nat, m = min (k + 3000) xs.length := ⟨_, rfl⟩
      have hmin : min ((k : Int) + 3000) (xs.length : Int) = (m : Int) := by rw [hm]; omega
      have hmc : m ≤ cap := by omega
      have hkm : k ≤ m := by omega
      have hkc : ¬ (cap = k) := by omega
      have HM := hide hm
      have HIs : Hid (Ints wr (.slice (some ⟨g, k, none⟩) (m - k) (cap - k)) ((xs.drop k).take 3000)) := hide (by
        refine ⟨some ⟨g, k, none⟩, cap - k, ?_, ?_, (fun h => by cases h), .inr ⟨g, k, rfl, fun i hi => ?_⟩⟩
        · rw [List.length_take, List.length_drop]; congr 1; omega
        · rw [List.length_take, List.length_drop]; unfold maxLen; omega
        · rw [List.length_take, List.length_drop] at hi
          have hk1 := hcs (k + i) (by omega)
          rw [hI.2.cell (p := ⟨g, k + i, none⟩) (World.block_lt_of_cell? w _ hk1), hk1]
          congr 2
          rw [List.getD_eq_getElem?_getD, List.getD_eq_getElem?_getD, List.getElem?_take, if_pos (by omega), List.getElem?_drop])
      have HAl : Hid (((xs.drop k).take 3000).all (M.hasB user) = true) := hide (by
        rw [List.all_eq_true]
        intro x hx
        exact List.all_eq_true.1 (unhide HA) x (List.mem_of_mem_drop (List.mem_of_mem_take hx)))
      have HE := hide (encodeS_any user wr (unhide HIs) (fun n hn => unhide HW n (List.mem_of_mem_drop (List.mem_of_mem_take hn))) (by rw [List.length_take]; omega))
      rw [encResS_yes (unhide HAl)] at HE
      have HT : Hid (M.encS user (xs.take (k + 3000)) = M.encS user (xs.take k) ++ M.encS user ((xs.drop k).take 3000)) := hide (by
        rw [List.take_add]; unfold M.encS; rw [List.map_append])
      have HBy : Hid (∀ x ∈ M.encS user ((xs.drop k).take 3000), 0 ≤ x ∧ x ≤ 255) := hide (M.encS_byt user _ (unhide HAl))
      have hl1 : Hid ((M.encS user (xs.take k)).length ≤ 30000) := hide (by rw [M.encS_len, List.length_take]; omega)
      have hl2 : Hid ((M.encS user ((xs.drop k).take 3000)).length ≤ 3000) := hide (by rw [M.encS_len, List.length_take]; omega)
      have HO := hide hI.1
      have HB := hide hI.2
      clear hI hcs hm HIs HAl
      generalize M.encS user ((xs.drop k).take 3000) = ms at *
      generalize M.encS user (xs.take k) = ns at *
      have hl1' := unhide hl1
      have hl2' := unhide hl2
      go_wp2_with fail
      refine (unhide HE).mono ?_
      rintro e w1 ⟨rfl, hb1⟩
      have hz1 := hb1.size
      have HB1 := hide hb1
      have HO1 := hide (owns_below (unhide HO) hb1)
      clear hb1 HE HO
      go_wp2_with (at_builtin; refine append_str rfl (.tmp 39) (.tmp 40) rfl w.heap.size _ ns rfl (unhide HO1) ms (unhide HBy) rfl (by omega) (by omega) ?_)
      intro ao2 cap2 w2 ho2 hb2
      have HJ : Hid (InO user xs w w2 (k + 3000) (.slice ao2 (ns ++ ms).length cap2)) := hide ⟨by rw [unhide HT]; simpa using ho2, (bstep (unhide HB) (unhide HB1)).trans hb2⟩
      clear ho2 hb2
      go_wp2_with fail
      go_roundw
      case rel => exact ⟨k + 3000, by omega, by go_num, by simpa using unhide HJ⟩
      case measure => simp [intOf]; omega
    · have HT : Hid (xs.take k = xs) := hide (List.take_of_length_le (by omega))
      unfold InO at hI
      rw [unhide HT] at hI ⊢
      have hcv := conv_owned hI.1
      have HB := hide hI.2
      clear hI
      go_wp2_with fail
      go_ret
      exact ⟨rfl, unhide HB⟩
end Go.Proofs.YtaiinjfnkmidbaaGreatDoor

namespace Go.Proofs.YtaiinjfnkmidbaaGreatDoor
open Go.RowKit
set_option linter.unusedVariables false

/-- What write answers. -/
def resW (n mode : Int) (xs : List Int) : Value := if mode = 1 ∨ xs.all (M.hasE n) = true then .tuple #[.string (strOfNums (M.encB n (M.ptsE n xs))), .int .i64 0] else .tuple #[.string ⟨#[]⟩, .int .i64 5]
theorem resW_yes {n mode : Int} {xs : List Int} (h : mode = 1 ∨ xs.all (M.hasE n) = true) : resW n mode xs = .tuple #[.string (strOfNums (M.encB n (M.ptsE n xs))), .int .i64 0] := by unfold resW; rw [if_pos h]
theorem resW_no {n mode : Int} {xs : List Int} (hm : mode = 0) (h : xs.all (M.hasE n) = false) : resW n mode xs = .tuple #[.string ⟨#[]⟩, .int .i64 5] := by
  unfold resW; rw [if_neg (by rw [hm, h]; simp)]
/-- What a round of write's loop knows. -/
def InX (n mode : Int) (xs : List Int) (w1 wr : World) (k : Nat) : Prop := (∃ v, Acc w1.heap.size (M.ptsE n (xs.take k)) v wr) ∧ Below w1.heap.size w1 wr ∧ (mode = 0 → (xs.take k).all (M.hasE n) = true)
theorem InX.start (n mode : Int) (xs : List Int) (w1 : World) : InX n mode xs w1 (w1.alloc (.cells #[.slice none 0 0] 31)) 0 :=
  ⟨⟨.slice none 0 0, heap_alloc_new _ _, World.ownsRow_nil _ _ _ _, by simp⟩, balloc _ _, fun _ => by simp⟩
theorem wf_sclr {p : Int} (h : M.sclr p = true) : (Lit.int .i64 p).wf = true := by
  have := M.sclr_bd h
  have e1 : IntKind.i64.min = -9223372036854775808 := by decide
  have e2 : IntKind.i64.max = 9223372036854775807 := by decide
  simp [Lit.wf, e1, e2]
  omega
theorem sclr_all {xs : List Int} (h : xs.all M.sclr = true) : ∀ n ∈ xs, M.sclr n = true := List.all_eq_true.1 h
theorem pts_few {n : Int} {xs : List Int} (h : xs.all M.sclr = true) (hl : xs.length ≤ 3000) : (M.ptsE n xs).length ≤ 30000 := by have := M.ptsE_len n xs h; omega
theorem all_take {xs : List Int} {f : Int → Bool} (h : xs.all f = true) (k : Nat) : (xs.take k).all f = true := by
  rw [List.all_eq_true] at *
  intro x hx
  exact h x (List.mem_of_mem_take hx)
theorem all_upto {xs : List Int} {f : Int → Bool} {k : Nat} (h : (xs.take k).all f = true) (hk : k < xs.length) {p : Int} (hp : xs.getD k 0 = p) (hf : f p = true) : (xs.take (k + 1)).all f = true := by
  rw [take_getD hk hp, List.all_append, h]; simp [hf]

set_option maxHeartbeats 1600000 in
set_option maxRecDepth 100000 in
theorem writeS_any (user : Bool) (n : Int) (hn : n = if user then 5 else 4) (mode : Int) (hmode : mode = 0 ∨ mode = 1) (v : Value) (xs : List Int) (w : World) (hT : Tb w) (hI : Ints w v xs) (hlen : xs.length ≤ 3000) (hs : xs.all M.sclr = true) :
    Calls Tryz.prog 98 #[.int .i64 n, .int .i64 mode, v] w fun e w' => e = .returned (resW n mode xs) ∧ Below w.heap.size w w' := by
  obtain ⟨ao, cap, rfl, -, -, hc⟩ := hI
  have HC := hide hc
  have HS := hide hs
  have HT := hide hT
  have HM := hide hmode
  have HK := hide (fun w => knownS_any user n hn w)
  have HH0 : Hid (∀ p, M.hasE n p = M.hasB user p) := hide (fun p => by rw [hn]; exact M.hasS user p)
  have HB0 : Hid (∀ l, M.encB n l = M.encS user l) := hide (fun l => by rw [hn]; exact M.encB_S user l)
  have HN0 := hide hn
  clear hn
  clear hc hs hT hmode
  go_enter Tryz.func98, Tryz.ntmps98
  go_wp2_with fail
  refine (unhide HK _).mono ?_
  rintro e w1 ⟨B, rfl, hP, hb1⟩
  have HB1 := hide hb1
  have HP1 := hide hP
  clear hb1 hP
  go_wp2_with fail
  go_loopw [18] (fun i wr => ∃ k : Nat, k ≤ xs.length ∧ i = .int .i64 k ∧ InX n mode xs w1 wr k) (fun i _ => xs.length - (intOf i).toNat)
  case atStart => exact ⟨0, by omega, rfl, InX.start _ _ _ _⟩
  case round =>
    obtain ⟨k, hk, rfl, ⟨vv, hA⟩, hB, hM⟩ := hrel
    have hz := hB.size
    have HBW := hide (bstep (unhide HB1) hB)
    have HA := hide hA
    have HB := hide hB
    have HMo := hide hM
    have HPK : Hid ((M.ptsE n (xs.take k)).length ≤ 30000) := hide (pts_few (all_take (unhide HS) k) (by rw [List.length_take]; omega))
    clear hA hB hM
    by_cases hlt : k < xs.length
    · obtain ⟨b, off, rfl, hc⟩ : ∃ b off, ao = some ⟨b, off, none⟩ ∧ ∀ i, i < xs.length → w.cell? ⟨b, off + i, none⟩ = some (.int .i64 (xs.getD i 0)) := by
        rcases unhide HC with h | h
        · subst h; simp at hlt
        · exact h
      have hcell : wr.cell? ⟨b, off + k, none⟩ = some (.int .i64 (xs.getD k 0)) := ((unhide HBW).cell (p := ⟨b, off + k, none⟩) (World.block_lt_of_cell? w _ (hc k hlt))).trans (hc k hlt)
      have hbr : b < wr.heap.size := World.block_lt_of_cell? wr _ hcell
      have HSp : Hid (M.sclr (xs.getD k 0) = true) := hide (sclr_all (unhide HS) _ (by simp [hlt]))
      obtain ⟨p, HP⟩ : ∃ p, Hid (xs.getD k 0 = p) := ⟨_, hide rfl⟩
      rw [unhide HP] at hcell HSp
      clear hc
      have HH := hide (by have := hasS_any user B p wr ((unhide HP1).below (unhide HB)); rw [← unhide HH0] at this; exact this)
      cases hq : M.hasE n p
      · rw [hq] at HH
        rcases unhide HM with hm0 | hm1
        · subst hm0
          have HW : Hid (resW n 0 xs = .tuple #[.string ⟨#[]⟩, .int .i64 5]) := hide (resW_no rfl (all_no hlt (unhide HP) hq))
          clear hq
          go_wp2_with fail
          refine (unhide HH).mono ?_
          rintro e w2 ⟨rfl, hw⟩
          have HB2 : Hid (Below wr.heap.size wr w2) := hide (by rw [hw]; exact Below.refl _ _)
          clear hw HH
          go_wp2_with fail
          go_ret2
          refine ⟨?_, bstep (unhide HBW) (unhide HB2)⟩
          rw [unhide HW]; rfl
        · subst hm1
          have HE : Hid (M.ptsE n (xs.take (k + 1)) = M.ptsE n (xs.take k) ++ M.tld p) := hide (by rw [take_getD hlt (unhide HP), M.ptsE_snoc, M.ptE_no hq])
          clear hq
          go_wp2_with fail
          refine (unhide HH).mono ?_
          rintro e w2 ⟨rfl, hw⟩
          have HB2 : Hid (Below wr.heap.size wr w2) := hide (by rw [hw]; exact Below.refl _ _)
          clear hw HH
          go_wp2_with fail
          refine (putNumber_any w1.heap.size p vv _ _ ((unhide HT).below (bstep (unhide HBW) (unhide HB2))) (unhide HSp) ((unhide HA).below (unhide HB2)) (unhide HPK)).mono ?_
          rintro e w3 ⟨rfl, v3, hA3, hB3⟩
          have HI : Hid (InX n 1 xs w1 w3 (k + 1)) := hide ⟨⟨v3, by rw [unhide HE]; exact hA3⟩, (bstep (unhide HB) (unhide HB2)).trans hB3, fun h => by cases h⟩
          clear hA3 hB3
          go_wp2_with fail
          go_roundw
          case rel => exact ⟨k + 1, by omega, by go_num, unhide HI⟩
          case measure => simp [intOf]; omega
      · rw [hq] at HH
        have HE : Hid (M.ptsE n (xs.take (k + 1)) = M.ptsE n (xs.take k) ++ [p]) := hide (by rw [take_getD hlt (unhide HP), M.ptsE_snoc, M.ptE_yes hq])
        have HM1 : Hid (mode = 0 → (xs.take (k + 1)).all (M.hasE n) = true) := hide (fun h => all_upto (unhide HMo h) hlt (unhide HP) hq)
        clear hq
        go_wp2_with fail
        refine (unhide HH).mono ?_
        rintro e w2 ⟨rfl, hw⟩
        have HB2 : Hid (Below wr.heap.size wr w2) := hide (by rw [hw]; exact Below.refl _ _)
        clear hw HH
        go_wp2_with fail
        refine (push_any w1.heap.size p vv _ _ ((unhide HA).below (unhide HB2)) (by have := unhide HPK; omega)).mono ?_
        rintro e w3 ⟨rfl, v3, hA3, hB3, -⟩
        have HI : Hid (InX n mode xs w1 w3 (k + 1)) := hide ⟨⟨v3, by rw [unhide HE]; exact hA3⟩, (bstep (unhide HB) (unhide HB2)).trans hB3, unhide HM1⟩
        clear hA3 hB3
        go_wp2_with fail
        go_roundw
        case rel => exact ⟨k + 1, by omega, by go_num, unhide HI⟩
        case measure => simp [intOf]; omega
    · have et : xs.take k = xs := List.take_of_length_le (by omega)
      rw [et] at HA HMo
      have HR : Hid (resW n mode xs = .tuple #[.string (strOfNums (M.encB n (M.ptsE n xs))), .int .i64 0]) := hide (resW_yes (by
        rcases unhide HM with h | h
        · exact .inr (unhide HMo h)
        · exact .inl h))
      have HSP := hide (sclr_all (M.ptsE_sclr n xs (unhide HS)))
      have hcv := cell_of_one (unhide HA).1
      have hlw : w1.heap.size < wr.heap.size := by have := (unhide HA).2.2; omega
      have HO := hide (unhide HA).2.1
      have HAll : Hid ((M.ptsE n xs).all (M.hasB user) = true) := hide (by have := M.ptsE_has n xs; rwa [show M.hasE n = M.hasB user from funext (unhide HH0)] at this)
      have HBO := hide (bytesOfS_any user n (unhide HN0) _ vv _ wr (unhide HO) (pts_few (unhide HS) hlen) (fun m hm => wf_sclr (unhide HSP m hm)) (unhide HAll))
      rw [← unhide HB0] at HBO
      obtain ⟨av, capv, hsh⟩ := owns_shape (unhide HO)
      subst hsh
      clear et
      go_wp2_with fail
      refine (unhide HBO).mono ?_
      rintro e w5 ⟨rfl, hb5⟩
      have HB5 := hide (bstep (unhide HBW) hb5)
      clear hb5
      go_wp2_with fail
      go_ret2
      refine ⟨?_, unhide HB5⟩
      rw [unhide HR]; rfl

set_option maxHeartbeats 1600000 in
set_option maxRecDepth 100000 in
theorem writeK_any  (mode : Int) (hmode : mode = 0 ∨ mode = 1) (v : Value) (xs : List Int) (w : World) (hT : Tb w) (hI : Ints w v xs) (hlen : xs.length ≤ 3000) (hs : xs.all M.sclr = true) :
    Calls Tryz.prog 98 #[.int .i64 6, .int .i64 mode, v] w fun e w' => e = .returned (resW 6 mode xs) ∧ Below w.heap.size w w' := by
  obtain ⟨ao, cap, rfl, -, -, hc⟩ := hI
  have HC := hide hc
  have HS := hide hs
  have HT := hide hT
  have HM := hide hmode
  have HK := hide (fun w => knownK_any w)
  clear hc hs hT hmode
  go_enter Tryz.func98, Tryz.ntmps98
  go_wp2_with fail
  refine (unhide HK _).mono ?_
  rintro e w1 ⟨rfl, hw⟩
  have HB1 : Hid (Below w.heap.size w w1) := hide (by rw [hw]; exact Below.refl _ _)
  clear hw
  go_wp2_with fail
  go_loopw [18] (fun i wr => ∃ k : Nat, k ≤ xs.length ∧ i = .int .i64 k ∧ InX 6 mode xs w1 wr k) (fun i _ => xs.length - (intOf i).toNat)
  case atStart => exact ⟨0, by omega, rfl, InX.start _ _ _ _⟩
  case round =>
    obtain ⟨k, hk, rfl, ⟨vv, hA⟩, hB, hM⟩ := hrel
    have hz := hB.size
    have HBW := hide (bstep (unhide HB1) hB)
    have HA := hide hA
    have HB := hide hB
    have HMo := hide hM
    have HPK : Hid ((M.ptsE 6 (xs.take k)).length ≤ 30000) := hide (pts_few (all_take (unhide HS) k) (by rw [List.length_take]; omega))
    clear hA hB hM
    by_cases hlt : k < xs.length
    · obtain ⟨b, off, rfl, hc⟩ : ∃ b off, ao = some ⟨b, off, none⟩ ∧ ∀ i, i < xs.length → w.cell? ⟨b, off + i, none⟩ = some (.int .i64 (xs.getD i 0)) := by
        rcases unhide HC with h | h
        · subst h; simp at hlt
        · exact h
      have hcell : wr.cell? ⟨b, off + k, none⟩ = some (.int .i64 (xs.getD k 0)) := ((unhide HBW).cell (p := ⟨b, off + k, none⟩) (World.block_lt_of_cell? w _ (hc k hlt))).trans (hc k hlt)
      have hbr : b < wr.heap.size := World.block_lt_of_cell? wr _ hcell
      have HSp : Hid (M.sclr (xs.getD k 0) = true) := hide (sclr_all (unhide HS) _ (by simp [hlt]))
      obtain ⟨p, HP⟩ : ∃ p, Hid (xs.getD k 0 = p) := ⟨_, hide rfl⟩
      rw [unhide HP] at hcell HSp
      clear hc
      have HH := hide (by have := hasK_any p wr (Gi_of (unhide HSp)); rw [← M.hasE_six] at this; exact this)
      cases hq : M.hasE 6 p
      · rw [hq] at HH
        rcases unhide HM with hm0 | hm1
        · subst hm0
          have HW : Hid (resW 6 0 xs = .tuple #[.string ⟨#[]⟩, .int .i64 5]) := hide (resW_no rfl (all_no hlt (unhide HP) hq))
          clear hq
          go_wp2_with fail
          refine (unhide HH).mono ?_
          rintro e w2 ⟨rfl, hb2⟩
          have HB2 := hide hb2
          clear hb2 HH
          go_wp2_with fail
          go_ret2
          refine ⟨?_, bstep (unhide HBW) (unhide HB2)⟩
          rw [unhide HW]; rfl
        · subst hm1
          have HE : Hid (M.ptsE 6 (xs.take (k + 1)) = M.ptsE 6 (xs.take k) ++ M.tld p) := hide (by rw [take_getD hlt (unhide HP), M.ptsE_snoc, M.ptE_no hq])
          clear hq
          go_wp2_with fail
          refine (unhide HH).mono ?_
          rintro e w2 ⟨rfl, hb2⟩
          have HB2 := hide hb2
          clear hb2 HH
          go_wp2_with fail
          refine (putNumber_any w1.heap.size p vv _ _ ((unhide HT).below (bstep (unhide HBW) (unhide HB2))) (unhide HSp) ((unhide HA).below (unhide HB2)) (unhide HPK)).mono ?_
          rintro e w3 ⟨rfl, v3, hA3, hB3⟩
          have HI : Hid (InX 6 1 xs w1 w3 (k + 1)) := hide ⟨⟨v3, by rw [unhide HE]; exact hA3⟩, (bstep (unhide HB) (unhide HB2)).trans hB3, fun h => by cases h⟩
          clear hA3 hB3
          go_wp2_with fail
          go_roundw
          case rel => exact ⟨k + 1, by omega, by go_num, unhide HI⟩
          case measure => simp [intOf]; omega
      · rw [hq] at HH
        have HE : Hid (M.ptsE 6 (xs.take (k + 1)) = M.ptsE 6 (xs.take k) ++ [p]) := hide (by rw [take_getD hlt (unhide HP), M.ptsE_snoc, M.ptE_yes hq])
        have HM1 : Hid (mode = 0 → (xs.take (k + 1)).all (M.hasE 6) = true) := hide (fun h => all_upto (unhide HMo h) hlt (unhide HP) hq)
        clear hq
        go_wp2_with fail
        refine (unhide HH).mono ?_
        rintro e w2 ⟨rfl, hb2⟩
        have HB2 := hide hb2
        clear hb2 HH
        go_wp2_with fail
        refine (push_any w1.heap.size p vv _ _ ((unhide HA).below (unhide HB2)) (by have := unhide HPK; omega)).mono ?_
        rintro e w3 ⟨rfl, v3, hA3, hB3, -⟩
        have HI : Hid (InX 6 mode xs w1 w3 (k + 1)) := hide ⟨⟨v3, by rw [unhide HE]; exact hA3⟩, (bstep (unhide HB) (unhide HB2)).trans hB3, unhide HM1⟩
        clear hA3 hB3
        go_wp2_with fail
        go_roundw
        case rel => exact ⟨k + 1, by omega, by go_num, unhide HI⟩
        case measure => simp [intOf]; omega
    · have et : xs.take k = xs := List.take_of_length_le (by omega)
      rw [et] at HA HMo
      have HR : Hid (resW 6 mode xs = .tuple #[.string (strOfNums (M.encB 6 (M.ptsE 6 xs))), .int .i64 0]) := hide (resW_yes (by
        rcases unhide HM with h | h
        · exact .inr (unhide HMo h)
        · exact .inl h))
      have HSP := hide (sclr_all (M.ptsE_sclr 6 xs (unhide HS)))
      have hcv := cell_of_one (unhide HA).1
      have hlw : w1.heap.size < wr.heap.size := by have := (unhide HA).2.2; omega
      have HO := hide (unhide HA).2.1
      have HAll : Hid ((M.ptsE 6 xs).all M.anyK = true) := hide (M.ptsE_has 6 xs)
      have HBO := hide (bytesOfK_any vv _ wr (Ints.of_owns (unhide HO)) (pts_few (unhide HS) hlen) (fun m hm => Gi_of (unhide HSP m hm)) (unhide HAll))
      rw [← M.encB_6] at HBO
      obtain ⟨av, capv, hsh⟩ := owns_shape (unhide HO)
      subst hsh
      clear et
      go_wp2_with fail
      refine (unhide HBO).mono ?_
      rintro e w5 ⟨rfl, hb5⟩
      have HB5 := hide (bstep (unhide HBW) hb5)
      clear hb5
      go_wp2_with fail
      go_ret2
      refine ⟨?_, unhide HB5⟩
      rw [unhide HR]; rfl
end Go.Proofs.YtaiinjfnkmidbaaGreatDoor

namespace Go.Proofs.YtaiinjfnkmidbaaGreatDoor
open Go.RowKit
set_option linter.unusedVariables false

set_option maxHeartbeats 400000 in
set_option maxRecDepth 100000 in
theorem scalar_any (n : Int) (w : World) : Calls Tryz.prog 136 #[.int .i64 n] w fun e w' => e = .returned (.bool (M.sclr n)) ∧ w' = w := by
  rcases (show n < 0 ∨ 1114111 < n ∨ (0 ≤ n ∧ n < 55296) ∨ (57343 < n ∧ n ≤ 1114111) ∨ (55296 ≤ n ∧ n ≤ 57343) from by omega) with h | h | ⟨h, h'⟩ | ⟨h, h'⟩ | ⟨h, h'⟩
  all_goals
    have HS : ∃ b, Hid (M.sclr n = b) := ⟨_, rfl⟩
    obtain ⟨b, HS⟩ := HS
  all_goals (rw [unhide HS])
  · have hb : b = false := by rw [← unhide HS]; simp [M.sclr]; omega
    subst hb
    go_enter Tryz.func136, Tryz.ntmps136
    go_wp2
    go_ret
    exact ⟨rfl, rfl⟩
  · have hb : b = false := by rw [← unhide HS]; simp [M.sclr]; omega
    subst hb
    have h0 : 0 ≤ n := by omega
    go_enter Tryz.func136, Tryz.ntmps136
    go_wp2
    go_ret
    exact ⟨rfl, rfl⟩
  · have hb : b = true := by rw [← unhide HS]; simp [M.sclr]; omega
    subst hb
    go_enter Tryz.func136, Tryz.ntmps136
    go_wp2
    go_ret
    exact ⟨rfl, rfl⟩
  · have hb : b = true := by rw [← unhide HS]; simp [M.sclr]; omega
    subst hb
    have h0 : 0 ≤ n := by omega
    go_enter Tryz.func136, Tryz.ntmps136
    go_wp2
    go_ret
    exact ⟨rfl, rfl⟩
  · have hb : b = false := by rw [← unhide HS]; simp [M.sclr]; omega
    subst hb
    have h0 : 0 ≤ n := by omega
    go_enter Tryz.func136, Tryz.ntmps136
    go_wp2
    go_ret
    exact ⟨ret_bool (by simp; omega), rfl⟩
set_option maxHeartbeats 400000 in
set_option maxRecDepth 100000 in
theorem further_any (n : Int) (w : World) (h0 : 0 ≤ n) (h1 : n < 4294967296) : Calls Tryz.prog 192 #[.int .i64 n] w fun e w' => e = .returned (.int .u8 (128 + n % 64)) ∧ w' = w := by
  have HA := and63 n h0 (by omega)
  have HO := or_at 6 128 (n % 64) (by omega) (by omega) (by omega) (by omega) (by omega) (by omega)
  go_enter Tryz.func192, Tryz.ntmps192
  go_wp2
  go_ret
  exact ⟨ret_int (by omega), rfl⟩
set_option maxHeartbeats 400000 in
set_option maxRecDepth 100000 in
theorem put_1 (base : Nat) (n : Int) (v : Value) (xs : List Int) (w : World) (hbase : base ≤ w.heap.size) (hown : w.ownsRow base 5 1 v xs.length (xs.map (Value.int .u8))) (hl : xs.length ≤ 12000)
    (h0 : 0 ≤ n) (h1 : n < 128) :
    Calls Tryz.prog 137 #[v, .int .i64 n] w fun e w' => ∃ v', e = .returned v' ∧ w'.ownsRow base 5 1 v' (xs ++ M.enc1 n).length ((xs ++ M.enc1 n).map (Value.int .u8)) ∧ Below base w w' := by
  obtain ⟨i0, hi, hz0, hz1, hz2⟩ := info_parts info5
  have HE : Hid (M.enc1 n = [n]) := by show M.enc1 n = _; unfold M.enc1; rw [if_pos h1]
  go_enter Tryz.func137, Tryz.ntmps137
  go_wp2_with (at_builtin; refine wpList_append_own _ rfl (.tmp 8) (.tmp 11) 151 rfl base 5 i0 (.int .u8 0) 1 1 Tryz.underlying151 hi hz0 hz1 hz2 rfl (by decide) _ _ _ rfl (hown.alloc _) ⟨w.heap.size, 0, none⟩ 1 1 [.int .u8 n] rfl rfl ?c1 ?c2 ?c3 ?c4 ?c5 ?_)
  case c1 =>
    intro j u hj
    match j, hj with
    | 0, hj => simp at hj; subst hj; simp [Addr.add]
  case c2 => intro u hu; simp at hu; subst hu; rfl
  case c3 => unfold maxLen; omega
  case c4 => omega
  case c5 => simp; omega
  intro v' w1 hown' hgrow _
  obtain ⟨ao', cap', rfl⟩ := owns_shape hown'
  have R2 := hide hown'
  have R3 := hide (((Below.refl base w).alloc hbase _).grown hgrow (by simp; omega) (fun k hk => by have := hown.lt k hk; omega))
  clear hown hown' hgrow
  go_wp2_with fail
  go_ret
  refine ⟨_, rfl, ?_, unhide R3⟩
  rw [unhide HE]
  simpa using unhide R2
set_option maxHeartbeats 400000 in
set_option maxRecDepth 100000 in
theorem put_2 (base : Nat) (n : Int) (v : Value) (xs : List Int) (w : World) (hbase : base ≤ w.heap.size) (hown : w.ownsRow base 5 1 v xs.length (xs.map (Value.int .u8))) (hl : xs.length ≤ 12000)
    (h0 : 128 ≤ n) (h1 : n < 2048) :
    Calls Tryz.prog 137 #[v, .int .i64 n] w fun e w' => ∃ v', e = .returned v' ∧ w'.ownsRow base 5 1 v' (xs ++ M.enc1 n).length ((xs ++ M.enc1 n).map (Value.int .u8)) ∧ Below base w w' := by
  obtain ⟨i0, hi, hz0, hz1, hz2⟩ := info_parts info5
  have HE : Hid (M.enc1 n = [192 + n / 64, 128 + n % 64]) := by show M.enc1 n = _; unfold M.enc1; rw [if_neg (by omega), if_pos (by omega)]
  have HO := or_at 5 192 (n / 64) (by omega) (by omega) (by omega) (by omega) (by omega) (by omega)
  go_enter Tryz.func137, Tryz.ntmps137
  go_wp2_with (first | (go_at_call 192; refine (further_any _ _ (by omega) (by omega)).mono ?_; rintro e w1 ⟨rfl, hw⟩; replace hw := hw.symm; subst hw) | (at_builtin; refine wpList_append_own _ rfl (.tmp 16) (.tmp 23) 151 rfl base 5 i0 (.int .u8 0) 1 1 Tryz.underlying151 hi hz0 hz1 hz2 rfl (by decide) _ _ _ rfl (hown.alloc _) ⟨w.heap.size, 0, none⟩ 2 2 [.int .u8 (192 + n / 64), .int .u8 (128 + n % 64)] rfl rfl ?c1 ?c2 ?c3 ?c4 ?c5 ?_))
  case c1 =>
    intro j u hj
    match j, hj with
    | 0, hj => simp at hj; subst hj; simp [Addr.add]
    | 1, hj => simp at hj; subst hj; simp [Addr.add]
  case c2 => intro u hu; simp at hu; rcases hu with rfl | rfl <;> rfl
  case c3 => unfold maxLen; omega
  case c4 => omega
  case c5 => simp; omega
  intro v' w1 hown' hgrow _
  obtain ⟨ao', cap', rfl⟩ := owns_shape hown'
  have R2 := hide hown'
  have R3 := hide (((Below.refl base w).alloc hbase _).grown hgrow (by simp; omega) (fun k hk => by have := hown.lt k hk; omega))
  clear hown hown' hgrow
  go_wp2_with fail
  go_ret
  refine ⟨_, rfl, ?_, unhide R3⟩
  rw [unhide HE]
  simpa using unhide R2
set_option maxHeartbeats 400000 in
set_option maxRecDepth 100000 in
theorem put_3 (base : Nat) (n : Int) (v : Value) (xs : List Int) (w : World) (hbase : base ≤ w.heap.size) (hown : w.ownsRow base 5 1 v xs.length (xs.map (Value.int .u8))) (hl : xs.length ≤ 12000)
    (h0 : 2048 ≤ n) (h1 : n < 65536) :
    Calls Tryz.prog 137 #[v, .int .i64 n] w fun e w' => ∃ v', e = .returned v' ∧ w'.ownsRow base 5 1 v' (xs ++ M.enc1 n).length ((xs ++ M.enc1 n).map (Value.int .u8)) ∧ Below base w w' := by
  obtain ⟨i0, hi, hz0, hz1, hz2⟩ := info_parts info5
  have HE : Hid (M.enc1 n = [224 + n / 4096, 128 + n / 64 % 64, 128 + n % 64]) := by show M.enc1 n = _; unfold M.enc1; rw [if_neg (by omega), if_neg (by omega), if_pos (by omega)]
  have HO := or_at 4 224 (n / 4096) (by omega) (by omega) (by omega) (by omega) (by omega) (by omega)
  go_enter Tryz.func137, Tryz.ntmps137
  go_wp2_with (first | (go_at_call 192; refine (further_any _ _ (by omega) (by omega)).mono ?_; rintro e w1 ⟨rfl, hw⟩; replace hw := hw.symm; subst hw) | (at_builtin; refine wpList_append_own _ rfl (.tmp 28) (.tmp 38) 151 rfl base 5 i0 (.int .u8 0) 1 1 Tryz.underlying151 hi hz0 hz1 hz2 rfl (by decide) _ _ _ rfl (hown.alloc _) ⟨w.heap.size, 0, none⟩ 3 3 [.int .u8 (224 + n / 4096), .int .u8 (128 + n / 64 % 64), .int .u8 (128 + n % 64)] rfl rfl ?c1 ?c2 ?c3 ?c4 ?c5 ?_))
  case c1 =>
    intro j u hj
    match j, hj with
    | 0, hj => simp at hj; subst hj; simp [Addr.add]
    | 1, hj => simp at hj; subst hj; simp [Addr.add]
    | 2, hj => simp at hj; subst hj; simp [Addr.add]
  case c2 => intro u hu; simp at hu; rcases hu with rfl | rfl | rfl <;> rfl
  case c3 => unfold maxLen; omega
  case c4 => omega
  case c5 => simp; omega
  intro v' w1 hown' hgrow _
  obtain ⟨ao', cap', rfl⟩ := owns_shape hown'
  have R2 := hide hown'
  have R3 := hide (((Below.refl base w).alloc hbase _).grown hgrow (by simp; omega) (fun k hk => by have := hown.lt k hk; omega))
  clear hown hown' hgrow
  go_wp2_with fail
  go_ret
  refine ⟨_, rfl, ?_, unhide R3⟩
  rw [unhide HE]
  simpa using unhide R2
set_option maxHeartbeats 400000 in
set_option maxRecDepth 100000 in
theorem put_4 (base : Nat) (n : Int) (v : Value) (xs : List Int) (w : World) (hbase : base ≤ w.heap.size) (hown : w.ownsRow base 5 1 v xs.length (xs.map (Value.int .u8))) (hl : xs.length ≤ 12000)
    (h0 : 65536 ≤ n) (h1 : n ≤ 1114111) :
    Calls Tryz.prog 137 #[v, .int .i64 n] w fun e w' => ∃ v', e = .returned v' ∧ w'.ownsRow base 5 1 v' (xs ++ M.enc1 n).length ((xs ++ M.enc1 n).map (Value.int .u8)) ∧ Below base w w' := by
  obtain ⟨i0, hi, hz0, hz1, hz2⟩ := info_parts info5
  have HE : Hid (M.enc1 n = [240 + n / 262144, 128 + n / 4096 % 64, 128 + n / 64 % 64, 128 + n % 64]) := by show M.enc1 n = _; unfold M.enc1; rw [if_neg (by omega), if_neg (by omega), if_neg (by omega)]
  have HO := or_at 3 240 (n / 262144) (by omega) (by omega) (by omega) (by omega) (by omega) (by omega)
  go_enter Tryz.func137, Tryz.ntmps137
  go_wp2_with (first | (go_at_call 192; refine (further_any _ _ (by omega) (by omega)).mono ?_; rintro e w1 ⟨rfl, hw⟩; replace hw := hw.symm; subst hw) | (at_builtin; refine wpList_append_own _ rfl (.tmp 40) (.tmp 53) 151 rfl base 5 i0 (.int .u8 0) 1 1 Tryz.underlying151 hi hz0 hz1 hz2 rfl (by decide) _ _ _ rfl (hown.alloc _) ⟨w.heap.size, 0, none⟩ 4 4 [.int .u8 (240 + n / 262144), .int .u8 (128 + n / 4096 % 64), .int .u8 (128 + n / 64 % 64), .int .u8 (128 + n % 64)] rfl rfl ?c1 ?c2 ?c3 ?c4 ?c5 ?_))
  case c1 =>
    intro j u hj
    match j, hj with
    | 0, hj => simp at hj; subst hj; simp [Addr.add]
    | 1, hj => simp at hj; subst hj; simp [Addr.add]
    | 2, hj => simp at hj; subst hj; simp [Addr.add]
    | 3, hj => simp at hj; subst hj; simp [Addr.add]
  case c2 => intro u hu; simp at hu; rcases hu with rfl | rfl | rfl | rfl <;> rfl
  case c3 => unfold maxLen; omega
  case c4 => omega
  case c5 => simp; omega
  intro v' w1 hown' hgrow _
  obtain ⟨ao', cap', rfl⟩ := owns_shape hown'
  have R2 := hide hown'
  have R3 := hide (((Below.refl base w).alloc hbase _).grown hgrow (by simp; omega) (fun k hk => by have := hown.lt k hk; omega))
  clear hown hown' hgrow
  go_wp2_with fail
  go_ret
  refine ⟨_, rfl, ?_, unhide R3⟩
  rw [unhide HE]
  simpa using unhide R2
theorem put_any (base : Nat) (n : Int) (v : Value) (xs : List Int) (w : World) (hbase : base ≤ w.heap.size) (hown : w.ownsRow base 5 1 v xs.length (xs.map (Value.int .u8))) (hl : xs.length ≤ 12000)
    (h : M.sclr n = true) :
    Calls Tryz.prog 137 #[v, .int .i64 n] w fun e w' => ∃ v', e = .returned v' ∧ w'.ownsRow base 5 1 v' (xs ++ M.enc1 n).length ((xs ++ M.enc1 n).map (Value.int .u8)) ∧ Below base w w' := by
  have h' : 0 ≤ n ∧ n ≤ 1114111 := by simp [M.sclr] at h; omega
  rcases (show n < 128 ∨ (128 ≤ n ∧ n < 2048) ∨ (2048 ≤ n ∧ n < 65536) ∨ 65536 ≤ n from by omega) with g | ⟨g, g'⟩ | ⟨g, g'⟩ | g
  · exact put_1 base n v xs w hbase hown hl h'.1 g
  · exact put_2 base n v xs w hbase hown hl g g'
  · exact put_3 base n v xs w hbase hown hl g g'
  · exact put_4 base n v xs w hbase hown hl g h'.2
/-- What Encode answers of at most 3000 integers. -/
def encRes (xs : List Int) : Value := if xs.all M.sclr then .tuple #[.string (strOfNums (M.enc xs)), .int .i64 0] else .tuple #[.string ⟨#[]⟩, .int .i64 3]
theorem encRes_yes {xs : List Int} (h : xs.all M.sclr = true) : encRes xs = .tuple #[.string (strOfNums (M.enc xs)), .int .i64 0] := by unfold encRes; rw [if_pos h]
theorem encRes_no {xs : List Int} (h : xs.all M.sclr = false) : encRes xs = .tuple #[.string ⟨#[]⟩, .int .i64 3] := by unfold encRes; rw [if_neg (by simp [h])]
/-- The bytes of scalars, gathered. -/
def InE (xs : List Int) (w wr : World) (k : Nat) (v : Value) : Prop :=
  wr.ownsRow w.heap.size 5 1 v (M.enc (xs.take k)).length ((M.enc (xs.take k)).map (Value.int .u8)) ∧ Below w.heap.size w wr ∧ (xs.take k).all M.sclr = true
theorem InE.step {xs : List Int} {w wr w1 : World} {k : Nat} {v v1 : Value} (h : InE xs w wr k v) (hk : k < xs.length) (hs : M.sclr (xs.getD k 0) = true)
    (ho : w1.ownsRow w.heap.size 5 1 v1 (M.enc (xs.take k) ++ M.enc1 (xs.getD k 0)).length ((M.enc (xs.take k) ++ M.enc1 (xs.getD k 0)).map (Value.int .u8))) (hb : Below w.heap.size wr w1) : InE xs w w1 (k + 1) v1 := by
  have e : xs.take (k + 1) = xs.take k ++ [xs.getD k 0] := by
    rw [List.take_succ_eq_append_getElem hk]; simp [hk]
  refine ⟨?_, h.2.1.trans hb, ?_⟩
  · rw [e, M.enc_snoc]; exact ho
  · rw [e, List.all_append, h.2.2]; simpa using hs
set_option maxHeartbeats 400000 in
set_option maxRecDepth 100000 in
theorem encode_many (ao : Option Addr) (len cap : Nat) (w : World) (h : 3000 < len) (hm : len ≤ maxLen) :
    Calls Tryz.prog 79 #[.slice ao len cap] w fun e w' => e = .returned (.tuple #[.string ⟨#[]⟩, .int .i64 2]) ∧ w' = w := by
  unfold maxLen at hm
  go_enter Tryz.func79, Tryz.ntmps79
  go_wp2
  go_ret2
  exact ⟨rfl, rfl⟩
set_option maxHeartbeats 400000 in
set_option maxRecDepth 100000 in
theorem encode_none (ao : Option Addr) (cap : Nat) (w : World) :
    Calls Tryz.prog 79 #[.slice ao 0 cap] w fun e w' => e = .returned (.tuple #[.string (strOfNums []), .int .i64 0]) ∧ w' = w := by
  have hc := conv_owned (xs := []) (World.ownsRow_nil w 0 5 1)
  go_enter Tryz.func79, Tryz.ntmps79
  go_wp2
  refine wp_loop_rounds 1 ?_
  rw [rounds_succ]
  go_wp2
  go_ret2
  exact ⟨rfl, rfl⟩
set_option maxHeartbeats 400000 in
set_option maxRecDepth 100000 in
theorem encode_some (b off cap : Nat) (xs : List Int) (w : World) (h0 : xs ≠ []) (h : xs.length ≤ 3000) (hc : ∀ i, i < xs.length → w.cell? ⟨b, off + i, none⟩ = some (.int .i64 (xs.getD i 0))) :
    Calls Tryz.prog 79 #[.slice (some ⟨b, off, none⟩) xs.length cap] w fun e w' => Below w.heap.size w w' ∧
      e = .returned (encRes xs) := by
  have hlen : 0 < xs.length := List.length_pos_iff.2 h0
  have hbl : b < w.heap.size := World.block_lt_of_cell? w _ (hc 0 hlen)
  have HC := hide hc
  have HI : InE xs w w 0 (.slice none 0 0) := ⟨World.ownsRow_nil _ _ _ _, Below.refl _ _, by simp⟩
  clear hc h0
  go_enter Tryz.func79, Tryz.ntmps79
  go_wp2_with fail
  go_loopw [4, 12] (fun v i wr => ∃ k : Nat, k ≤ xs.length ∧ i = .int .i64 k ∧ InE xs w wr k v) (fun _ i _ => xs.length - (intOf i).toNat)
  case atStart => exact ⟨0, by omega, rfl, HI⟩
  case round =>
    obtain ⟨k, hk, rfl, hI⟩ := hrel
    clear HI
    by_cases hlt : k < xs.length
    · have hcell : wr.cell? ⟨b, off + k, none⟩ = some (.int .i64 (xs.getD k 0)) := (hI.2.1.cell (p := ⟨b, off + k, none⟩) hbl).trans (unhide HC k hlt)
      obtain ⟨p, HP⟩ : ∃ p, Hid (xs.getD k 0 = p) := ⟨_, rfl⟩
      rw [unhide HP] at hcell
      obtain ⟨q, HQ⟩ : ∃ q, Hid (M.sclr p = q) := ⟨_, rfl⟩
      go_wp2_with fail
      refine (scalar_any _ _).mono ?_
      rintro e w1 ⟨rfl, hw⟩
      replace hw := hw.symm
      subst hw
      rw [unhide HQ]
      cases q
      · go_wp2_with fail
        go_ret2
        refine ⟨hI.2.1, ?_⟩
        have : xs.all M.sclr = false := by
          rw [List.all_eq_false]
          refine ⟨xs.getD k 0, ?_, by rw [unhide HP, unhide HQ]; simp⟩
          simp [hlt]
        rw [encRes_no this]; rfl
      · have hz := hI.2.1.size
        have hel := M.enc_len (xs.take k)
        have htl := List.length_take_le k xs
        go_wp2_with fail
        refine (put_any w.heap.size p _ (M.enc (xs.take k)) _ hz hI.1 (by omega) (unhide HQ)).mono ?_
        rintro e w2 ⟨v2, rfl, ho2, hb2⟩
        have HI := InE.step hI hlt (by rw [unhide HP]; exact unhide HQ) (by rw [unhide HP]; exact ho2) hb2
        obtain ⟨ao2, cap2, rfl⟩ := owns_shape ho2
        clear hI ho2 hb2
        go_wp2_with fail
        go_roundw
        case rel => exact ⟨k + 1, by omega, by go_num, by rw [List.length_append] at HI; exact HI⟩
        case measure => simp [intOf]; omega
    · have ek : k = xs.length := by omega
      have hcv := conv_owned hI.1
      obtain ⟨o1, o2, o3⟩ := hI
      have hb := hide o2
      subst ek
      rw [List.take_length] at hcv o1 o3
      obtain ⟨ao2, cap2, hsh⟩ := owns_shape o1
      subst hsh
      have HA := hide o3
      clear o1 o2 o3
      go_wp2_with fail
      go_ret2
      refine ⟨unhide hb, ?_⟩
      rw [encRes_yes (unhide HA)]; rfl
theorem encode_any {v : Value} {xs : List Int} (w : World) (hx : Ints w v xs) (h : xs.length ≤ 3000) :
    Calls Tryz.prog 79 #[v] w fun e w' => Below w.heap.size w w' ∧ e = .returned (encRes xs) := by
  obtain ⟨ao, cap, rfl, hm, -, hx⟩ := hx
  by_cases h0 : xs = []
  · subst h0
    refine (encode_none ao cap w).mono ?_
    rintro e w' ⟨rfl, rfl⟩
    exact ⟨Below.refl _ _, rfl⟩
  · rcases hx with hx | ⟨b, off, rfl, hc⟩
    · exact absurd hx h0
    · exact encode_some b off cap xs w h0 h hc
end Go.Proofs.YtaiinjfnkmidbaaGreatDoor

namespace Go.Proofs.YtaiinjfnkmidbaaGreatDoor
open Go.RowKit
set_option linter.unusedVariables false

set_option maxHeartbeats 400000 in
set_option maxRecDepth 100000 in
theorem Output_no (n : Int) (w : World) (hn : ¬ (1 ≤ n ∧ n ≤ 7)) : Calls Tryz.prog 41 #[.int .i64 n] w fun e w' => e = .returned (.tuple #[.int .i64 0, .int .i64 6]) ∧ Below w.heap.size w w' := by
  have HN := hide (fun w => Name_no n w hn)
  clear hn
  go_enter Tryz.func41, Tryz.ntmps41
  go_wp2_with fail
  refine (unhide HN _).mono ?_
  rintro e w1 ⟨rfl, hb1⟩
  have HB1 := hide hb1
  clear hb1 HN
  go_wp2_with fail
  go_ret2
  exact ⟨rfl, unhide HB1⟩
set_option maxHeartbeats 800000 in
set_option maxRecDepth 100000 in
theorem Output_yes (n : Int) (w : World) (hn : 1 ≤ n ∧ n ≤ 7) : Calls Tryz.prog 41 #[.int .i64 n] w fun e w' => e = .returned (.tuple #[.int .i64 (M.outE n), .int .i64 0]) ∧ Below w.heap.size w w' := by
  have HN := hide (fun w => Name_yes n w hn)
  generalize nameI n = nam at HN
  rcases (show n = 1 ∨ n = 2 ∨ n = 3 ∨ n = 4 ∨ n = 5 ∨ n = 6 ∨ n = 7 from by omega) with rfl | rfl | rfl | rfl | rfl | rfl | rfl
  all_goals
    clear hn
    go_enter Tryz.func41, Tryz.ntmps41
    go_wp2_with fail
    refine (unhide HN _).mono ?_
    rintro e w1 ⟨rfl, hb1⟩
    have HB1 := hide hb1
    clear hb1 HN
    go_wp2_with fail
    go_ret2
    exact ⟨rfl, unhide HB1⟩

set_option maxHeartbeats 1600000 in
set_option maxRecDepth 100000 in
theorem Has_yes (n p : Int) (w : World) (hn : 1 ≤ n ∧ n ≤ 7) (hp : M.sclr p = true) : Calls Tryz.prog 40 #[.int .i64 n, .int .i64 p] w fun e w' => e = .returned (.tuple #[.bool (M.hasE n p), .int .i64 0]) ∧ Below w.heap.size w w' := by
  have HN := hide (fun w => Output_yes n w hn)
  have HE := hide (fun w : World => encode_any (w.alloc (.cells #[.int .i64 p] 3)) (one_int w p) (by simp))
  rw [encRes_yes (by simp [hp])] at HE
  generalize strOfNums (M.enc [p]) = es at HE
  have HP := hide hp
  rw [← M.hasE_out]
  rcases M.outE_bd hn with ho | ho | ho | ho
  · rw [ho] at HN ⊢
    clear hn ho hp
    have HK := hide (fun w => knownU_any w)
    go_enter Tryz.func40, Tryz.ntmps40
    go_wp2_with fail
    refine (unhide HN _).mono ?_
    rintro e w1 ⟨rfl, hb1⟩
    have HB1 := hide hb1
    clear hb1 HN
    go_wp2_with fail
    refine (unhide HE _).mono ?_
    rintro e w2 ⟨hb2, rfl⟩
    have HB2 := hide (bstep (bstep (unhide HB1) (balloc _ _)) hb2)
    clear hb2 HE
    go_wp2_with fail
    refine (unhide HK _).mono ?_
    rintro e w3 ⟨rfl, hw⟩
    replace hw := hw.symm
    subst hw
    go_wp2_with fail
    refine (hasU_any p _).mono ?_
    rintro e w3 ⟨rfl, hw⟩
    replace hw := hw.symm
    subst hw
    go_wp2_with fail
    go_ret2
    exact ⟨rfl, unhide HB2⟩
  · rw [ho] at HN ⊢
    clear hn ho hp
    have HK := hide (fun w => knownS_any false 4 rfl w)
    rw [M.hasE_four]
    go_enter Tryz.func40, Tryz.ntmps40
    go_wp2_with fail
    refine (unhide HN _).mono ?_
    rintro e w1 ⟨rfl, hb1⟩
    have HB1 := hide hb1
    clear hb1 HN
    go_wp2_with fail
    refine (unhide HE _).mono ?_
    rintro e w2 ⟨hb2, rfl⟩
    have HB2 := hide (bstep (bstep (unhide HB1) (balloc _ _)) hb2)
    clear hb2 HE
    go_wp2_with fail
    refine (unhide HK _).mono ?_
    rintro e w3 ⟨B, rfl, hP, hb3⟩
    have HB3 := hide (bstep (unhide HB2) hb3)
    have HPt := hide hP
    clear hb3 hP
    go_wp2_with fail
    refine (hasS_any false B p _ (unhide HPt)).mono ?_
    rintro e w4 ⟨rfl, hw⟩
    replace hw := hw.symm
    subst hw
    go_wp2_with fail
    go_ret2
    exact ⟨rfl, unhide HB3⟩
  · rw [ho] at HN ⊢
    clear hn ho hp
    have HK := hide (fun w => knownS_any true 5 rfl w)
    rw [M.hasE_five]
    go_enter Tryz.func40, Tryz.ntmps40
    go_wp2_with fail
    refine (unhide HN _).mono ?_
    rintro e w1 ⟨rfl, hb1⟩
    have HB1 := hide hb1
    clear hb1 HN
    go_wp2_with fail
    refine (unhide HE _).mono ?_
    rintro e w2 ⟨hb2, rfl⟩
    have HB2 := hide (bstep (bstep (unhide HB1) (balloc _ _)) hb2)
    clear hb2 HE
    go_wp2_with fail
    refine (unhide HK _).mono ?_
    rintro e w3 ⟨B, rfl, hP, hb3⟩
    have HB3 := hide (bstep (unhide HB2) hb3)
    have HPt := hide hP
    clear hb3 hP
    go_wp2_with fail
    refine (hasS_any true B p _ (unhide HPt)).mono ?_
    rintro e w4 ⟨rfl, hw⟩
    replace hw := hw.symm
    subst hw
    go_wp2_with fail
    go_ret2
    exact ⟨rfl, unhide HB3⟩
  · rw [ho] at HN ⊢
    clear hn ho hp
    have HK := hide (fun w => knownK_any w)
    rw [M.hasE_six]
    go_enter Tryz.func40, Tryz.ntmps40
    go_wp2_with fail
    refine (unhide HN _).mono ?_
    rintro e w1 ⟨rfl, hb1⟩
    have HB1 := hide hb1
    clear hb1 HN
    go_wp2_with fail
    refine (unhide HE _).mono ?_
    rintro e w2 ⟨hb2, rfl⟩
    have HB2 := hide (bstep (bstep (unhide HB1) (balloc _ _)) hb2)
    clear hb2 HE
    go_wp2_with fail
    refine (unhide HK _).mono ?_
    rintro e w3 ⟨rfl, hw⟩
    replace hw := hw.symm
    subst hw
    go_wp2_with fail
    refine (hasK_any p _ (Gi_of (unhide HP))).mono ?_
    rintro e w4 ⟨rfl, hb4⟩
    have HB4 := hide (bstep (unhide HB2) hb4)
    clear hb4
    go_wp2_with fail
    go_ret2
    exact ⟨rfl, unhide HB4⟩

set_option maxHeartbeats 400000 in
set_option maxRecDepth 100000 in
theorem Enc_kind (n mode : Int) (ao : Option Addr) (len cap : Nat) (w : World) (hn : ¬ (1 ≤ n ∧ n ≤ 7)) : Calls Tryz.prog 44 #[.int .i64 n, .int .i64 mode, .slice ao len cap] w fun e w' => e = .returned (.tuple #[.string ⟨#[]⟩, .int .i64 6]) ∧ Below w.heap.size w w' := by
  have HN := hide (fun w => Output_no n w hn)
  clear hn
  go_enter Tryz.func44, Tryz.ntmps44
  go_wp2_with fail
  refine (unhide HN _).mono ?_
  rintro e w1 ⟨rfl, hb1⟩
  have HB1 := hide hb1
  clear hb1 HN
  go_wp2_with fail
  go_ret2
  exact ⟨rfl, unhide HB1⟩
set_option maxHeartbeats 400000 in
set_option maxRecDepth 100000 in
theorem Enc_many (n mode : Int) (ao : Option Addr) (len cap : Nat) (w : World) (hn : 1 ≤ n ∧ n ≤ 7) (hm : mode = 0 ∨ mode = 1) (hl : 3000 < len) (hx : len ≤ maxLen) : Calls Tryz.prog 44 #[.int .i64 n, .int .i64 mode, .slice ao len cap] w fun e w' => e = .returned (.tuple #[.string ⟨#[]⟩, .int .i64 2]) ∧ Below w.heap.size w w' := by
  have HN := hide (fun w => Output_yes n w hn)
  have HE := hide (fun w => encode_many ao len cap w hl hx)
  generalize M.outE n = o at *
  clear hn hl hx
  rcases hm with rfl | rfl
  all_goals
    go_enter Tryz.func44, Tryz.ntmps44
    go_wp2_with fail
    refine (unhide HN _).mono ?_
    rintro e w1 ⟨rfl, hb1⟩
    have HB1 := hide hb1
    clear hb1 HN
    go_wp2_with fail
    refine (unhide HE _).mono ?_
    rintro e w2 ⟨rfl, hw⟩
    replace hw := hw.symm
    subst hw
    go_wp2_with fail
    go_ret2
    exact ⟨rfl, unhide HB1⟩
set_option maxHeartbeats 400000 in
set_option maxRecDepth 100000 in
theorem Enc_range (n mode : Int) {v : Value} {xs : List Int} (w : World) (hn : 1 ≤ n ∧ n ≤ 7) (hm : mode = 0 ∨ mode = 1) (hI : Ints w v xs) (hl : xs.length ≤ 3000) (hs : xs.all M.sclr = false) : Calls Tryz.prog 44 #[.int .i64 n, .int .i64 mode, v] w fun e w' => e = .returned (.tuple #[.string ⟨#[]⟩, .int .i64 3]) ∧ Below w.heap.size w w' := by
  have HN := hide (fun w => Output_yes n w hn)
  have HE := hide (fun (w' : World) (hb : Below w.heap.size w w') => encode_any w' (hI.below hb) hl)
  rw [encRes_no hs] at HE
  generalize M.outE n = o at *
  obtain ⟨ao, cap, rfl, -, -, -⟩ := hI
  clear hn hs
  rcases hm with rfl | rfl
  all_goals
    go_enter Tryz.func44, Tryz.ntmps44
    go_wp2_with fail
    refine (unhide HN _).mono ?_
    rintro e w1 ⟨rfl, hb1⟩
    have HB1 := hide hb1
    clear hb1 HN
    go_wp2_with fail
    refine (unhide HE _ (unhide HB1)).mono ?_
    rintro e w2 ⟨hb2, rfl⟩
    have HB2 := hide (bstep (unhide HB1) hb2)
    clear hb2 HE
    go_wp2_with fail
    go_ret2
    exact ⟨rfl, unhide HB2⟩

theorem resW_one {n mode : Int} {xs : List Int} (h : M.outE n = 1) : resW n mode xs = .tuple #[.string (strOfNums (M.enc xs)), .int .i64 0] := by
  rw [resW_yes (.inr (List.all_eq_true.2 fun x _ => M.hasE_one h x)), M.ptsE_one h, ← M.encB_out, h, M.encB_1]
set_option maxHeartbeats 1600000 in
set_option maxRecDepth 100000 in
theorem Enc_ok (n mode : Int) {v : Value} {xs : List Int} (w : World) (hT : Tb w) (hn : 1 ≤ n ∧ n ≤ 7) (hm : mode = 0 ∨ mode = 1) (hI : Ints w v xs) (hl : xs.length ≤ 3000) (hs : xs.all M.sclr = true) : Calls Tryz.prog 44 #[.int .i64 n, .int .i64 mode, v] w fun e w' => e = .returned (resW n mode xs) ∧ Below w.heap.size w w' := by
  have HN := hide (fun w => Output_yes n w hn)
  have HE := hide (fun (w' : World) (hb : Below w.heap.size w w') => encode_any w' (hI.below hb) hl)
  rw [encRes_yes hs] at HE
  have m01 : (mode == 0) = false → (mode == 1) = true := by rcases hm with rfl | rfl <;> simp
  have HM := hide hm
  by_cases ho : M.outE n = 1
  · rw [resW_one ho]
    rw [ho] at HN
    generalize strOfNums (M.enc xs) = es at *
    obtain ⟨ao, cap, rfl, -, -, -⟩ := hI
    clear hn hs ho m01
    rcases hm with rfl | rfl
    all_goals
      go_enter Tryz.func44, Tryz.ntmps44
      go_wp2_with fail
      refine (unhide HN _).mono ?_
      rintro e w1 ⟨rfl, hb1⟩
      have HB1 := hide hb1
      clear hb1 HN
      go_wp2_with fail
      refine (unhide HE _ (unhide HB1)).mono ?_
      rintro e w2 ⟨hb2, rfl⟩
      have HB2 := hide (bstep (unhide HB1) hb2)
      clear hb2 HE
      go_wp2_with fail
      go_ret2
      exact ⟨rfl, unhide HB2⟩
  · have HW : Hid (∀ w', Below w.heap.size w w' → Calls Tryz.prog 98 #[.int .i64 (M.outE n), .int .i64 mode, v] w' fun e w'' => e = .returned (resW n mode xs) ∧ Below w'.heap.size w' w'') := hide (fun w' hb => by
      have e : M.outE n = n := by unfold M.outE at ho ⊢; split at ho <;> simp_all
      rw [e] at ho ⊢
      rcases M.outE_bd hn with h | h | h | h
      · rw [e] at h; exact absurd h ho
      · rw [e] at h; exact writeS_any false n (by simpa using h) mode hm v xs w' (hT.below hb) (hI.below hb) hl hs
      · rw [e] at h; exact writeS_any true n (by simpa using h) mode hm v xs w' (hT.below hb) (hI.below hb) hl hs
      · rw [e] at h; subst h; exact writeK_any mode hm v xs w' (hT.below hb) (hI.below hb) hl hs)
    have ho' : (M.outE n == 1) = false := by simpa using ho
    have HV : Hid (resW n mode xs = .tuple #[.string (strOfNums (M.encB n (M.ptsE n xs))), .int .i64 0] ∨ resW n mode xs = .tuple #[.string ⟨#[]⟩, .int .i64 5]) := hide (by unfold resW; split <;> simp)
    generalize strOfNums (M.enc xs) = es at *
    generalize M.outE n = o at *
    obtain ⟨r, HR⟩ : ∃ r, Hid (resW n mode xs = r) := ⟨_, hide rfl⟩
    rw [unhide HR] at HW HV ⊢
    generalize strOfNums (M.encB n (M.ptsE n xs)) = bs at *
    obtain ⟨ao, cap, rfl, -, -, -⟩ := hI
    clear hn hs ho m01 HR hT
    rcases unhide HV with rfl | rfl <;> rcases hm with rfl | rfl
    all_goals
      clear HV
      go_enter Tryz.func44, Tryz.ntmps44
      go_wp2_with fail
      refine (unhide HN _).mono ?_
      rintro e w1 ⟨rfl, hb1⟩
      have HB1 := hide hb1
      clear hb1 HN
      go_wp2_with fail
      refine (unhide HE _ (unhide HB1)).mono ?_
      rintro e w2 ⟨hb2, rfl⟩
      have HB2 := hide (bstep (unhide HB1) hb2)
      clear hb2 HE
      go_wp2_with fail
      refine (unhide HW _ (unhide HB2)).mono ?_
      rintro e w3 ⟨rfl, hb3⟩
      have HB3 := hide (bstep (unhide HB2) hb3)
      clear hb3 HW
      go_wp2_with fail
      go_ret2
      exact ⟨rfl, unhide HB3⟩
end Go.Proofs.YtaiinjfnkmidbaaGreatDoor

namespace Go.Proofs.YtaiinjfnkmidbaaGreatDoor
open Go.RowKit
set_option linter.unusedVariables false

theorem empty_row (w : World) : (w.alloc (.cells #[] 3)).ownsRow w.heap.size 3 1 (.slice (some ⟨w.heap.size, 0, none⟩) 0 0) ([] : List Int).length (([] : List Int).map (Value.int .i64)) :=
  ⟨by simp, .inr ⟨w.heap.size, 0, #[], rfl, Nat.le_refl _, heap_alloc_new _ _, Nat.le_refl _, by simp [maxLen], by simp, by simp⟩⟩

/-- What Encode answers of an encoding. -/
def encP (n mode : Int) (xs : List Int) : ByteArray × Int :=
  if 3000 < xs.length then (⟨#[]⟩, 2) else if xs.all M.sclr = false then (⟨#[]⟩, 3) else if mode = 1 ∨ xs.all (M.hasE n) = true then (strOfNums (M.encB n (M.ptsE n xs)), 0) else (⟨#[]⟩, 5)
theorem encP_ok {n mode : Int} {xs : List Int} (h1 : xs.length ≤ 3000) (h2 : xs.all M.sclr = true) : resW n mode xs = .tuple #[.string (encP n mode xs).1, .int .i64 (encP n mode xs).2] := by
  have e : encP n mode xs = if mode = 1 ∨ xs.all (M.hasE n) = true then (strOfNums (M.encB n (M.ptsE n xs)), 0) else (⟨#[]⟩, 5) := by unfold encP; rw [if_neg (by omega), if_neg (by simp [h2])]
  rw [e]
  unfold resW
  split <;> rfl
theorem Enc_all (n mode : Int) {v : Value} {xs : List Int} (w : World) (hT : Tb w) (hn : 1 ≤ n ∧ n ≤ 7) (hm : mode = 0 ∨ mode = 1) (hI : Ints w v xs) :
    Calls Tryz.prog 44 #[.int .i64 n, .int .i64 mode, v] w fun e w' => e = .returned (.tuple #[.string (encP n mode xs).1, .int .i64 (encP n mode xs).2]) ∧ Below w.heap.size w w' := by
  by_cases h1 : xs.length ≤ 3000
  · cases h2 : xs.all M.sclr
    · have e : encP n mode xs = (⟨#[]⟩, 3) := by unfold encP; rw [if_neg (by omega), if_pos h2]
      rw [e]
      exact Enc_range n mode w hn hm hI h1 h2
    · rw [← encP_ok h1 h2]
      exact Enc_ok n mode w hT hn hm hI h1 h2
  · have e : encP n mode xs = (⟨#[]⟩, 2) := by unfold encP; rw [if_pos (by omega)]
    rw [e]
    obtain ⟨ao, cap, rfl, hx, -, -⟩ := hI
    exact Enc_many n mode ao xs.length cap w hn hm (by omega) hx
end Go.Proofs.YtaiinjfnkmidbaaGreatDoor

namespace Go.Proofs.YtaiinjfnkmidbaaGreatDoor
open Go.RowKit
set_option linter.unusedVariables false

end Go.Proofs.YtaiinjfnkmidbaaGreatDoor

namespace Go.Proofs.YtaiinjfnkmidbaaGreatDoor
open Go.RowKit
set_option linter.unusedVariables false

def mkB (n : Int) : ByteArray := if n = 1 then ⟨#[239, 187, 191]⟩ else if n = 2 then ⟨#[255, 254]⟩ else if n = 3 then ⟨#[254, 255]⟩ else ⟨#[]⟩
theorem mkB_bl (n : Int) : bl (mkB n) = M.mkL n := by
  unfold mkB M.mkL
  split
  · decide
  · split
    · decide
    · split <;> decide
set_option maxHeartbeats 400000 in
set_option maxRecDepth 100000 in
theorem markOf_any (n : Int) (w : World) : Calls Tryz.prog 36 #[.int .i64 n] w fun e w' => e = .returned (.string (mkB n)) ∧ w' = w := by
  unfold mkB
  by_cases h1 : n = 1
  · subst h1
    go_enter Tryz.func36, Tryz.ntmps36
    go_wp2
    go_ret
    exact ⟨rfl, rfl⟩
  · by_cases h2 : n = 2
    · subst h2
      go_enter Tryz.func36, Tryz.ntmps36
      go_wp2
      go_ret
      exact ⟨rfl, rfl⟩
    · by_cases h3 : n = 3
      · subst h3
        go_enter Tryz.func36, Tryz.ntmps36
        go_wp2
        go_ret
        exact ⟨rfl, rfl⟩
      · have e1 : (n == 1) = false := by simpa using h1
        have e2 : (n == 2) = false := by simpa using h2
        have e3 : (n == 3) = false := by simpa using h3
        rw [if_neg h1, if_neg h2, if_neg h3]
        clear h1 h2 h3
        go_enter Tryz.func36, Tryz.ntmps36
        go_wp2
        go_ret
        exact ⟨rfl, rfl⟩

theorem hasP_no {s p : ByteArray} (h : hasP s p = false) : s.size < p.size ∨ (p.size ≤ s.size ∧ ((s.extract 0 p.size).toList == p.toList) = false) := by
  by_cases hz : p.size ≤ s.size
  · exact .inr ⟨hz, by rw [hasP_at s p hz, h]⟩
  · exact .inl (by omega)
theorem hasP_yes {s p : ByteArray} (h : hasP s p = true) : p.size ≤ s.size ∧ ((s.extract 0 p.size).toList == p.toList) = true := by
  by_cases hz : p.size ≤ s.size
  · exact ⟨hz, by rw [hasP_at s p hz, h]⟩
  · rw [hasP_short s p (by omega)] at h; cases h
set_option maxHeartbeats 800000 in
set_option maxRecDepth 100000 in
theorem sniffOf_any (s : ByteArray) (w : World) (hs : s.size ≤ maxLen) : Calls Tryz.prog 54 #[.string s] w fun e w' => e = .returned (.tuple #[.int .i64 (M.sn (bl s)).1, .int .i64 (M.sn (bl s)).2]) ∧ w' = w := by
  unfold maxLen at hs
  have k1 := fun w => markOf_any 1 w
  have k2 := fun w => markOf_any 2 w
  have k3 := fun w => markOf_any 3 w
  rw [show mkB 1 = ⟨#[239, 187, 191]⟩ from rfl] at k1
  rw [show mkB 2 = ⟨#[255, 254]⟩ from rfl] at k2
  rw [show mkB 3 = ⟨#[254, 255]⟩ from rfl] at k3
  have z1 : (⟨#[239, 187, 191]⟩ : ByteArray).size = 3 := rfl
  have z2 : (⟨#[255, 254]⟩ : ByteArray).size = 2 := rfl
  have z3 : (⟨#[254, 255]⟩ : ByteArray).size = 2 := rfl
  have y1 : (⟨#[239, 187, 191]⟩ : ByteArray).toList = ([239, 187, 191] : List UInt8) := by rw [Lib.toList_data]
  have y2 : (⟨#[255, 254]⟩ : ByteArray).toList = ([255, 254] : List UInt8) := by rw [Lib.toList_data]
  have y3 : (⟨#[254, 255]⟩ : ByteArray).toList = ([254, 255] : List UInt8) := by rw [Lib.toList_data]
  have b1 : bl ⟨#[239, 187, 191]⟩ = [239, 187, 191] := by decide
  have b2 : bl ⟨#[255, 254]⟩ = [255, 254] := by decide
  have b3 : bl ⟨#[254, 255]⟩ = [254, 255] := by decide
  have HS : Hid (M.sn (bl s) = if hasP s ⟨#[239, 187, 191]⟩ then (1, 3) else if hasP s ⟨#[254, 255]⟩ then (3, 2) else if hasP s ⟨#[255, 254]⟩ then (2, 2) else (0, 0)) := hide (by
    unfold M.sn hasP
    simp only [b1, b2, b3, decide_eq_true_eq])
  have HX : Hid (hasP s ⟨#[255, 254]⟩ = true → hasP s ⟨#[254, 255]⟩ = false) := hide (by
    unfold hasP
    rw [b2, b3, decide_eq_true_eq, decide_eq_false_iff_not, M.pre2, M.pre2]
    rintro ⟨t, ht⟩ ⟨u, hu⟩
    rw [ht] at hu; simp at hu)
  cases h1 : hasP s ⟨#[239, 187, 191]⟩
  · have g1 := hasP_no h1
    rw [z1, y1] at g1
    cases h2 : hasP s ⟨#[255, 254]⟩
    · have g2 := hasP_no h2
      rw [z2, y2] at g2
      cases h3 : hasP s ⟨#[254, 255]⟩
      · have g3 := hasP_no h3
        rw [z3, y3] at g3
        have HR : Hid (M.sn (bl s) = (0, 0)) := hide (by rw [unhide HS, h1, h2, h3]; rfl)
        clear HS HX h1 h2 h3 b1 b2 b3 y1 y2 y3
        rcases g1 with g1 | ⟨g1, e1⟩ <;> rcases g2 with g2 | ⟨g2, e2⟩ <;> rcases g3 with g3 | ⟨g3, e3⟩
        all_goals first | (exfalso; omega) | skip
        all_goals
          go_enter Tryz.func54, Tryz.ntmps54
          go_wp2_with fail
          refine wp_loop_rounds 4 ?_
          rw [rounds_succ]
          go_wp2_with fail
          refine (k1 _).mono ?_
          rintro e w1 ⟨rfl, hw⟩
          replace hw := hw.symm
          subst hw
          go_wp2_with fail
          rw [rounds_succ]
          go_wp2_with fail
          refine (k2 _).mono ?_
          rintro e w1 ⟨rfl, hw⟩
          replace hw := hw.symm
          subst hw
          go_wp2_with fail
          rw [rounds_succ]
          go_wp2_with fail
          refine (k3 _).mono ?_
          rintro e w1 ⟨rfl, hw⟩
          replace hw := hw.symm
          subst hw
          go_wp2_with fail
          rw [rounds_succ]
          go_wp2_with fail
          go_ret2
          refine ⟨?_, rfl⟩
          rw [unhide HR]
          rfl
      · obtain ⟨g3, e3⟩ := hasP_yes h3
        rw [z3] at g3
        rw [z3, y3] at e3
        have HR : Hid (M.sn (bl s) = (3, 2)) := hide (by rw [unhide HS, h1, h3]; rfl)
        clear HS HX h1 h2 h3 b1 b2 b3 y1 y2 y3
        rcases g1 with g1 | ⟨g1, e1⟩ <;> rcases g2 with g2 | ⟨g2, e2⟩
        all_goals first | (exfalso; omega) | skip
        all_goals
          go_enter Tryz.func54, Tryz.ntmps54
          go_wp2_with fail
          refine wp_loop_rounds 4 ?_
          rw [rounds_succ]
          go_wp2_with fail
          refine (k1 _).mono ?_
          rintro e w1 ⟨rfl, hw⟩
          replace hw := hw.symm
          subst hw
          go_wp2_with fail
          rw [rounds_succ]
          go_wp2_with fail
          refine (k2 _).mono ?_
          rintro e w1 ⟨rfl, hw⟩
          replace hw := hw.symm
          subst hw
          go_wp2_with fail
          rw [rounds_succ]
          go_wp2_with fail
          refine (k3 _).mono ?_
          rintro e w1 ⟨rfl, hw⟩
          replace hw := hw.symm
          subst hw
          go_wp2_with fail
          go_ret2
          refine ⟨?_, rfl⟩
          rw [unhide HR]
          rfl
    · obtain ⟨g2, e2⟩ := hasP_yes h2
      rw [z2] at g2
      rw [z2, y2] at e2
      have HR : Hid (M.sn (bl s) = (2, 2)) := hide (by rw [unhide HS, h1, unhide HX h2, h2]; rfl)
      clear HS HX h1 h2 b1 b2 b3 y1 y2 y3
      rcases g1 with g1 | ⟨g1, e1⟩
      all_goals
        go_enter Tryz.func54, Tryz.ntmps54
        go_wp2_with fail
        refine wp_loop_rounds 4 ?_
        rw [rounds_succ]
        go_wp2_with fail
        refine (k1 _).mono ?_
        rintro e w1 ⟨rfl, hw⟩
        replace hw := hw.symm
        subst hw
        go_wp2_with fail
        rw [rounds_succ]
        go_wp2_with fail
        refine (k2 _).mono ?_
        rintro e w1 ⟨rfl, hw⟩
        replace hw := hw.symm
        subst hw
        go_wp2_with fail
        go_ret2
        refine ⟨?_, rfl⟩
        rw [unhide HR]
        rfl
  · obtain ⟨g1, e1⟩ := hasP_yes h1
    rw [z1] at g1
    rw [z1, y1] at e1
    have HR : Hid (M.sn (bl s) = (1, 3)) := hide (by rw [unhide HS, h1]; rfl)
    clear HS HX h1 b1 b2 b3 y1 y2 y3
    go_enter Tryz.func54, Tryz.ntmps54
    go_wp2_with fail
    refine wp_loop_rounds 4 ?_
    rw [rounds_succ]
    go_wp2_with fail
    refine (k1 _).mono ?_
    rintro e w1 ⟨rfl, hw⟩
    replace hw := hw.symm
    subst hw
    go_wp2_with fail
    go_ret2
    refine ⟨?_, rfl⟩
    rw [unhide HR]
    rfl
end Go.Proofs.YtaiinjfnkmidbaaGreatDoor
