/- Laws that the statements of this seat lean on, part 9 (MathS6 EG TP6 MathC6 OW6 TX6 SI6 FE RD RU RL SD RF RP6): each a contract of a function, or a plain fact; conditions stand at each. -/
import Derived.Test.YtaiinjfnkmidbaaGreatDoorQD8
namespace Go.Proofs.YtaiinjfnkmidbaaGreatDoor
open Go.RowKit
set_option linter.unusedVariables false

theorem sc_bad : M.sclr 65533 = true := by decide
theorem ut_bd (big : Bool) {a b : Int} (ha : 0 ≤ a ∧ a ≤ 255) (hb : 0 ≤ b ∧ b ≤ 255) : 0 ≤ M.ut big a b ∧ M.ut big a b ≤ 65535 := by
  unfold M.ut
  cases big <;> simp <;> omega
theorem aln_sclr {u : Int} (h : 0 ≤ u ∧ u ≤ 65535) (hf : M.fst16 u = false) : M.sclr (M.aln u) = true := by
  unfold M.aln
  by_cases hs : M.snd16 u = true
  · rw [if_pos hs]; exact sc_bad
  · rw [if_neg hs]
    unfold M.fst16 at hf
    unfold M.snd16 at hs
    unfold M.sclr
    simp only [decide_eq_true_eq, decide_eq_false_iff_not] at *
    omega
theorem nx16_sclr (big : Bool) (l : List Int) (h : ∀ x ∈ l, 0 ≤ x ∧ x ≤ 255) : M.sclr (M.nx16 big l).1 = true := by
  match l, h with
  | [], _ => exact sc_bad
  | [_], _ => exact sc_bad
  | [a, b], h =>
    have hu := ut_bd big (h a (by simp)) (h b (by simp))
    cases hf : M.fst16 (M.ut big a b)
    · simp only [M.nx16, hf, Bool.false_eq_true, if_false]; exact aln_sclr hu hf
    · simp only [M.nx16, hf, if_true]; exact sc_bad
  | [a, b, c], h =>
    have hu := ut_bd big (h a (by simp)) (h b (by simp))
    cases hf : M.fst16 (M.ut big a b)
    · simp only [M.nx16, hf, Bool.false_eq_true, if_false]; exact aln_sclr hu hf
    · simp only [M.nx16, hf, if_true]; exact sc_bad
  | a :: b :: c :: d :: t, h =>
    have hu := ut_bd big (h a (by simp)) (h b (by simp))
    have hv := ut_bd big (h c (by simp)) (h d (by simp))
    cases hf : M.fst16 (M.ut big a b)
    · simp only [M.nx16, hf, Bool.false_eq_true, if_false]; exact aln_sclr hu hf
    · cases hg : M.snd16 (M.ut big c d)
      · simp only [M.nx16, hf, hg, if_true, Bool.false_eq_true, if_false]; exact sc_bad
      · simp only [M.nx16, hf, hg, if_true]
        unfold M.fst16 at hf
        unfold M.snd16 at hg
        unfold M.sclr
        simp only [decide_eq_true_eq] at *
        omega
theorem dec16_sclr (big : Bool) : ∀ (n : Nat) (l : List Int), l.length ≤ n → (∀ x ∈ l, 0 ≤ x ∧ x ≤ 255) → (M.dec16 big l).all M.sclr = true
  | 0, l, hn, h => by
    have : l = [] := List.eq_nil_of_length_eq_zero (by omega)
    subst this; rfl
  | n + 1, l, hn, h => by
    by_cases hl : l = []
    · subst hl; rfl
    · have hz := M.nx16_size big l hl
      rw [M.dec16_step big hl, List.all_cons, nx16_sclr big l h, dec16_sclr big n _ (by rw [List.length_drop]; omega) (fun x hx => h x (List.mem_of_mem_drop hx))]
      rfl
theorem pt_sclr (user : Bool) {c : Int} (h : 0 ≤ c ∧ c ≤ 255) : M.sclr (M.pt user c) = true := by
  have H : ∀ (u : Bool) (k : Fin 256), M.sclr (M.pt u ((k.val : Nat) : Int)) = true := by decide +kernel
  have := H user ⟨c.toNat, by omega⟩
  rwa [show ((c.toNat : Nat) : Int) = c from by omega] at this
theorem decS_sclr (user : Bool) (l : List Int) (h : ∀ x ∈ l, 0 ≤ x ∧ x ≤ 255) : (M.decS user l).all M.sclr = true := by
  rw [List.all_eq_true]
  intro x hx
  unfold M.decS at hx
  obtain ⟨c, hc, rfl⟩ := List.mem_map.1 hx
  exact pt_sclr user (h c hc)
theorem kpt_sclr (g : Int) {c : Int} (h : 0 ≤ c ∧ c ≤ 255) : M.sclr (M.kpt g c) = true := by
  unfold M.kpt
  split
  · exact sc_bad
  · unfold M.ksn
    split
    · split
      · unfold M.sclr; simp only [decide_eq_true_eq]; omega
      · exact sc_bad
    · split
      · exact sc_bad
      · split
        · decide
        · split
          · decide
          · unfold M.sclr; simp only [decide_eq_true_eq]; omega
theorem gk_sclr (s : Int × Bool) (l : List Int) (hl : l ≠ []) (h : ∀ x ∈ l, 0 ≤ x ∧ x ≤ 255) : (M.gk s l).1.all M.sclr = true := by
  unfold M.gk
  split
  · unfold M.bads; split <;> rfl
  · cases l with
    | nil => exact absurd rfl hl
    | cons c t =>
      show (M.sclr (M.kpt s.1 c) && true) = true
      rw [kpt_sclr s.1 (h c (by simp))]; rfl
theorem totk_sclr : ∀ (n : Nat) (s : Int × Bool) (l : List Int), l.length ≤ n → (∀ x ∈ l, 0 ≤ x ∧ x ≤ 255) → (M.Tot M.gk s l).1.all M.sclr = true
  | 0, s, l, hn, h => by
    have : l = [] := List.eq_nil_of_length_eq_zero (by omega)
    subst this; rw [M.Tot_nil]; rfl
  | n + 1, s, l, hn, h => by
    by_cases hl : l = []
    · subst hl; rw [M.Tot_nil]; rfl
    · have hz := M.gk_size s l hl
      rw [M.Tot_step (fun s l hl => M.gk_size s l hl) hl (show M.gk s l = ((M.gk s l).1, (M.gk s l).2.1, (M.gk s l).2.2) from rfl)]
      show ((M.gk s l).1 ++ _).all M.sclr = true
      rw [List.all_append, gk_sclr s l hl h, totk_sclr n _ _ (by rw [List.length_drop]; omega) (fun x hx => h x (List.mem_of_mem_drop hx))]
      rfl
theorem decE_sclr {e : Int} (he : 1 ≤ e ∧ e ≤ 7) (l : List Int) (h : ∀ x ∈ l, 0 ≤ x ∧ x ≤ 255) : (M.decE e l).all M.sclr = true := by
  unfold M.decE
  obtain rfl | rfl | rfl | rfl | rfl | rfl | rfl := M.seven he
  · rw [M.TE_8]; exact M.dec_sclr l h
  · rw [show (2 : Int) = (if false then 3 else 2) from rfl, M.TE_16 false]; exact dec16_sclr false _ l (Nat.le_refl _) h
  · rw [show (3 : Int) = (if true then 3 else 2) from rfl, M.TE_16 true]; exact dec16_sclr true _ l (Nat.le_refl _) h
  · rw [show (4 : Int) = (if false then 5 else 4) from rfl, M.TE_S false]; exact decS_sclr false l h
  · rw [show (5 : Int) = (if true then 5 else 4) from rfl, M.TE_S true]; exact decS_sclr true l h
  · rw [M.TE_K]; exact totk_sclr _ _ l (Nat.le_refl _) h
  · rw [M.TE_X]; dsimp only; split <;> rfl
theorem whI_sclr (L s : ByteArray) : (whI L (bl s)).all M.sclr = true :=
  decE_sclr (chI_bd L (bl s)).1 _ (fun x hx => bl_byt s x (List.mem_of_mem_drop hx))
theorem whI_few (L s : ByteArray) : (whI L (bl s)).length ≤ s.size := by
  have h := M.TE_few (chI L (bl s)).1 _ M.st0 ((bl s).drop (chI L (bl s)).2.2.toNat) (Nat.le_refl _)
  rw [List.length_drop, bl_len] at h
  unfold whI M.decE
  omega
/-- What is recoded. -/
def rcB (L : ByteArray) (l : List Int) (n : Int) : ByteArray := mkB (M.outE n) ++ strOfNums (M.encB n (M.ptsE n (whI L l)))
end Go.Proofs.YtaiinjfnkmidbaaGreatDoor

namespace Go.Proofs.YtaiinjfnkmidbaaGreatDoor
open Go.RowKit
set_option linter.unusedVariables false

theorem digs_b : M.digs 12354 = [49, 50, 51, 53, 52] := by
  rw [M.digs_hi (by decide), M.digs_hi (by decide), M.digs_hi (by decide), M.digs_hi (by decide), M.digs_lo (by decide)]
  decide
theorem res_b : resW 4 1 [8364, 12354] = .tuple #[.string ⟨#[128, 38, 35, 49, 50, 51, 53, 52, 59]⟩, .int .i64 0] := by
  have h1 : M.hasE 4 8364 = true := by decide +kernel
  have h2 : M.hasE 4 12354 = false := by decide +kernel
  have e : M.ptsE 4 [8364, 12354] = [8364, 38, 35, 49, 50, 51, 53, 52, 59] := by
    show M.ptE 4 8364 ++ (M.ptE 4 12354 ++ []) = _
    rw [M.ptE_yes h1, M.ptE_no h2]
    unfold M.tld
    rw [show (12354 : Int).toNat = 12354 from rfl, digs_b]
    rfl
  rw [resW_yes (.inl rfl), e]
  have : strOfNums (M.encB 4 [8364, 38, 35, 49, 50, 51, 53, 52, 59]) = ⟨#[128, 38, 35, 49, 50, 51, 53, 52, 59]⟩ := by decide +kernel
  rw [this]
theorem res_c : resW 4 0 [12354] = .tuple #[.string ⟨#[]⟩, .int .i64 5] := resW_no rfl (by decide +kernel)

set_option maxHeartbeats 800000 in
set_option maxRecDepth 100000 in
theorem encoderBegun_any (w : World) (hT : Tb w) : Calls Tryz.prog 38 #[] w fun e w' => e = .returned (.bool true) ∧ Below w.heap.size w w' := by
  have o1 := hide (fun w => Output_yes 3 w (by decide))
  rw [show M.outE 3 = 1 from rfl] at o1
  have a1 := hide (fun w => Has_yes 4 8364 w (by decide) (by decide))
  rw [show M.hasE 4 8364 = true from by decide +kernel] at a1
  have a2 := hide (fun w => Has_yes 6 8364 w (by decide) (by decide))
  rw [show M.hasE 6 8364 = false from by decide +kernel] at a2
  have e1 := hide (fun (w' : World) (hb : Below w.heap.size w w') => Enc_ok 4 1 (w'.alloc (.cells #[.int .i64 8364, .int .i64 12354] 3)) (hT.below (bstep hb (balloc _ _))) (by decide) (.inr rfl) (two_ints w' 8364 12354) (by decide) (by decide))
  rw [res_b] at e1
  have e2 := hide (fun (w' : World) (hb : Below w.heap.size w w') => Enc_ok 4 0 (w'.alloc (.cells #[.int .i64 12354] 3)) (hT.below (bstep hb (balloc _ _))) (by decide) (.inl rfl) (one_int w' 12354) (by decide) (by decide))
  rw [res_c] at e2
  clear hT
  go_enter Tryz.func38, Tryz.ntmps38
  go_wp2_with fail
  refine (unhide o1 _).mono ?_
  rintro e w1 ⟨rfl, hb1⟩
  have HB1 := hide hb1
  clear hb1 o1
  go_wp2_with fail
  refine (unhide a1 _).mono ?_
  rintro e w2 ⟨rfl, hb2⟩
  have HB2 := hide (bstep (unhide HB1) hb2)
  clear hb2 a1
  go_wp2_with fail
  refine (unhide a2 _).mono ?_
  rintro e w3 ⟨rfl, hb3⟩
  have HB3 := hide (bstep (unhide HB2) hb3)
  clear hb3 a2
  go_wp2_with fail
  refine (unhide e1 _ (unhide HB3)).mono ?_
  rintro e w4 ⟨rfl, hb4⟩
  have HB4 := hide (bstep (bstep (unhide HB3) (balloc _ _)) hb4)
  clear hb4 e1
  go_wp2_with fail
  refine (unhide e2 _ (unhide HB4)).mono ?_
  rintro e w5 ⟨rfl, hb5⟩
  have HB5 := hide (bstep (bstep (unhide HB4) (balloc _ _)) hb5)
  clear hb5 e2
  go_wp2_with fail
  go_ret
  exact ⟨rfl, unhide HB5⟩
end Go.Proofs.YtaiinjfnkmidbaaGreatDoor

namespace Go.Proofs.YtaiinjfnkmidbaaGreatDoor
open Go.RowKit
set_option linter.unusedVariables false

/-- How many are Bad, and how many far. -/
def cntB (xs : List Int) : Nat := (xs.filter (fun x => x == 65533)).length
def cntF (xs : List Int) : Nat := (xs.filter (fun x => decide (127 < x))).length
def RcSays : Prop := ∀ (L s : ByteArray) (n : Int) (w : World), L.size ≤ 3000 → s.size ≤ 3000 → 1 ≤ n ∧ n ≤ 7 → Mx w → Tb w → Calls Tryz.prog 31 #[.string L, .string s, .int .i64 n] w fun e w' => e = .returned (.tuple #[.string (rcB L (bl s) n), .int .i64 0]) ∧ Below w.heap.size w w'
def CtSays : Prop := ∀ (v : Value) (xs : List Int) (w : World), Ints w v xs → xs.length ≤ 3000 → xs.all M.sclr = true → Calls Tryz.prog 32 #[v] w fun e w' => e = .returned (.tuple #[.int .i64 (cntB xs : Int), .int .i64 (cntF xs : Int), .int .i64 0]) ∧ Below w.heap.size w w'
def CtErrs : Prop := ∀ (v : Value) (xs : List Int) (w : World), Ints w v xs → (3000 < xs.length ∨ xs.all M.sclr = false) → Calls Tryz.prog 32 #[v] w fun e w' => e = .returned (.tuple #[.int .i64 0, .int .i64 0, .int .i64 (if 3000 < xs.length then 2 else 3)]) ∧ Below w.heap.size w w'

theorem tb_c1 : chI ⟨#[]⟩ (bl ⟨#[255, 254, 97, 0]⟩) = (2, 1, 2) := by decide +kernel
theorem tb_w1 : whI ⟨#[]⟩ (bl ⟨#[255, 254, 97, 0]⟩) = [97] := by decide +kernel
theorem tb_w2 : whI u8N (bl ⟨#[226, 130, 172]⟩) = [8364] := by decide +kernel
theorem tb_r : rcB u8N (bl ⟨#[226, 130, 172]⟩) 6 = ⟨#[38, 35, 56, 51, 54, 52, 59]⟩ := by
  unfold rcB
  rw [tb_w2]
  have h : M.encB 6 (M.ptsE 6 [8364]) = [38, 35, 56, 51, 54, 52, 59] := by
    rw [show M.ptsE 6 [8364] = [38, 35, 56, 51, 54, 52, 59] from by
      unfold M.ptsE
      simp
      decide +kernel]
    decide +kernel
  rw [h]
  decide +kernel
theorem tb_b : cntB [97, 65533, 228] = 1 := by decide
theorem tb_f : cntF [97, 65533, 228] = 2 := by decide
set_option maxHeartbeats 1600000 in
set_option maxRecDepth 100000 in
theorem begunX_any (hD : DcSays) (hR : RcSays) (hC : CtSays) (w : World) (hM : Mx w) (hT : Tb w) : Calls Tryz.prog 22 #[] w fun e w' => e = .returned (.bool true) ∧ Below w.heap.size w w' := by
  have HM := hide hM
  have HT := hide hT
  have s1 := fun w h => hD ⟨#[]⟩ ⟨#[255, 254, 97, 0]⟩ w (by decide) (by decide) h
  rw [tb_c1, tb_w1] at s1
  have s2 := fun w h h' => hR u8N ⟨#[226, 130, 172]⟩ 6 w (by decide) (by decide) (by decide) h h'
  rw [tb_r] at s2
  have s3 := fun (w : World) (v : Value) (h : Ints w v [97, 65533, 228]) => hC v [97, 65533, 228] w h (by decide) (by decide)
  rw [tb_b, tb_f] at s3
  have S1 := hide s1
  have S2 := hide s2
  have S3 := hide s3
  dsimp only [u8N] at S2
  dsimp only at S1
  clear hD hR hC hM hT s1 s2 s3
  go_enter Tryz.func22, Tryz.ntmps22
  go_wp2_with fail
  refine (unhide S1 _ (unhide HM)).mono ?_
  rintro e w1 ⟨v1, rfl, ho1, hb1⟩
  obtain ⟨ao1, cap1, hsh1⟩ := owns_shape ho1
  subst hsh1
  have I1 := hide (Ints.of_owns ho1)
  have HB1 := hide hb1
  clear hb1 S1 ho1
  go_wp2_with fail
  refine (unhide S2 _ ((unhide HM).below (unhide HB1)) ((unhide HT).below (unhide HB1))).mono ?_
  rintro e w2 ⟨rfl, hb2⟩
  have I2 := hide ((unhide I1).below hb2)
  have HB2 := hide (bstep (unhide HB1) hb2)
  clear hb2 S2 HB1 I1
  go_wp2_with fail
  refine (unhide S3 _ _ (three_ints _ _ _ _)).mono ?_
  rintro e w3 ⟨rfl, hb3⟩
  have I3 := hide (((unhide I2).below (balloc _ _)).below hb3)
  have HB3 := hide (bstep (bstep (unhide HB2) (balloc _ _)) hb3)
  clear hb3 S3 HB2 I2
  go_wp2_with fail
  refine (same_any _ ((unhide I3).below (balloc _ _)) (one_int _ _)).mono ?_
  rintro e w4 ⟨rfl, hb4⟩
  rw [show (([97] : List Int) == [97]) = true from rfl]
  have HB4 := hide (bstep (bstep (unhide HB3) (balloc _ _)) hb4)
  clear hb4 HB3 I3
  go_wp2_with fail
  go_ret
  exact ⟨rfl, unhide HB4⟩
end Go.Proofs.YtaiinjfnkmidbaaGreatDoor

namespace Go.Proofs.YtaiinjfnkmidbaaGreatDoor
open Go.RowKit
set_option linter.unusedVariables false

theorem cntB_app (xs ys : List Int) : cntB (xs ++ ys) = cntB xs + cntB ys := by simp [cntB]
theorem cntF_app (xs ys : List Int) : cntF (xs ++ ys) = cntF xs + cntF ys := by simp [cntF]
theorem cntB_le (xs : List Int) : cntB xs ≤ cntF xs := by
  induction xs with
  | nil => exact Nat.le_refl _
  | cons x t ih =>
    unfold cntB cntF at *
    rw [List.filter_cons, List.filter_cons]
    by_cases h1 : x = 65533
    · subst h1; simp; exact ih
    · have e1 : (x == 65533) = false := by simpa using h1
      rw [e1]
      simp only [Bool.false_eq_true, if_false]
      split
      · simp; omega
      · exact ih
theorem cntF_le (xs : List Int) : cntF xs ≤ xs.length := List.length_filter_le _ _
theorem encB_any {n : Int} (hn : 1 ≤ n ∧ n ≤ 7) {xs : List Int} (h : xs.all M.sclr = true) (hl : xs.length ≤ 3000) : (strOfNums (M.encB n (M.ptsE n xs))).size ≤ 200000 := by
  have h1 := pts_few (n := n) h hl
  generalize M.ptsE n xs = ys at *
  rw [strOfNums_size]
  rcases (show (n = 4 ∨ n = 5) ∨ n = 6 ∨ (n ≠ 4 ∧ n ≠ 5 ∧ n ≠ 6) from by omega) with (h | h) | h | ⟨h4, h5, h6⟩
  · subst h; show (M.encS false _).length ≤ _; rw [M.encS_len]; omega
  · subst h; show (M.encS true _).length ≤ _; rw [M.encS_len]; omega
  · subst h; show (M.kenc _).length ≤ _; have := M.kenc_len ys; omega
  · have e : M.encB n ys = M.enc ys := by unfold M.encB; rw [if_neg h4, if_neg h5, if_neg h6]
    rw [e]; have := M.enc_len ys; omega
theorem ints_at {w : World} {ao : Option Addr} {n c : Nat} {xs : List Int} (h : Ints w (.slice ao n c) xs) (h0 : 0 < xs.length) : ∃ b off, ao = some ⟨b, off, none⟩ ∧ ∀ i, i < xs.length → w.cell? ⟨b, off + i, none⟩ = some (.int .i64 (xs.getD i 0)) := by
  obtain ⟨a, cap, he, _, _, h⟩ := h
  cases he
  rcases h with h | h
  · subst h; cases h0
  · exact h
theorem cnt_take {xs : List Int} {k : Nat} (h : k < xs.length) : cntB (xs.take (k + 1)) = cntB (xs.take k) + (if xs.getD k 0 = 65533 then 1 else 0) ∧ cntF (xs.take (k + 1)) = cntF (xs.take k) + (if 127 < xs.getD k 0 then 1 else 0) := by
  rw [take_snoc xs k h, cntB_app, cntF_app]
  constructor
  · congr 1
    unfold cntB
    by_cases e : xs.getD k 0 = 65533
    · rw [if_pos e, e]; rfl
    · rw [if_neg e]
      have : (xs.getD k 0 == 65533) = false := by simpa using e
      simp only [List.filter_cons, this]; rfl
  · congr 1
    unfold cntF
    by_cases e : 127 < xs.getD k 0
    · rw [if_pos e]; simp only [List.filter_cons, decide_eq_true e]; rfl
    · rw [if_neg e]; simp only [List.filter_cons, decide_eq_false e]; rfl
end Go.Proofs.YtaiinjfnkmidbaaGreatDoor

namespace Go.Proofs.YtaiinjfnkmidbaaGreatDoor
open Go.RowKit
set_option linter.unusedVariables false


set_option maxHeartbeats 400000 in
set_option maxRecDepth 100000 in
theorem dec1_own (s : ByteArray) (w : World) (hs : s.size ≤ 3000) :
    Calls Tryz.prog 148 #[.string s] w fun e w' => ∃ v, e = .returned v ∧ w'.ownsRow w.heap.size 3 1 v (M.dec (bl s)).length ((M.dec (bl s)).map (Value.int .i64)) ∧ Below w.heap.size w w' := by
  go_enter Tryz.func148, Tryz.ntmps148
  go_wp2_with fail
  refine (walk_dec s w.heap.size _ hs (heap_alloc_new _ _)).mono ?_
  rintro e w1 ⟨rfl, v', hv, hown, hbel⟩
  have HO := hide hown
  have hc := cell_of_one hv
  obtain ⟨ao, cap, hsh⟩ := owns_shape hown
  subst hsh
  have hb := hide (((Below.refl w.heap.size w).alloc (Nat.le_refl _) (.cells #[.slice none 0 0] 31)).trans hbel)
  clear hv hown hbel
  go_wp2_with fail
  go_ret
  exact ⟨_, rfl, owns_mono (unhide HO) (by omega), unhide hb⟩

set_option maxHeartbeats 400000 in
set_option maxRecDepth 100000 in
theorem decode_own (s : ByteArray) (w : World) (hs : s.size ≤ 3000) :
    Calls Tryz.prog 89 #[.string s] w fun e w' => ∃ v, e = .returned (.tuple #[v, .int .i64 0]) ∧ w'.ownsRow w.heap.size 3 1 v (M.dec (bl s)).length ((M.dec (bl s)).map (Value.int .i64)) ∧ Below w.heap.size w w' := by
  go_enter Tryz.func89, Tryz.ntmps89
  go_wp2_with (first | (go_at_call 148; refine (dec1_own _ _ hs).mono ?_; rintro e w1 ⟨v, rfl, hI, hb⟩; have HI := hide hI; have HB := hide hb; obtain ⟨ao, cap, rfl⟩ := owns_shape hI; clear hb hI) | go_in)
  go_ret2
  exact ⟨_, rfl, unhide HI, unhide HB⟩

set_option maxHeartbeats 400000 in
set_option maxRecDepth 100000 in
theorem dec16_ino (big : Bool) (s : ByteArray) (B : Nat) (w : World) (hs : s.size ≤ 3000) (hB : w.cell? ⟨B, 0, none⟩ = some (.bool big)) :
    Calls Tryz.prog 151 #[.string s, .pointer (some ⟨B, 0, none⟩)] w fun e w' => ∃ v, e = .returned v ∧ w'.ownsRow w.heap.size 3 1 v (M.dec16 big (bl s)).length ((M.dec16 big (bl s)).map (Value.int .i64)) ∧ Below w.heap.size w w' := by
  have hlt := World.block_lt_of_cell? w _ hB
  have HB := hide hB
  have HI : InU big s w w 0 [] (.slice none 0 0) := ⟨World.ownsRow_nil _ _ _ _, Below.refl _ _, Nat.le_refl _, by simp⟩
  clear hB
  go_enter Tryz.func151, Tryz.ntmps151
  go_wp2_with fail
  go_loopw [4, 5] (fun v i wr => ∃ (k : Nat) (xs : List Int), k ≤ s.size ∧ i = .int .i64 k ∧ InU big s w wr k xs v) (fun _ i _ => s.size - (intOf i).toNat)
  case atStart => exact ⟨0, [], by omega, rfl, HI⟩
  case round =>
    obtain ⟨k, xs, hk, rfl, hI⟩ := hrel
    clear HI
    have hsz := hI.2.1.size
    have hxs := hI.2.2.1
    by_cases hks : k < s.size
    · have hcb : wr.cell? ⟨B, 0, none⟩ = some (.bool big) := (hI.2.1.cell (p := ⟨B, 0, none⟩) hlt).trans (unhide HB)
      obtain ⟨p, z, HN⟩ : ∃ p z, Hid (M.nx16 big ((bl s).drop k) = (p, z)) := ⟨_, _, rfl⟩
      have hz := M.nx16_size big ((bl s).drop k) (fun e => by have := congrArg List.length e; simp [bl_len] at this; omega)
      rw [unhide HN] at hz
      simp only [List.length_drop, bl_len] at hz
      have HR : Hid (∀ w : World, Calls Tryz.prog 152 #[.bool big, .string (s.extract k s.size)] w fun e w' => e = .returned (.tuple #[.int .i64 p, .int .i64 (z : Int)]) ∧ ∃ m, w' = w.drewN m) := by
        refine hide fun w => ?_
        have := next_any big (s.extract k s.size) w (by simp; omega) (by simp; omega)
        rw [bl_extract, unhide HN] at this
        exact this
      obtain ⟨ao, cap, hsh⟩ := owns_shape hI.1
      subst hsh
      go_wp2_with fail
      go_quiet ((go_at_call 152; exact Calls.quiet_of (unhide HR _)))
      go_wp2_with (at_builtin; refine append_ints rfl (.tmp 20) (.tmp 22) rfl w.heap.size _ xs rfl (owns_da hI.1 _ _) _ [p] rfl (one_int _ _) (by simp; omega) (by simp; omega) ?_)
      intro v2 w2 ho2 hb2
      have HI := hI.step (v2 := v2) hks HN hz.1 (by simpa using ho2) (((below_drewN (Below.refl _ _) _).alloc hsz _).trans hb2)
      obtain ⟨ao2, cap2, hsh2⟩ := owns_shape ho2
      subst hsh2
      clear hI ho2 hb2
      go_wp2_with fail
      go_roundw
      case rel => exact ⟨k + z, xs ++ [p], by omega, by go_num, HI⟩
      case measure => simp [intOf]; omega
    · obtain ⟨h1, h2, h3, h4⟩ := hI
      rw [List.drop_of_length_le (by rw [bl_len]; omega), M.dec16_nil, List.append_nil] at h4
      have HV := hide h1
      rw [h4] at HV
      obtain ⟨ao, cap, hsh⟩ := owns_shape h1
      subst hsh
      have hl := congrArg List.length h4
      clear h1 h4
      go_wp2_with fail
      go_ret
      exact ⟨_, rfl, unhide HV, h2⟩

set_option maxHeartbeats 400000 in
set_option maxRecDepth 100000 in
theorem decode16_own (big : Bool) (s : ByteArray) (w : World) (hs : s.size ≤ 3000) :
    Calls Tryz.prog 90 #[.bool big, .string s] w fun e w' => ∃ v, e = .returned (.tuple #[v, .int .i64 0]) ∧ w'.ownsRow w.heap.size 3 1 v (M.dec16 big (bl s)).length ((M.dec16 big (bl s)).map (Value.int .i64)) ∧ Below w.heap.size w w' := by
  go_enter Tryz.func90, Tryz.ntmps90
  go_wp2_with (first | (go_at_call 151; refine (dec16_ino big _ _ _ hs (by simp)).mono ?_; rintro e w1 ⟨v, rfl, hI, hb⟩; have HI := hide hI; have HB := hide (bstep (balloc _ _) hb); obtain ⟨ao, cap, rfl⟩ := owns_shape hI; clear hb hI) | go_in)
  go_ret2
  exact ⟨_, rfl, owns_mono (unhide HI) (by simp), unhide HB⟩

set_option maxHeartbeats 400000 in
set_option maxRecDepth 100000 in
theorem decS_ino (user : Bool) (s : ByteArray) (B : Nat) (w : World) (hs : s.size ≤ 3000) (hB : w.cell? ⟨B, 0, none⟩ = some (.bool user)) :
    Calls Tryz.prog 153 #[.string s, .pointer (some ⟨B, 0, none⟩)] w fun e w' => ∃ v, e = .returned v ∧ w'.ownsRow w.heap.size 3 1 v (M.decS user (bl s)).length ((M.decS user (bl s)).map (Value.int .i64)) ∧ Below w.heap.size w w' := by
  go_enter Tryz.func153, Tryz.ntmps153
  go_wp2_with fail
  refine (pointsOf_any user _).mono ?_
  rintro e w1 ⟨v1, rfl, hI1, hb1⟩
  obtain ⟨ao1, cap1, hsh1, -, -, hc1⟩ := hI1
  subst hsh1
  rw [M.tblOf_len]
  rw [M.tblOf_len] at hc1
  obtain ⟨b, off, rfl, hcc⟩ : ∃ b off, ao1 = some ⟨b, off, none⟩ ∧ ∀ i, i < 256 → w1.cell? ⟨b, off + i, none⟩ = some (.int .i64 ((M.tblOf user 256).getD i 0)) := by
    rcases hc1 with h | h
    · have := congrArg List.length h; rw [M.tblOf_len] at this; simp at this
    · exact h
  have hbl : b < w1.heap.size := World.block_lt_of_cell? w1 _ (hcc 0 (by omega))
  have HC := hide hcc
  have HI : Hid (InS user s w1 w1 0 (.slice none 0 0)) := hide ⟨World.ownsRow_nil _ _ _ _, Below.refl _ _⟩
  clear hc1 hcc hB
  go_wp2_with fail
  go_loopw [5, 11] (fun v i wr => ∃ k : Nat, k ≤ s.size ∧ i = .int .i64 k ∧ InS user s w1 wr k v) (fun _ i _ => s.size - (intOf i).toNat)
  case atStart => exact ⟨0, by omega, rfl, unhide HI⟩
  case round =>
    obtain ⟨k, hk, rfl, hI⟩ := hrel
    clear HI
    have hz := hI.2.size
    have hl : Hid ((M.decS user ((bl s).take k)).length = k) := hide (by rw [M.decS_len, List.length_take, bl_len]; omega)
    obtain ⟨ao, cap, hsh⟩ := owns_shape hI.1
    subst hsh
    by_cases hlt : k < s.size
    · obtain ⟨c, hc⟩ : ∃ c : Nat, s[k].toNat = c := ⟨_, rfl⟩
      have hcb : c < 256 := by have := s[k].toNat_lt; omega
      have hcell : wr.cell? ⟨b, off + c, none⟩ = some (.int .i64 (M.pt user (c : Int))) := by
        rw [hI.2.cell (p := ⟨b, off + c, none⟩) hbl, unhide HC c hcb, M.tblOf_get user hcb]
      have hci : (s[k].toNat : Int) = (c : Int) := by omega
      have hbr : b < wr.heap.size := by omega
      obtain ⟨p, HP⟩ : ∃ p, Hid (M.pt user (c : Int) = p) := ⟨_, rfl⟩
      rw [unhide HP] at hcell
      have HCC := hide hci
      go_wp2_with (at_builtin; refine append_ints rfl (.tmp 14) (.tmp 21) rfl w1.heap.size _ (M.decS user ((bl s).take k)) rfl (owns_a hI.1 _) _ [p] rfl (one_int _ _) (by rw [unhide hl]; simp; omega) (by simp; omega) ?_)
      intro v2 w2 ho2 hb2
      have HJ : Hid (InS user s w1 w2 (k + 1) v2) := hide (hI.step hlt (unhide HCC) (unhide HP) (by simpa using ho2) (((Below.refl _ _).alloc hz _).trans hb2))
      obtain ⟨ao2, cap2, hsh2⟩ := owns_shape ho2
      subst hsh2
      clear hI ho2 hb2
      go_wp2_with fail
      go_roundw
      case rel => exact ⟨k + 1, by omega, by go_num, by simpa using unhide HJ⟩
      case measure => simp [intOf]; omega
    · have ek : k = s.size := by omega
      have HV := hide (owns_mono hI.1 hb1.size)
      have et : (bl s).take k = bl s := List.take_of_length_le (by rw [bl_len]; omega)
      rw [et] at HV
      have HB := hide (bstep hb1 hI.2)
      rw [et]
      clear hI et hl
      go_wp2_with fail
      go_ret
      exact ⟨_, rfl, unhide HV, unhide HB⟩

set_option maxHeartbeats 400000 in
set_option maxRecDepth 100000 in
theorem decodeS_own (user : Bool) (s : ByteArray) (w : World) (hs : s.size ≤ 3000) :
    Calls Tryz.prog 91 #[.bool user, .string s] w fun e w' => ∃ v, e = .returned (.tuple #[v, .int .i64 0]) ∧ w'.ownsRow w.heap.size 3 1 v (M.decS user (bl s)).length ((M.decS user (bl s)).map (Value.int .i64)) ∧ Below w.heap.size w w' := by
  go_enter Tryz.func91, Tryz.ntmps91
  go_wp2_with (first | (go_at_call 153; refine (decS_ino user _ _ _ hs (by simp)).mono ?_; rintro e w1 ⟨v, rfl, hI, hb⟩; have HI := hide hI; have HB := hide (bstep (balloc _ _) hb); obtain ⟨ao, cap, rfl⟩ := owns_shape hI; clear hb hI) | go_in)
  go_ret2
  exact ⟨_, rfl, owns_mono (unhide HI) (by simp), unhide HB⟩

set_option maxHeartbeats 800000 in
set_option maxRecDepth 100000 in
theorem stop_texto (s : ByteArray) (w : World) (hs : s.size ≤ 3000) : Calls Tryz.prog 93 #[.string s, .func (Fn.func 94) #[] #[]] w fun e w' => ∃ v, e = .returned (.tuple #[v, .int .i64 0]) ∧ w'.ownsRow w.heap.size 3 1 v (M.decE 7 (bl s)).length ((M.decE 7 (bl s)).map (Value.int .i64)) ∧ Below w.heap.size w w' := by
  have HD := hide (decE_7 s)
  go_enter Tryz.func93, Tryz.ntmps93
  go_wp2_with fail
  refine (stop_any s _).mono ?_
  rintro e w1 ⟨v, rfl, hI, hb⟩
  obtain ⟨ao, cap, rfl⟩ := owns_shape hI
  have HI := hide hI
  have HB := hide hb
  clear hI hb
  generalize (if s.size = 0 then [] else [(65533 : Int)]) = L at *
  go_wp2_with fail
  go_ret2
  exact ⟨_, rfl, by rw [unhide HD]; exact unhide HI, unhide HB⟩

set_option maxHeartbeats 1600000 in
set_option maxRecDepth 100000 in
theorem sdecode_own (e : Int) (s : ByteArray) (w : World) (he : 1 ≤ e ∧ e ≤ 7) (hs : s.size ≤ 3000) : Calls Tryz.prog 42 #[.int .i64 e, .string s] w fun e' w' => ∃ v, e' = .returned (.tuple #[v, .int .i64 0]) ∧ w'.ownsRow w.heap.size 3 1 v (M.decE e (bl s)).length ((M.decE e (bl s)).map (Value.int .i64)) ∧ Below w.heap.size w w' := by
  obtain rfl | rfl | rfl | rfl | rfl | rfl | rfl : e = 1 ∨ e = 2 ∨ e = 3 ∨ e = 4 ∨ e = 5 ∨ e = 6 ∨ e = 7 := by omega
  · have H := fun w => decode_own s w hs
    have HD := hide (decE_1 (bl s))
    go_enter Tryz.func42, Tryz.ntmps42
    go_wp2_with fail
    refine (H _).mono ?_
    rintro e w1 ⟨v, rfl, hI, hb⟩
    rw [← unhide HD] at hI
    have HI := hide hI
    have HB := hide hb
    obtain ⟨ao, cap, rfl⟩ := owns_shape hI
    clear hb H hI
    go_wp2_with fail
    go_ret2
    exact ⟨_, rfl, unhide HI, unhide HB⟩
  · have H := fun w => decode16_own false s w hs
    have HD := hide (decE_2 (bl s))
    go_enter Tryz.func42, Tryz.ntmps42
    go_wp2_with fail
    refine (H _).mono ?_
    rintro e w1 ⟨v, rfl, hI, hb⟩
    rw [← unhide HD] at hI
    have HI := hide hI
    have HB := hide hb
    obtain ⟨ao, cap, rfl⟩ := owns_shape hI
    clear hb H hI
    go_wp2_with fail
    go_ret2
    exact ⟨_, rfl, unhide HI, unhide HB⟩
  · have H := fun w => decode16_own true s w hs
    have HD := hide (decE_3 (bl s))
    go_enter Tryz.func42, Tryz.ntmps42
    go_wp2_with fail
    refine (H _).mono ?_
    rintro e w1 ⟨v, rfl, hI, hb⟩
    rw [← unhide HD] at hI
    have HI := hide hI
    have HB := hide hb
    obtain ⟨ao, cap, rfl⟩ := owns_shape hI
    clear hb H hI
    go_wp2_with fail
    go_ret2
    exact ⟨_, rfl, unhide HI, unhide HB⟩
  · have H := fun w => decodeS_own false s w hs
    have HD := hide (decE_4 (bl s))
    go_enter Tryz.func42, Tryz.ntmps42
    go_wp2_with fail
    refine (H _).mono ?_
    rintro e w1 ⟨v, rfl, hI, hb⟩
    rw [← unhide HD] at hI
    have HI := hide hI
    have HB := hide hb
    obtain ⟨ao, cap, rfl⟩ := owns_shape hI
    clear hb H hI
    go_wp2_with fail
    go_ret2
    exact ⟨_, rfl, unhide HI, unhide HB⟩
  · have H := fun w => decodeS_own true s w hs
    have HD := hide (decE_5 (bl s))
    go_enter Tryz.func42, Tryz.ntmps42
    go_wp2_with fail
    refine (H _).mono ?_
    rintro e w1 ⟨v, rfl, hI, hb⟩
    rw [← unhide HD] at hI
    have HI := hide hI
    have HB := hide hb
    obtain ⟨ao, cap, rfl⟩ := owns_shape hI
    clear hb H hI
    go_wp2_with fail
    go_ret2
    exact ⟨_, rfl, unhide HI, unhide HB⟩
  · have H := fun w => kdecode_own s w hs
    have HD := hide (decE_6 (bl s))
    go_enter Tryz.func42, Tryz.ntmps42
    go_wp2_with fail
    refine (H _).mono ?_
    rintro e w1 ⟨v, rfl, hI, hb⟩
    rw [← unhide HD] at hI
    have HI := hide hI
    have HB := hide hb
    obtain ⟨ao, cap, rfl⟩ := owns_shape hI
    clear hb H hI
    go_wp2_with fail
    go_ret2
    exact ⟨_, rfl, unhide HI, unhide HB⟩
  · have H := fun w => stop_texto s w hs
    go_enter Tryz.func42, Tryz.ntmps42
    go_wp2_with fail
    refine (H _).mono ?_
    rintro e w1 ⟨v, rfl, hI, hb⟩
    have HI := hide hI
    have HB := hide hb
    obtain ⟨ao, cap, rfl⟩ := owns_shape hI
    clear hb H hI
    go_wp2_with fail
    go_ret2
    exact ⟨_, rfl, unhide HI, unhide HB⟩

end Go.Proofs.YtaiinjfnkmidbaaGreatDoor

namespace Go.Proofs.YtaiinjfnkmidbaaGreatDoor
open Go.RowKit
set_option linter.unusedVariables false

set_option maxHeartbeats 800000 in
set_option maxRecDepth 100000 in
theorem dcSays : DcSays := by
  intro name s w hn hs hM
  have HM := hide hM
  have hl := hide (bl_len s)
  have HC := hide (fun w h => chSays name s w hn hs h)
  have hbd := chI_bd name (bl s)
  rw [unhide hl] at hbd
  have HW : Hid (whI name (bl s) = M.decE (chI name (bl s)).1 ((bl s).drop (chI name (bl s)).2.2.toNat)) := hide rfl
  obtain ⟨n, y, m, HX⟩ : ∃ n y m, Hid (chI name (bl s) = (n, y, m)) := ⟨_, _, _, hide rfl⟩
  rw [unhide HX] at HC hbd HW
  simp only at HC hbd HW
  obtain ⟨he, hy, hm0, hm3, hml⟩ := hbd
  obtain ⟨k, rfl⟩ : ∃ k : Nat, m = (k : Int) := ⟨m.toNat, by omega⟩
  rw [Int.toNat_natCast, ← bl_extract] at HW
  have HD := hide (fun w => sdecode_own n (s.extract k s.size) w he (by simp; omega))
  rw [← unhide HW] at HD
  rw [unhide HX]
  generalize whI name (bl s) = L at *
  clear HW hM HX
  go_enter Tryz.func23, Tryz.ntmps23
  go_wp2_with fail
  refine (unhide HC _ (unhide HM)).mono ?_
  rintro e w1 ⟨rfl, hb1⟩
  have hz1 := hb1.size
  have HB1 := hide hb1
  clear hb1
  go_wp2_with fail
  refine (unhide HD _).mono ?_
  rintro e w2 ⟨v, rfl, ho2, hb2⟩
  obtain ⟨ao, cap, hsh⟩ := owns_shape ho2
  subst hsh
  have HO := hide (owns_mono ho2 hz1)
  have HB2 := hide (bstep (unhide HB1) hb2)
  clear ho2 hb2
  go_wp2_with fail
  refine bodyPost_ret (results_tmp4 rfl _ _ _) rfl ?_
  exact ⟨.slice ao L.length cap, rfl, unhide HO, unhide HB2⟩

set_option maxHeartbeats 800000 in
set_option maxRecDepth 100000 in
theorem dcErrs : DcErrs := by
  intro name s w hn hs h hM
  have HM := hide hM
  have HC := hide (fun w hm => chErrs name s w hn hs h hm)
  clear hM h hn hs
  go_enter Tryz.func23, Tryz.ntmps23
  go_wp2_with fail
  refine (unhide HC _ (unhide HM)).mono ?_
  rintro e w1 ⟨rfl, hb1⟩
  have HB1 := hide hb1
  clear hb1
  go_wp2_with fail
  refine bodyPost_ret (results_tmp4 rfl _ _ _) rfl ?_
  exact ⟨.slice none 0 0, rfl, Ints.nil _, unhide HB1⟩

set_option maxHeartbeats 1600000 in
set_option maxRecDepth 100000 in
theorem rcSays : RcSays := by
  intro name s n w hn hs h hM hT
  have HM := hide hM
  have HT := hide hT
  have HD := hide (fun w hm => dcSays name s w hn hs hm)
  have hsc := whI_sclr name s
  have hfw := whI_few name s
  have HRC : Hid (rcB name (bl s) n = mkB (M.outE n) ++ strOfNums (M.encB n (M.ptsE n (whI name (bl s))))) := hide rfl
  have hz2 := encB_any h hsc (by omega)
  have hz1 : (mkB (M.outE n)).size ≤ 3 := by unfold mkB; split <;> (try split) <;> (try split) <;> decide
  have HE := hide (fun (w : World) (v : Value) (ht : Tb w) (hi : Ints w v (whI name (bl s))) => Enc_ok n 1 w ht h (.inr rfl) hi (by omega) hsc)
  rw [resW_yes (.inl rfl)] at HE
  have HO := hide (fun w => Output_yes n w h)
  have ho7 : 1 ≤ M.outE n ∧ M.outE n ≤ 7 := by unfold M.outE; split <;> omega
  have HP : Hid (∀ w : World, Calls Tryz.prog 61 #[.int .i64 (M.outE n), .string ⟨#[]⟩] w fun e w' => e = .returned (.tuple #[.string (mkB (M.outE n)), .int .i64 0]) ∧ Below w.heap.size w w') := hide (fun w => (Put_any (M.outE n) ⟨#[]⟩ w ho7 (by decide)).mono fun e w' h => by
    obtain ⟨t, rfl, ht, hb⟩ := h
    refine ⟨?_, hb⟩
    rw [show bl ⟨#[]⟩ = [] from rfl, List.append_nil, ← mkB_bl] at ht
    rw [← str_bl t, ht, str_bl])
  rw [unhide HRC]
  generalize strOfNums (M.encB n (M.ptsE n (whI name (bl s)))) = T at *
  generalize mkB (M.outE n) = MK at *
  generalize M.outE n = oe at *
  generalize whI name (bl s) = L at *
  generalize (chI name (bl s)).1 = c1 at *
  generalize (chI name (bl s)).2.1 = c2 at *
  clear hM hn hs hT HRC hsc hfw
  go_enter Tryz.func31, Tryz.ntmps31
  go_wp2_with fail
  refine (unhide HD _ (unhide HM)).mono ?_
  rintro e w1 ⟨v1, rfl, ho1, hb1⟩
  have I1 := hide (Ints.of_owns ho1)
  obtain ⟨ao1, cap1, rfl⟩ := owns_shape ho1
  have HB1 := hide hb1
  clear hb1 ho1 HD
  go_wp2_with fail
  refine (unhide HE _ _ ((unhide HT).below (unhide HB1)) (unhide I1)).mono ?_
  rintro e w2 ⟨rfl, hb2⟩
  have HB2 := hide (bstep (unhide HB1) hb2)
  clear hb2 HE I1
  go_wp2_with fail
  refine (unhide HO _).mono ?_
  rintro e w3 ⟨rfl, hb3⟩
  have HB3 := hide (bstep (unhide HB2) hb3)
  clear hb3 HO
  go_wp2_with fail
  refine (unhide HP _).mono ?_
  rintro e w4 ⟨rfl, hb4⟩
  have HB4 := hide (bstep (unhide HB3) hb4)
  clear hb4 HP
  go_wp2_with fail
  go_ret2
  exact ⟨rfl, unhide HB4⟩

set_option maxHeartbeats 800000 in
set_option maxRecDepth 100000 in
theorem ctErrs : CtErrs := by
  intro v xs w hI h
  by_cases h1 : 3000 < xs.length
  · obtain ⟨ao, cap, rfl, hm, -, -⟩ := hI
    have HE := hide (fun w => encode_many ao xs.length cap w h1 hm)
    rw [if_pos h1]
    clear h h1 hm
    go_enter Tryz.func32, Tryz.ntmps32
    go_wp2_with fail
    refine (unhide HE _).mono ?_
    rintro e w1 ⟨rfl, hw⟩
    replace hw := hw.symm
    subst hw
    go_wp2_with fail
    go_ret3
    exact ⟨rfl, Below.refl _ _⟩
  · have h2 : xs.all M.sclr = false := by rcases h with h | h; exact absurd h h1; exact h
    have HE := hide (encode_any w hI (by omega))
    rw [encRes_no h2] at HE
    rw [if_neg h1]
    obtain ⟨ao, cap, rfl, hm, -, -⟩ := hI
    clear h h1 h2 hm
    go_enter Tryz.func32, Tryz.ntmps32
    go_wp2_with fail
    refine (unhide HE).mono ?_
    rintro e w1 ⟨hb1, rfl⟩
    have HB1 := hide hb1
    clear hb1
    go_wp2_with fail
    go_ret3
    exact ⟨rfl, unhide HB1⟩

set_option maxHeartbeats 1600000 in
set_option maxRecDepth 100000 in
theorem ctSays : CtSays := by
  intro v xs w hI hl hs
  have HE := hide (encode_any w hI hl)
  rw [encRes_yes hs] at HE
  have HI := hide hI
  obtain ⟨ao, cap, rfl, hm, -, -⟩ := hI
  generalize strOfNums (M.enc xs) = T at *
  clear hs hm
  go_enter Tryz.func32, Tryz.ntmps32
  go_wp2_with fail
  refine (unhide HE).mono ?_
  rintro e w1 ⟨hb1, rfl⟩
  have I1 := hide ((unhide HI).below hb1)
  have HB1 := hide hb1
  clear hb1 HE HI
  go_wp2_with fail
  go_loopw [7, 8, 21] (fun kv hv' iv wr => ∃ k : Nat, k ≤ xs.length ∧ iv = .int .i64 k ∧ kv = .int .i64 (cntB (xs.take k) : Int) ∧ hv' = .int .i64 (cntF (xs.take k) : Int) ∧ wr = w1) (fun _ _ iv _ => xs.length - (intOf iv).toNat)
  case atStart => exact ⟨0, by omega, rfl, by simp [cntB], by simp [cntF], rfl⟩
  case round =>
    obtain ⟨k, hk, rfl, rfl, rfl, hwr⟩ := hrel
    replace hwr := hwr.symm
    subst hwr
    by_cases hlt : k < xs.length
    · obtain ⟨b, off, rfl, hcell⟩ := ints_at (unhide I1) (by omega)
      have hc := hcell k hlt
      have HC := hide (cnt_take hlt)
      have hb1 := cntB_le (xs.take k)
      have hb2 := cntF_le (xs.take k)
      have hb3 := List.length_take_le k xs
      have hbt := World.block_lt_of_cell? w1 _ hc
      clear hcell
      generalize xs.getD k 0 = c at *
      have hltI : (k : Int) < (xs.length : Int) := by omega
      by_cases h65 : c = 65533
      · subst h65
        rw [if_pos rfl, if_pos (by decide)] at HC
        go_wp2_with fail
        go_roundw
        case rel => exact ⟨k + 1, by omega, by go_num, by rw [(unhide HC).1]; go_num, by rw [(unhide HC).2]; go_num, by trivial⟩
        case measure => simp [intOf]; omega
      · have e65 : (c == 65533) = false := beq_eq_false_iff_ne.2 h65
        rw [if_neg h65] at HC
        by_cases h127 : 127 < c
        · rw [if_pos h127] at HC
          clear h65
          go_wp2_with fail
          go_roundw
          case rel => exact ⟨k + 1, by omega, by go_num, by rw [(unhide HC).1]; go_num, by rw [(unhide HC).2]; go_num, by trivial⟩
          case measure => simp [intOf]; omega
        · rw [if_neg h127] at HC
          clear h65
          go_wp2_with fail
          go_roundw
          case rel => exact ⟨k + 1, by omega, by go_num, by rw [(unhide HC).1]; go_num, by rw [(unhide HC).2]; go_num, by trivial⟩
          case measure => simp [intOf]; omega
    · have ek : xs.take k = xs := List.take_of_length_le (by omega)
      rw [ek]
      go_wp2_with fail
      go_ret3
      exact ⟨rfl, unhide HB1⟩
end Go.Proofs.YtaiinjfnkmidbaaGreatDoor

namespace Go.Proofs.YtaiinjfnkmidbaaGreatDoor
open Go.RowKit
set_option linter.unusedVariables false

/-- A list of integers whose cells lie at base or above it and may be written. -/
def Mine (base : Nat) (w : World) (v : Value) (n : Nat) : Prop :=
  n ≤ maxLen ∧ ((∃ ao cap, v = .slice ao 0 cap ∧ n = 0) ∨ ∃ g cap, v = .slice (some ⟨g, 0, none⟩) n cap ∧ base ≤ g ∧ ∀ i, i < n → (∃ x, w.cell? ⟨g, i, none⟩ = some (.int .i64 x)) ∧ w.frozen? ⟨g, i, none⟩ = false)
theorem Mine.of_owns {w : World} {base : Nat} {v : Value} {xs : List Int} (h : w.ownsRow base 3 1 v xs.length (xs.map (Value.int .i64))) : Mine base w v xs.length := by
  rcases h.2 with ⟨rfl, hn⟩ | ⟨g, cap, cur, rfl, hg, hh, h1, h2, _⟩
  · exact ⟨by rw [hn]; simp, .inl ⟨none, 0, rfl, hn⟩⟩
  · refine ⟨by omega, .inr ⟨g, cap, rfl, hg, fun i hi => ⟨⟨xs.getD i 0, ?_⟩, ?_⟩⟩⟩
    · have := h.cells (g := g) rfl i (.int .i64 (xs.getD i 0)) (by simp [hi])
      by_cases h0 : i = 0
      · subst h0; simpa [Addr.add] using this
      · simpa [Addr.add, h0] using this
    · simp [World.frozen?, hh]
theorem Mine.nil {w : World} {v : Value} (base : Nat) (h : Ints w v []) : Mine base w v 0 := by
  obtain ⟨ao, cap, rfl, -⟩ := h
  exact ⟨by simp, .inl ⟨ao, cap, rfl, rfl⟩⟩
theorem Mine.below {w w' : World} {base : Nat} {v : Value} {n : Nat} (h : Mine base w v n) (hb : Below w.heap.size w w') : Mine base w' v n := by
  obtain ⟨hm, h⟩ := h
  refine ⟨hm, ?_⟩
  rcases h with h | ⟨g, cap, rfl, hg, hc⟩
  · exact .inl h
  · refine .inr ⟨g, cap, rfl, hg, fun i hi => ?_⟩
    obtain ⟨⟨x, hx⟩, hf⟩ := hc i hi
    have hl := World.block_lt_of_cell? w _ hx
    exact ⟨⟨x, (hb.cell hl).trans hx⟩, (hb.frozen hl).trans hf⟩

end Go.Proofs.YtaiinjfnkmidbaaGreatDoor

namespace Go.Proofs.YtaiinjfnkmidbaaGreatDoor
open Go.RowKit
set_option linter.unusedVariables false

set_option maxHeartbeats 1000000 in
set_option maxRecDepth 100000 in
theorem feed_err (e : Int) (r : ByteArray) (t : M.St) (p : ByteArray) (last : Bool) (w : World) (hm : r.size ≤ maxLen) (hq : (chk e r t != 0) = true) :
    Calls Tryz.prog 46 #[sv e r t, .string p, .bool last] w fun e' w' => e' = .returned (.tuple #[.slice none 0 0, sv 0 ⟨#[]⟩ M.st0, .int .i64 (chk e r t)]) ∧ Below w.heap.size w w' := by
  have HC := fun w => check_any e r t w hm
  obtain ⟨q, HQ⟩ : ∃ q, Hid (chk e r t = q) := ⟨_, hide rfl⟩
  rw [unhide HQ] at HC hq
  rw [unhide HQ]
  unfold sv at *
  go_enter Tryz.func46, Tryz.ntmps46
  go_wp2_with fail
  refine (HC _).mono ?_
  rintro e' w1 ⟨rfl, hb1⟩
  have hR : Rc (w.heap.size + 1) w1 := Rc.below (w := (w.alloc (.cells #[.int .i64 e, .string r, .int .i64 t.1, .bool t.2.1, .bool t.2.2] 23)).alloc (.cells #[.int .i64 0, .string ⟨#[]⟩, .int .i64 0, .bool false, .bool false] 23)) (by constructor <;> simp [go_sem]) hb1 (by simp)
  have HB := hide (bstep (bstep (balloc _ _) (balloc _ _)) hb1)
  obtain ⟨b0, b1, b2, b3, b4, g0, g1, g2, g3, g4⟩ := hR
  have hlt : w.heap.size + 1 < w1.heap.size := World.block_lt_of_cell? w1 _ b0
  clear hb1 HC
  go_wp2_with fail
  refine bodyPost_ret (v := .tuple #[.slice none 0 0, .agg #[.int .i64 0, .string ⟨#[]⟩, .int .i64 M.st0.1, .bool M.st0.2.1, .bool M.st0.2.2], .int .i64 q]) (by simp [results, Tryz.results46, go_sem, b0, b1, b2, b3, b4, M.st0]) rfl ⟨rfl, ?_⟩
  exact bset5 (e := 0) (r := ⟨#[]⟩) (t := M.st0) (unhide HB) (by omega)
set_option maxHeartbeats 1000000 in
set_option maxRecDepth 100000 in
theorem feed_long (e : Int) (r : ByteArray) (t : M.St) (p : ByteArray) (last : Bool) (w : World) (hm : r.size ≤ maxLen) (hq : chk e r t = 0) (hp : 3000 < p.size) (hpm : p.size ≤ maxLen) :
    Calls Tryz.prog 46 #[sv e r t, .string p, .bool last] w fun e' w' => e' = .returned (.tuple #[.slice none 0 0, sv 0 ⟨#[]⟩ M.st0, .int .i64 2]) ∧ Below w.heap.size w w' := by
  have HC := fun w => check_any e r t w hm
  rw [hq] at HC
  clear hq
  unfold maxLen at hpm
  have hpI : (3000 : Int) < (p.size : Int) := by omega
  unfold sv at *
  go_enter Tryz.func46, Tryz.ntmps46
  go_wp2_with fail
  refine (HC _).mono ?_
  rintro e' w1 ⟨rfl, hb1⟩
  have hR : Rc (w.heap.size + 1) w1 := Rc.below (w := (w.alloc (.cells #[.int .i64 e, .string r, .int .i64 t.1, .bool t.2.1, .bool t.2.2] 23)).alloc (.cells #[.int .i64 0, .string ⟨#[]⟩, .int .i64 0, .bool false, .bool false] 23)) (by constructor <;> simp [go_sem]) hb1 (by simp)
  have HB := hide (bstep (bstep (balloc _ _) (balloc _ _)) hb1)
  obtain ⟨b0, b1, b2, b3, b4, g0, g1, g2, g3, g4⟩ := hR
  have hlt : w.heap.size + 1 < w1.heap.size := World.block_lt_of_cell? w1 _ b0
  clear hb1 HC
  go_wp2_with fail
  refine bodyPost_ret (v := .tuple #[.slice none 0 0, .agg #[.int .i64 0, .string ⟨#[]⟩, .int .i64 M.st0.1, .bool M.st0.2.1, .bool M.st0.2.2], .int .i64 2]) (by simp [results, Tryz.results46, go_sem, b0, b1, b2, b3, b4, M.st0]) rfl ⟨rfl, ?_⟩
  exact bset5 (e := 0) (r := ⟨#[]⟩) (t := M.st0) (unhide HB) (by omega)
end Go.Proofs.YtaiinjfnkmidbaaGreatDoor

namespace Go.Proofs.YtaiinjfnkmidbaaGreatDoor
open Go.RowKit
set_option linter.unusedVariables false

set_option maxHeartbeats 400000 in
set_option maxRecDepth 100000 in
theorem digits_lo (n : Nat) (w : World) (h : n < 10) : Calls Tryz.prog 84 #[.int .i64 (n : Int)] w fun e w' => e = .returned (.string (strOfNums (M.digs n))) ∧ Below w.heap.size w w' := by
  rw [M.digs_lo h]
  have hcv := conv_built (w := w.alloc (.cells #[.int .u8 (48 + (n : Int))] 5)) (b := w.heap.size) [48 + (n : Int)] 1 1 rfl (heap_alloc_new _ _)
  generalize strOfNums [48 + (n : Int)] = t at *
  go_enter Tryz.func84, Tryz.ntmps84
  go_wp2
  go_ret
  exact ⟨rfl, balloc _ _⟩

set_option maxHeartbeats 400000 in
set_option maxRecDepth 100000 in
theorem digits_any : ∀ (k n : Nat) (w : World), k ≤ 6 → n < 10 ^ (k + 1) → Calls Tryz.prog 84 #[.int .i64 (n : Int)] w fun e w' => e = .returned (.string (strOfNums (M.digs n))) ∧ Below w.heap.size w w' := by
  intro k
  induction k with
  | zero => intro n w hk hn; exact digits_lo n w (by simpa using hn)
  | succ k ih =>
    intro n w hk hn
    by_cases h : n < 10
    · exact digits_lo n w h
    · have hn7 : n < 10000000 := by
        have : (10 : Nat) ^ (k + 1 + 1) ≤ 10 ^ 7 := Nat.pow_le_pow_right (by omega) (by omega)
        have e : (10 : Nat) ^ 7 = 10000000 := rfl
        omega
      have hn1 : n / 10 < 10 ^ (k + 1) := by rw [Nat.pow_succ] at hn; omega
      have h1 := hide (fun w => ih (n / 10) w (by omega) hn1)
      have h2 := hide (fun w => digits_lo (n % 10) w (by omega))
      have hz1 : (strOfNums (M.digs (n / 10))).size ≤ 19 := by rw [strOfNums_size]; have := M.digs_len (k + 1) (n / 10) (by omega) hn1; omega
      have hz2 : (strOfNums (M.digs (n % 10))).size ≤ 1 := by rw [strOfNums_size]; exact M.digs_len 1 (n % 10) (by omega) (by simp; omega)
      have HE : Hid (strOfNums (M.digs n) = strOfNums (M.digs (n / 10)) ++ strOfNums (M.digs (n % 10))) := hide (by rw [M.digs_hi h, str_app, M.digs_lo (n := n % 10) (by omega)])
      rw [unhide HE]
      rw [show ((n / 10 : Nat) : Int) = (n : Int) / 10 from by omega] at h1
      rw [show ((n % 10 : Nat) : Int) = (n : Int) % 10 from by omega] at h2
      clear HE ih hn hn1 hk
      generalize strOfNums (M.digs (n / 10)) = t1 at *
      generalize strOfNums (M.digs (n % 10)) = t2 at *
      go_enter Tryz.func84, Tryz.ntmps84
      go_wp2_with fail
      refine (unhide h1 _).mono ?_
      rintro e w1 ⟨rfl, hb1⟩
      have HB1 := hide hb1
      clear hb1 h1
      go_wp2_with fail
      refine (unhide h2 _).mono ?_
      rintro e w2 ⟨rfl, hb2⟩
      have HB2 := hide (bstep (unhide HB1) hb2)
      clear hb2 h2
      go_wp2_with fail
      go_ret
      exact ⟨rfl, unhide HB2⟩
theorem digits_pt {p : Int} (h : M.sclr p = true) (w : World) : Calls Tryz.prog 84 #[.int .i64 p] w fun e w' => e = .returned (.string (strOfNums (M.digs p.toNat))) ∧ Below w.heap.size w w' := by
  have hb := M.sclr_bd h
  have := digits_any 6 p.toNat w (by omega) (by have : (10 : Nat) ^ (6 + 1) = 10000000 := rfl; omega)
  rwa [Int.toNat_of_nonneg hb.1] at this

set_option maxHeartbeats 400000 in
set_option maxRecDepth 100000 in
theorem outputOf_any (n : Int) (w : World) : Calls Tryz.prog 37 #[.int .i64 n] w fun e w' => e = .returned (.int .i64 (M.outE n)) ∧ w' = w := by
  by_cases h2 : n = 2
  · subst h2
    go_enter Tryz.func37, Tryz.ntmps37
    go_wp2
    go_ret
    exact ⟨rfl, rfl⟩
  · by_cases h3 : n = 3
    · subst h3
      go_enter Tryz.func37, Tryz.ntmps37
      go_wp2
      go_ret
      exact ⟨rfl, rfl⟩
    · by_cases h7 : n = 7
      · subst h7
        go_enter Tryz.func37, Tryz.ntmps37
        go_wp2
        go_ret
        exact ⟨rfl, rfl⟩
      · have e2 : (n == 2) = false := by simpa using h2
        have e3 : (n == 3) = false := by simpa using h3
        have e7 : (n == 7) = false := by simpa using h7
        have HE : Hid (M.outE n = n) := hide (by unfold M.outE; rw [if_neg (by omega)])
        rw [unhide HE]
        clear h2 h3 h7
        go_enter Tryz.func37, Tryz.ntmps37
        go_wp2
        go_ret
        exact ⟨rfl, rfl⟩
end Go.Proofs.YtaiinjfnkmidbaaGreatDoor

namespace Go.Proofs.YtaiinjfnkmidbaaGreatDoor
open Go.RowKit
set_option linter.unusedVariables false

set_option maxHeartbeats 400000 in
set_option maxRecDepth 100000 in
theorem low_any (n : Int) (w : World) (h : 0 ≤ n) (h' : n < 4294967296) : Calls Tryz.prog 193 #[.int .i64 n] w fun e w' => e = .returned (.int .u8 (128 + n % 64)) ∧ w' = w := by
  go_enter Tryz.func193, Tryz.ntmps193
  go_wp2
  go_ret
  exact ⟨ret_int (by omega), rfl⟩

set_option maxHeartbeats 400000 in
set_option maxRecDepth 100000 in
theorem row_1 (n : Int) (w : World) (h : 0 ≤ n) (h' : n < 128) : Calls Tryz.prog 140 #[.int .i64 n] w fun e w' => e = .returned (.string (strOfNums (M.enc1 n))) ∧ Below w.heap.size w w' := by
  rw [M.enc1_1 h']
  have hcv := conv_built (w := w.alloc (.cells #[.int .u8 (n)] 5)) (b := w.heap.size) [n] 1 1 rfl (heap_alloc_new _ _)
  generalize strOfNums [n] = t at *
  go_enter Tryz.func140, Tryz.ntmps140
  go_wp2_with (go_at_call 193; refine (low_any _ _ (by omega) (by omega)).mono ?_; rintro e w1 ⟨rfl, hw⟩; replace hw := hw.symm; subst hw)
  go_ret
  exact ⟨rfl, balloc _ _⟩
set_option maxHeartbeats 400000 in
set_option maxRecDepth 100000 in
theorem row_2 (n : Int) (w : World) (h : 128 ≤ n) (h' : n < 2048) : Calls Tryz.prog 140 #[.int .i64 n] w fun e w' => e = .returned (.string (strOfNums (M.enc1 n))) ∧ Below w.heap.size w w' := by
  rw [M.enc1_2 h h']
  have hcv := conv_built (w := w.alloc (.cells #[.int .u8 (192 + n / 64), .int .u8 (128 + n % 64)] 5)) (b := w.heap.size) [192 + n / 64, 128 + n % 64] 2 2 rfl (heap_alloc_new _ _)
  generalize strOfNums [192 + n / 64, 128 + n % 64] = t at *
  go_enter Tryz.func140, Tryz.ntmps140
  go_wp2_with (go_at_call 193; refine (low_any _ _ (by omega) (by omega)).mono ?_; rintro e w1 ⟨rfl, hw⟩; replace hw := hw.symm; subst hw)
  go_ret
  exact ⟨rfl, balloc _ _⟩
set_option maxHeartbeats 400000 in
set_option maxRecDepth 100000 in
theorem row_3 (n : Int) (w : World) (h : 2048 ≤ n) (h' : n < 65536) : Calls Tryz.prog 140 #[.int .i64 n] w fun e w' => e = .returned (.string (strOfNums (M.enc1 n))) ∧ Below w.heap.size w w' := by
  rw [M.enc1_3 h h']
  have hcv := conv_built (w := w.alloc (.cells #[.int .u8 (224 + n / 4096), .int .u8 (128 + n / 64 % 64), .int .u8 (128 + n % 64)] 5)) (b := w.heap.size) [224 + n / 4096, 128 + n / 64 % 64, 128 + n % 64] 3 3 rfl (heap_alloc_new _ _)
  generalize strOfNums [224 + n / 4096, 128 + n / 64 % 64, 128 + n % 64] = t at *
  go_enter Tryz.func140, Tryz.ntmps140
  go_wp2_with (go_at_call 193; refine (low_any _ _ (by omega) (by omega)).mono ?_; rintro e w1 ⟨rfl, hw⟩; replace hw := hw.symm; subst hw)
  go_ret
  exact ⟨rfl, balloc _ _⟩
set_option maxHeartbeats 400000 in
set_option maxRecDepth 100000 in
theorem row_4 (n : Int) (w : World) (h : 65536 ≤ n) (h' : n ≤ 1114111) : Calls Tryz.prog 140 #[.int .i64 n] w fun e w' => e = .returned (.string (strOfNums (M.enc1 n))) ∧ Below w.heap.size w w' := by
  rw [M.enc1_4 h]
  have hcv := conv_built (w := w.alloc (.cells #[.int .u8 (240 + n / 262144), .int .u8 (128 + n / 4096 % 64), .int .u8 (128 + n / 64 % 64), .int .u8 (128 + n % 64)] 5)) (b := w.heap.size) [240 + n / 262144, 128 + n / 4096 % 64, 128 + n / 64 % 64, 128 + n % 64] 4 4 rfl (heap_alloc_new _ _)
  generalize strOfNums [240 + n / 262144, 128 + n / 4096 % 64, 128 + n / 64 % 64, 128 + n % 64] = t at *
  go_enter Tryz.func140, Tryz.ntmps140
  go_wp2_with (go_at_call 193; refine (low_any _ _ (by omega) (by omega)).mono ?_; rintro e w1 ⟨rfl, hw⟩; replace hw := hw.symm; subst hw)
  go_ret
  exact ⟨rfl, balloc _ _⟩

theorem row_any (n : Int) (w : World) (h : M.sclr n = true) : Calls Tryz.prog 140 #[.int .i64 n] w fun e w' => e = .returned (.string (strOfNums (M.enc1 n))) ∧ Below w.heap.size w w' := by
  have h' := (M.sclr_iff n).1 h
  rcases (show n < 128 ∨ (128 ≤ n ∧ n < 2048) ∨ (2048 ≤ n ∧ n < 65536) ∨ 65536 ≤ n from by omega) with g | ⟨g, g'⟩ | ⟨g, g'⟩ | g
  · exact row_1 n w h'.1 g
  · exact row_2 n w g g'
  · exact row_3 n w g g'
  · exact row_4 n w g h'.2.1

set_option maxHeartbeats 400000 in
set_option maxRecDepth 100000 in
theorem encRef_none (ao : Option Addr) (cap : Nat) (w : World) : Calls Tryz.prog 85 #[.slice ao 0 cap] w fun e w' => e = .returned (.string ⟨#[]⟩) ∧ w' = w := by
  go_enter Tryz.func85, Tryz.ntmps85
  go_wp2
  refine wp_loop_rounds 1 ?_
  rw [rounds_succ]
  go_wp2
  go_ret
  exact ⟨rfl, rfl⟩

set_option maxHeartbeats 400000 in
set_option maxRecDepth 100000 in
theorem encRef_some (b off cap : Nat) (xs : List Int) (w : World) (h0 : xs ≠ []) (h : xs.length ≤ 3000) (ha : xs.all M.sclr = true) (hc : ∀ i, i < xs.length → w.cell? ⟨b, off + i, none⟩ = some (.int .i64 (xs.getD i 0))) :
    Calls Tryz.prog 85 #[.slice (some ⟨b, off, none⟩) xs.length cap] w fun e w' => e = .returned (.string (strOfNums (M.enc xs))) ∧ Below w.heap.size w w' := by
  have hlen : 0 < xs.length := List.length_pos_iff.2 h0
  have hbl : b < w.heap.size := World.block_lt_of_cell? w _ (hc 0 hlen)
  have HC := hide hc
  have HA := hide ha
  clear hc h0 ha
  go_enter Tryz.func85, Tryz.ntmps85
  go_wp2_with fail
  go_loopw [3, 4] (fun sv i wr => ∃ k : Nat, k ≤ xs.length ∧ i = .int .i64 k ∧ sv = .string (strOfNums (M.enc (xs.take k))) ∧ Below w.heap.size w wr) (fun _ i _ => xs.length - (intOf i).toNat)
  case atStart => exact ⟨0, by omega, rfl, rfl, Below.refl _ _⟩
  case round =>
    obtain ⟨k, hk, rfl, rfl, hbw⟩ := hrel
    by_cases hlt : k < xs.length
    · have hcell : wr.cell? ⟨b, off + k, none⟩ = some (.int .i64 (xs.getD k 0)) := (hbw.cell (p := ⟨b, off + k, none⟩) hbl).trans (unhide HC k hlt)
      obtain ⟨p, HP⟩ : ∃ p, Hid (xs.getD k 0 = p) := ⟨_, rfl⟩
      rw [unhide HP] at hcell
      have hs : M.sclr p = true := by rw [← unhide HP]; exact List.all_eq_true.1 (unhide HA) _ (by simp [hlt])
      have HT : Hid (strOfNums (M.enc (xs.take k)) ++ strOfNums (M.enc1 p) = strOfNums (M.enc (xs.take (k + 1)))) := by
        show _ = _
        rw [str_app, take_snoc xs k hlt, M.enc_snoc, unhide HP]
      have hsz1 : (strOfNums (M.enc (xs.take k))).size ≤ 12000 := by
        rw [strOfNums_size]; have := M.enc_len (xs.take k); have := List.length_take_le k xs; omega
      have hsz2 : (strOfNums (M.enc1 p)).size ≤ 4 := by rw [strOfNums_size]; exact (M.enc1_len p).2
      have HR := hide (fun w => row_any p w hs)
      clear hs
      generalize strOfNums (M.enc (xs.take k)) = t1 at *
      generalize strOfNums (M.enc1 p) = t2 at *
      go_wp2_with fail
      refine (unhide HR _).mono ?_
      rintro e w2 ⟨rfl, hb2⟩
      have HB := hide (hbw.trans (hb2.mono hbw.size))
      clear hbw hb2 HR
      go_wp2_with fail
      go_roundw
      case rel => exact ⟨k + 1, by omega, by go_num, by rw [← unhide HT], unhide HB⟩
      case measure => simp [intOf]; omega
    · have ek : k = xs.length := by omega
      subst ek
      rw [List.take_length]
      go_wp2_with fail
      go_ret
      exact ⟨rfl, hbw⟩

theorem encRef_any {v : Value} {xs : List Int} (w : World) (hx : Ints w v xs) (h : xs.length ≤ 3000) (ha : xs.all M.sclr = true) :
    Calls Tryz.prog 85 #[v] w fun e w' => e = .returned (.string (strOfNums (M.enc xs))) ∧ Below w.heap.size w w' := by
  obtain ⟨ao, cap, rfl, hm, -, hx⟩ := hx
  by_cases h0 : xs = []
  · subst h0
    refine (encRef_none ao cap w).mono ?_
    rintro e w' ⟨rfl, rfl⟩
    exact ⟨rfl, Below.refl _ _⟩
  · rcases hx with hx | ⟨b, off, rfl, hc⟩
    · exact absurd hx h0
    · exact encRef_some b off cap xs w h0 h ha hc
end Go.Proofs.YtaiinjfnkmidbaaGreatDoor

namespace Go.Proofs.YtaiinjfnkmidbaaGreatDoor
open Go.RowKit
set_option linter.unusedVariables false

theorem convB (w0 : World) (x : Int) (B : Nat) (hB : w0.heap.size = B) :
    (convert 151 9 (.slice (some ⟨B, 0, none⟩) 1 1)).run Tryz.prog (w0.alloc (.cells #[.int .u8 x] 5)) = .ok (.string (strOfNums [x])) (w0.alloc (.cells #[.int .u8 x] 5)) := by
  subst hB
  exact conv_built [x] 1 1 rfl (heap_alloc_new _ _)
/-- What a round of EncodeKana's loop knows. -/
def InR (xs : List Int) (w wr : World) (k : Nat) (t : ByteArray) : Prop := bl t = M.kbody 0 (xs.take k) ∧ Below w.heap.size w wr ∧ (xs.take k).all M.anyK = true
/-- The first signs that have a code point, where those that are now have it not. -/
theorem want_first {now n : Int} (hn : M.Sg now) (ha : M.anyK n = true) (h : M.hasK now n = false) : ∃ x : Nat, M.want now n = x ∧ x < 3 ∧ (∀ j : Nat, j < x → M.hasK (j : Int) n = false) ∧ M.hasK (x : Int) n = true ∧ (x : Int) ≠ now := by
  have hw := M.want_has (now := now) ha
  have hne : M.want now n ≠ now := fun e => by rw [e, h] at hw; cases hw
  unfold M.want at *
  rw [if_neg (by simp [h])] at *
  by_cases h0 : M.hasK 0 n = true
  · rw [if_pos h0] at *
    exact ⟨0, rfl, by omega, fun j hj => by omega, h0, hne⟩
  · rw [if_neg h0] at *
    by_cases h1 : M.hasK 1 n = true
    · rw [if_pos h1] at *
      refine ⟨1, rfl, by omega, fun j hj => ?_, h1, hne⟩
      have : j = 0 := by omega
      subst this; exact Bool.eq_false_iff.2 h0
    · rw [if_neg h1] at *
      refine ⟨2, rfl, by omega, fun j hj => ?_, hw, hne⟩
      obtain rfl | rfl : j = 0 ∨ j = 1 := by omega
      · exact Bool.eq_false_iff.2 h0
      · exact Bool.eq_false_iff.2 h1
theorem esc_cutR {k : Nat} (h : k < 3) : bl ((⟨#[27, 40]⟩ : ByteArray) ++ (⟨#[66, 74, 73]⟩ : ByteArray).extract k (k + 1)) = [27, 40, M.esc (k : Int)] := by
  match k, h with
  | 0, _ => decide
  | 1, _ => decide
  | 2, _ => decide
theorem esc_szR {k : Nat} (h : k < 3) : ((⟨#[27, 40]⟩ : ByteArray) ++ (⟨#[66, 74, 73]⟩ : ByteArray).extract k (k + 1)).size = 3 := by
  match k, h with
  | 0, _ => decide
  | 1, _ => decide
  | 2, _ => decide
theorem nat_sg {x : Nat} (h : x < 3) : M.Sg (x : Int) := by unfold M.Sg; omega

set_option maxHeartbeats 2000000 in
set_option maxRecDepth 100000 in
theorem encodeKana_any (v : Value) (xs : List Int) (w : World) (hI : Ints w v xs) (hlen : xs.length ≤ 30000) :
    Calls Tryz.prog 87 #[v] w fun e w' => e = .returned (wrote xs) ∧ Below w.heap.size w w' := by
  obtain ⟨ao, cap, rfl, -, -, hc⟩ := hI
  have HC := hide hc
  have HI : Hid (InR xs w w 0 ByteArray.empty) := hide ⟨rfl, Below.refl _ _, by simp⟩
  clear hc
  go_enter Tryz.func87, Tryz.ntmps87
  go_wp2_with fail
  go_loopw [4, 5, 6] (fun sv now i wr => ∃ (k : Nat) (t : ByteArray), k ≤ xs.length ∧ i = .int .i64 k ∧ sv = .string t ∧ now = .int .i64 (M.kst 0 (xs.take k)) ∧ InR xs w wr k t) (fun _ _ i _ => xs.length - (intOf i).toNat)
  case atStart => exact ⟨0, ByteArray.empty, by omega, rfl, rfl, rfl, unhide HI⟩
  case round =>
    obtain ⟨k, t, hk, rfl, rfl, rfl, hT, hB, hA⟩ := hrel
    clear HI
    have hnow := M.kst_sg (xs.take k) (now := 0) (.inl rfl)
    have htz : t.size ≤ 120000 := by rw [← bl_len, hT]; have := M.kbody_len (xs.take k) 0; rw [List.length_take] at this; omega
    have HT := hide hT
    have HBR := hide hB
    have HA := hide hA
    obtain ⟨now, HNow⟩ : ∃ now, Hid (M.kst 0 (xs.take k) = now) := ⟨_, hide rfl⟩
    rw [unhide HNow] at hnow
    rw [unhide HNow]
    clear hT hB hA
    by_cases hlt : k < xs.length
    · obtain ⟨b, off, rfl, hc⟩ : ∃ b off, ao = some ⟨b, off, none⟩ ∧ ∀ i, i < xs.length → w.cell? ⟨b, off + i, none⟩ = some (.int .i64 (xs.getD i 0)) := by
        rcases unhide HC with h | h
        · subst h; simp at hlt
        · exact h
      have hcell : wr.cell? ⟨b, off + k, none⟩ = some (.int .i64 (xs.getD k 0)) := ((unhide HBR).cell (p := ⟨b, off + k, none⟩) (World.block_lt_of_cell? w _ (hc k hlt))).trans (hc k hlt)
      have hbr : b < wr.heap.size := World.block_lt_of_cell? wr _ hcell
      obtain ⟨p, HP⟩ : ∃ p, Hid (xs.getD k 0 = p) := ⟨_, hide rfl⟩
      rw [unhide HP] at hcell
      clear hc
      have hhk := fun w => hasKana_any p w
      cases hq : M.anyK p
      · rw [hq] at hhk
        have HW : Hid (wrote xs = .tuple #[.string ByteArray.empty, .bool false]) := hide (by unfold wrote; rw [all_no hlt (unhide HP) hq]; rfl)
        clear hq
        go_wp2_with fail
        refine (hhk _).mono ?_
        rintro e w1 ⟨rfl, hw⟩
        replace hw := hw.symm
        subst hw
        clear hhk
        go_wp2_with fail
        go_ret2
        refine ⟨?_, unhide HBR⟩
        rw [unhide HW]; rfl
      · rw [hq] at hhk
        have HE1 : Hid (xs.take (k + 1) = xs.take k ++ [p]) := hide (take_getD hlt (unhide HP))
        have HK1 : Hid (M.kst 0 (xs.take (k + 1)) = M.want now p) := hide (by rw [unhide HE1, M.kst_snoc, unhide HNow])
        have HA1 : Hid ((xs.take (k + 1)).all M.anyK = true) := hide (by rw [unhide HE1, List.all_append, unhide HA]; simp [hq])
        have HN1 : Hid (M.kbody 0 (xs.take (k + 1)) = M.kbody 0 (xs.take k) ++ M.kpc now p) := hide (by rw [unhide HE1, M.kbody_snoc, unhide HNow])
        have kb := fun w => kanaByte_any now p hnow w
        have hcv := fun c => convB wr c wr.heap.size rfl
        cases hh : M.hasK now p
        · obtain ⟨x, hx1, hx3, hx4, hx5, hx6⟩ := want_first hnow hq hh
          rw [kbv_no hh] at kb
          obtain ⟨y1, y2, y3⟩ := kbv_yes hx5
          rw [hx1] at HK1
          have HP1 : Hid (M.kpc now p = [27, 40, M.esc (x : Int)] ++ [kbv (x : Int) p]) := hide (by unfold M.kpc; rw [hx1, if_neg hx6, y1])
          obtain ⟨c, HCq⟩ : ∃ c, Hid (kbv (x : Int) p = c) := ⟨_, hide rfl⟩
          have kx := fun w => kanaByte_any (x : Int) p (nat_sg hx3) w
          rw [unhide HCq] at y2 y3 HP1 kx
          have HX4 := hide hx4
          have hne : ((x : Int) != now) = true := by simpa using hx6
          have hcvc := hcv c
          have hbt : bl (strOfNums [c]) = [c] := bl_str _ (by intro q hq; simp at hq; omega)
          have hdz : (strOfNums [c]).size = 1 := by rw [strOfNums_size]; rfl
          clear hq hh hx1 hx4 hx5 hx6 y1 hcv
          go_wp2_with fail
          refine (hhk _).mono ?_
          rintro e w1 ⟨rfl, hw⟩
          replace hw := hw.symm
          subst hw
          clear hhk
          go_wp2_with fail
          refine (kb _).mono ?_
          rintro e w1 ⟨rfl, hw⟩
          replace hw := hw.symm
          subst hw
          clear kb
          go_wp2_with fail
          go_loop [7] (fun y => ∃ j : Nat, j ≤ x ∧ y = .int .i64 j) (fun y => 3 - (intOf y).toNat)
          case atStart => exact ⟨0, by omega, rfl⟩
          case round =>
            obtain ⟨j, hj, rfl⟩ := hrel
            by_cases hjx : j < x
            · have kj := fun w => kanaByte_any (j : Int) p (nat_sg (by omega)) w
              rw [kbv_no (unhide HX4 j hjx)] at kj
              go_wp2_with fail
              refine (kj _).mono ?_
              rintro e w1 ⟨rfl, hw⟩
              replace hw := hw.symm
              subst hw
              clear kj
              go_wp2_with fail
              go_round
              case rel => exact ⟨j + 1, by omega, by go_num⟩
              case measure => simp [intOf]; omega
            · obtain rfl : j = x := by omega
              have hz3 : (⟨#[66, 74, 73]⟩ : ByteArray).size = 3 := rfl
              have HT1 : Hid (∀ u, u = strOfNums [c] → bl (t ++ ((⟨#[27, 40]⟩ : ByteArray) ++ (⟨#[66, 74, 73]⟩ : ByteArray).extract j (j + 1)) ++ u) = M.kbody 0 (xs.take (k + 1))) := hide (fun u hu => by
                rw [hu, bl_app, bl_app, hbt, esc_cutR hx3, unhide HT, unhide HN1, unhide HP1, List.append_assoc])
              obtain rfl | rfl | rfl : j = 0 ∨ j = 1 ∨ j = 2 := by omega
              · have HJ : Hid (bl (t ++ ((⟨#[27, 40]⟩ : ByteArray) ++ (⟨#[66, 74, 73]⟩ : ByteArray).extract 0 1) ++ strOfNums [c]) = M.kbody 0 (xs.take (k + 1))) := hide (unhide HT1 _ rfl)
                have hesz : ((⟨#[27, 40]⟩ : ByteArray) ++ (⟨#[66, 74, 73]⟩ : ByteArray).extract 0 1).size = 3 := esc_szR hx3
                have kx' : ∀ w : World, Calls Tryz.prog 141 #[.int .i64 0, .int .i64 p] w fun e w' => e = .returned (.int .i64 c) ∧ w' = w := kx
                have hne' : ((0 : Int) != now) = true := hne
                have HK1' : Hid (M.kst 0 (xs.take (k + 1)) = 0) := HK1
                clear HT1 kx hne HK1 HX4 hbt
                generalize strOfNums [c] = d at *
                go_wp2_with fail
                refine (kx' _).mono ?_
                rintro e w1 ⟨rfl, hw⟩
                replace hw := hw.symm
                subst hw
                go_wp2_with fail
                refine (kx' _).mono ?_
                rintro e w1 ⟨rfl, hw⟩
                replace hw := hw.symm
                subst hw
                go_wp2_with fail
                go_roundw
                case rel => exact ⟨k + 1, _, by omega, by go_num, rfl, by rw [unhide HK1'], unhide HJ, (unhide HBR).alloc (unhide HBR).size _, unhide HA1⟩
                case measure => simp [intOf]; omega
              · have HJ : Hid (bl (t ++ ((⟨#[27, 40]⟩ : ByteArray) ++ (⟨#[66, 74, 73]⟩ : ByteArray).extract 1 2) ++ strOfNums [c]) = M.kbody 0 (xs.take (k + 1))) := hide (unhide HT1 _ rfl)
                have hesz : ((⟨#[27, 40]⟩ : ByteArray) ++ (⟨#[66, 74, 73]⟩ : ByteArray).extract 1 2).size = 3 := esc_szR hx3
                have kx' : ∀ w : World, Calls Tryz.prog 141 #[.int .i64 1, .int .i64 p] w fun e w' => e = .returned (.int .i64 c) ∧ w' = w := kx
                have hne' : ((1 : Int) != now) = true := hne
                have HK1' : Hid (M.kst 0 (xs.take (k + 1)) = 1) := HK1
                clear HT1 kx hne HK1 HX4 hbt
                generalize strOfNums [c] = d at *
                go_wp2_with fail
                refine (kx' _).mono ?_
                rintro e w1 ⟨rfl, hw⟩
                replace hw := hw.symm
                subst hw
                go_wp2_with fail
                refine (kx' _).mono ?_
                rintro e w1 ⟨rfl, hw⟩
                replace hw := hw.symm
                subst hw
                go_wp2_with fail
                go_roundw
                case rel => exact ⟨k + 1, _, by omega, by go_num, rfl, by rw [unhide HK1'], unhide HJ, (unhide HBR).alloc (unhide HBR).size _, unhide HA1⟩
                case measure => simp [intOf]; omega
              · have HJ : Hid (bl (t ++ ((⟨#[27, 40]⟩ : ByteArray) ++ (⟨#[66, 74, 73]⟩ : ByteArray).extract 2 3) ++ strOfNums [c]) = M.kbody 0 (xs.take (k + 1))) := hide (unhide HT1 _ rfl)
                have hesz : ((⟨#[27, 40]⟩ : ByteArray) ++ (⟨#[66, 74, 73]⟩ : ByteArray).extract 2 3).size = 3 := esc_szR hx3
                have kx' : ∀ w : World, Calls Tryz.prog 141 #[.int .i64 2, .int .i64 p] w fun e w' => e = .returned (.int .i64 c) ∧ w' = w := kx
                have hne' : ((2 : Int) != now) = true := hne
                have HK1' : Hid (M.kst 0 (xs.take (k + 1)) = 2) := HK1
                clear HT1 kx hne HK1 HX4 hbt
                generalize strOfNums [c] = d at *
                go_wp2_with fail
                refine (kx' _).mono ?_
                rintro e w1 ⟨rfl, hw⟩
                replace hw := hw.symm
                subst hw
                go_wp2_with fail
                refine (kx' _).mono ?_
                rintro e w1 ⟨rfl, hw⟩
                replace hw := hw.symm
                subst hw
                go_wp2_with fail
                go_roundw
                case rel => exact ⟨k + 1, _, by omega, by go_num, rfl, by rw [unhide HK1'], unhide HJ, (unhide HBR).alloc (unhide HBR).size _, unhide HA1⟩
                case measure => simp [intOf]; omega
        · rw [(kbv_yes hh).1] at kb
          obtain ⟨y1, y2, y3⟩ := kbv_yes hh
          have hwn : M.want now p = now := by unfold M.want; rw [if_pos hh]
          rw [hwn] at HK1
          have HP1 : Hid (M.kpc now p = [M.kby now p]) := hide (by unfold M.kpc; rw [hwn, if_pos rfl]; rfl)
          obtain ⟨c, HCq⟩ : ∃ c, Hid (M.kby now p = c) := ⟨_, hide rfl⟩
          rw [y1] at y2 y3
          rw [unhide HCq] at y2 y3 HP1 kb
          have hcvc := hcv c
          have hbt : bl (strOfNums [c]) = [c] := bl_str _ (by intro q hq; simp at hq; omega)
          have hdz : (strOfNums [c]).size = 1 := by rw [strOfNums_size]; rfl
          have HJ : Hid (bl (t ++ strOfNums [c]) = M.kbody 0 (xs.take (k + 1))) := hide (by rw [bl_app, hbt, unhide HT, unhide HN1, unhide HP1])
          clear hq hh y1 hcv hwn hbt
          generalize strOfNums [c] = d at *
          go_wp2_with fail
          refine (hhk _).mono ?_
          rintro e w1 ⟨rfl, hw⟩
          replace hw := hw.symm
          subst hw
          clear hhk
          go_wp2_with fail
          refine (kb _).mono ?_
          rintro e w1 ⟨rfl, hw⟩
          replace hw := hw.symm
          subst hw
          go_wp2_with fail
          refine (kb _).mono ?_
          rintro e w1 ⟨rfl, hw⟩
          replace hw := hw.symm
          subst hw
          clear kb
          go_wp2_with fail
          go_roundw
          case rel => exact ⟨k + 1, _, by omega, by go_num, rfl, by rw [unhide HK1], unhide HJ, (unhide HBR).alloc (unhide HBR).size _, unhide HA1⟩
          case measure => simp [intOf]; omega
    · have et : xs.take k = xs := List.take_of_length_le (by omega)
      rw [et] at HNow HT HA
      have HW : Hid (wrote xs = .tuple #[.string (strOfNums (bl t ++ M.ktail now)), .bool true]) := hide (by unfold wrote; rw [unhide HA, if_pos rfl]; unfold M.kenc; rw [unhide HNow, unhide HT])
      by_cases hn0 : now = 0
      · subst hn0
        have HW2 : Hid (wrote xs = .tuple #[.string t, .bool true]) := hide (by rw [unhide HW, show M.ktail 0 = [] from rfl, List.append_nil, str_bl])
        clear HW
        go_wp2_with fail
        go_ret2
        refine ⟨?_, unhide HBR⟩
        rw [unhide HW2]; rfl
      · have hne : (now != 0) = true := by simpa using hn0
        have HW2 : Hid (wrote xs = .tuple #[.string (t ++ ⟨#[27, 40, 66]⟩), .bool true]) := hide (by
          rw [unhide HW, show M.ktail now = bl ⟨#[27, 40, 66]⟩ from by unfold M.ktail; rw [if_neg hn0]; rfl, ← bl_app, str_bl])
        clear HW
        go_wp2_with fail
        go_ret2
        refine ⟨?_, unhide HBR⟩
        rw [unhide HW2]; rfl
end Go.Proofs.YtaiinjfnkmidbaaGreatDoor

namespace Go.Proofs.YtaiinjfnkmidbaaGreatDoor
open Go.RowKit Go.Maps
set_option linter.unusedVariables false

/-- What ByteOf answers. -/
def bOf (user : Bool) (n : Int) : Int := if M.hasB user n then M.bof user n else -1
theorem bOf_yes {user : Bool} {n : Int} (h : M.hasB user n = true) : bOf user n = M.bof user n := by unfold bOf; rw [if_pos h]
theorem bOf_no {user : Bool} {n : Int} (h : M.hasB user n = false) : bOf user n = -1 := by unfold bOf; rw [if_neg (by simp [h])]

set_option maxHeartbeats 400000 in
set_option maxRecDepth 100000 in
theorem byteRef_any (user : Bool) (n : Int) (w : World) : Calls Tryz.prog 138 #[.bool user, .int .i64 n] w fun e w' => e = .returned (.int .i64 (bOf user n)) ∧ Below w.heap.size w w' := by
  go_enter Tryz.func138, Tryz.ntmps138
  go_wp2_with fail
  go_loopw [5] (fun i wr => ∃ k : Nat, k ≤ 256 ∧ i = .int .i64 k ∧ Hid (∀ j : Nat, j < k → M.pt user (j : Int) ≠ n) ∧ Hid (Below w.heap.size w wr)) (fun i _ => 256 - (intOf i).toNat)
  case atStart => exact ⟨0, by omega, rfl, hide (fun j hj => by omega), hide (Below.refl _ _)⟩
  case round =>
    obtain ⟨k, hk, rfl, HN, HB⟩ := hrel
    by_cases hlt : k < 256
    · have HR := hide (fun w => pointRef_any user k w hlt)
      obtain ⟨p, HP⟩ : ∃ p, Hid (M.pt user (k : Int) = p) := ⟨_, rfl⟩
      rw [unhide HP] at HR
      by_cases he : p = n
      · have heq : (p == n) = true := by simp [he]
        have HE : Hid (bOf user n = (k : Int)) := by
          refine hide ?_
          rw [← he, ← unhide HP, bOf_yes (M.hasB_pt user hlt), M.bof_pt user hlt]
        clear he
        go_wp2_with fail
        refine (unhide HR _).mono ?_
        rintro e w1 ⟨rfl, hb1⟩
        go_wp2_with fail
        go_ret
        exact ⟨ret_int (unhide HE).symm, bstep (unhide HB) hb1⟩
      · have heq : (p == n) = false := by simp [he]
        have HN' : Hid (∀ j : Nat, j < k + 1 → M.pt user (j : Int) ≠ n) := by
          refine hide fun j hj => ?_
          by_cases e : j = k
          · subst e; rw [unhide HP]; exact he
          · exact unhide HN j (by omega)
        clear he
        go_wp2_with fail
        refine (unhide HR _).mono ?_
        rintro e w1 ⟨rfl, hb1⟩
        have HB' := hide (bstep (unhide HB) hb1)
        clear hb1
        go_wp2_with fail
        go_roundw
        case rel => exact ⟨k + 1, by omega, by go_num, HN', HB'⟩
        case measure => simp [intOf]; omega
    · have HE : Hid (bOf user n = -1) := hide (bOf_no (M.hasB_no user n (fun j hj => unhide HN j (by omega))))
      go_wp2_with fail
      go_ret
      exact ⟨ret_int (unhide HE).symm, unhide HB⟩

/-- What EncodeSingle answers. -/
def refResS (user : Bool) (xs : List Int) : Value := if xs.all (M.hasB user) then .tuple #[.string (strOfNums (M.encS user xs)), .bool true] else .tuple #[.string ⟨#[]⟩, .bool false]
theorem refResS_yes {user : Bool} {xs : List Int} (h : xs.all (M.hasB user) = true) : refResS user xs = .tuple #[.string (strOfNums (M.encS user xs)), .bool true] := by unfold refResS; rw [if_pos h]
theorem refResS_no {user : Bool} {xs : List Int} (h : xs.all (M.hasB user) = false) : refResS user xs = .tuple #[.string ⟨#[]⟩, .bool false] := by unfold refResS; rw [if_neg (by simp [h])]

set_option maxHeartbeats 400000 in
set_option maxRecDepth 100000 in
theorem encRefS_any (user : Bool) {v : Value} {xs : List Int} (w : World) (hx : Ints w v xs) (h : xs.length ≤ 30000) :
    Calls Tryz.prog 86 #[.bool user, v] w fun e w' => e = .returned (refResS user xs) ∧ Below w.heap.size w w' := by
  obtain ⟨ao, cap, rfl, hm, -, hc⟩ := id hx
  obtain ⟨i0, hi, hz0, hz1, hz2⟩ := info_parts info5
  clear hx
  have HC := hide hc
  clear hc
  have HI : Hid (InTS user xs w w 0 (.slice none 0 0)) := hide ⟨World.ownsRow_nil _ _ _ _, Below.refl _ _, by simp⟩
  go_enter Tryz.func86, Tryz.ntmps86
  go_wp2_with fail
  go_loopw [6, 7] (fun v i wr => ∃ k : Nat, k ≤ xs.length ∧ i = .int .i64 k ∧ InTS user xs w wr k v) (fun _ i _ => xs.length - (intOf i).toNat)
  case atStart => exact ⟨0, by omega, rfl, unhide HI⟩
  case round =>
    obtain ⟨k, hk, rfl, hI⟩ := hrel
    clear HI
    have hz := hI.2.1.size
    have hl : Hid ((M.encS user (xs.take k)).length = k) := hide (by rw [M.encS_len, List.length_take]; omega)
    by_cases hlt : k < xs.length
    · obtain ⟨b, off, rfl, hc⟩ : ∃ b off, ao = some ⟨b, off, none⟩ ∧ ∀ i, i < xs.length → w.cell? ⟨b, off + i, none⟩ = some (.int .i64 (xs.getD i 0)) := by
        rcases unhide HC with h | h
        · subst h; simp at hlt
        · exact h
      have hcell : wr.cell? ⟨b, off + k, none⟩ = some (.int .i64 (xs.getD k 0)) := (hI.2.1.cell (p := ⟨b, off + k, none⟩) (World.block_lt_of_cell? w _ (hc k hlt))).trans (hc k hlt)
      have hbr : b < wr.heap.size := World.block_lt_of_cell? wr _ hcell
      obtain ⟨p, HP⟩ : ∃ p, Hid (xs.getD k 0 = p) := ⟨_, rfl⟩
      rw [unhide HP] at hcell
      obtain ⟨q, HQ⟩ : ∃ q, Hid (M.hasB user p = q) := ⟨_, rfl⟩
      obtain ⟨ao2, cap2, hsh⟩ := owns_shape hI.1
      subst hsh
      clear hc
      have HR := hide (fun w => byteRef_any user p w)
      cases q
      · rw [bOf_no (unhide HQ)] at HR
        go_wp2_with fail
        refine (unhide HR _).mono ?_
        rintro e w1 ⟨rfl, hb1⟩
        go_wp2_with fail
        go_ret2
        refine ⟨?_, bstep hI.2.1 hb1⟩
        have : xs.all (M.hasB user) = false := by
          rw [List.all_eq_false]
          refine ⟨xs.getD k 0, by simp [hlt], by rw [unhide HP, unhide HQ]; simp⟩
        rw [refResS_no this]; rfl
      · have hbd := M.bof_bd user (unhide HQ)
        rw [bOf_yes (unhide HQ)] at HR
        obtain ⟨B, HB⟩ : ∃ B, Hid (M.bof user p = B) := ⟨_, rfl⟩
        rw [unhide HB] at hbd HR
        go_wp2_with fail
        refine (unhide HR _).mono ?_
        rintro e w1 ⟨rfl, hb1⟩
        have hzz := hb1.size
        have hI' := owns_below hI.1 hb1
        go_wp2_with (at_builtin; refine wpList_append_own _ rfl (.tmp 23) (.tmp 26) 151 rfl w.heap.size 5 i0 (.int .u8 0) 1 1 Tryz.underlying151 hi hz0 hz1 hz2 rfl (by decide) _ _ _ rfl (hI'.alloc _) ⟨w1.heap.size, 0, none⟩ 1 1 [.int .u8 B] rfl rfl ?c1 ?c2 ?c3 ?c4 ?c5 ?_)
        case c1 =>
          intro j u hj
          match j, hj with
          | 0, hj => simp at hj; subst hj; simp [Addr.add]
        case c2 => intro u hu; simp at hu; subst hu; rfl
        case c3 => have := unhide hl; unfold maxLen; omega
        case c4 => have := unhide hl; omega
        case c5 => simp; omega
        intro v' w2 hown' hgrow _
        obtain ⟨ao', cap', rfl⟩ := owns_shape hown'
        have HJ : Hid (InTS user xs w w2 (k + 1) (.slice ao' ((M.encS user (xs.take k)).length + 1) cap')) := hide (hI.step hlt (unhide HP) (unhide HQ) (unhide HB) (by simpa using hown') ((hb1.mono hz).trans (((Below.refl _ _).alloc (by omega) _).grown hgrow (by simp; omega) (fun j hj => by have := hI'.lt j hj; omega))))
        clear hI hI' hown' hgrow hb1
        go_wp2_with fail
        go_roundw
        case rel => exact ⟨k + 1, by omega, by go_num, by simpa using unhide HJ⟩
        case measure => simp [intOf]; omega
    · have hcv := conv_owned hI.1
      obtain ⟨o1, o2, o3⟩ := hI
      have hb := hide o2
      have et : xs.take k = xs := List.take_of_length_le (by omega)
      rw [et] at hcv o1 o3
      obtain ⟨ao2, cap2, hsh⟩ := owns_shape o1
      subst hsh
      have HA := hide o3
      clear o1 o2 o3 et hl
      go_wp2_with fail
      go_ret2
      refine ⟨?_, unhide hb⟩
      rw [refResS_yes (unhide HA)]; rfl
end Go.Proofs.YtaiinjfnkmidbaaGreatDoor

namespace Go.Proofs.YtaiinjfnkmidbaaGreatDoor
open Go.RowKit
set_option linter.unusedVariables false

set_option maxHeartbeats 400000 in
set_option maxRecDepth 100000 in
theorem isEncodingF_any (n : Int) (w : World) : Calls Tryz.prog 82 #[.int .i64 n] w fun e w' => e = .returned (.bool (decide (1 ≤ n ∧ n ≤ 7))) ∧ w' = w := by
  rw [Bool.decide_and]
  go_enter Tryz.func82, Tryz.ntmps82
  go_wp2_with (go_at_call 51; refine (between_any _ _ _ _).mono ?_; rintro e w1 ⟨rfl, hw⟩; replace hw := hw.symm; subst hw)
  go_ret
  exact ⟨rfl, rfl⟩

theorem bOf_pos (user : Bool) (n : Int) : decide (0 ≤ bOf user n) = M.hasB user n := by
  cases h : M.hasB user n
  · rw [bOf_no h]; rfl
  · rw [bOf_yes h]; simp; exact (M.bof_bd user h).1
set_option maxHeartbeats 800000 in
set_option maxRecDepth 100000 in
theorem hasOf_any (n p : Int) (w : World) (hn : 1 ≤ n ∧ n ≤ 7) : Calls Tryz.prog 83 #[.int .i64 n, .int .i64 p] w fun e w' => e = .returned (.bool (M.hasE n p)) ∧ Below w.heap.size w w' := by
  have B0 := hide (fun w => byteRef_any false p w)
  have B1 := hide (fun w => byteRef_any true p w)
  have D0 := hide (bOf_pos false p)
  have D1 := hide (bOf_pos true p)
  have K := hide (fun w => hasKana_any p w)
  generalize bOf false p = b0 at *
  generalize bOf true p = b1 at *
  rcases (show n = 1 ∨ n = 2 ∨ n = 3 ∨ n = 7 ∨ n = 4 ∨ n = 5 ∨ n = 6 from by omega) with rfl | rfl | rfl | rfl | rfl | rfl | rfl
  · go_enter Tryz.func83, Tryz.ntmps83
    go_wp2_with fail
    go_ret
    exact ⟨rfl, Below.refl _ _⟩
  · go_enter Tryz.func83, Tryz.ntmps83
    go_wp2_with fail
    go_ret
    exact ⟨rfl, Below.refl _ _⟩
  · go_enter Tryz.func83, Tryz.ntmps83
    go_wp2_with fail
    go_ret
    exact ⟨rfl, Below.refl _ _⟩
  · go_enter Tryz.func83, Tryz.ntmps83
    go_wp2_with fail
    go_ret
    exact ⟨rfl, Below.refl _ _⟩
  · rw [M.hasE_four, ← unhide D0]
    go_enter Tryz.func83, Tryz.ntmps83
    go_wp2_with fail
    refine (unhide B0 _).mono ?_
    rintro e w1 ⟨rfl, hb⟩
    have HB := hide hb
    clear hb
    go_wp2_with fail
    go_ret
    exact ⟨rfl, unhide HB⟩
  · rw [M.hasE_five, ← unhide D1]
    go_enter Tryz.func83, Tryz.ntmps83
    go_wp2_with fail
    refine (unhide B1 _).mono ?_
    rintro e w1 ⟨rfl, hb⟩
    have HB := hide hb
    clear hb
    go_wp2_with fail
    go_ret
    exact ⟨rfl, unhide HB⟩
  · rw [M.hasE_six]
    go_enter Tryz.func83, Tryz.ntmps83
    go_wp2_with fail
    refine (unhide K _).mono ?_
    rintro e w1 ⟨rfl, hw⟩
    replace hw := hw.symm
    subst hw
    go_wp2_with fail
    go_ret
    exact ⟨rfl, Below.refl _ _⟩

set_option maxHeartbeats 400000 in
set_option maxRecDepth 100000 in
theorem encOf_kind (n mode : Int) (ao : Option Addr) (len cap : Nat) (w : World) (hn : ¬ (1 ≤ n ∧ n ≤ 7)) : Calls Tryz.prog 35 #[.int .i64 n, .int .i64 mode, .slice ao len cap] w fun e w' => e = .returned (.tuple #[.string ⟨#[]⟩, .int .i64 6]) ∧ w' = w := by
  have I := hide (fun w => isEncodingF_any n w)
  rw [show decide (1 ≤ n ∧ n ≤ 7) = false from decide_eq_false hn] at I
  clear hn
  go_enter Tryz.func35, Tryz.ntmps35
  go_wp2_with fail
  refine (unhide I _).mono ?_
  rintro e w1 ⟨rfl, hw⟩
  replace hw := hw.symm
  subst hw
  go_wp2_with fail
  go_ret2
  exact ⟨rfl, rfl⟩
set_option maxHeartbeats 400000 in
set_option maxRecDepth 100000 in
theorem encOf_many (n mode : Int) (ao : Option Addr) (len cap : Nat) (w : World) (hn : 1 ≤ n ∧ n ≤ 7) (hm : mode = 0 ∨ mode = 1) (hl : 3000 < len) (hx : len ≤ maxLen) : Calls Tryz.prog 35 #[.int .i64 n, .int .i64 mode, .slice ao len cap] w fun e w' => e = .returned (.tuple #[.string ⟨#[]⟩, .int .i64 2]) ∧ w' = w := by
  have I := hide (fun w => isEncodingF_any n w)
  rw [show decide (1 ≤ n ∧ n ≤ 7) = true from decide_eq_true hn] at I
  have C := hide (fun w => check_many ao len cap w hl hx)
  clear hn hl hx
  rcases hm with rfl | rfl
  all_goals
    go_enter Tryz.func35, Tryz.ntmps35
    go_wp2_with fail
    refine (unhide I _).mono ?_
    rintro e w1 ⟨rfl, hw⟩
    replace hw := hw.symm
    subst hw
    go_wp2_with fail
    refine (unhide C _).mono ?_
    rintro e w1 ⟨rfl, hw⟩
    replace hw := hw.symm
    subst hw
    go_wp2_with fail
    go_ret2
    exact ⟨rfl, rfl⟩
set_option maxHeartbeats 400000 in
set_option maxRecDepth 100000 in
theorem encOf_range (n mode : Int) {v : Value} {xs : List Int} (w : World) (hn : 1 ≤ n ∧ n ≤ 7) (hm : mode = 0 ∨ mode = 1) (hI : Ints w v xs) (hl : xs.length ≤ 3000) (hs : xs.all M.sclr = false) : Calls Tryz.prog 35 #[.int .i64 n, .int .i64 mode, v] w fun e w' => e = .returned (.tuple #[.string ⟨#[]⟩, .int .i64 3]) ∧ w' = w := by
  have I := hide (fun w => isEncodingF_any n w)
  rw [show decide (1 ≤ n ∧ n ≤ 7) = true from decide_eq_true hn] at I
  have C := hide (pcheck_any w hI hl)
  rw [chkRes_no hs] at C
  obtain ⟨ao, cap, rfl, -, -, -⟩ := hI
  clear hn hs
  rcases hm with rfl | rfl
  all_goals
    go_enter Tryz.func35, Tryz.ntmps35
    go_wp2_with fail
    refine (unhide I _).mono ?_
    rintro e w1 ⟨rfl, hw⟩
    replace hw := hw.symm
    subst hw
    go_wp2_with fail
    refine (unhide C).mono ?_
    rintro e w1 ⟨rfl, hw⟩
    replace hw := hw.symm
    subst hw
    go_wp2_with fail
    go_ret2
    exact ⟨rfl, rfl⟩

/-- What a round of EncodeOf's loop knows. -/
def InG (L : List Int) (w wr : World) (v : Value) : Prop := wr.ownsRow w.heap.size 3 1 v L.length (L.map (Value.int .i64)) ∧ Below w.heap.size w wr

set_option maxHeartbeats 3200000 in
set_option maxRecDepth 100000 in
theorem encOf_1 (n : Int) {v : Value} {xs : List Int} (w : World) (hn : 1 ≤ n ∧ n ≤ 7) (hI : Ints w v xs) (hlen : xs.length ≤ 3000) (hs : xs.all M.sclr = true) : Calls Tryz.prog 35 #[.int .i64 n, .int .i64 1, v] w fun e w' => e = .returned (resW n 1 xs) ∧ Below w.heap.size w w' := by
  have I := hide (fun w => isEncodingF_any n w)
  rw [show decide (1 ≤ n ∧ n ≤ 7) = true from decide_eq_true hn] at I
  have C := hide (pcheck_any w hI hlen)
  rw [chkRes_yes hs] at C
  obtain ⟨ao, cap, rfl, -, -, hc⟩ := hI
  have HC := hide hc
  have HS := hide hs
  have HN := hide hn
  have HI : Hid (InG (M.ptsE n (xs.take 0)) w w (.slice none 0 0)) := hide ⟨World.ownsRow_nil _ _ _ _, Below.refl _ _⟩
  clear hn hs hc
  go_enter Tryz.func35, Tryz.ntmps35
  go_wp2_with fail
  refine (unhide I _).mono ?_
  rintro e w1 ⟨rfl, hw⟩
  replace hw := hw.symm
  subst hw
  clear I
  go_wp2_with fail
  refine (unhide C).mono ?_
  rintro e w1 ⟨rfl, hw⟩
  replace hw := hw.symm
  subst hw
  clear C
  go_wp2_with fail
  go_loopw [9, 10] (fun v i wr => ∃ k : Nat, k ≤ xs.length ∧ i = .int .i64 k ∧ InG (M.ptsE n (xs.take k)) w wr v) (fun _ i _ => xs.length - (intOf i).toNat)
  case atStart => exact ⟨0, by omega, rfl, by simpa using unhide HI⟩
  case round =>
    obtain ⟨k, hk, rfl, hI⟩ := hrel
    clear HI
    have hz := hI.2.size
    have HO := hide hI.1
    have HB := hide hI.2
    have HLn : Hid ((M.ptsE n (xs.take k)).length ≤ 30000) := hide (pts_few (all_take (unhide HS) k) (by rw [List.length_take]; omega))
    clear hI
    by_cases hlt : k < xs.length
    · obtain ⟨b, off, rfl, hc⟩ : ∃ b off, ao = some ⟨b, off, none⟩ ∧ ∀ i, i < xs.length → w.cell? ⟨b, off + i, none⟩ = some (.int .i64 (xs.getD i 0)) := by
        rcases unhide HC with h | h
        · subst h; simp at hlt
        · exact h
      have hcell : wr.cell? ⟨b, off + k, none⟩ = some (.int .i64 (xs.getD k 0)) := ((unhide HB).cell (p := ⟨b, off + k, none⟩) (World.block_lt_of_cell? w _ (hc k hlt))).trans (hc k hlt)
      have hbr : b < wr.heap.size := World.block_lt_of_cell? wr _ hcell
      have HSp : Hid (M.sclr (xs.getD k 0) = true) := hide (sclr_all (unhide HS) _ (by simp [hlt]))
      obtain ⟨p, HP⟩ : ∃ p, Hid (xs.getD k 0 = p) := ⟨_, hide rfl⟩
      rw [unhide HP] at hcell HSp
      clear hc
      have HT := hide (take_getD hlt (unhide HP))
      have HH := hide (fun w => hasOf_any n p w (unhide HN))
      cases hq : M.hasE n p
      · have HL1 : Hid (M.ptsE n (xs.take (k + 1)) = M.ptsE n (xs.take k) ++ M.tld p) := hide (by rw [unhide HT, M.ptsE_snoc, M.ptE_no hq])
        have HD := hide (fun w => digits_pt (unhide HSp) w)
        have HBy : Hid (bl ((⟨#[38, 35]⟩ : ByteArray) ++ strOfNums (M.digs p.toNat) ++ (⟨#[59]⟩ : ByteArray)) = M.tld p) := hide (by
          rw [bl_app, bl_app, bl_str _ (fun x hx => by have := M.digs_bd _ x hx; omega)]
          unfold M.tld
          rw [show bl ⟨#[38, 35]⟩ = [38, 35] from by decide, show bl ⟨#[59]⟩ = [59] from by decide])
        have hdz : (strOfNums (M.digs p.toNat)).size ≤ 7 := by rw [strOfNums_size]; exact M.digs_seven (unhide HSp)
        rw [hq] at HH
        clear hq
        generalize M.ptsE n (xs.take k) = L at *
        generalize strOfNums (M.digs p.toNat) = d at *
        have hln := unhide HLn
        obtain ⟨av, capv, hsh⟩ := owns_shape (unhide HO)
        subst hsh
        go_wp2_with fail
        refine (unhide HH _).mono ?_
        rintro e w1 ⟨rfl, hb1⟩
        have hz1 := hb1.size
        have HB1 := hide hb1
        have HO1 := hide (owns_below (unhide HO) hb1)
        have hcell1 : w1.cell? ⟨b, off + k, none⟩ = some (.int .i64 p) := (hb1.cell (p := ⟨b, off + k, none⟩) hbr).trans hcell
        have hbr1 : b < w1.heap.size := by omega
        clear hb1 HH
        go_wp2_with fail
        refine (unhide HD _).mono ?_
        rintro e w2 ⟨rfl, hb2⟩
        have hz2 := hb2.size
        have HB2 := hide (bstep (unhide HB1) hb2)
        have HO2 := hide (owns_below (unhide HO1) hb2)
        clear hb2 HD HB1 HO1 hcell1 hbr1
        have z2 : (⟨#[38, 35]⟩ : ByteArray).size = 2 := rfl
        have z1 : (⟨#[59]⟩ : ByteArray).size = 1 := rfl
        go_wp2_with fail
        have hsz : ((⟨#[38, 35]⟩ : ByteArray) ++ d ++ (⟨#[59]⟩ : ByteArray)).size ≤ 10 := by rw [ByteArray.size_append, ByteArray.size_append, z1, z2]; omega
        clear z1 z2
        generalize ((⟨#[38, 35]⟩ : ByteArray) ++ d ++ (⟨#[59]⟩ : ByteArray)) = s at *
        have HI2 : Hid (InG (L ++ (bl s).take 0) w w2 (.slice av L.length capv)) := hide ⟨by simpa using unhide HO2, bstep (unhide HB) (unhide HB2)⟩
        clear HO2 HB2
        go_loopw [9, 12] (fun v i wq => ∃ j : Nat, j ≤ s.size ∧ i = .int .i64 j ∧ InG (L ++ (bl s).take j) w wq v) (fun _ i _ => s.size - (intOf i).toNat)
        case atStart => exact ⟨0, by omega, rfl, unhide HI2⟩
        case round =>
          obtain ⟨j, hj, rfl, hI2⟩ := hrel
          clear HI2
          have hzj := hI2.2.size
          have HOj := hide hI2.1
          have HBj := hide hI2.2
          clear hI2
          by_cases hjl : j < s.size
          · have HTj : Hid ((bl s).take (j + 1) = (bl s).take j ++ [(bl s).getD j 0]) := hide (take_snoc _ j (by rw [bl_len]; exact hjl))
            have hgc : (bl s).getD j 0 = (s[j].toNat : Int) := by rw [List.getD_eq_getElem?_getD, bl_get s j hjl]; rfl
            have hbd : s[j].toNat < 256 := by have := s[j].toNat_lt; omega
            rw [hgc] at HTj
            have HL2 : Hid ((L ++ (bl s).take j).length ≤ 30010) := hide (by rw [List.length_append, List.length_take]; omega)
            obtain ⟨c, hcc⟩ : ∃ c : Int, (s[j].toNat : Int) = c := ⟨_, rfl⟩
            rw [hcc] at HTj
            have hc0 : 0 ≤ c := by omega
            have hc1 : c ≤ 255 := by omega
            have HN2 : Hid (L ++ (bl s).take (j + 1) = (L ++ (bl s).take j) ++ [c]) := hide (by rw [unhide HTj, List.append_assoc])
            clear hgc hbd
            generalize L ++ (bl s).take j = L2 at *
            have hln2 := unhide HL2
            obtain ⟨av2, capv2, hsh2⟩ := owns_shape (unhide HOj)
            subst hsh2
            go_wp2_with (at_builtin; refine append_ints rfl (.tmp 65) (.tmp 70) rfl w.heap.size _ L2 rfl (owns_a (unhide HOj) _) _ [c] rfl (one_int _ _) (by simp; omega) (by simp; omega) ?_)
            intro v3 w3 ho3 hb3
            obtain ⟨ao3, cap3, hsh3⟩ := owns_shape ho3
            subst hsh3
            have HJ : Hid (InG (L ++ (bl s).take (j + 1)) w w3 (.slice ao3 (L2 ++ [c]).length cap3)) := hide ⟨by rw [unhide HN2]; simpa using ho3, (unhide HBj).trans (((Below.refl _ _).alloc (by omega) _).trans hb3)⟩
            clear ho3 hb3
            go_wp2_with fail
            go_roundw
            case rel => exact ⟨j + 1, by omega, by go_num, by simpa using unhide HJ⟩
            case measure => simp [intOf]; omega
          · have HE : Hid (L ++ (bl s).take j = M.ptsE n (xs.take (k + 1))) := hide (by rw [unhide HL1, List.take_of_length_le (by rw [bl_len]; omega), unhide HBy])
            rw [unhide HE] at HOj
            go_wp2_with fail
            go_roundw
            case rel => exact ⟨k + 1, by omega, by go_num, unhide HOj, unhide HBj⟩
            case measure => simp [intOf]; omega
      · have HL1 : Hid (M.ptsE n (xs.take (k + 1)) = M.ptsE n (xs.take k) ++ [p]) := hide (by rw [unhide HT, M.ptsE_snoc, M.ptE_yes hq])
        rw [hq] at HH
        clear hq
        generalize M.ptsE n (xs.take k) = L at *
        have hln := unhide HLn
        obtain ⟨av, capv, hsh⟩ := owns_shape (unhide HO)
        subst hsh
        go_wp2_with fail
        refine (unhide HH _).mono ?_
        rintro e w1 ⟨rfl, hb1⟩
        have hz1 := hb1.size
        have HB1 := hide hb1
        have HO1 := hide (owns_below (unhide HO) hb1)
        have hcell1 : w1.cell? ⟨b, off + k, none⟩ = some (.int .i64 p) := (hb1.cell (p := ⟨b, off + k, none⟩) hbr).trans hcell
        have hbr1 : b < w1.heap.size := by omega
        clear hb1 HH
        go_wp2_with (at_builtin; refine append_ints rfl (.tmp 45) (.tmp 50) rfl w.heap.size _ L rfl (owns_a (unhide HO1) _) _ [p] rfl (one_int _ _) (by simp; omega) (by simp; omega) ?_)
        intro v2 w2 ho2 hb2
        obtain ⟨ao2, cap2, hsh2⟩ := owns_shape ho2
        subst hsh2
        have HJ : Hid (InG (M.ptsE n (xs.take (k + 1))) w w2 (.slice ao2 (L ++ [p]).length cap2)) := hide ⟨by rw [unhide HL1]; simpa using ho2, (bstep (unhide HB) (unhide HB1)).trans (((Below.refl _ _).alloc (by omega) _).trans hb2)⟩
        clear ho2 hb2
        go_wp2_with fail
        go_roundw
        case rel => exact ⟨k + 1, by omega, by go_num, by simpa using unhide HJ⟩
        case measure => simp [intOf]; omega
    · have et : xs.take k = xs := List.take_of_length_le (by omega)
      rw [et] at HO
      clear et HLn
      rcases (show (n = 1 ∨ n = 2 ∨ n = 3 ∨ n = 7) ∨ n = 4 ∨ n = 5 ∨ n = 6 from by have := unhide HN; omega) with hu | rfl | rfl | rfl
      · have ho : M.outE n = 1 := by unfold M.outE; split <;> omega
        have HR : Hid (resW n 1 xs = .tuple #[.string (strOfNums (M.enc xs)), .int .i64 0]) := hide (by rw [resW_yes (.inr (List.all_eq_true.2 fun x _ => M.hasE_one ho x)), M.ptsE_one ho, ← M.encB_out, ho, M.encB_1])
        have OO := hide (fun w => outputOf_any n w)
        rw [ho] at OO
        rw [M.ptsE_one ho] at HO
        have HI := hide (Ints.of_owns (unhide HO))
        have HE := hide (encRef_any wr (unhide HI) hlen (unhide HS))
        generalize strOfNums (M.enc xs) = es at *
        obtain ⟨av, capv, hsh⟩ := owns_shape (unhide HO)
        subst hsh
        clear hu ho
        go_wp2_with fail
        refine (unhide OO _).mono ?_
        rintro e w5 ⟨rfl, hw⟩
        replace hw := hw.symm
        subst hw
        go_wp2_with fail
        refine (unhide HE).mono ?_
        rintro e w6 ⟨rfl, hb6⟩
        have HB6 := hide (bstep (unhide HB) hb6)
        clear hb6
        go_wp2_with fail
        go_ret2
        refine ⟨?_, unhide HB6⟩
        rw [unhide HR]; rfl
      · have HAl : Hid ((M.ptsE 4 xs).all (M.hasB false) = true) := hide (M.ptsE_has 4 xs)
        have HR : Hid (resW 4 1 xs = .tuple #[.string (strOfNums (M.encS false (M.ptsE 4 xs))), .int .i64 0]) := hide (resW_yes (.inl rfl))
        have OO := hide (fun w => outputOf_any 4 w)
        rw [show M.outE 4 = 4 from rfl] at OO
        have HI := hide (Ints.of_owns (unhide HO))
        have HE := hide (encRefS_any false wr (unhide HI) (pts_few (unhide HS) hlen))
        rw [refResS_yes (unhide HAl)] at HE
        generalize strOfNums (M.encS false (M.ptsE 4 xs)) = es at *
        obtain ⟨av, capv, hsh⟩ := owns_shape (unhide HO)
        subst hsh
        go_wp2_with fail
        refine (unhide OO _).mono ?_
        rintro e w5 ⟨rfl, hw⟩
        replace hw := hw.symm
        subst hw
        go_wp2_with fail
        refine (unhide HE).mono ?_
        rintro e w6 ⟨rfl, hb6⟩
        have HB6 := hide (bstep (unhide HB) hb6)
        clear hb6
        go_wp2_with fail
        go_ret2
        refine ⟨?_, unhide HB6⟩
        rw [unhide HR]; rfl
      · have HAl : Hid ((M.ptsE 5 xs).all (M.hasB true) = true) := hide (M.ptsE_has 5 xs)
        have HR : Hid (resW 5 1 xs = .tuple #[.string (strOfNums (M.encS true (M.ptsE 5 xs))), .int .i64 0]) := hide (resW_yes (.inl rfl))
        have OO := hide (fun w => outputOf_any 5 w)
        rw [show M.outE 5 = 5 from rfl] at OO
        have HI := hide (Ints.of_owns (unhide HO))
        have HE := hide (encRefS_any true wr (unhide HI) (pts_few (unhide HS) hlen))
        rw [refResS_yes (unhide HAl)] at HE
        generalize strOfNums (M.encS true (M.ptsE 5 xs)) = es at *
        obtain ⟨av, capv, hsh⟩ := owns_shape (unhide HO)
        subst hsh
        go_wp2_with fail
        refine (unhide OO _).mono ?_
        rintro e w5 ⟨rfl, hw⟩
        replace hw := hw.symm
        subst hw
        go_wp2_with fail
        refine (unhide HE).mono ?_
        rintro e w6 ⟨rfl, hb6⟩
        have HB6 := hide (bstep (unhide HB) hb6)
        clear hb6
        go_wp2_with fail
        go_ret2
        refine ⟨?_, unhide HB6⟩
        rw [unhide HR]; rfl
      · have HAl : Hid ((M.ptsE 6 xs).all (M.anyK) = true) := hide (M.ptsE_has 6 xs)
        have HR : Hid (resW 6 1 xs = .tuple #[.string (strOfNums (M.kenc (M.ptsE 6 xs))), .int .i64 0]) := hide (resW_yes (.inl rfl))
        have OO := hide (fun w => outputOf_any 6 w)
        rw [show M.outE 6 = 6 from rfl] at OO
        have HI := hide (Ints.of_owns (unhide HO))
        have HE := hide (encodeKana_any _ _ wr (unhide HI) (pts_few (unhide HS) hlen))
        rw [wrote_yes (unhide HAl)] at HE
        generalize strOfNums (M.kenc (M.ptsE 6 xs)) = es at *
        obtain ⟨av, capv, hsh⟩ := owns_shape (unhide HO)
        subst hsh
        go_wp2_with fail
        refine (unhide OO _).mono ?_
        rintro e w5 ⟨rfl, hw⟩
        replace hw := hw.symm
        subst hw
        go_wp2_with fail
        refine (unhide HE).mono ?_
        rintro e w6 ⟨rfl, hb6⟩
        have HB6 := hide (bstep (unhide HB) hb6)
        clear hb6
        go_wp2_with fail
        go_ret2
        refine ⟨?_, unhide HB6⟩
        rw [unhide HR]; rfl
end Go.Proofs.YtaiinjfnkmidbaaGreatDoor

namespace Go.Proofs.YtaiinjfnkmidbaaGreatDoor
open Go.RowKit
set_option linter.unusedVariables false

theorem append_intsX {w : World} {ops : Array Oper} {rest : List Oper} {o : Oper} {a : Act} {Q : Exit → Act → World → Prop} (hw : Region.wanted o (yielded ops a.tmps) = true) (s x : Operand)
    (ho : o.op = .call { callee := .builtin .append, args := #[s, x], argTypes := #[31, 31] }) (base : Nat) (v : Value) (xs : List Int) (hs : a.eval s = v)
    (hown : w.ownsRow base 3 1 v xs.length (xs.map (Value.int .i64))) (u : Value) (ys : List Int) (hx : a.eval x = u) (hI : Ints w u ys) (hlen : (xs.length + ys.length) * 8 ≤ 140737488355328) (hbase : base ≤ w.heap.size)
    (h : ∀ v' w', w'.ownsRow base 3 1 v' (xs ++ ys).length ((xs ++ ys).map (Value.int .i64)) → Below base w w' → wpList Tryz.prog ops Q rest (a.put o.dst v') w') : wpList Tryz.prog ops Q (o :: rest) a w := by
  obtain ⟨i0, hi, hz0, hz1, hz2⟩ := info_parts info3
  obtain ⟨ao, cap, rfl, hm, hn, hc⟩ := hI
  refine BigFrame.wpList_want hw fun K hK => ?_
  cases ao with
  | none =>
    have hy : ys = [] := by
      rcases hc with hc | ⟨b, off, e, _⟩
      · exact hc
      · cases e
    subst hy
    have hcap := hn rfl
    subst hcap
    have hrun := run_append_owned_none (P := Tryz.prog) (w := w) base 31 o.type 3 i0 1 Tryz.underlying31 hi v _ _ hown
    have hK' := hK _ _ (h v w (by simpa using hown) (Below.refl _ _))
    unfold Oper.wp
    simp only [List.length_nil] at hx
    simp [execOp, ho, resolve, invoke, builtin, hs, hx, hrun, Result.andThen]
    exact hK'
  | some ad =>
    refine wp_append_own w s x 31 ho base 3 i0 (.int .i64 0) 1 8 Tryz.underlying31 hi hz0 hz1 hz2 rfl (by decide) v _ _ hs hown ad ys.length cap (ys.map (Value.int .i64)) hx (by simp) ?_ ?_ (by unfold maxLen; omega) (by omega) hbase ?_
    · intro j u hj
      have hjl : j < ys.length := by
        rcases Nat.lt_or_ge j ys.length with h | h
        · exact h
        · simp [List.getElem?_eq_none (show (ys.map (Value.int .i64)).length ≤ j by simpa using h)] at hj
      rcases hc with hc | ⟨b, off, e, hc⟩
      · subst hc; simp at hjl
      · cases e
        have := hc j hjl
        simp [hjl] at hj
        subst hj
        by_cases hj0 : j = 0
        · subst hj0; simpa [Addr.add, hjl] using this
        · simpa [Addr.add, hj0, hjl] using this
    · intro u hu
      simp at hu
      obtain ⟨y, _, rfl⟩ := hu
      rfl
    · intro v' w' h1 h2 _
      refine hK _ _ (h v' w' (by simpa using h1) ((Below.refl _ _).grown h2 hbase (fun k hk => (hown.lt k hk).1)))

set_option maxHeartbeats 3200000 in
set_option maxRecDepth 100000 in
theorem All_own (s : ByteArray) (k0 : Nat) (w : World) (hk0 : k0 ≤ s.size) (hs : s.size ≤ 3000) :
    Calls Tryz.prog 47 #[.string s, .int .i64 (k0 : Int)] w fun e w' => ∃ v, e = .returned (.tuple #[v, .int .i64 ((attrsI (bl s) k0).2 : Int), .int .i64 0]) ∧ w'.ownsRow w.heap.size 80 2 v (attrsI (bl s) k0).1.length (atCells (attrsI (bl s) k0).1) ∧ Below w.heap.size w w' := by
  obtain ⟨i0, hi, hz0, hz1, hz2⟩ := info_parts infoA
  have hl := bl_len s
  have HC := hide (fun w => acheck_any s (k0 : Int) w (by unfold maxLen; omega))
  rw [badE_no hk0 hs] at HC
  have HN := hide (fun w => anext_any s k0 w hk0 hs)
  have hle := attrI_le (l := bl s) (at' := k0) (by omega)
  obtain ⟨x1, x2, a, q, Hv⟩ : ∃ x1 x2 a q, Hid (attrI (bl s) k0 = ((x1, x2), a, q)) := ⟨_, _, _, _, hide rfl⟩
  rw [unhide Hv] at HN hle
  simp only at HN hle
  go_enter Tryz.func47, Tryz.ntmps47
  go_wp2_with fail
  refine (unhide HC _).mono ?_
  rintro e w1 ⟨rfl, hw⟩
  replace hw := hw.symm
  subst hw
  go_wp2_with fail
  refine (unhide HN _).mono ?_
  rintro e w1 ⟨rfl, hb1⟩
  have hz1' := hb1.size
  have HI : Hid (InL (bl s) k0 w1.heap.size w (w1.alloc (.cells #[.string (strOfNums x1), .string (strOfNums x2)] 80)) a q (.slice none 0 0)) :=
    hide ⟨k0, x1, x2, [], by omega, unhide Hv, World.ownsRow_nil _ _ _ _, bstep hb1 (balloc _ _), by simp, by simp, Ac.new _ _ _⟩
  clear hb1 HC HN
  go_wp2_with fail
  go_loopw [1, 8, 10] (fun i v qv wr => ∃ (tt : Nat) (q : Bool), i = .int .i64 tt ∧ tt ≤ s.size ∧ qv = .bool q ∧ InL (bl s) k0 w1.heap.size w wr tt q v) (fun i _ qv _ => 2 * (s.size - (intOf i).toNat) + boolN qv)
  case atStart => exact ⟨a, q, rfl, by omega, rfl, unhide HI⟩
  case round =>
    obtain ⟨tt, q, rfl, htt, rfl, k, x1, x2, L, hk, hX, hO, hBl, hLk, hE, hA⟩ := hrel
    clear HI
    have HX := hide hX
    have HO := hide hO
    have HB := hide hBl
    have HE := hide hE
    have HA := hide hA
    have hbt := World.block_lt_of_cell? wr _ hA.1
    simp only at hbt
    obtain ⟨r0, r1, f0, f1⟩ := hA
    have hle := attrI_le (l := bl s) (at' := k) hk
    rw [hX] at hle
    simp only at hle
    clear hX hO hBl hE
    obtain ⟨av, cv, hsh⟩ := owns_shape (unhide HO)
    subst hsh
    cases q
    · have HE' : Hid (attrsI (bl s) k0 = (L, tt)) := hide (by rw [unhide HE, attrsI_no hk (by rw [unhide HX]), unhide HX]; simp)
      go_wp2_with fail
      go_ret3
      refine ⟨.slice av L.length cv, by rw [unhide HE']; rfl, ?_, unhide HB⟩
      rw [unhide HE']; exact owns_mono (unhide HO) (by omega)
    · have hto := hle.2.2 rfl
      have HY : Hid (attrsI (bl s) k = ((x1, x2) :: (attrsI (bl s) tt).1, (attrsI (bl s) tt).2)) := hide (by rw [attrsI_yes hk (by rw [unhide HX]), unhide HX])
      have HE' : Hid (attrsI (bl s) k0 = ((L ++ [(x1, x2)]) ++ (attrsI (bl s) tt).1, (attrsI (bl s) tt).2)) := hide (by rw [unhide HE, unhide HY]; simp)
      have HS := hide (atCells_snoc L (x1, x2))
      have HN := hide (fun w => anext_any s tt w htt hs)
      have hle2 := attrI_le (l := bl s) (at' := tt) (by omega)
      obtain ⟨y1, y2, t2, q2, HY2⟩ : ∃ y1 y2 t2 q2, Hid (attrI (bl s) tt = ((y1, y2), t2, q2)) := ⟨_, _, _, _, hide rfl⟩
      rw [unhide HY2] at HN hle2
      simp only at HN hle2 HS
      generalize strOfNums x1 = t1 at *
      generalize strOfNums x2 = u1 at *
      go_wp2_with (at_builtin; refine wpList_append_own _ rfl (.tmp 25) (.tmp 27) 75 rfl (w1.heap.size + 1) 80 i0 (.agg #[.string ⟨#[]⟩, .string ⟨#[]⟩]) 2 32 Tryz.underlying75 hi hz0 hz1 hz2 rfl (by decide) _ _ _ rfl (owns_a (unhide HO) _) ⟨wr.heap.size, 0, none⟩ 1 1 [.string t1, .string u1] rfl rfl ?c1 ?c2 ?c3 ?c4 ?c5 ?_)
      case c2 => exact ⟨rfl, rfl⟩
      case c3 => unfold maxLen; omega
      case c4 => omega
      case c5 => omega
      intro v2 w2 ho2 hg2 _
      obtain ⟨ao2, cap2, hsh2⟩ := owns_shape ho2
      subst hsh2
      have hlt := (unhide HO).lt
      have hq := ((Below.refl (w1.heap.size + 1) wr).alloc (by omega) (.cells #[.string t1, .string u1] 80)).grown hg2 (by simp; omega) (fun j hj => (hlt j hj).1)
      have hzq := hq.size
      have HA2 := hide ((unhide HA).below hq)
      have HB2 := hide ((unhide HB).trans (hq.mono (by omega)))
      have HO2 := hide ho2
      clear ho2 hg2 hlt hq HA r0 r1 f0 f1
      go_wp2_with fail
      refine (unhide HN _).mono ?_
      rintro e w3 ⟨rfl, hb3⟩
      have hz3 := hb3.size
      have hac := (unhide HA2).below (hb3.mono (by omega))
      have HA3 := hide (hac.put (strOfNums y1) (strOfNums y2))
      have HB3 := hide ((bstep (unhide HB2) hb3).setCell (p := ⟨w1.heap.size, 0, none⟩) (by simpa using hz1') (.string (strOfNums y1)))
      have HB4 := hide ((unhide HB3).setCell (p := ⟨w1.heap.size, 1, none⟩) (by simpa using hz1') (.string (strOfNums y2)))
      have HO3 := hide (ownsRow_setCell_below (ownsRow_setCell_below (owns_below (unhide HO2) hb3) (a := ⟨w1.heap.size, 0, none⟩) (by simp) (.string (strOfNums y1))) (a := ⟨w1.heap.size, 1, none⟩) (by simp) (.string (strOfNums y2)))
      have hbt3 : w1.heap.size < w3.heap.size := by omega
      obtain ⟨r0, r1, f0, f1⟩ := hac
      have HJ : Hid (InL (bl s) k0 w1.heap.size w ((w3.setCell ⟨w1.heap.size, 0, none⟩ (.string (strOfNums y1))).setCell ⟨w1.heap.size, 1, none⟩ (.string (strOfNums y2))) t2 q2 (.slice ao2 (L.length + 1) cap2)) :=
        hide ⟨tt, y1, y2, L ++ [(x1, x2)], by omega, unhide HY2, by rw [unhide HS]; simpa using unhide HO3, unhide HB4, by simp; omega, unhide HE', unhide HA3⟩
      clear hb3 HB3 HB4 HA3 HA2 HB2 HO2 HO3
      go_wp2_with fail
      go_roundw
      case rel => exact ⟨t2, q2, rfl, by omega, rfl, by simpa using unhide HJ⟩
      case measure =>
        cases q2
        · simp [intOf, boolN]; omega
        · have := hle2.2.2 rfl
          simp [intOf, boolN]; omega

theorem Mine.mono {base base' : Nat} {w : World} {v : Value} {n : Nat} (h : Mine base w v n) (hb : base' ≤ base) : Mine base' w v n := by
  obtain ⟨hm, h⟩ := h
  refine ⟨hm, ?_⟩
  rcases h with h | ⟨g, cap, rfl, hg, hc⟩
  · exact .inl h
  · exact .inr ⟨g, cap, rfl, by omega, hc⟩
/-- Only integers were written, and where integers lay. -/
def Sp (w w' : World) : Prop := (∀ p u, w.cell? p = some u → w'.cell? p = some u ∨ ((∃ x, u = .int .i64 x) ∧ ∃ y, w'.cell? p = some (.int .i64 y))) ∧ ∀ p, w'.frozen? p = w.frozen? p
theorem Sp.refl (w : World) : Sp w w := ⟨fun p u h => .inl h, fun p => rfl⟩
theorem Sp.set {w w' : World} (h : Sp w w') {a : Addr} {x y : Int} (hc : w'.cell? a = some (.int .i64 x)) : Sp w (w'.setCell a (.int .i64 y)) := by
  refine ⟨fun p u hu => ?_, fun p => by rw [World.frozen?_setCell]; exact h.2 p⟩
  by_cases e : p = a
  · subst e
    refine .inr ⟨?_, y, World.cell?_setCell_same _ _ _ hc⟩
    rcases h.1 p u hu with q | ⟨q, _⟩
    · rw [hc] at q; exact ⟨x, (Option.some.inj q).symm⟩
    · exact q
  · have hk : (w'.setCell a (.int .i64 y)).cell? p = w'.cell? p := World.cell?_setCell_other _ _ _ _ (by first | exact e | exact fun h => e h.symm)
    rcases h.1 p u hu with q | ⟨q, z, hz⟩
    · exact .inl (hk.trans q)
    · exact .inr ⟨q, z, hk.trans hz⟩
theorem Mine.sp {base : Nat} {w w' : World} {v : Value} {n : Nat} (h : Mine base w v n) (hs : Sp w w') : Mine base w' v n := by
  obtain ⟨hm, h⟩ := h
  refine ⟨hm, ?_⟩
  rcases h with h | ⟨g, cap, rfl, hg, hc⟩
  · exact .inl h
  · refine .inr ⟨g, cap, rfl, hg, fun i hi => ?_⟩
    obtain ⟨⟨x, hx⟩, hf⟩ := hc i hi
    refine ⟨?_, (hs.2 _).trans hf⟩
    rcases hs.1 _ _ hx with q | ⟨_, y, hy⟩
    · exact ⟨x, q⟩
    · exact ⟨y, hy⟩
/-- A list of pairs of texts whose cells lie at base or above it and may be written. -/
def MineA (base : Nat) (w : World) (v : Value) (n : Nat) : Prop :=
  n ≤ maxLen ∧ ((∃ ao cap, v = .slice ao 0 cap ∧ n = 0) ∨ ∃ g cap, v = .slice (some ⟨g, 0, none⟩) n cap ∧ base ≤ g ∧ ∀ i, i < n → (∃ x, w.cell? ⟨g, i * 2, none⟩ = some (.string x)) ∧ w.frozen? ⟨g, i * 2, none⟩ = false)
theorem MineA.of_owns {w : World} {base : Nat} {v : Value} {L : List (List Int × List Int)} (h : w.ownsRow base 80 2 v L.length (atCells L)) : MineA base w v L.length := by
  rcases h.2 with ⟨rfl, hn⟩ | ⟨g, cap, cur, rfl, hg, hh, h1, h2, _⟩
  · exact ⟨by rw [hn]; simp, .inl ⟨none, 0, rfl, hn⟩⟩
  · refine ⟨by omega, .inr ⟨g, cap, rfl, hg, fun i hi => ?_⟩⟩
    have hi' : i < (txts L).length := by simpa [txts] using hi
    have hc := h.cells (g := g) rfl (i * 2) _ (atCells_at L i hi').1
    have hc' : w.cell? ⟨g, i * 2, none⟩ = some (.string (txts L)[i].1) := by
      by_cases h0 : i = 0
      · subst h0; simpa [Addr.add] using hc
      · have : i * 2 ≠ 0 := by omega
        simpa [Addr.add, this] using hc
    exact ⟨⟨_, hc'⟩, by simp [World.frozen?, hh]⟩
theorem MineA.below {w w' : World} {base : Nat} {v : Value} {n : Nat} (h : MineA base w v n) (hb : Below w.heap.size w w') : MineA base w' v n := by
  obtain ⟨hm, h⟩ := h
  refine ⟨hm, ?_⟩
  rcases h with h | ⟨g, cap, rfl, hg, hc⟩
  · exact .inl h
  · refine .inr ⟨g, cap, rfl, hg, fun i hi => ?_⟩
    obtain ⟨⟨x, hx⟩, hf⟩ := hc i hi
    have hl := World.block_lt_of_cell? w _ hx
    exact ⟨⟨x, (hb.cell hl).trans hx⟩, (hb.frozen hl).trans hf⟩
theorem MineA.sp {base : Nat} {w w' : World} {v : Value} {n : Nat} (h : MineA base w v n) (hs : Sp w w') : MineA base w' v n := by
  obtain ⟨hm, h⟩ := h
  refine ⟨hm, ?_⟩
  rcases h with h | ⟨g, cap, rfl, hg, hc⟩
  · exact .inl h
  · refine .inr ⟨g, cap, rfl, hg, fun i hi => ?_⟩
    obtain ⟨⟨x, hx⟩, hf⟩ := hc i hi
    refine ⟨?_, (hs.2 _).trans hf⟩
    rcases hs.1 _ _ hx with q | ⟨⟨z, hz⟩, _⟩
    · exact ⟨x, q⟩
    · cases hz
theorem MineA.mono {base base' : Nat} {w : World} {v : Value} {n : Nat} (h : MineA base w v n) (hb : base' ≤ base) : MineA base' w v n := by
  obtain ⟨hm, h⟩ := h
  refine ⟨hm, ?_⟩
  rcases h with h | ⟨g, cap, rfl, hg, hc⟩
  · exact .inl h
  · exact .inr ⟨g, cap, rfl, by omega, hc⟩

set_option maxHeartbeats 800000 in
set_option maxRecDepth 100000 in
theorem spoil_sp {base : Nat} {v : Value} {n : Nat} (w : World) (h : Mine base w v n) :
    Calls Tryz.prog 48 #[v] w fun e w' => e = .returned (.tuple #[]) ∧ Below base w w' ∧ Sp w w' := by
  obtain ⟨hm, h⟩ := h
  unfold maxLen at hm
  rcases h with ⟨ao, cap, rfl, rfl⟩ | ⟨g, cap, rfl, hg, hc⟩
  · go_enter Tryz.func48, Tryz.ntmps48
    go_wp2_with fail
    go_loopw [2] (fun i wr => i = .int .i64 0 ∧ wr = w) (fun _ _ => 0)
    case atStart => exact ⟨rfl, rfl⟩
    case round =>
      obtain ⟨rfl, hwr⟩ := hrel
      replace hwr := hwr.symm
      subst hwr
      go_wp2_with fail
      go_end0
      exact ⟨rfl, Below.refl _ _, Sp.refl _⟩
  · have HC := hide hc
    clear hc
    go_enter Tryz.func48, Tryz.ntmps48
    go_wp2_with fail
    go_loopw [2] (fun i wr => ∃ k : Nat, k ≤ n ∧ i = .int .i64 k ∧ Below base w wr ∧ Sp w wr ∧ ∀ i, i < n → (∃ x, wr.cell? ⟨g, i, none⟩ = some (.int .i64 x)) ∧ wr.frozen? ⟨g, i, none⟩ = false) (fun i _ => n - (intOf i).toNat)
    case atStart => exact ⟨0, by omega, rfl, Below.refl _ _, Sp.refl _, unhide HC⟩
    case round =>
      obtain ⟨k, hk, rfl, hB, hSp, hq⟩ := hrel
      have HB := hide hB
      have HS := hide hSp
      have HQ := hide hq
      clear hB hq hSp
      by_cases hlt : k < n
      · obtain ⟨⟨x, hx⟩, hf⟩ := unhide HQ k hlt
        have hl := World.block_lt_of_cell? wr _ hx
        have HX := hide hx
        go_wp2_with fail
        go_roundw
        case rel =>
          refine ⟨k + 1, by omega, by go_num, (unhide HB).setCell (p := ⟨g, k, none⟩) hg _, (unhide HS).set (unhide HX), fun i hi => ?_⟩
          obtain ⟨⟨y, hy⟩, hfy⟩ := unhide HQ i hi
          refine ⟨?_, by rw [World.frozen?_setCell]; exact hfy⟩
          by_cases e : i = k
          · subst e; exact ⟨_, World.cell?_setCell_same _ _ _ hy⟩
          · exact ⟨y, (World.cell?_setCell_other _ _ _ _ (by intro h; cases h; exact e rfl)).trans hy⟩
        case measure => simp [intOf]; omega
      · go_wp2_with fail
        go_end0
        exact ⟨rfl, unhide HB, unhide HS⟩

/-- What Encode answers, whatever encoding it is handed. -/
def rpE (n : Int) (xs : List Int) : ByteArray × Int := if 1 ≤ n ∧ n ≤ 7 then encP n 1 xs else (⟨#[]⟩, 6)
theorem Enc_rp (n : Int) {v : Value} {xs : List Int} (w : World) (hT : Tb w) (hI : Ints w v xs) :
    Calls Tryz.prog 44 #[.int .i64 n, .int .i64 1, v] w fun e w' => e = .returned (.tuple #[.string (rpE n xs).1, .int .i64 (rpE n xs).2]) ∧ Below w.heap.size w w' := by
  unfold rpE
  by_cases hn : 1 ≤ n ∧ n ≤ 7
  · rw [if_pos hn]; exact Enc_all n 1 w hT hn (.inr rfl) hI
  · rw [if_neg hn]
    obtain ⟨ao, cap, rfl, -⟩ := hI
    exact Enc_kind n 1 ao _ cap w hn
theorem encOf_rp (n : Int) {v : Value} {xs : List Int} (w : World) (hI : Ints w v xs) :
    Calls Tryz.prog 35 #[.int .i64 n, .int .i64 1, v] w fun e w' => e = .returned (.tuple #[.string (rpE n xs).1, .int .i64 (rpE n xs).2]) ∧ Below w.heap.size w w' := by
  unfold rpE
  by_cases hn : 1 ≤ n ∧ n ≤ 7
  · rw [if_pos hn]
    by_cases h1 : xs.length ≤ 3000
    · cases h2 : xs.all M.sclr
      · have e : encP n 1 xs = (⟨#[]⟩, 3) := by unfold encP; rw [if_neg (by omega), if_pos h2]
        rw [e]
        refine (encOf_range n 1 w hn (.inr rfl) hI h1 h2).mono ?_
        rintro e w' ⟨rfl, rfl⟩
        exact ⟨rfl, Below.refl _ _⟩
      · rw [← encP_ok h1 h2]
        exact encOf_1 n w hn hI h1 h2
    · have e : encP n 1 xs = (⟨#[]⟩, 2) := by unfold encP; rw [if_pos (by omega)]
      rw [e]
      obtain ⟨ao, cap, rfl, hx, -, -⟩ := hI
      refine (encOf_many n 1 ao xs.length cap w hn (.inr rfl) (by omega) hx).mono ?_
      rintro e w' ⟨rfl, rfl⟩
      exact ⟨rfl, Below.refl _ _⟩
  · rw [if_neg hn]
    obtain ⟨ao, cap, rfl, -⟩ := hI
    refine (encOf_kind n 1 ao _ cap w hn).mono ?_
    rintro e w' ⟨rfl, rfl⟩
    exact ⟨rfl, Below.refl _ _⟩
theorem mine_none (base : Nat) (w : World) : Mine base w (.slice none 0 0) 0 := ⟨by simp, .inl ⟨none, 0, rfl, rfl⟩⟩
theorem sd_mine (n : Int) (s : ByteArray) (w : World) (hs : s.size ≤ maxLen) :
    Calls Tryz.prog 42 #[.int .i64 n, .string s] w fun e w' => ∃ ao k cap x, e = .returned (.tuple #[.slice ao k cap, .int .i64 x]) ∧ Mine w.heap.size w' (.slice ao k cap) k ∧ Below w.heap.size w w' := by
  by_cases hn : 1 ≤ n ∧ n ≤ 7
  · by_cases h3 : s.size ≤ 3000
    · refine (sdecode_own n s w hn h3).mono ?_
      rintro e w' ⟨v, rfl, ho, hb⟩
      obtain ⟨ao, cap, rfl⟩ := owns_shape ho
      exact ⟨ao, _, cap, 0, rfl, Mine.of_owns ho, hb⟩
    · refine (sdecode_long n s w hn (by omega) hs).mono ?_
      rintro e w' ⟨rfl, hb⟩
      exact ⟨none, 0, 0, 2, rfl, mine_none _ _, hb⟩
  · refine (sdecode_kind n s w hn).mono ?_
    rintro e w' ⟨rfl, rfl⟩
    exact ⟨none, 0, 0, 6, rfl, mine_none _ _, Below.refl _ _⟩
theorem op_all (n : Int) (w : World) : Calls Tryz.prog 45 #[.int .i64 n] w fun e w' => ∃ e0 x : Int, e = .returned (.tuple #[.agg #[.int .i64 e0, .string ⟨#[]⟩, .int .i64 0, .bool false, .bool false], .int .i64 x]) ∧ Below w.heap.size w w' := by
  by_cases hn : 1 ≤ n ∧ n ≤ 7
  · refine (open_yes n w hn).mono ?_
    rintro e w' ⟨rfl, hb⟩
    exact ⟨n, 0, rfl, hb⟩
  · refine (open_no n w hn).mono ?_
    rintro e w' ⟨rfl, hb⟩
    exact ⟨0, 6, rfl, hb⟩
theorem sf_mine (e0 : Int) (s : ByteArray) (w : World) (hs : s.size ≤ maxLen) :
    Calls Tryz.prog 46 #[.agg #[.int .i64 e0, .string ⟨#[]⟩, .int .i64 0, .bool false, .bool false], .string s, .bool false] w fun e w' => ∃ ao k cap, ∃ (e1 : Int) (r : ByteArray) (g : Int) (fr st : Bool) (x : Int), e = .returned (.tuple #[.slice ao k cap, .agg #[.int .i64 e1, .string r, .int .i64 g, .bool fr, .bool st], .int .i64 x]) ∧ Mine w.heap.size w' (.slice ao k cap) k ∧ Below w.heap.size w w' := by
  by_cases hq : chk e0 ⟨#[]⟩ M.st0 = 0
  · by_cases h3 : s.size ≤ 3000
    · obtain ⟨k1, k2, k3⟩ := chk_ok.1 hq
      refine Calls.mono (feed_fed e0 ⟨#[]⟩ M.st0 s false w k1 k2 k3 h3) ?_
      rintro e w' ⟨v, r', t', L, rfl, ho, hb, -⟩
      obtain ⟨ao, cap, rfl⟩ := owns_shape ho
      exact ⟨ao, _, cap, e0, r', t'.1, t'.2.1, t'.2.2, 0, rfl, Mine.of_owns ho, hb⟩
    · refine Calls.mono (feed_long e0 ⟨#[]⟩ M.st0 s false w (Nat.zero_le _) hq (by omega) hs) ?_
      rintro e w' ⟨rfl, hb⟩
      exact ⟨none, 0, 0, 0, ⟨#[]⟩, 0, false, false, 2, rfl, mine_none _ _, hb⟩
  · refine Calls.mono (feed_err e0 ⟨#[]⟩ M.st0 s false w (Nat.zero_le _) (bne_iff_ne.2 hq)) ?_
    rintro e w' ⟨rfl, hb⟩
    exact ⟨none, 0, 0, 0, ⟨#[]⟩, 0, false, false, _, rfl, mine_none _ _, hb⟩
theorem bg_all (L : ByteArray) (w : World) (hL : L.size ≤ maxLen) : Calls Tryz.prog 13 #[.string L] w fun e w' => ∃ (K : ByteArray) (x : Int), K.size ≤ 3000 ∧ e = .returned (.tuple #[.agg #[.string K, .int .i64 0, .int .i64 0, .string ⟨#[]⟩, .int .i64 0, .string ⟨#[]⟩, .int .i64 0, .bool false, .bool false], .int .i64 x]) ∧ Below w.heap.size w w' := by
  by_cases h : L.size ≤ 3000
  · refine (bgSays L w h).mono ?_
    rintro e w' ⟨rfl, hb⟩
    exact ⟨L, 0, h, rfl, hb⟩
  · refine (bgErrs L w hL (by omega)).mono ?_
    rintro e w' ⟨rfl, hb⟩
    exact ⟨⟨#[]⟩, 2, by decide, rfl, hb⟩
theorem ff_mine (K s : ByteArray) (w : World) (hM : Mx w) (hK : K.size ≤ 3000) (hs : s.size ≤ maxLen) :
    Calls Tryz.prog 14 #[.agg #[.string K, .int .i64 0, .int .i64 0, .string ⟨#[]⟩, .int .i64 0, .string ⟨#[]⟩, .int .i64 0, .bool false, .bool false], .string s, .bool true] w fun e w' => ∃ ao k cap, ∃ (L1 : ByteArray) (en wy : Int) (W1 : ByteArray) (e1 : Int) (r : ByteArray) (g : Int) (fr st : Bool) (x : Int), e = .returned (.tuple #[.slice ao k cap, .agg #[.string L1, .int .i64 en, .int .i64 wy, .string W1, .int .i64 e1, .string r, .int .i64 g, .bool fr, .bool st], .int .i64 x]) ∧ Mine w.heap.size w' (.slice ao k cap) k ∧ Below w.heap.size w w' := by
  have hk : (Fr.new K).chk = 0 := (Infr.start K).chk hK
  by_cases h3 : s.size ≤ 3000
  · refine Calls.mono (fdSays (Fr.new K) s true w hk h3 hM) ?_
    rintro e w' ⟨v, rfl, ho, hb⟩
    obtain ⟨ao, cap, rfl⟩ := owns_shape ho
    generalize Fr.nxt (Fr.new K) s true = N at *
    exact ⟨ao, _, cap, N.L, N.enc, N.why, N.W, N.e, N.r, N.t.1, N.t.2.1, N.t.2.2, 0, rfl, Mine.of_owns ho, hb⟩
  · refine Calls.mono (fdErrs (Fr.new K) s true w (by show K.size ≤ _; unfold maxLen; omega) (Nat.zero_le _) (Nat.zero_le _) hs (.inr (by omega)) hM) ?_
    rintro e w' ⟨v, rfl, hI, hb⟩
    obtain ⟨ao, cap, rfl, -⟩ := id hI
    exact ⟨ao, 0, cap, ⟨#[]⟩, 0, 0, ⟨#[]⟩, 0, ⟨#[]⟩, 0, false, false, _, rfl, Mine.nil _ hI, hb⟩
theorem al_mine (s : ByteArray) (w : World) (hs : s.size ≤ maxLen) :
    Calls Tryz.prog 47 #[.string s, .int .i64 0] w fun e w' => ∃ ao k cap, ∃ x y : Int, e = .returned (.tuple #[.slice ao k cap, .int .i64 x, .int .i64 y]) ∧ MineA w.heap.size w' (.slice ao k cap) k ∧ Below w.heap.size w w' := by
  by_cases h3 : s.size ≤ 3000
  · refine Calls.mono (All_own s 0 w (Nat.zero_le _) h3) ?_
    rintro e w' ⟨v, rfl, ho, hb⟩
    obtain ⟨ao, cap, rfl⟩ := owns_shape ho
    exact ⟨ao, _, cap, _, _, rfl, MineA.of_owns ho, hb⟩
  · refine Calls.mono (All_bad s 0 w hs (by unfold badE; rw [if_pos (by omega)]; decide)) ?_
    rintro e w' ⟨v, rfl, hI, hb⟩
    obtain ⟨ao, cap, rfl, -⟩ := hI
    exact ⟨ao, 0, cap, _, _, rfl, ⟨by simp, .inl ⟨ao, cap, rfl, rfl⟩⟩, hb⟩
set_option maxHeartbeats 400000 in
set_option maxRecDepth 100000 in
theorem intsAre_two {v : Value} (ao : Option Addr) (n c : Nat) (w : World) (h : Ints w v []) :
    Calls Tryz.prog 21 #[v, .int .i64 2, .int .i64 2, .slice ao n c] w fun e w' => e = .returned (.bool true) ∧ Below w.heap.size w w' := by
  have HI := hide h
  obtain ⟨a1, c1, rfl, -⟩ := h
  go_enter Tryz.func21, Tryz.ntmps21
  go_wp2_with fail
  refine (same_any _ (unhide HI) (Ints.nil _)).mono ?_
  rintro e w1 ⟨rfl, hb⟩
  rw [show (([] : List Int) == []) = true from rfl]
  go_wp2_with fail
  go_ret
  exact ⟨rfl, hb⟩
theorem ct_all {v : Value} {xs : List Int} (w : World) (h : Ints w v xs) : Calls Tryz.prog 32 #[v] w fun e w' => ∃ x y z : Int, e = .returned (.tuple #[.int .i64 x, .int .i64 y, .int .i64 z]) ∧ Below w.heap.size w w' := by
  by_cases h1 : 3000 < xs.length
  · refine (ctErrs v xs w h (.inl h1)).mono ?_
    rintro e w' ⟨rfl, hb⟩
    exact ⟨_, _, _, rfl, hb⟩
  · cases h2 : xs.all M.sclr
    · refine (ctErrs v xs w h (.inr h2)).mono ?_
      rintro e w' ⟨rfl, hb⟩
      exact ⟨_, _, _, rfl, hb⟩
    · refine (ctSays v xs w h (by omega) h2).mono ?_
      rintro e w' ⟨rfl, hb⟩
      exact ⟨_, _, _, rfl, hb⟩
end Go.Proofs.YtaiinjfnkmidbaaGreatDoor
