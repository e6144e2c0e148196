/- The walk of ScanPlain over what scan's and label's calls have to answer: true; nothing that was there is written. -/
import Derived.Test.YtofbghdkmjhniaaDoorAC
import Derived.Test.YtofbghdkmjhniaaDoorSF
namespace Go.Proofs.YtofbghdkmjhniaaDoor
open Go.RowKit
set_option linter.unusedVariables false

theorem tag_scan {a n b : ByteArray} (ha : ∀ x ∈ bl a, x ≠ 60) (hn : plain n = true) (hl : a.size + 15 + n.size ≤ 256) (hne : fixE (findI n) ≠ 0) :
    scnI (bl (a ++ (⟨#[60, 109, 101, 116, 97, 32, 99, 104, 97, 114, 115, 101, 116, 61]⟩ ++ n ++ ⟨#[62]⟩) ++ b)) = fixE (findI n) := by
  obtain ⟨h1, h2⟩ := plain_yes hn
  rw [← fnd_bl] at hne ⊢
  have := scanI_meta (ahead := bl a) (nm := bl n) (behind := bl b) ha h1 h2 (by rw [bl_len, bl_len]; exact hl) hne
  rw [← this]
  simp only [bl_app]
  congr 1
  rw [show bl ⟨#[60, 109, 101, 116, 97, 32, 99, 104, 97, 114, 115, 101, 116, 61]⟩ = tgL from by decide, show bl ⟨#[62]⟩ = [62] from by decide]
  simp
theorem tag_comment {a n : ByteArray} (ha : ∀ x ∈ bl a, x ≠ 60) (hn : plain n = true) (hl : a.size + 22 + n.size ≤ 256) :
    scnI (bl (a ++ ⟨#[60, 33, 45, 45]⟩ ++ (⟨#[60, 109, 101, 116, 97, 32, 99, 104, 97, 114, 115, 101, 116, 61]⟩ ++ n ++ ⟨#[62]⟩) ++ ⟨#[45, 45, 62]⟩)) = 0 := by
  obtain ⟨h1, h2⟩ := plain_yes hn
  have := scanI_comment (ahead := bl a) (nm := bl n) ha h1 (by rw [bl_len, bl_len]; exact hl)
  rw [← this]
  simp only [bl_app]
  congr 1
  rw [show bl ⟨#[60, 109, 101, 116, 97, 32, 99, 104, 97, 114, 115, 101, 116, 61]⟩ = tgL from by decide, show bl ⟨#[62]⟩ = [62] from by decide, show bl ⟨#[60, 33, 45, 45]⟩ = b4 from by decide, show bl ⟨#[45, 45, 62]⟩ = [45, 45, 62] from by decide]
  simp
theorem no60_snoc {a : ByteArray} {k : Nat} {c : Int} (hk : k < a.size) (hc : (bl a).getD k 0 = c) (h : ∀ j, j < k → (bl a).getD j 0 ≠ 60) (h1 : c ≠ 60) : ∀ j, j < k + 1 → (bl a).getD j 0 ≠ 60 := by
  intro j hj
  by_cases e : j = k
  · subst e; rw [hc]; exact h1
  · exact h j (by omega)
theorem no60_all {a : ByteArray} (h : ∀ j, j < a.size → (bl a).getD j 0 ≠ 60) : ∀ x ∈ bl a, x ≠ 60 := by
  intro x hx
  obtain ⟨j, hj, e⟩ := List.mem_iff_getElem.1 hx
  have := h j (by rw [← bl_len]; exact hj)
  rw [show (bl a).getD j 0 = x from by rw [← e]; simp [hj]] at this
  exact this
theorem to7 {R : Int} (h : 0 ≤ R ∧ R ≤ 7) : R = 0 ∨ R = 1 ∨ R = 2 ∨ R = 3 ∨ R = 4 ∨ R = 5 ∨ R = 6 ∨ R = 7 := by omega
set_option maxHeartbeats 6400000 in
set_option maxRecDepth 100000 in
theorem splain_walk (hM : MetaSays) (hS : ScanSays) (hF : FindSays) (hL : LabelsBegun) (a n b : ByteArray) (w : World) (hMx : Mx w) (ha : a.size ≤ 140737488351232) (hn : n.size ≤ 140737488351232) (hb : b.size ≤ 140737488351232) :
    Calls Tryd.prog 4 #[.string a, .string n, .string b] w fun e w' => e = .returned (.bool true) ∧ Below w.heap.size w w' := by
  have HMx := hide hMx
  clear hMx
  have HAB := hide (scanBegun_any hM hS)
  have HC := hide hS
  have HF := hide hF
  have HL := hide hL
  clear hM hS hF hL
  have z1 : (⟨#[60, 109, 101, 116, 97, 32, 99, 104, 97, 114, 115, 101, 116, 61]⟩ : ByteArray).size = 14 := rfl
  have z2 : (⟨#[62]⟩ : ByteArray).size = 1 := rfl
  have z3 : (⟨#[60, 33, 45, 45]⟩ : ByteArray).size = 4 := rfl
  have z4 : (⟨#[45, 45, 62]⟩ : ByteArray).size = 3 := rfl
  go_enter Tryd.func4, Tryd.ntmps4
  go_wp2_with fail
  refine (unhide HAB _ (by first | exact unhide HMx | exact (unhide HMx).below (unhide (by assumption)) | exact (unhide HMx).below (bstep (unhide (by assumption)) (balloc _ _)))).mono ?_
  rintro e w1 ⟨rfl, hb1⟩
  have HB1 := hide hb1
  clear hb1 HAB
  go_wp2_with fail
  refine (unhide HL _).mono ?_
  rintro e w2 ⟨rfl, hb2⟩
  have HB2 := hide (bstep (unhide HB1) hb2)
  clear hb2 HB1 HL
  go_wp2_with fail
  go_loop [7] (fun i => ∃ k : Nat, k ≤ a.size ∧ i = .int .i64 k ∧ Hid (∀ j, j < k → (bl a).getD j 0 ≠ 60)) (fun i => a.size - (intOf i).toNat)
  case atStart => exact ⟨0, by omega, rfl, fun j hj => by omega⟩
  case round =>
    obtain ⟨k, hk, rfl, HK⟩ := hrel
    by_cases hlt : k < a.size
    · have hcb := u8_lt a hlt
      have HG := hide (bl_at hlt)
      by_cases h60 : (a[k].toNat : Int) = 60
      · have e60 : ((a[k].toNat : Int) == 60) = true := beq_iff_eq.2 h60
        clear h60
        go_wp2_with fail
        go_ret
        exact ⟨rfl, unhide HB2⟩
      · have e60 : ((a[k].toNat : Int) == 60) = false := beq_eq_false_iff_ne.2 h60
        have HK' := hide (no60_snoc hlt (unhide HG) (unhide HK) h60)
        clear h60
        go_wp2_with fail
        go_round
        case rel => exact ⟨k + 1, by omega, by go_num, HK'⟩
        case measure => simp [intOf]; omega
    · have HK' := hide (no60_all (a := a) (fun j hj => unhide HK j (by omega)))
      go_wp2_with fail
      refine (plainly_any n _ (by unfold maxLen; omega)).mono ?_
      rintro e w3 ⟨rfl, hw⟩
      replace hw := hw.symm
      subst hw
      cases hp : plain n
      · go_wp2_with fail
        go_ret
        exact ⟨rfl, unhide HB2⟩
      · by_cases hg1 : a.size + (15 + n.size) ≤ 249
        · by_cases hg : a.size + (15 + n.size) + b.size + 7 ≤ 3000
          · have r1 := (fun w => unhide HF n w (by omega))
            have r2 := (fun w => unhide HC (a ++ (⟨#[60, 109, 101, 116, 97, 32, 99, 104, 97, 114, 115, 101, 116, 61]⟩ ++ n ++ ⟨#[62]⟩) ++ b) w (by simp; omega))
            have r3 := (fun w => unhide HC (a ++ ⟨#[60, 33, 45, 45]⟩ ++ (⟨#[60, 109, 101, 116, 97, 32, 99, 104, 97, 114, 115, 101, 116, 61]⟩ ++ n ++ ⟨#[62]⟩) ++ ⟨#[45, 45, 62]⟩) w (by simp; omega))
            rw [tag_comment (unhide HK') hp (by omega)] at r3
            have HT := hide (tag_scan (b := b) (unhide HK') hp (by omega))
            have hbd := findI_bd n
            generalize scnI (bl (a ++ (⟨#[60, 109, 101, 116, 97, 32, 99, 104, 97, 114, 115, 101, 116, 61]⟩ ++ n ++ ⟨#[62]⟩) ++ b)) = U at r2 HT
            generalize findI n = R at r1 hbd HT
            clear HK HK' HC HF hp
            go_wp2_with fail
            refine (r1 _).mono ?_
            rintro e w3 ⟨rfl, hb3⟩
            have HB3 := hide (bstep (unhide HB2) hb3)
            clear hb3 r1 HB2
            rcases to7 hbd with rfl | rfl | rfl | rfl | rfl | rfl | rfl | rfl
            · clear HT
              go_wp2_with fail
              refine (r2 _ (by first | exact unhide HMx | exact (unhide HMx).below (unhide (by assumption)) | exact (unhide HMx).below (bstep (unhide (by assumption)) (balloc _ _)))).mono ?_
              rintro e w4 ⟨rfl, hb4⟩
              have HB4 := hide (bstep (unhide HB3) hb4)
              clear hb4 r2 HB3
              go_wp2_with fail
              refine (r3 _ (by first | exact unhide HMx | exact (unhide HMx).below (unhide (by assumption)) | exact (unhide HMx).below (bstep (unhide (by assumption)) (balloc _ _)))).mono ?_
              rintro e w5 ⟨rfl, hb5⟩
              have HB5 := hide (bstep (unhide HB4) hb5)
              clear hb5 r3 HB4
              go_wp2_with fail
              go_ret
              exact ⟨rfl, unhide HB5⟩
            all_goals
              have hU := unhide HT (by decide)
              simp [fixE] at hU
              subst hU
              clear HT
              go_wp2_with fail
              refine (r2 _ (by first | exact unhide HMx | exact (unhide HMx).below (unhide (by assumption)) | exact (unhide HMx).below (bstep (unhide (by assumption)) (balloc _ _)))).mono ?_
              rintro e w4 ⟨rfl, hb4⟩
              have HB4 := hide (bstep (unhide HB3) hb4)
              clear hb4 r2 HB3
              go_wp2_with fail
              refine (r3 _ (by first | exact unhide HMx | exact (unhide HMx).below (unhide (by assumption)) | exact (unhide HMx).below (bstep (unhide (by assumption)) (balloc _ _)))).mono ?_
              rintro e w5 ⟨rfl, hb5⟩
              have HB5 := hide (bstep (unhide HB4) hb5)
              clear hb5 r3 HB4
              go_wp2_with fail
              go_ret
              exact ⟨rfl, unhide HB5⟩
          · go_wp2_with fail
            go_ret
            exact ⟨rfl, unhide HB2⟩
        · go_wp2_with fail
          go_ret
          exact ⟨rfl, unhide HB2⟩
end Go.Proofs.YtofbghdkmjhniaaDoor
