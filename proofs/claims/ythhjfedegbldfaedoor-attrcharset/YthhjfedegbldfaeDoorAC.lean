/- The walk of AttrCharset over what attr's and label's calls have to answer: true; nothing that was there is written. -/
import Derived.Test.YthhjfedegbldfaeDoorAD
namespace Go.Proofs.YthhjfedegbldfaeDoor
open Go.RowKit
set_option linter.unusedVariables false

def FindSays : Prop := ∀ (s : ByteArray) (w : World), s.size ≤ 3000 → Calls Tryd.prog 19 #[.string s] w fun e w' => e = .returned (.tuple #[.int .i64 (findI s), .int .i64 0]) ∧ Below w.heap.size w w'
def LabelsBegun : Prop := ∀ w : World, Calls Tryd.prog 18 #[] w fun e w' => e = .returned (.bool true) ∧ Below w.heap.size w w'

theorem fnd_bl (s : ByteArray) : fnd (bl s) = findI s := by unfold fnd; rw [str_bl]
theorem charset_bare {a n b : ByteArray} (ha : ∀ x ∈ bl a, x ≠ 99 ∧ x ≠ 67) (hn : plain n = true) :
    chsI (bl (a ++ ⟨#[99, 104, 97, 114, 115, 101, 116, 61]⟩ ++ n ++ ⟨#[59]⟩ ++ b)) = findI n := by
  obtain ⟨h1, h2⟩ := plain_yes hn
  have := chs_bare (ahead := bl a) (W := csL) (g := []) (g2 := []) (nm := bl n) (behind := bl b) ha (by decide) rfl rfl h1 h2
  rw [fnd_bl] at this
  rw [← this]
  simp only [bl_app]
  congr 1
  rw [show bl ⟨#[99, 104, 97, 114, 115, 101, 116, 61]⟩ = csL ++ [61] from by decide, show bl ⟨#[59]⟩ = [59] from by decide]
  simp
theorem charset_quote {a n b : ByteArray} (ha : ∀ x ∈ bl a, x ≠ 99 ∧ x ≠ 67) (hn : plain n = true) :
    chsI (bl (a ++ ⟨#[67, 104, 97, 114, 83, 101, 116, 32, 61, 32, 39]⟩ ++ n ++ ⟨#[39]⟩ ++ b)) = findI n := by
  obtain ⟨h1, h2⟩ := plain_yes hn
  have := chs_quote (ahead := bl a) (W := [67, 104, 97, 114, 83, 101, 116]) (g := [32]) (g2 := [32]) (nm := bl n) (behind := bl b) (q := 39) ha (by decide) rfl rfl h1 (.inr rfl)
  rw [fnd_bl] at this
  rw [← this]
  simp only [bl_app]
  congr 1
  rw [show bl ⟨#[67, 104, 97, 114, 83, 101, 116, 32, 61, 32, 39]⟩ = [67, 104, 97, 114, 83, 101, 116] ++ [32] ++ [61] ++ [32] ++ [39] from by decide, show bl ⟨#[39]⟩ = [39] from by decide]
  simp
theorem charset_open {a n : ByteArray} (ha : ∀ x ∈ bl a, x ≠ 99 ∧ x ≠ 67) (hn : plain n = true) :
    chsI (bl (a ++ ⟨#[99, 104, 97, 114, 115, 101, 116, 61, 34]⟩ ++ n)) = 0 := by
  obtain ⟨h1, h2⟩ := plain_yes hn
  have := chs_open (ahead := bl a) (W := csL) (g := []) (g2 := []) (nm := bl n) (q := 34) ha (by decide) rfl rfl h1 (.inl rfl)
  rw [← this]
  simp only [bl_app]
  congr 1
  rw [show bl ⟨#[99, 104, 97, 114, 115, 101, 116, 61, 34]⟩ = csL ++ [61] ++ [34] from by decide]
  simp

theorem noC_snoc {a : ByteArray} {k : Nat} {c : Int} (hk : k < a.size) (hc : (bl a).getD k 0 = c) (h : ∀ j, j < k → (bl a).getD j 0 ≠ 99 ∧ (bl a).getD j 0 ≠ 67) (h1 : c ≠ 99) (h2 : c ≠ 67) : ∀ j, j < k + 1 → (bl a).getD j 0 ≠ 99 ∧ (bl a).getD j 0 ≠ 67 := by
  intro j hj
  by_cases e : j = k
  · subst e; rw [hc]; exact ⟨h1, h2⟩
  · exact h j (by omega)
theorem noC_all {a : ByteArray} (h : ∀ j, j < a.size → (bl a).getD j 0 ≠ 99 ∧ (bl a).getD j 0 ≠ 67) : ∀ x ∈ bl a, x ≠ 99 ∧ x ≠ 67 := by
  intro x hx
  obtain ⟨j, hj, e⟩ := List.mem_iff_getElem.1 hx
  have := h j (by rw [← bl_len]; exact hj)
  rw [show (bl a).getD j 0 = x from by rw [← e]; simp [hj]] at this
  exact this
set_option maxHeartbeats 3200000 in
set_option maxRecDepth 100000 in
theorem charset_walk (hN : NextSays) (hA : AllSays) (hC : ChsSays) (hF : FindSays) (hL : LabelsBegun) (a n b : ByteArray) (w : World) (hMx : Mx w) (ha : a.size ≤ 140737488351232) (hn : n.size ≤ 140737488351232) (hb : b.size ≤ 140737488351232) :
    Calls Tryd.prog 6 #[.string a, .string n, .string b] w fun e w' => e = .returned (.bool true) ∧ Below w.heap.size w w' := by
  have HMx := hide hMx
  clear hMx
  have HAB := hide (attrBegun_any hN hA hC)
  have HC := hide hC
  have HF := hide hF
  have HL := hide hL
  clear hN hA hC hF hL
  go_enter Tryd.func6, Tryd.ntmps6
  go_wp2_with fail
  refine (unhide HAB _ (by first | exact unhide HMx | exact (unhide HMx).below (unhide (by assumption)) | exact (unhide HMx).below (bstep (unhide (by assumption)) (balloc _ _)))).mono ?_
  rintro e w1 ⟨rfl, hb1⟩
  have HB1 := hide hb1
  clear hb1 HAB
  go_wp2_with fail
  refine (unhide HL _).mono ?_
  rintro e w2 ⟨rfl, hb2⟩
  have HB2 := hide (bstep (unhide HB1) hb2)
  clear hb2 HB1 HL
  go_wp2_with fail
  go_loop [7] (fun i => ∃ k : Nat, k ≤ a.size ∧ i = .int .i64 k ∧ Hid (∀ j, j < k → (bl a).getD j 0 ≠ 99 ∧ (bl a).getD j 0 ≠ 67)) (fun i => a.size - (intOf i).toNat)
  case atStart => exact ⟨0, by omega, rfl, fun j hj => by omega⟩
  case round =>
    obtain ⟨k, hk, rfl, HK⟩ := hrel
    by_cases hlt : k < a.size
    · have hcb := u8_lt a hlt
      have HG := hide (bl_at hlt)
      by_cases h99 : (a[k].toNat : Int) = 99
      · have e99 : ((a[k].toNat : Int) == 99) = true := beq_iff_eq.2 h99
        clear h99
        go_wp2_with fail
        go_ret
        exact ⟨rfl, unhide HB2⟩
      · have e99 : ((a[k].toNat : Int) == 99) = false := beq_eq_false_iff_ne.2 h99
        by_cases h67 : (a[k].toNat : Int) = 67
        · have e67 : ((a[k].toNat : Int) == 67) = true := beq_iff_eq.2 h67
          clear h99 h67
          go_wp2_with fail
          go_ret
          exact ⟨rfl, unhide HB2⟩
        · have e67 : ((a[k].toNat : Int) == 67) = false := beq_eq_false_iff_ne.2 h67
          have HK' := hide (noC_snoc hlt (unhide HG) (unhide HK) h99 h67)
          clear h99 h67
          go_wp2_with fail
          go_round
          case rel => exact ⟨k + 1, by omega, by go_num, HK'⟩
          case measure => simp [intOf]; omega
    · have HK' := hide (noC_all (a := a) (fun j hj => unhide HK j (by omega)))
      go_wp2_with fail
      refine (plainly_any n _ (by unfold maxLen; omega)).mono ?_
      rintro e w3 ⟨rfl, hw⟩
      replace hw := hw.symm
      subst hw
      cases hp : plain n
      · go_wp2_with fail
        go_ret
        exact ⟨rfl, unhide HB2⟩
      · by_cases hg : a.size + n.size + b.size ≤ 2980
        · have z1 : (⟨#[99, 104, 97, 114, 115, 101, 116, 61]⟩ : ByteArray).size = 8 := rfl
          have z2 : (⟨#[59]⟩ : ByteArray).size = 1 := rfl
          have z3 : (⟨#[67, 104, 97, 114, 83, 101, 116, 32, 61, 32, 39]⟩ : ByteArray).size = 11 := rfl
          have z4 : (⟨#[39]⟩ : ByteArray).size = 1 := rfl
          have z5 : (⟨#[99, 104, 97, 114, 115, 101, 116, 61, 34]⟩ : ByteArray).size = 9 := rfl
          have r1 := hide (fun w => unhide HF n w (by omega))
          have r2 := hide (fun w => unhide HC (a ++ ⟨#[99, 104, 97, 114, 115, 101, 116, 61]⟩ ++ n ++ ⟨#[59]⟩ ++ b) w (by simp; omega))
          have r3 := hide (fun w => unhide HC (a ++ ⟨#[67, 104, 97, 114, 83, 101, 116, 32, 61, 32, 39]⟩ ++ n ++ ⟨#[39]⟩ ++ b) w (by simp; omega))
          have r4 := hide (fun w => unhide HC (a ++ ⟨#[99, 104, 97, 114, 115, 101, 116, 61, 34]⟩ ++ n) w (by simp; omega))
          rw [charset_bare (unhide HK') hp] at r2
          rw [charset_quote (unhide HK') hp] at r3
          rw [charset_open (unhide HK') hp] at r4
          generalize findI n = R at r1 r2 r3
          clear HK HK' HC HF hp
          go_wp2_with fail
          refine (unhide r1 _).mono ?_
          rintro e w3 ⟨rfl, hb3⟩
          have HB3 := hide (bstep (unhide HB2) hb3)
          clear hb3 r1
          go_wp2_with fail
          refine (unhide r2 _ (by first | exact unhide HMx | exact (unhide HMx).below (unhide (by assumption)) | exact (unhide HMx).below (bstep (unhide (by assumption)) (balloc _ _)))).mono ?_
          rintro e w4 ⟨rfl, hb4⟩
          have HB4 := hide (bstep (unhide HB3) hb4)
          clear hb4 r2 HB3
          go_wp2_with fail
          refine (unhide r3 _ (by first | exact unhide HMx | exact (unhide HMx).below (unhide (by assumption)) | exact (unhide HMx).below (bstep (unhide (by assumption)) (balloc _ _)))).mono ?_
          rintro e w5 ⟨rfl, hb5⟩
          have HB5 := hide (bstep (unhide HB4) hb5)
          clear hb5 r3 HB4
          go_wp2_with fail
          refine (unhide r4 _ (by first | exact unhide HMx | exact (unhide HMx).below (unhide (by assumption)) | exact (unhide HMx).below (bstep (unhide (by assumption)) (balloc _ _)))).mono ?_
          rintro e w6 ⟨rfl, hb6⟩
          have HB6 := hide (bstep (unhide HB5) hb6)
          clear hb6 r4 HB5
          go_wp2_with fail
          go_ret
          exact ⟨by simp, unhide HB6⟩
        · go_wp2_with fail
          go_ret
          exact ⟨rfl, unhide HB2⟩
end Go.Proofs.YthhjfedegbldfaeDoor
