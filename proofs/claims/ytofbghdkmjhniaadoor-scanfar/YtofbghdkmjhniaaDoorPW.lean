/- The contract of cartouchelaw.plainly: whether a text may be written as it is; nothing that was there is written. Condition: the model's own bound on a text. -/
import Derived.Test.YtofbghdkmjhniaaDoorMathZ5
namespace Go.Proofs.YtofbghdkmjhniaaDoor
open Go.RowKit
set_option linter.unusedVariables false

def plain (s : ByteArray) : Bool := (bl s).all pl && decide (s.size ≠ 0)
theorem plain_yes {s : ByteArray} (h : plain s = true) : (bl s).all pl = true ∧ bl s ≠ [] := by
  unfold plain at h
  rw [Bool.and_eq_true] at h
  refine ⟨h.1, fun e => ?_⟩
  have := of_decide_eq_true h.2
  rw [← bl_len, e] at this
  simp at this
theorem pl_yes {c : Int} (h : (97 ≤ c ∧ c ≤ 122) ∨ (48 ≤ c ∧ c ≤ 57) ∨ c = 45) : pl c = true := decide_eq_true h
theorem pl_no {c : Int} (h : ¬ ((97 ≤ c ∧ c ≤ 122) ∨ (48 ≤ c ∧ c ≤ 57) ∨ c = 45)) : pl c = false := decide_eq_false h
theorem empty_list (s : ByteArray) : s.toList.isEmpty = decide (s = ByteArray.empty) := by
  rw [Lib.toList_data, Bool.eq_iff_iff, List.isEmpty_iff, decide_eq_true_eq]
  constructor
  · intro h
    obtain ⟨d⟩ := s
    have : d = #[] := by simpa using h
    rw [this]; rfl
  · intro h; rw [h]; rfl
theorem parts7 (c : Int) : c < 45 ∨ c = 45 ∨ (45 < c ∧ c < 48) ∨ (48 ≤ c ∧ c ≤ 57) ∨ (57 < c ∧ c < 97) ∨ (97 ≤ c ∧ c ≤ 122) ∨ 122 < c := by omega

set_option maxHeartbeats 1600000 in
set_option maxRecDepth 100000 in
theorem plainly_any (s : ByteArray) (w : World) (hs : s.size ≤ maxLen) :
    Calls Tryd.prog 8 #[.string s] w fun e w' => e = .returned (.bool (plain s)) ∧ w' = w := by
  unfold maxLen at hs
  go_enter Tryd.func8, Tryd.ntmps8
  go_wp2_with fail
  go_loop [3] (fun i => ∃ k : Nat, k ≤ s.size ∧ i = .int .i64 k ∧ Hid (((bl s).take k).all pl = true)) (fun i => s.size - (intOf i).toNat)
  case atStart => exact ⟨0, by omega, rfl, rfl⟩
  case round =>
    obtain ⟨k, hk, rfl, HA⟩ := hrel
    by_cases hlt : k < s.size
    · have hcb := u8_lt s hlt
      have HG := hide (bl_at hlt)
      have HL := hide (bl_len s)
      have HY : ∀ h : pl (s[k].toNat : Int) = true, Hid (((bl s).take (k + 1)).all pl = true) := fun h => by
        show ((bl s).take (k + 1)).all pl = true
        rw [take_snoc (bl s) k (by rw [unhide HL]; exact hlt), List.all_append, unhide HA, unhide HG]
        simp [h]
      have HN : ∀ h : pl (s[k].toNat : Int) = false, plain s = false := fun h => by
        unfold plain
        have : (bl s).all pl = false := by
          rw [List.all_eq_false]
          exact ⟨(bl s).getD k 0, getD_mem (by rw [unhide HL]; exact hlt), by rw [unhide HG, h]; simp⟩
        rw [this]; rfl
      have HY' := hide HY
      have HN' := hide HN
      clear HY HN
      rcases parts7 (s[k].toNat : Int) with h | h | h | h | h | h | h
      · have h45 : ((s[k].toNat : Int) == 45) = false := beq_eq_false_iff_ne.2 (by omega)
        have h57 : decide ((s[k].toNat : Int) ≤ 57) = true := decide_eq_true (by omega)
        have h122 : decide ((s[k].toNat : Int) ≤ 122) = true := decide_eq_true (by omega)
        go_wp2_with fail
        go_ret
        exact ⟨by rw [unhide HN' (pl_no (by omega))]; rfl, rfl⟩
      · have h45 : ((s[k].toNat : Int) == 45) = true := beq_iff_eq.2 h
        have h57 : decide ((s[k].toNat : Int) ≤ 57) = true := decide_eq_true (by omega)
        have h122 : decide ((s[k].toNat : Int) ≤ 122) = true := decide_eq_true (by omega)
        go_wp2_with fail
        go_round
        case rel => exact ⟨k + 1, by omega, by go_num, unhide HY' (pl_yes (by omega))⟩
        case measure => simp [intOf]; omega
      · have h45 : ((s[k].toNat : Int) == 45) = false := beq_eq_false_iff_ne.2 (by omega)
        have h57 : decide ((s[k].toNat : Int) ≤ 57) = true := decide_eq_true (by omega)
        have h122 : decide ((s[k].toNat : Int) ≤ 122) = true := decide_eq_true (by omega)
        go_wp2_with fail
        go_ret
        exact ⟨by rw [unhide HN' (pl_no (by omega))]; rfl, rfl⟩
      · have h45 : ((s[k].toNat : Int) == 45) = false := beq_eq_false_iff_ne.2 (by omega)
        have h57 : decide ((s[k].toNat : Int) ≤ 57) = true := decide_eq_true (by omega)
        have h122 : decide ((s[k].toNat : Int) ≤ 122) = true := decide_eq_true (by omega)
        go_wp2_with fail
        go_round
        case rel => exact ⟨k + 1, by omega, by go_num, unhide HY' (pl_yes (by omega))⟩
        case measure => simp [intOf]; omega
      · have h45 : ((s[k].toNat : Int) == 45) = false := beq_eq_false_iff_ne.2 (by omega)
        have h57 : decide ((s[k].toNat : Int) ≤ 57) = false := decide_eq_false (by omega)
        have h122 : decide ((s[k].toNat : Int) ≤ 122) = true := decide_eq_true (by omega)
        go_wp2_with fail
        go_ret
        exact ⟨by rw [unhide HN' (pl_no (by omega))]; rfl, rfl⟩
      · have h45 : ((s[k].toNat : Int) == 45) = false := beq_eq_false_iff_ne.2 (by omega)
        have h57 : decide ((s[k].toNat : Int) ≤ 57) = false := decide_eq_false (by omega)
        have h122 : decide ((s[k].toNat : Int) ≤ 122) = true := decide_eq_true (by omega)
        go_wp2_with fail
        go_round
        case rel => exact ⟨k + 1, by omega, by go_num, unhide HY' (pl_yes (by omega))⟩
        case measure => simp [intOf]; omega
      · have h45 : ((s[k].toNat : Int) == 45) = false := beq_eq_false_iff_ne.2 (by omega)
        have h57 : decide ((s[k].toNat : Int) ≤ 57) = false := decide_eq_false (by omega)
        have h122 : decide ((s[k].toNat : Int) ≤ 122) = false := decide_eq_false (by omega)
        go_wp2_with fail
        go_ret
        exact ⟨by rw [unhide HN' (pl_no (by omega))]; rfl, rfl⟩
    · go_wp2_with fail
      go_ret
      have := unhide HA
      rw [List.take_of_length_le (by rw [bl_len]; omega)] at this
      refine ⟨?_, rfl⟩
      unfold plain
      rw [this]
      simp
      exact empty_list s
end Go.Proofs.YtofbghdkmjhniaaDoor
