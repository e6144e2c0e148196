/- The contracts of the reference's KanaSign, kanaByte, HasKana and EncodeKana: each returns what the plain function of its name computes; nothing that was there is written. -/
import Derived.Test.YthhjfedegbldfacKF
import Derived.Test.YthhjfedegbldfacLawB
namespace Go.Proofs.Ythhjfedegbldfac
open Go.RowKit
set_option linter.unusedVariables false

set_option maxHeartbeats 800000 in
set_option maxRecDepth 100000 in
theorem kanaSign_any (g c : Int) (hg : M.Sg g) (h0 : 0 ≤ c) (h1 : c < 256) (w : World) :
    Calls Try.prog 49 #[.int .i64 g, .int .i64 c] w fun e w' => e = .returned (.int .i64 (M.ksn g c)) ∧ w' = w := by
  rcases hg with rfl | rfl | rfl
  · go_enter Try.func49, Try.ntmps49
    go_wp2
    all_goals (go_ret; refine ⟨ret_int ?_, rfl⟩; try simp only [beq_iff_eq, beq_eq_false_iff_ne] at *)
    all_goals (simp only [M.ksn]; (repeat' split) <;> first | omega | simp_all)
  · go_enter Try.func49, Try.ntmps49
    go_wp2
    all_goals (go_ret; refine ⟨ret_int ?_, rfl⟩; try simp only [beq_iff_eq, beq_eq_false_iff_ne] at *)
    all_goals (simp only [M.ksn]; (repeat' split) <;> first | omega | simp_all)
  · by_cases hin : 33 ≤ c ∧ c ≤ 95
    · have hd : (decide (33 ≤ c) && decide (c ≤ 95)) = true := by simp; omega
      go_enter Try.func49, Try.ntmps49
      go_wp2_with (go_at_call 38; refine (between_any _ _ _ _).mono ?_; rintro e w1 ⟨rfl, hw⟩; replace hw := hw.symm; subst hw; rw [hd])
      go_ret
      refine ⟨ret_int ?_, rfl⟩
      simp only [M.ksn]; rw [if_pos trivial, if_pos hin]
    · have hd : (decide (33 ≤ c) && decide (c ≤ 95)) = false := by simp; omega
      go_enter Try.func49, Try.ntmps49
      go_wp2_with (go_at_call 38; refine (between_any _ _ _ _).mono ?_; rintro e w1 ⟨rfl, hw⟩; replace hw := hw.symm; subst hw; rw [hd])
      go_ret
      refine ⟨ret_int ?_, rfl⟩
      simp only [M.ksn]; rw [if_pos trivial, if_neg hin]

/-- What kanaByte answers. -/
def kbv (g n : Int) : Int := if M.hasK g n then M.kby g n else -1
theorem kbv_hit {g n : Int} {k : Nat} (hk : k < 128) (h : ∀ j, j < k → M.kis g n j = false) (hh : M.kis g n k = true) : kbv g n = k := by
  have hf : (List.range 128).find? (M.kis g n) = some k := by
    rw [List.find?_range_eq_some]
    refine ⟨hh, by simpa using hk, fun j hj => by simpa using h j hj⟩
  have ha : M.hasK g n = true := by
    unfold M.hasK; rw [List.any_eq_true]; exact ⟨k, by simpa using hk, hh⟩
  unfold kbv M.kby
  rw [ha, hf]; rfl
theorem kbv_miss {g n : Int} (h : ∀ j, j < 128 → M.kis g n j = false) : kbv g n = -1 := by
  have ha : M.hasK g n = false := by
    unfold M.hasK; rw [List.any_eq_false]
    intro x hx; simpa using h x (by simpa using hx)
  unfold kbv; rw [ha]; rfl
theorem kbv_yes {g n : Int} (h : M.hasK g n = true) : kbv g n = M.kby g n ∧ 0 ≤ kbv g n ∧ kbv g n < 128 := by
  obtain ⟨c, h1, h2, _⟩ := M.kby_spec h
  have e : kbv g n = M.kby g n := by unfold kbv; rw [h]; rfl
  exact ⟨e, by omega, by omega⟩
theorem kbv_no {g n : Int} (h : M.hasK g n = false) : kbv g n = -1 := by unfold kbv; rw [h]; rfl
theorem kis_cases (g n : Int) (k : Nat) : M.kis g n k = (k != 27 && M.ksn g k == n && n != 65533) := rfl

set_option maxHeartbeats 800000 in
set_option maxRecDepth 100000 in
theorem kanaByte_any (g n : Int) (hg : M.Sg g) (w : World) :
    Calls Try.prog 30 #[.int .i64 g, .int .i64 n] w fun e w' => e = .returned (.int .i64 (kbv g n)) ∧ w' = w := by
  go_enter Try.func30, Try.ntmps30
  go_wp2_with fail
  go_loop [5] (fun i => ∃ k : Nat, k ≤ 128 ∧ i = .int .i64 k ∧ Hid (∀ j, j < k → M.kis g n j = false)) (fun i => 128 - (intOf i).toNat)
  case atStart => exact ⟨0, by omega, rfl, hide (fun j hj => by omega)⟩
  case round =>
    obtain ⟨k, hk, rfl, HN⟩ := hrel
    by_cases hlt : k < 128
    · have hsg := fun w => kanaSign_any g (k : Int) hg (by omega) (by omega) w
      have HC := hide (kis_cases g n k)
      have HS : Hid (M.kis g n k = false → ∀ j, j < k + 1 → M.kis g n j = false) := hide (fun h j hj => by
        by_cases e : j = k
        · rw [e]; exact h
        · exact unhide HN j (by omega))
      have HH : Hid (M.kis g n k = true → kbv g n = k) := hide (fun h => kbv_hit hlt (unhide HN) h)
      obtain ⟨x, hx⟩ : ∃ x, M.ksn g (k : Int) = x := ⟨_, rfl⟩
      rw [hx] at hsg HC
      clear HN hx
      by_cases h27 : k = 27
      · have HF : Hid (M.kis g n k = false) := hide (by rw [unhide HC, h27]; rfl)
        have e1 : ((k : Int) != 27) = false := by rw [h27]; rfl
        clear hsg h27
        go_wp2_with fail
        go_round
        case rel => exact ⟨k + 1, by omega, by go_num, hide (unhide HS (unhide HF))⟩
        case measure => simp [intOf]; omega
      · have e1 : ((k : Int) != 27) = true := by simp; omega
        have e1' : (k != 27) = true := by simp; omega
        rw [e1'] at HC
        by_cases hxn : x = n
        · subst hxn
          by_cases hb : x = 65533
          · have HF : Hid (M.kis g x k = false) := hide (by rw [unhide HC, hb]; rfl)
            have e2 : (x != 65533) = false := by rw [hb]; rfl
            clear e1' hb
            go_wp2_with fail
            refine (hsg _).mono ?_
            rintro e w1 ⟨rfl, hw⟩
            replace hw := hw.symm
            subst hw
            clear hsg
            go_wp2_with fail
            go_round
            case rel => exact ⟨k + 1, by omega, by go_num, hide (unhide HS (unhide HF))⟩
            case measure => simp [intOf]; omega
          · have e2 : (x != 65533) = true := by simpa using hb
            have HF : Hid (M.kis g x k = true) := hide (by rw [unhide HC, e2]; simp)
            have HR := hide (unhide HH (unhide HF))
            clear e1' hb HF HC HS HH
            go_wp2_with fail
            refine (hsg _).mono ?_
            rintro e w1 ⟨rfl, hw⟩
            replace hw := hw.symm
            subst hw
            clear hsg
            go_wp2_with fail
            go_ret
            exact ⟨ret_int (unhide HR).symm, rfl⟩
        · have e2 : (x == n) = false := by simpa using hxn
          have HF : Hid (M.kis g n k = false) := hide (by rw [unhide HC, e2]; rfl)
          clear e1' hxn
          go_wp2_with fail
          refine (hsg _).mono ?_
          rintro e w1 ⟨rfl, hw⟩
          replace hw := hw.symm
          subst hw
          clear hsg
          go_wp2_with fail
          go_round
          case rel => exact ⟨k + 1, by omega, by go_num, hide (unhide HS (unhide HF))⟩
          case measure => simp [intOf]; omega
    · have e : k = 128 := by omega
      subst e
      have HR := hide (kbv_miss (unhide HN))
      clear HN
      go_wp2_with fail
      go_ret
      exact ⟨ret_int (unhide HR).symm, rfl⟩

theorem kbv_pos (g n : Int) : decide (0 ≤ kbv g n) = M.hasK g n := by
  cases h : M.hasK g n
  · rw [kbv_no h]; rfl
  · exact decide_eq_true (kbv_yes h).2.1
set_option maxHeartbeats 800000 in
set_option maxRecDepth 100000 in
theorem hasKana_any (n : Int) (w : World) :
    Calls Try.prog 29 #[.int .i64 n] w fun e w' => e = .returned (.bool (M.anyK n)) ∧ w' = w := by
  have k0 := fun w => kanaByte_any 0 n (.inl rfl) w
  have k1 := fun w => kanaByte_any 1 n (.inr (.inl rfl)) w
  have k2 := fun w => kanaByte_any 2 n (.inr (.inr rfl)) w
  have HA : Hid (M.anyK n = (decide (0 ≤ kbv 0 n) || decide (0 ≤ kbv 1 n) || decide (0 ≤ kbv 2 n))) := hide (by rw [kbv_pos, kbv_pos, kbv_pos]; rfl)
  generalize kbv 0 n = a0 at *
  generalize kbv 1 n = a1 at *
  generalize kbv 2 n = a2 at *
  have fin3' : ∀ q : Bool, (decide (0 ≤ a0) || decide (0 ≤ a1) || decide (0 ≤ a2)) = q → M.anyK n = q := fun q hq => by rw [unhide HA]; exact hq
  have HF := hide fin3'
  clear fin3' HA
  by_cases h0 : 0 ≤ a0
  · have HR := hide (unhide HF true (by simp [h0]))
    clear HF
    go_enter Try.func29, Try.ntmps29
    go_wp2_with fail
    refine (k0 _).mono ?_
    rintro e w1 ⟨rfl, hw⟩
    replace hw := hw.symm
    subst hw
    go_wp2_with fail
    go_ret
    exact ⟨ret_bool (unhide HR).symm, rfl⟩
  · by_cases h1 : 0 ≤ a1
    · have HR := hide (unhide HF true (by simp [h1]))
      clear HF
      go_enter Try.func29, Try.ntmps29
      go_wp2_with fail
      refine (k0 _).mono ?_
      rintro e w1 ⟨rfl, hw⟩
      replace hw := hw.symm
      subst hw
      go_wp2_with fail
      refine (k1 _).mono ?_
      rintro e w1 ⟨rfl, hw⟩
      replace hw := hw.symm
      subst hw
      go_wp2_with fail
      go_ret
      exact ⟨ret_bool (unhide HR).symm, rfl⟩
    · have HR := hide (unhide HF (decide (0 ≤ a2)) (by simp [h0, h1]))
      clear HF
      go_enter Try.func29, Try.ntmps29
      go_wp2_with fail
      refine (k0 _).mono ?_
      rintro e w1 ⟨rfl, hw⟩
      replace hw := hw.symm
      subst hw
      go_wp2_with fail
      refine (k1 _).mono ?_
      rintro e w1 ⟨rfl, hw⟩
      replace hw := hw.symm
      subst hw
      go_wp2_with fail
      refine (k2 _).mono ?_
      rintro e w1 ⟨rfl, hw⟩
      replace hw := hw.symm
      subst hw
      go_wp2_with fail
      go_ret
      refine ⟨?_, rfl⟩
      rw [unhide HR]
      exact ret_bool (by simp; omega)
end Go.Proofs.Ythhjfedegbldfac
