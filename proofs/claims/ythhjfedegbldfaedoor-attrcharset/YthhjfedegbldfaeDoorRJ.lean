/- The contract of the reference's CharsetOf: the encoding of the label behind a charset; nothing that was there is written. Condition: at most 3000 bytes. -/
import Derived.Test.YthhjfedegbldfaeDoorMathO
import Derived.Deep.CutBlock
import Derived.Deep.DeepCutAuto
namespace Go.Proofs.YthhjfedegbldfaeDoor
open Go.RowKit
set_option linter.unusedVariables false

theorem cs_bl : bl ⟨#[99, 104, 97, 114, 115, 101, 116]⟩ = csL := by decide
set_option maxHeartbeats 12800000 in
set_option maxRecDepth 100000 in
theorem charsetOf_any (s : ByteArray) (w : World) (hs : s.size ≤ 3000) :
    Calls Tryd.prog 12 #[.string s] w fun e w' => e = .returned (.int .i64 (chsI (bl s))) ∧ Below w.heap.size w w' := by
  have hl := bl_len s
  have HBG := hide (fun (k : Nat) (hk : k ≤ s.size) (w : World) => beginsAt_any s k ⟨#[99, 104, 97, 114, 115, 101, 116]⟩ w hk hs (by decide))
  rw [cs_bl] at HBG
  go_enter Tryd.func12, Tryd.ntmps12
  go_wp2_with fail
  go_loopw [3] (fun i wr => ∃ k : Nat, i = .int .i64 k ∧ k ≤ s.size ∧ Below w.heap.size w wr ∧ Hid (chsF (bl s) k = chsI (bl s))) (fun i _ => s.size - (intOf i).toNat)
  case atStart => exact ⟨0, rfl, by omega, Below.refl _ _, hide rfl⟩
  case round =>
    obtain ⟨K, rfl, hK, hB, HC⟩ := hrel
    have HB := hide hB
    clear hB
    by_cases hKl : K < s.size
    · have HG := hide (unhide HBG K hK)
      cases hb : bgn (bl s) K csL
      · rw [hb] at HG
        have HC' : Hid (chsF (bl s) (K + 1) = chsI (bl s)) := hide (by rw [← chsF_no (by omega) hb, unhide HC])
        go_wp2_with fail
        refine (unhide HG _).mono ?_
        rintro e w1 ⟨rfl, hb1⟩
        have HB1 := hide (bstep (unhide HB) hb1)
        clear hb1
        go_wp2_with fail
        go_roundw
        case rel => exact ⟨K + 1, by go_num, by omega, unhide HB1, HC'⟩
        case measure => simp [intOf]; omega
      · rw [hb] at HG
        have hb7 : K + 7 ≤ s.size := by have := bgn_le hb; rw [hl] at this; exact this
        have HBG1 := hide hb
        clear hb
        go_wp2_with fail
        refine (unhide HG _).mono ?_
        rintro e w1 ⟨rfl, hb1⟩
        have HB1 := hide (bstep (unhide HB) hb1)
        clear hb1
        go_upto_block 2 with fail
        go_cut [3] (fun i wx => i = .int .i64 (run wh (bl s) (K + 7) : Int) ∧ wx = w1)
        case first =>
          go_wp2_with fail
          go_loop [3] (fun i => ∃ k : Nat, i = .int .i64 k ∧ k ≤ s.size ∧ Hid (run wh (bl s) k = run wh (bl s) (K + 7))) (fun i => s.size - (intOf i).toNat)
          case atStart => exact ⟨K + 7, by go_num, by omega, hide rfl⟩
          case round =>
            obtain ⟨k, rfl, hk, HR⟩ := hrel
            by_cases hlt : k < s.size
            · have hcb := u8_lt s hlt
              have HG := hide (bl_at hlt)
              obtain ⟨c, hcc⟩ : ∃ c : Int, (s[k].toNat : Int) = c := ⟨_, rfl⟩
              rw [hcc] at hcb HG
              have W := isWhite_any c
              cases hw : wh c
              · rw [hw] at W
                have HE : Hid (run wh (bl s) (K + 7) = k) := hide (by rw [← unhide HR, run_stop (by omega) (by rw [unhide HG]; exact hw)])
                go_wp2_with fail
                refine (W _ hcb).mono ?_
                rintro e wz ⟨rfl, hwz⟩
                replace hwz := hwz.symm
                subst hwz
                go_wp2_with fail
                go_meet
                case rel => exact ⟨by rw [unhide HE], rfl⟩
              · rw [hw] at W
                have HR' : Hid (run wh (bl s) (k + 1) = run wh (bl s) (K + 7)) := hide (by rw [← run_step (by omega) (by rw [unhide HG]; exact hw), unhide HR])
                go_wp2_with fail
                refine (W _ hcb).mono ?_
                rintro e wz ⟨rfl, hwz⟩
                replace hwz := hwz.symm
                subst hwz
                go_wp2_with fail
                go_round
                case rel => exact ⟨k + 1, by go_num, by omega, HR'⟩
                case measure => simp [intOf]; omega
            · have HE : Hid (run wh (bl s) (K + 7) = k) := hide (by rw [← unhide HR, run_end (by omega)])
              go_wp2_with fail
              go_meet
              case rel => exact ⟨by rw [unhide HE], rfl⟩
        obtain ⟨rfl, hwc⟩ := hcut
        replace hwc := hwc.symm
        subst hwc
        have ha1 := run_le wh (bl s) (i := K + 7) (by omega)
        have ga1 := run_ge wh (bl s) (K + 7)
        obtain ⟨a1, HA1⟩ : ∃ a1, Hid (run wh (bl s) (K + 7) = a1) := ⟨_, hide rfl⟩
        rw [unhide HA1] at ha1 ga1 ⊢
        by_cases hlt1 : a1 < s.size
        · have hcb1 := u8_lt s hlt1
          have HG1 := hide (bl_at hlt1)
          obtain ⟨c1, hcc1⟩ : ∃ c : Int, (s[a1].toNat : Int) = c := ⟨_, rfl⟩
          rw [hcc1] at hcb1 HG1
          have hne1 : ((a1 : Int) == (s.size : Int)) = false := by simp; omega
          by_cases h61 : c1 = 61
          · subst h61
            have HN1 : Hid (¬ ((bl s).length ≤ a1 ∨ (bl s).getD a1 0 ≠ 61)) := hide (by rw [unhide HG1]; omega)
            go_upto_block 4 with fail
            go_cut [3] (fun i wx => i = .int .i64 (run wh (bl s) (a1 + 1) : Int) ∧ wx = w1)
            case first =>
              go_wp2_with fail
              go_loop [3] (fun i => ∃ k : Nat, i = .int .i64 k ∧ k ≤ s.size ∧ Hid (run wh (bl s) k = run wh (bl s) (a1 + 1))) (fun i => s.size - (intOf i).toNat)
              case atStart => exact ⟨a1 + 1, by go_num, by omega, hide rfl⟩
              case round =>
                obtain ⟨k, rfl, hk, HR⟩ := hrel
                by_cases hlt : k < s.size
                · have hcb := u8_lt s hlt
                  have HG := hide (bl_at hlt)
                  obtain ⟨c, hcc⟩ : ∃ c : Int, (s[k].toNat : Int) = c := ⟨_, rfl⟩
                  rw [hcc] at hcb HG
                  have W := isWhite_any c
                  cases hw : wh c
                  · rw [hw] at W
                    have HE : Hid (run wh (bl s) (a1 + 1) = k) := hide (by rw [← unhide HR, run_stop (by omega) (by rw [unhide HG]; exact hw)])
                    go_wp2_with fail
                    refine (W _ hcb).mono ?_
                    rintro e wz ⟨rfl, hwz⟩
                    replace hwz := hwz.symm
                    subst hwz
                    go_wp2_with fail
                    go_meet
                    case rel => exact ⟨by rw [unhide HE], rfl⟩
                  · rw [hw] at W
                    have HR' : Hid (run wh (bl s) (k + 1) = run wh (bl s) (a1 + 1)) := hide (by rw [← run_step (by omega) (by rw [unhide HG]; exact hw), unhide HR])
                    go_wp2_with fail
                    refine (W _ hcb).mono ?_
                    rintro e wz ⟨rfl, hwz⟩
                    replace hwz := hwz.symm
                    subst hwz
                    go_wp2_with fail
                    go_round
                    case rel => exact ⟨k + 1, by go_num, by omega, HR'⟩
                    case measure => simp [intOf]; omega
                · have HE : Hid (run wh (bl s) (a1 + 1) = k) := hide (by rw [← unhide HR, run_end (by omega)])
                  go_wp2_with fail
                  go_meet
                  case rel => exact ⟨by rw [unhide HE], rfl⟩
            obtain ⟨rfl, hwc⟩ := hcut
            replace hwc := hwc.symm
            subst hwc
            have ha2 := run_le wh (bl s) (i := a1 + 1) (by omega)
            have ga2 := run_ge wh (bl s) (a1 + 1)
            obtain ⟨a2, HA2⟩ : ∃ a2, Hid (run wh (bl s) (a1 + 1) = a2) := ⟨_, hide rfl⟩
            rw [unhide HA2] at ha2 ga2 ⊢
            by_cases hlt2 : a2 < s.size
            · have hcb2 := u8_lt s hlt2
              have HG2 := hide (bl_at hlt2)
              obtain ⟨c2, hcc2⟩ : ∃ c : Int, (s[a2].toNat : Int) = c := ⟨_, rfl⟩
              rw [hcc2] at hcb2 HG2
              by_cases h34 : c2 = 34
              · subst h34
                have HQ2 : Hid (a2 < (bl s).length ∧ ((bl s).getD a2 0 = 34 ∨ (bl s).getD a2 0 = 39)) := hide (by rw [unhide HG2]; omega)
                have hqs : (s[a2].toNat : Int) = 34 := hcc2
                go_wp2_with fail
                go_loopw [5] (fun i wr => ∃ k : Nat, i = .int .i64 k ∧ a2 + 1 ≤ k ∧ k ≤ s.size ∧ Below w.heap.size w wr ∧ Hid (run (pNot 34) (bl s) k = run (pNot 34) (bl s) (a2 + 1))) (fun i _ => s.size - (intOf i).toNat)
                case atStart => exact ⟨a2 + 1, by go_num, by omega, by omega, unhide HB1, hide rfl⟩
                case round =>
                  obtain ⟨k, rfl, hlo, hk, hB2, HR⟩ := hrel
                  have HB2 := hide hB2
                  clear hB2
                  by_cases hlt : k < s.size
                  · have hcb := u8_lt s hlt
                    have HGk := hide (bl_at hlt)
                    obtain ⟨c, hcc⟩ : ∃ c : Int, (s[k].toNat : Int) = c := ⟨_, rfl⟩
                    rw [hcc] at hcb HGk
                    by_cases hq2 : c = 34
                    · subst hq2
                      have HE : Hid (run (pNot 34) (bl s) (a2 + 1) = k) := hide (by rw [← unhide HR, run_stop (by omega) (by rw [unhide HGk]; decide)])
                      have HZ : Hid (chsI (bl s) = findI (s.extract (a2 + 1) k)) := hide (by rw [← unhide HC, chsF_quote (a3 := k) (by omega) (unhide HBG1) (unhide HA1) (unhide HN1) (unhide HA2) (unhide HQ2) (by rw [unhide HG2]; exact unhide HE), if_neg (by omega), ← bl_cut]; unfold fnd; rw [str_bl])
                      have HF := hide (fun w => findOf_any (s.extract (a2 + 1) k) w (by rw [← bl_len, bl_cut, cut_len (by omega)]; omega))
                      have hsl : ∀ wx, (Instr.slice 9 (.string s) (some (.int .i64 ((a2 : Int) + 1))) (some (.int .i64 (k : Int))) none).run Tryd.prog wx = .ok (.string (s.extract (a2 + 1) k)) wx := fun wx => run_slice_string (P := Tryd.prog) wx 9 s .i64 .i64 ((a2 : Int) + 1) (k : Int) Tryd.underlying9 (by omega) (by omega) (by omega)
                      go_wp2_with fail
                      go_region
                      all_goals
                        go_wp2_with fail
                        refine (unhide HF _).mono ?_
                        rintro e w5 ⟨rfl, hb5⟩
                        have HB5 := hide (bstep (below_drewN (unhide HB2) 1) hb5)
                        clear hb5
                        go_wp2_with fail
                        go_ret
                        exact ⟨by rw [unhide HZ]; rfl, unhide HB5⟩
                    · have hqe := ne_eq hq2
                      have HR' : Hid (run (pNot 34) (bl s) (k + 1) = run (pNot 34) (bl s) (a2 + 1)) := hide (by rw [← run_step (by omega) (by rw [unhide HGk]; exact pNot_n hqe), unhide HR])
                      go_wp2_with fail
                      go_region
                      all_goals
                        go_wp2_with fail
                        go_roundw
                        case rel => exact ⟨k + 1, by go_num, by omega, by omega, below_drewN (unhide HB2) 1, HR'⟩
                        case measure => simp [intOf]; omega
                  · have HE : Hid (run (pNot 34) (bl s) (a2 + 1) = k) := hide (by rw [← unhide HR, run_end (by omega)])
                    have HZ : Hid (chsI (bl s) = 0) := hide (by rw [← unhide HC, chsF_quote (a3 := k) (by omega) (unhide HBG1) (unhide HA1) (unhide HN1) (unhide HA2) (unhide HQ2) (by rw [unhide HG2]; exact unhide HE), if_pos (by omega)])
                    go_wp2_with fail
                    go_ret
                    exact ⟨by rw [unhide HZ]; rfl, unhide HB2⟩
              · have h34e := ne_eq h34
                by_cases h39 : c2 = 39
                · subst h39
                  have HQ2 : Hid (a2 < (bl s).length ∧ ((bl s).getD a2 0 = 34 ∨ (bl s).getD a2 0 = 39)) := hide (by rw [unhide HG2]; omega)
                  have hqs : (s[a2].toNat : Int) = 39 := hcc2
                  go_wp2_with fail
                  go_loopw [5] (fun i wr => ∃ k : Nat, i = .int .i64 k ∧ a2 + 1 ≤ k ∧ k ≤ s.size ∧ Below w.heap.size w wr ∧ Hid (run (pNot 39) (bl s) k = run (pNot 39) (bl s) (a2 + 1))) (fun i _ => s.size - (intOf i).toNat)
                  case atStart => exact ⟨a2 + 1, by go_num, by omega, by omega, unhide HB1, hide rfl⟩
                  case round =>
                    obtain ⟨k, rfl, hlo, hk, hB2, HR⟩ := hrel
                    have HB2 := hide hB2
                    clear hB2
                    by_cases hlt : k < s.size
                    · have hcb := u8_lt s hlt
                      have HGk := hide (bl_at hlt)
                      obtain ⟨c, hcc⟩ : ∃ c : Int, (s[k].toNat : Int) = c := ⟨_, rfl⟩
                      rw [hcc] at hcb HGk
                      by_cases hq2 : c = 39
                      · subst hq2
                        have HE : Hid (run (pNot 39) (bl s) (a2 + 1) = k) := hide (by rw [← unhide HR, run_stop (by omega) (by rw [unhide HGk]; decide)])
                        have HZ : Hid (chsI (bl s) = findI (s.extract (a2 + 1) k)) := hide (by rw [← unhide HC, chsF_quote (a3 := k) (by omega) (unhide HBG1) (unhide HA1) (unhide HN1) (unhide HA2) (unhide HQ2) (by rw [unhide HG2]; exact unhide HE), if_neg (by omega), ← bl_cut]; unfold fnd; rw [str_bl])
                        have HF := hide (fun w => findOf_any (s.extract (a2 + 1) k) w (by rw [← bl_len, bl_cut, cut_len (by omega)]; omega))
                        have hsl : ∀ wx, (Instr.slice 9 (.string s) (some (.int .i64 ((a2 : Int) + 1))) (some (.int .i64 (k : Int))) none).run Tryd.prog wx = .ok (.string (s.extract (a2 + 1) k)) wx := fun wx => run_slice_string (P := Tryd.prog) wx 9 s .i64 .i64 ((a2 : Int) + 1) (k : Int) Tryd.underlying9 (by omega) (by omega) (by omega)
                        go_wp2_with fail
                        go_region
                        all_goals
                          go_wp2_with fail
                          refine (unhide HF _).mono ?_
                          rintro e w5 ⟨rfl, hb5⟩
                          have HB5 := hide (bstep (below_drewN (unhide HB2) 1) hb5)
                          clear hb5
                          go_wp2_with fail
                          go_ret
                          exact ⟨by rw [unhide HZ]; rfl, unhide HB5⟩
                      · have hqe := ne_eq hq2
                        have HR' : Hid (run (pNot 39) (bl s) (k + 1) = run (pNot 39) (bl s) (a2 + 1)) := hide (by rw [← run_step (by omega) (by rw [unhide HGk]; exact pNot_n hqe), unhide HR])
                        go_wp2_with fail
                        go_region
                        all_goals
                          go_wp2_with fail
                          go_roundw
                          case rel => exact ⟨k + 1, by go_num, by omega, by omega, below_drewN (unhide HB2) 1, HR'⟩
                          case measure => simp [intOf]; omega
                    · have HE : Hid (run (pNot 39) (bl s) (a2 + 1) = k) := hide (by rw [← unhide HR, run_end (by omega)])
                      have HZ : Hid (chsI (bl s) = 0) := hide (by rw [← unhide HC, chsF_quote (a3 := k) (by omega) (unhide HBG1) (unhide HA1) (unhide HN1) (unhide HA2) (unhide HQ2) (by rw [unhide HG2]; exact unhide HE), if_pos (by omega)])
                      go_wp2_with fail
                      go_ret
                      exact ⟨by rw [unhide HZ]; rfl, unhide HB2⟩
                · have h39e := ne_eq h39
                  have HQ2 : Hid (¬ (a2 < (bl s).length ∧ ((bl s).getD a2 0 = 34 ∨ (bl s).getD a2 0 = 39))) := hide (by rw [unhide HG2]; omega)
                  have HX3 : Hid (bl ⟨#[]⟩ = cut (bl s) (a2) (a2)) := hide (by rw [cut_self]; rfl)
                  go_upto_block 8 with fail
                  go_cut [3, 4] (fun i nmv wx => ∃ t : ByteArray, i = .int .i64 (run pSemi (bl s) (a2) : Int) ∧ nmv = .string t ∧ bl t = cut (bl s) (a2) (run pSemi (bl s) (a2)) ∧ wx = w1)
                  case first =>
                    go_wp2_with fail
                    go_loopw [3, 4] (fun i nmv wr => ∃ (k : Nat) (t : ByteArray), i = .int .i64 k ∧ nmv = .string t ∧ a2 ≤ k ∧ k ≤ s.size ∧ Hid (run pSemi (bl s) k = run pSemi (bl s) (a2)) ∧ Hid (bl t = cut (bl s) (a2) k) ∧ wr = w1) (fun i _ _ => s.size - (intOf i).toNat)
                    case atStart => exact ⟨a2, _, by go_num, rfl, by omega, by omega, hide rfl, HX3, rfl⟩
                    case round =>
                      obtain ⟨k, t, rfl, rfl, hlo, hk, HR, HX, rfl⟩ := hrel
                      have htz : t.size ≤ 3000 := by rw [← bl_len, unhide HX, cut_len (by omega)]; omega
                      by_cases hlt : k < s.size
                      · have hcb := u8_lt s hlt
                        have HG := hide (bl_at hlt)
                        obtain ⟨c, hcc⟩ : ∃ c : Int, (s[k].toNat : Int) = c := ⟨_, rfl⟩
                        rw [hcc] at hcb HG
                        have W := isWhite_any c
                        cases hw : wh c
                        · rw [hw] at W
                          by_cases h59 : c = 59
                          · subst h59
                            have HE : Hid (run pSemi (bl s) (a2) = k) := hide (by rw [← unhide HR, run_stop (by omega) (by rw [unhide HG]; exact (by decide))])
                            go_wp2_with fail
                            refine (W _ hcb).mono ?_
                            rintro e wz ⟨rfl, hwz⟩
                            replace hwz := hwz.symm
                            subst hwz
                            go_wp2_with fail
                            go_meet
                            case rel => exact ⟨t, by rw [unhide HE], rfl, by rw [unhide HE]; exact unhide HX, rfl⟩
                          · have h59e := ne_eq h59
                            have h59n := ne_ne h59
                            have HR' : Hid (run pSemi (bl s) (k + 1) = run pSemi (bl s) (a2)) := hide (by rw [← run_step (by omega) (by rw [unhide HG]; exact pSemi_n hw h59e), unhide HR])
                            have HX' := hide (cut_step (unhide HX) (by omega) hlt)
                            have hz1 := ext_one hlt
                            have hsl : ∀ wx, (Instr.slice 9 (.string s) (some (.int .i64 (k : Int))) (some (.int .i64 ((k : Int) + 1))) none).run Tryd.prog wx = .ok (.string (s.extract k (k + 1))) wx := fun wx => run_slice_string (P := Tryd.prog) wx 9 s .i64 .i64 (k : Int) ((k : Int) + 1) Tryd.underlying9 (by omega) (by omega) (by omega)
                            go_wp2_with fail
                            refine (W _ hcb).mono ?_
                            rintro e wz ⟨rfl, hwz⟩
                            replace hwz := hwz.symm
                            subst hwz
                            go_wp2_with fail
                            go_roundw
                            case rel => exact ⟨k + 1, t ++ s.extract k (k + 1), by go_num, rfl, by omega, by omega, HR', HX', by first | rfl | trivial⟩
                            case measure => simp [intOf]; omega
                        · rw [hw] at W
                          have HE : Hid (run pSemi (bl s) (a2) = k) := hide (by rw [← unhide HR, run_stop (by omega) (by rw [unhide HG]; exact pSemi_w hw)])
                          go_wp2_with fail
                          refine (W _ hcb).mono ?_
                          rintro e wz ⟨rfl, hwz⟩
                          replace hwz := hwz.symm
                          subst hwz
                          go_wp2_with fail
                          go_meet
                          case rel => exact ⟨t, by rw [unhide HE], rfl, by rw [unhide HE]; exact unhide HX, rfl⟩
                      · have HE : Hid (run pSemi (bl s) (a2) = k) := hide (by rw [← unhide HR, run_end (by omega)])
                        go_wp2_with fail
                        go_meet
                        case rel => exact ⟨t, by rw [unhide HE], rfl, by rw [unhide HE]; exact unhide HX, rfl⟩
                  obtain ⟨vlt, rfl, rfl, hx4, hwc⟩ := hcut
                  replace hwc := hwc.symm
                  subst hwc
                  have HX4 := hide hx4
                  have ha3 := run_le pSemi (bl s) (i := a2) (by omega)
                  have ga3 := run_ge pSemi (bl s) (a2)
                  obtain ⟨a3, HA3⟩ : ∃ a3, Hid (run pSemi (bl s) (a2) = a3) := ⟨_, hide rfl⟩
                  rw [unhide HA3] at ha3 ga3 HX4 ⊢
                  clear hx4
                  have htz4 : vlt.size ≤ 3000 := by rw [← bl_len, unhide HX4, cut_len (by omega)]; omega
                  have HZ : Hid (chsI (bl s) = findI vlt) := hide (by rw [← unhide HC, chsF_bare (by omega) (unhide HBG1) (unhide HA1) (unhide HN1) (unhide HA2) (unhide HQ2) (unhide HA3), ← unhide HX4]; unfold fnd; rw [str_bl])
                  have HF := hide (fun w => findOf_any vlt w htz4)
                  go_wp2_with fail
                  refine (unhide HF _).mono ?_
                  rintro e w5 ⟨rfl, hb5⟩
                  have HB5 := hide (bstep (unhide HB1) hb5)
                  clear hb5
                  go_wp2_with fail
                  go_ret
                  exact ⟨by rw [unhide HZ]; rfl, unhide HB5⟩
            · obtain rfl : a2 = s.size := by omega
              have HQ2 : Hid (¬ (s.size < (bl s).length ∧ ((bl s).getD s.size 0 = 34 ∨ (bl s).getD s.size 0 = 39))) := hide (by omega)
              have HX3 : Hid (bl ⟨#[]⟩ = cut (bl s) (s.size) (s.size)) := hide (by rw [cut_self]; rfl)
              go_upto_block 8 with fail
              go_cut [3, 4] (fun i nmv wx => ∃ t : ByteArray, i = .int .i64 (run pSemi (bl s) (s.size) : Int) ∧ nmv = .string t ∧ bl t = cut (bl s) (s.size) (run pSemi (bl s) (s.size)) ∧ wx = w1)
              case first =>
                go_wp2_with fail
                go_loopw [3, 4] (fun i nmv wr => ∃ (k : Nat) (t : ByteArray), i = .int .i64 k ∧ nmv = .string t ∧ s.size ≤ k ∧ k ≤ s.size ∧ Hid (run pSemi (bl s) k = run pSemi (bl s) (s.size)) ∧ Hid (bl t = cut (bl s) (s.size) k) ∧ wr = w1) (fun i _ _ => s.size - (intOf i).toNat)
                case atStart => exact ⟨s.size, _, by go_num, rfl, by omega, by omega, hide rfl, HX3, rfl⟩
                case round =>
                  obtain ⟨k, t, rfl, rfl, hlo, hk, HR, HX, rfl⟩ := hrel
                  have htz : t.size ≤ 3000 := by rw [← bl_len, unhide HX, cut_len (by omega)]; omega
                  by_cases hlt : k < s.size
                  · have hcb := u8_lt s hlt
                    have HG := hide (bl_at hlt)
                    obtain ⟨c, hcc⟩ : ∃ c : Int, (s[k].toNat : Int) = c := ⟨_, rfl⟩
                    rw [hcc] at hcb HG
                    exfalso; omega
                  · have HE : Hid (run pSemi (bl s) (s.size) = k) := hide (by rw [← unhide HR, run_end (by omega)])
                    go_wp2_with fail
                    go_meet
                    case rel => exact ⟨t, by rw [unhide HE], rfl, by rw [unhide HE]; exact unhide HX, rfl⟩
              obtain ⟨vlt, rfl, rfl, hx4, hwc⟩ := hcut
              replace hwc := hwc.symm
              subst hwc
              have HX4 := hide hx4
              have ha3 := run_le pSemi (bl s) (i := s.size) (by omega)
              have ga3 := run_ge pSemi (bl s) (s.size)
              obtain ⟨a3, HA3⟩ : ∃ a3, Hid (run pSemi (bl s) (s.size) = a3) := ⟨_, hide rfl⟩
              rw [unhide HA3] at ha3 ga3 HX4 ⊢
              clear hx4
              have htz4 : vlt.size ≤ 3000 := by rw [← bl_len, unhide HX4, cut_len (by omega)]; omega
              have HZ : Hid (chsI (bl s) = findI vlt) := hide (by rw [← unhide HC, chsF_bare (by omega) (unhide HBG1) (unhide HA1) (unhide HN1) (unhide HA2) (unhide HQ2) (unhide HA3), ← unhide HX4]; unfold fnd; rw [str_bl])
              have HF := hide (fun w => findOf_any vlt w htz4)
              go_wp2_with fail
              refine (unhide HF _).mono ?_
              rintro e w5 ⟨rfl, hb5⟩
              have HB5 := hide (bstep (unhide HB1) hb5)
              clear hb5
              go_wp2_with fail
              go_ret
              exact ⟨by rw [unhide HZ]; rfl, unhide HB5⟩
          · have h61n := ne_ne h61
            have HC' : Hid (chsF (bl s) (a1) = chsI (bl s)) := hide (by rw [← chsF_none (by omega) (unhide HBG1) (unhide HA1) (.inr (by rw [unhide HG1]; exact h61)), unhide HC])
            go_wp2_with fail
            go_roundw
            case rel => exact ⟨a1, rfl, by omega, unhide HB1, HC'⟩
            case measure => simp [intOf]; omega
        · obtain rfl : a1 = s.size := by omega
          have HC' : Hid (chsF (bl s) (s.size) = chsI (bl s)) := hide (by rw [← chsF_none (by omega) (unhide HBG1) (unhide HA1) (.inl (by omega)), unhide HC])
          go_wp2_with fail
          go_roundw
          case rel => exact ⟨s.size, rfl, by omega, unhide HB1, HC'⟩
          case measure => simp [intOf]; omega
    · have HZ : Hid (chsI (bl s) = 0) := hide (by rw [← unhide HC, chsF_end (by omega)])
      go_wp2_with fail
      go_ret
      exact ⟨by rw [unhide HZ]; rfl, unhide HB⟩
end Go.Proofs.YthhjfedegbldfaeDoor
