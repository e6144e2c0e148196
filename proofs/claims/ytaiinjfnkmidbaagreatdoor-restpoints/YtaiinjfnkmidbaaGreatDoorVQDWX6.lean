/- The walk of RestPoints: true; nothing that was there is written. Condition: the list's integers take at most 2^47 bytes. -/
import Derived.Test.YtaiinjfnkmidbaaGreatDoorQD10
namespace Go.Proofs.YtaiinjfnkmidbaaGreatDoor
open Go.RowKit
set_option linter.unusedVariables false


set_option maxHeartbeats 12800000 in
set_option maxRecDepth 100000 in
theorem rp_ok (name s : ByteArray) (v : Value) (xs : List Int) (n : Int) (w : World) (hMx : Mx w) (hT : Tb w) (hn : name.size ≤ maxLen) (hs : s.size ≤ maxLen) (hv : Ints w v xs) (hz : xs.length * 8 ≤ 140737488355328) (h1 : name.size ≤ 3000) (h2 : s.size ≤ 3000) :
    Calls Tryz.prog 11 #[.string name, .string s, v, .int .i64 n] w fun e w' => e = .returned (.bool true) ∧ Below w.heap.size w w' := by
  have HM := hide hMx
  have HT := hide hT
  have HV := hide hv
  have HN := hide hn
  have HS := hide hs
  have hvm : xs.length ≤ maxLen := by obtain ⟨_, _, _, hm, _⟩ := hv; exact hm
  obtain ⟨ao, cap, rfl, -⟩ := hv
  have HE := hide (fun w (hi : Ints w (.slice ao xs.length cap) xs) => encOf_rp n w hi)
  have HEn := hide (fun (v' : Value) w ht (hi : Ints w v' xs) => Enc_rp n w ht hi)
  generalize rpE n xs = R at *
  obtain ⟨T, c⟩ := R
  dsimp only at HE HEn
  have HDc := hide (fun w hm => dcSays name s w h1 h2 hm)
  have HWh := hide (fun w => wholeOf_any name s w h1 h2)
  have T1 := hide (fun w => tooLong_no name w h1)
  have T2 := hide (fun w => tooLong_no s w h2)
  generalize whI name (bl s) = P at *
  generalize (chI name (bl s)).1 = p1 at *
  generalize (chI name (bl s)).2.1 = p2 at *
  have HZ := hide hz
  clear hMx hT hn hs hz h1 h2
  unfold maxLen at hvm
  go_enter Tryz.func11, Tryz.ntmps11
  go_wp2_with fail
  refine (begunT_any _).mono ?_
  rintro e w1 ⟨rfl, hb⟩
  have B1 := hide (hb)
  clear hb
  go_wp2_with fail
  refine (begunX_any dcSays rcSays ctSays _ ((unhide HM).below (unhide B1)) ((unhide HT).below (unhide B1))).mono ?_
  rintro e w2 ⟨rfl, hb⟩
  have B2 := hide (bstep (unhide B1) hb)
  clear hb B1
  go_wp2_with fail
  refine (attrBegun_any nextSays allSays chsSays _ ((unhide HM).below (unhide B2))).mono ?_
  rintro e w3 ⟨rfl, hb⟩
  have B3 := hide (bstep (unhide B2) hb)
  clear hb B2
  go_wp2_with fail
  refine (encoderBegun_any _ ((unhide HT).below (unhide B3))).mono ?_
  rintro e w4 ⟨rfl, hb⟩
  have B4 := hide (bstep (unhide B3) hb)
  clear hb B3
  go_wp2_with fail
  refine (begunF_any chSays bgSays fdSays ckSays _ ((unhide HM).below (unhide B4))).mono ?_
  rintro e w5 ⟨rfl, hb⟩
  have B5 := hide (bstep (unhide B4) hb)
  clear hb B4
  go_wp2_with (at_builtin; refine append_intsX rfl (.tmp 55) (.tmp 56) rfl w5.heap.size _ [] rfl (empty_row _) _ xs rfl (((unhide HV).below (unhide B5)).below (balloc _ _)) (by simpa using unhide HZ) (by simp) ?_)
  intro v6 w6 ho6 hb6
  obtain ⟨a6, c6, rfl⟩ := owns_shape ho6
  have I6 := hide (Ints.of_owns ho6)
  have B6 := hide (bstep (unhide B5) ((balloc w5 _).trans hb6))
  clear ho6 hb6 B5 HZ
  go_wp2_with fail
  refine (unhide HE _ ((unhide HV).below (unhide B6))).mono ?_
  rintro e w7 ⟨rfl, hb7⟩
  have I7 := hide ((unhide I6).below hb7)
  have B7 := hide (bstep (unhide B6) hb7)
  clear hb7 I6 B6 HE
  go_wp2_with fail
  refine (unhide T1 _).mono ?_
  rintro e wx ⟨rfl, hw⟩
  replace hw := hw.symm
  subst hw
  go_wp2_with fail
  refine (unhide T2 _).mono ?_
  rintro e wx ⟨rfl, hw⟩
  replace hw := hw.symm
  subst hw
  go_wp2_with fail
  refine (unhide HWh _).mono ?_
  rintro e w8 ⟨v8, rfl, ho8, hb8⟩
  obtain ⟨a8, c8, rfl⟩ := owns_shape ho8
  have P8 := hide (Ints.of_owns ho8)
  have I8 := hide ((unhide I7).below hb8)
  have B8 := hide (bstep (unhide B7) hb8)
  clear ho8 hb8 I7 B7 HWh
  go_wp2_with fail
  have L0 := hide ((unhide HV).below (unhide B8))
  have M0 := hide ((unhide HM).below (unhide B8))
  have T0 := hide ((unhide HT).below (unhide B8))
  clear HV HM HT
  go_loopw [14] (fun iv wr => ∃ k : Nat, k ≤ 2 ∧ iv = .int .i64 k ∧ Below w8.heap.size w8 wr) (fun iv _ => 2 - (intOf iv).toNat)
  case atStart => exact ⟨0, by omega, rfl, Below.refl _ _⟩
  case round =>
    obtain ⟨k, hk, rfl, hBr⟩ := hrel
    obtain ⟨V, rfl⟩ : ∃ V, V = wr := ⟨_, rfl⟩
    have HB := hide hBr
    clear hBr
    by_cases hlt : k < 2
    · have hki : (k : Int) < 2 := by omega
      go_wp2_with fail
      refine (unhide HEn _ _ ((unhide T0).below (unhide HB)) ((unhide I8).below (unhide HB))).mono ?_
      rintro e x1 ⟨rfl, hb⟩
      have D1 := hide hb
      clear hb
      go_wp2_with fail
      refine (unhide HDc _ ((unhide M0).below (bstep (unhide HB) (unhide D1)))).mono ?_
      rintro e x2 ⟨v2, rfl, ho, hb⟩
      obtain ⟨a2, c2, rfl⟩ := owns_shape ho
      have J2 := hide (Ints.of_owns ho)
      have A2 := hide ((Mine.of_owns ho).mono (unhide D1).size)
      have D2 := hide (bstep (unhide D1) hb)
      clear ho hb D1
      go_wp2_with fail
      refine (intsAre_ok _ (unhide J2) ((unhide P8).below (bstep (unhide HB) (unhide D2)))).mono ?_
      rintro e x3 ⟨rfl, hb⟩
      have A3 := hide ((unhide A2).below hb)
      have D3 := hide (bstep (unhide D2) hb)
      clear hb A2 D2 J2
      go_wp2_with fail
      refine (sd_mine n s _ (unhide HS)).mono ?_
      rintro e x4 ⟨a4, k4, c4, y4, rfl, hm, hb⟩
      have A4 := hide ((unhide A3).below hb)
      have E4 := hide (hm.mono (unhide D3).size)
      have D4 := hide (bstep (unhide D3) hb)
      clear hb hm A3 D3
      go_wp2_with fail
      refine (op_all n _).mono ?_
      rintro e x5 ⟨e5, y5, rfl, hb⟩
      have A5 := hide ((unhide A4).below hb)
      have E5 := hide ((unhide E4).below hb)
      have D5 := hide (bstep (unhide D4) hb)
      clear hb A4 E4 D4
      go_wp2_with fail
      refine (sf_mine e5 s _ (unhide HS)).mono ?_
      rintro e x6 ⟨a6', k6, c6', e6, r6, g6, f6, s6, y6, rfl, hm, hb⟩
      have st := bstep (balloc _ _) hb
      have A6 := hide ((unhide A5).below st)
      have E6 := hide ((unhide E5).below st)
      have F6 := hide (hm.mono (Nat.le_trans (unhide D5).size (by simp)))
      have D6 := hide (bstep (unhide D5) st)
      clear hb hm st A5 E5 D5
      go_wp2_with fail
      refine (bg_all name _ (unhide HN)).mono ?_
      rintro e x7 ⟨K, y7, hK, rfl, hb⟩
      have st := bstep (balloc _ _) hb
      have A7 := hide ((unhide A6).below st)
      have E7 := hide ((unhide E6).below st)
      have F7 := hide ((unhide F6).below st)
      have D7 := hide (bstep (unhide D6) st)
      clear hb st A6 E6 F6 D6
      go_wp2_with fail
      refine (ff_mine K s _ ((unhide M0).below (bstep (unhide HB) (bstep (unhide D7) (balloc _ _)))) hK (unhide HS)).mono ?_
      rintro e x8 ⟨a8', k8, c8', L8, n8, y8, W8, e8, r8, g8, f8, s8, z8, rfl, hm, hb⟩
      have st := bstep (balloc _ _) hb
      have A8 := hide ((unhide A7).below st)
      have E8 := hide ((unhide E7).below st)
      have F8 := hide ((unhide F7).below st)
      have G8 := hide (hm.mono (Nat.le_trans (unhide D7).size (by simp)))
      have D8 := hide (bstep (unhide D7) st)
      clear hb hm st A7 E7 F7 D7 hK
      go_wp2_with fail
      refine (al_mine s _ (unhide HS)).mono ?_
      rintro e x9 ⟨a9, k9, c9, y9, z9, rfl, hm, hb⟩
      have st := bstep (balloc _ _) hb
      have A9 := hide ((unhide A8).below st)
      have E9 := hide ((unhide E8).below st)
      have F9 := hide ((unhide F8).below st)
      have G9 := hide ((unhide G8).below st)
      have H9 := hide (hm.mono (Nat.le_trans (unhide D8).size (by simp)))
      have D9 := hide (bstep (unhide D8) st)
      clear hb hm st A8 E8 F8 G8 D8
      go_wp2_with fail
      refine (ct_all _ ((unhide I8).below (bstep (unhide HB) (unhide D9)))).mono ?_
      rintro e x10 ⟨u1, u2, u3, rfl, hb⟩
      have A10 := hide ((unhide A9).below hb)
      have E10 := hide ((unhide E9).below hb)
      have F10 := hide ((unhide F9).below hb)
      have G10 := hide ((unhide G9).below hb)
      have H10 := hide ((unhide H9).below hb)
      have D10 := hide (bstep (unhide D9) hb)
      clear hb A9 E9 F9 G9 H9 D9
      go_wp2_with fail
      refine (same_any _ ((unhide I8).below (bstep (unhide HB) (unhide D10))) ((unhide L0).below (bstep (unhide HB) (unhide D10)))).mono ?_
      rintro e x11 ⟨rfl, hb⟩
      rw [show (xs == xs) = true from by simp]
      have A11 := hide ((unhide A10).below hb)
      have E11 := hide ((unhide E10).below hb)
      have F11 := hide ((unhide F10).below hb)
      have G11 := hide ((unhide G10).below hb)
      have H11 := hide ((unhide H10).below hb)
      have D11 := hide (bstep (unhide D10) hb)
      clear hb A10 E10 F10 G10 H10 D10
      go_wp2_with fail
      refine (spoil_sp _ (unhide A11)).mono ?_
      rintro e x12 ⟨rfl, hb, hsp⟩
      have E12 := hide ((unhide E11).sp hsp)
      have F12 := hide ((unhide F11).sp hsp)
      have G12 := hide ((unhide G11).sp hsp)
      have H12 := hide ((unhide H11).sp hsp)
      have D12 := hide ((unhide D11).trans hb)
      clear hb hsp A11 E11 F11 G11 H11 D11
      go_wp2_with fail
      refine (spoil_sp _ (unhide E12)).mono ?_
      rintro e x13 ⟨rfl, hb, hsp⟩
      have F13 := hide ((unhide F12).sp hsp)
      have G13 := hide ((unhide G12).sp hsp)
      have H13 := hide ((unhide H12).sp hsp)
      have D13 := hide ((unhide D12).trans hb)
      clear hb hsp E12 F12 G12 H12 D12
      go_wp2_with fail
      refine (spoil_sp _ (unhide F13)).mono ?_
      rintro e x14 ⟨rfl, hb, hsp⟩
      have G14 := hide ((unhide G13).sp hsp)
      have H14 := hide ((unhide H13).sp hsp)
      have D14 := hide ((unhide D13).trans hb)
      clear hb hsp F13 G13 H13 D13
      go_wp2_with fail
      refine (spoil_sp _ (unhide G14)).mono ?_
      rintro e x15 ⟨rfl, hb, hsp⟩
      have H15 := hide ((unhide H14).sp hsp)
      have D15 := hide ((unhide D14).trans hb)
      clear hb hsp G14 H14 D14
      go_wp2_with fail
      obtain ⟨hm9, hH⟩ := unhide H15
      unfold maxLen at hm9
      rcases hH with ⟨ao9, cap9, hsl, rfl⟩ | ⟨g9, cap9, hsl, hg9, hc9⟩
      · injection hsl with i1 i2 i3
        subst i1 i3
        go_loopw [36] (fun iv wr => iv = .int .i64 0 ∧ wr = x15) (fun _ _ => 0)
        case atStart => exact ⟨rfl, rfl⟩
        case round =>
          obtain ⟨rfl, hwr⟩ := hrel
          replace hwr := hwr.symm
          subst hwr
          go_wp2_with fail
          go_roundw
          case rel => exact ⟨k + 1, by omega, by go_num, bstep (unhide HB) (unhide D15)⟩
          case measure => simp [intOf]; omega
      · injection hsl with i1 i2 i3
        subst i1 i3
        have HC9 := hide hc9
        clear hc9
        go_loopw [36] (fun iv wr => ∃ j : Nat, j ≤ k9 ∧ iv = .int .i64 j ∧ Below V.heap.size V wr ∧ ∀ i, i < k9 → (∃ x, wr.cell? ⟨g9, i * 2, none⟩ = some (.string x)) ∧ wr.frozen? ⟨g9, i * 2, none⟩ = false) (fun iv _ => k9 - (intOf iv).toNat)
        case atStart => exact ⟨0, by omega, rfl, unhide D15, unhide HC9⟩
        case round =>
          obtain ⟨j, hj, rfl, hBj, hq⟩ := hrel
          have HBj := hide hBj
          have HQ := hide hq
          clear hBj hq
          by_cases hjl : j < k9
          · obtain ⟨⟨x, hx⟩, hf⟩ := unhide HQ j hjl
            have hl := World.block_lt_of_cell? wr _ hx
            have hji : (j : Int) < (k9 : Int) := by omega
            go_wp2_with fail
            go_roundw
            case rel =>
              refine ⟨j + 1, by omega, by go_num, (unhide HBj).setCell (p := ⟨g9, j * 2, none⟩) hg9 _, fun i hi => ?_⟩
              obtain ⟨⟨y, hy⟩, hfy⟩ := unhide HQ i hi
              refine ⟨?_, by rw [World.frozen?_setCell]; exact hfy⟩
              by_cases e : i = j
              · subst e; exact ⟨_, World.cell?_setCell_same _ _ _ hy⟩
              · exact ⟨y, (World.cell?_setCell_other _ _ _ _ (by intro h; injection h; omega)).trans hy⟩
            case measure => simp [intOf]; omega
          · have hji : ¬ ((j : Int) < (k9 : Int)) := by omega
            go_wp2_with fail
            go_roundw
            case rel => exact ⟨k + 1, by omega, by go_num, bstep (unhide HB) (unhide HBj)⟩
            case measure => simp [intOf]; omega
    · have hki : ¬ ((k : Int) < 2) := by omega
      go_wp2_with fail
      go_ret
      exact ⟨rfl, bstep (unhide B8) (unhide HB)⟩

set_option maxHeartbeats 12800000 in
set_option maxRecDepth 100000 in
theorem rp_name (name s : ByteArray) (v : Value) (xs : List Int) (n : Int) (w : World) (hMx : Mx w) (hT : Tb w) (hn : name.size ≤ maxLen) (hs : s.size ≤ maxLen) (hv : Ints w v xs) (hz : xs.length * 8 ≤ 140737488355328) (h1 : 3000 < name.size) :
    Calls Tryz.prog 11 #[.string name, .string s, v, .int .i64 n] w fun e w' => e = .returned (.bool true) ∧ Below w.heap.size w w' := by
  have HM := hide hMx
  have HT := hide hT
  have HV := hide hv
  have HN := hide hn
  have HS := hide hs
  have hvm : xs.length ≤ maxLen := by obtain ⟨_, _, _, hm, _⟩ := hv; exact hm
  obtain ⟨ao, cap, rfl, -⟩ := hv
  have HE := hide (fun w (hi : Ints w (.slice ao xs.length cap) xs) => encOf_rp n w hi)
  have HEn := hide (fun (v' : Value) w ht (hi : Ints w v' xs) => Enc_rp n w ht hi)
  generalize rpE n xs = R at *
  obtain ⟨T, c⟩ := R
  dsimp only at HE HEn
  have HDc := hide (fun w hm => dcErrs name s w hn hs (.inl h1) hm)
  have T1 := hide (fun w => tooLong_yes name w h1 hn)
  have HZ := hide hz
  clear hMx hT hn hs hz h1
  unfold maxLen at hvm
  go_enter Tryz.func11, Tryz.ntmps11
  go_wp2_with fail
  refine (begunT_any _).mono ?_
  rintro e w1 ⟨rfl, hb⟩
  have B1 := hide (hb)
  clear hb
  go_wp2_with fail
  refine (begunX_any dcSays rcSays ctSays _ ((unhide HM).below (unhide B1)) ((unhide HT).below (unhide B1))).mono ?_
  rintro e w2 ⟨rfl, hb⟩
  have B2 := hide (bstep (unhide B1) hb)
  clear hb B1
  go_wp2_with fail
  refine (attrBegun_any nextSays allSays chsSays _ ((unhide HM).below (unhide B2))).mono ?_
  rintro e w3 ⟨rfl, hb⟩
  have B3 := hide (bstep (unhide B2) hb)
  clear hb B2
  go_wp2_with fail
  refine (encoderBegun_any _ ((unhide HT).below (unhide B3))).mono ?_
  rintro e w4 ⟨rfl, hb⟩
  have B4 := hide (bstep (unhide B3) hb)
  clear hb B3
  go_wp2_with fail
  refine (begunF_any chSays bgSays fdSays ckSays _ ((unhide HM).below (unhide B4))).mono ?_
  rintro e w5 ⟨rfl, hb⟩
  have B5 := hide (bstep (unhide B4) hb)
  clear hb B4
  go_wp2_with (at_builtin; refine append_intsX rfl (.tmp 55) (.tmp 56) rfl w5.heap.size _ [] rfl (empty_row _) _ xs rfl (((unhide HV).below (unhide B5)).below (balloc _ _)) (by simpa using unhide HZ) (by simp) ?_)
  intro v6 w6 ho6 hb6
  obtain ⟨a6, c6, rfl⟩ := owns_shape ho6
  have I6 := hide (Ints.of_owns ho6)
  have B6 := hide (bstep (unhide B5) ((balloc w5 _).trans hb6))
  clear ho6 hb6 B5 HZ
  go_wp2_with fail
  refine (unhide HE _ ((unhide HV).below (unhide B6))).mono ?_
  rintro e w7 ⟨rfl, hb7⟩
  have I7 := hide ((unhide I6).below hb7)
  have B7 := hide (bstep (unhide B6) hb7)
  clear hb7 I6 B6 HE
  go_wp2_with fail
  refine (unhide T1 _).mono ?_
  rintro e wx ⟨rfl, hw⟩
  replace hw := hw.symm
  subst hw
  go_wp2_with fail
  have L0 := hide ((unhide HV).below (unhide B7))
  have M0 := hide ((unhide HM).below (unhide B7))
  have T0 := hide ((unhide HT).below (unhide B7))
  clear HV HM HT
  go_loopw [14] (fun iv wr => ∃ k : Nat, k ≤ 2 ∧ iv = .int .i64 k ∧ Below w7.heap.size w7 wr) (fun iv _ => 2 - (intOf iv).toNat)
  case atStart => exact ⟨0, by omega, rfl, Below.refl _ _⟩
  case round =>
    obtain ⟨k, hk, rfl, hBr⟩ := hrel
    obtain ⟨V, rfl⟩ : ∃ V, V = wr := ⟨_, rfl⟩
    have HB := hide hBr
    clear hBr
    by_cases hlt : k < 2
    · have hki : (k : Int) < 2 := by omega
      go_wp2_with fail
      refine (unhide HEn _ _ ((unhide T0).below (unhide HB)) ((unhide I7).below (unhide HB))).mono ?_
      rintro e x1 ⟨rfl, hb⟩
      have D1 := hide hb
      clear hb
      go_wp2_with fail
      refine (unhide HDc _ ((unhide M0).below (bstep (unhide HB) (unhide D1)))).mono ?_
      rintro e x2 ⟨v2, rfl, hI, hb⟩
      have J2 := hide hI
      have A2 := hide ((Mine.nil x1.heap.size hI).mono (unhide D1).size)
      obtain ⟨a2, c2, rfl, -⟩ := hI
      have D2 := hide (bstep (unhide D1) hb)
      clear hb D1
      go_wp2_with fail
      refine (intsAre_two _ _ _ _ (unhide J2)).mono ?_
      rintro e x3 ⟨rfl, hb⟩
      have A3 := hide ((unhide A2).below hb)
      have D3 := hide (bstep (unhide D2) hb)
      clear hb A2 D2 J2
      go_wp2_with fail
      refine (sd_mine n s _ (unhide HS)).mono ?_
      rintro e x4 ⟨a4, k4, c4, y4, rfl, hm, hb⟩
      have A4 := hide ((unhide A3).below hb)
      have E4 := hide (hm.mono (unhide D3).size)
      have D4 := hide (bstep (unhide D3) hb)
      clear hb hm A3 D3
      go_wp2_with fail
      refine (op_all n _).mono ?_
      rintro e x5 ⟨e5, y5, rfl, hb⟩
      have A5 := hide ((unhide A4).below hb)
      have E5 := hide ((unhide E4).below hb)
      have D5 := hide (bstep (unhide D4) hb)
      clear hb A4 E4 D4
      go_wp2_with fail
      refine (sf_mine e5 s _ (unhide HS)).mono ?_
      rintro e x6 ⟨a6', k6, c6', e6, r6, g6, f6, s6, y6, rfl, hm, hb⟩
      have st := bstep (balloc _ _) hb
      have A6 := hide ((unhide A5).below st)
      have E6 := hide ((unhide E5).below st)
      have F6 := hide (hm.mono (Nat.le_trans (unhide D5).size (by simp)))
      have D6 := hide (bstep (unhide D5) st)
      clear hb hm st A5 E5 D5
      go_wp2_with fail
      refine (bg_all name _ (unhide HN)).mono ?_
      rintro e x7 ⟨K, y7, hK, rfl, hb⟩
      have st := bstep (balloc _ _) hb
      have A7 := hide ((unhide A6).below st)
      have E7 := hide ((unhide E6).below st)
      have F7 := hide ((unhide F6).below st)
      have D7 := hide (bstep (unhide D6) st)
      clear hb st A6 E6 F6 D6
      go_wp2_with fail
      refine (ff_mine K s _ ((unhide M0).below (bstep (unhide HB) (bstep (unhide D7) (balloc _ _)))) hK (unhide HS)).mono ?_
      rintro e x8 ⟨a8', k8, c8', L8, n8, y8, W8, e8, r8, g8, f8, s8, z8, rfl, hm, hb⟩
      have st := bstep (balloc _ _) hb
      have A8 := hide ((unhide A7).below st)
      have E8 := hide ((unhide E7).below st)
      have F8 := hide ((unhide F7).below st)
      have G8 := hide (hm.mono (Nat.le_trans (unhide D7).size (by simp)))
      have D8 := hide (bstep (unhide D7) st)
      clear hb hm st A7 E7 F7 D7 hK
      go_wp2_with fail
      refine (al_mine s _ (unhide HS)).mono ?_
      rintro e x9 ⟨a9, k9, c9, y9, z9, rfl, hm, hb⟩
      have st := bstep (balloc _ _) hb
      have A9 := hide ((unhide A8).below st)
      have E9 := hide ((unhide E8).below st)
      have F9 := hide ((unhide F8).below st)
      have G9 := hide ((unhide G8).below st)
      have H9 := hide (hm.mono (Nat.le_trans (unhide D8).size (by simp)))
      have D9 := hide (bstep (unhide D8) st)
      clear hb hm st A8 E8 F8 G8 D8
      go_wp2_with fail
      refine (ct_all _ ((unhide I7).below (bstep (unhide HB) (unhide D9)))).mono ?_
      rintro e x10 ⟨u1, u2, u3, rfl, hb⟩
      have A10 := hide ((unhide A9).below hb)
      have E10 := hide ((unhide E9).below hb)
      have F10 := hide ((unhide F9).below hb)
      have G10 := hide ((unhide G9).below hb)
      have H10 := hide ((unhide H9).below hb)
      have D10 := hide (bstep (unhide D9) hb)
      clear hb A9 E9 F9 G9 H9 D9
      go_wp2_with fail
      refine (same_any _ ((unhide I7).below (bstep (unhide HB) (unhide D10))) ((unhide L0).below (bstep (unhide HB) (unhide D10)))).mono ?_
      rintro e x11 ⟨rfl, hb⟩
      rw [show (xs == xs) = true from by simp]
      have A11 := hide ((unhide A10).below hb)
      have E11 := hide ((unhide E10).below hb)
      have F11 := hide ((unhide F10).below hb)
      have G11 := hide ((unhide G10).below hb)
      have H11 := hide ((unhide H10).below hb)
      have D11 := hide (bstep (unhide D10) hb)
      clear hb A10 E10 F10 G10 H10 D10
      go_wp2_with fail
      refine (spoil_sp _ (unhide A11)).mono ?_
      rintro e x12 ⟨rfl, hb, hsp⟩
      have E12 := hide ((unhide E11).sp hsp)
      have F12 := hide ((unhide F11).sp hsp)
      have G12 := hide ((unhide G11).sp hsp)
      have H12 := hide ((unhide H11).sp hsp)
      have D12 := hide ((unhide D11).trans hb)
      clear hb hsp A11 E11 F11 G11 H11 D11
      go_wp2_with fail
      refine (spoil_sp _ (unhide E12)).mono ?_
      rintro e x13 ⟨rfl, hb, hsp⟩
      have F13 := hide ((unhide F12).sp hsp)
      have G13 := hide ((unhide G12).sp hsp)
      have H13 := hide ((unhide H12).sp hsp)
      have D13 := hide ((unhide D12).trans hb)
      clear hb hsp E12 F12 G12 H12 D12
      go_wp2_with fail
      refine (spoil_sp _ (unhide F13)).mono ?_
      rintro e x14 ⟨rfl, hb, hsp⟩
      have G14 := hide ((unhide G13).sp hsp)
      have H14 := hide ((unhide H13).sp hsp)
      have D14 := hide ((unhide D13).trans hb)
      clear hb hsp F13 G13 H13 D13
      go_wp2_with fail
      refine (spoil_sp _ (unhide G14)).mono ?_
      rintro e x15 ⟨rfl, hb, hsp⟩
      have H15 := hide ((unhide H14).sp hsp)
      have D15 := hide ((unhide D14).trans hb)
      clear hb hsp G14 H14 D14
      go_wp2_with fail
      obtain ⟨hm9, hH⟩ := unhide H15
      unfold maxLen at hm9
      rcases hH with ⟨ao9, cap9, hsl, rfl⟩ | ⟨g9, cap9, hsl, hg9, hc9⟩
      · injection hsl with i1 i2 i3
        subst i1 i3
        go_loopw [36] (fun iv wr => iv = .int .i64 0 ∧ wr = x15) (fun _ _ => 0)
        case atStart => exact ⟨rfl, rfl⟩
        case round =>
          obtain ⟨rfl, hwr⟩ := hrel
          replace hwr := hwr.symm
          subst hwr
          go_wp2_with fail
          go_roundw
          case rel => exact ⟨k + 1, by omega, by go_num, bstep (unhide HB) (unhide D15)⟩
          case measure => simp [intOf]; omega
      · injection hsl with i1 i2 i3
        subst i1 i3
        have HC9 := hide hc9
        clear hc9
        go_loopw [36] (fun iv wr => ∃ j : Nat, j ≤ k9 ∧ iv = .int .i64 j ∧ Below V.heap.size V wr ∧ ∀ i, i < k9 → (∃ x, wr.cell? ⟨g9, i * 2, none⟩ = some (.string x)) ∧ wr.frozen? ⟨g9, i * 2, none⟩ = false) (fun iv _ => k9 - (intOf iv).toNat)
        case atStart => exact ⟨0, by omega, rfl, unhide D15, unhide HC9⟩
        case round =>
          obtain ⟨j, hj, rfl, hBj, hq⟩ := hrel
          have HBj := hide hBj
          have HQ := hide hq
          clear hBj hq
          by_cases hjl : j < k9
          · obtain ⟨⟨x, hx⟩, hf⟩ := unhide HQ j hjl
            have hl := World.block_lt_of_cell? wr _ hx
            have hji : (j : Int) < (k9 : Int) := by omega
            go_wp2_with fail
            go_roundw
            case rel =>
              refine ⟨j + 1, by omega, by go_num, (unhide HBj).setCell (p := ⟨g9, j * 2, none⟩) hg9 _, fun i hi => ?_⟩
              obtain ⟨⟨y, hy⟩, hfy⟩ := unhide HQ i hi
              refine ⟨?_, by rw [World.frozen?_setCell]; exact hfy⟩
              by_cases e : i = j
              · subst e; exact ⟨_, World.cell?_setCell_same _ _ _ hy⟩
              · exact ⟨y, (World.cell?_setCell_other _ _ _ _ (by intro h; injection h; omega)).trans hy⟩
            case measure => simp [intOf]; omega
          · have hji : ¬ ((j : Int) < (k9 : Int)) := by omega
            go_wp2_with fail
            go_roundw
            case rel => exact ⟨k + 1, by omega, by go_num, bstep (unhide HB) (unhide HBj)⟩
            case measure => simp [intOf]; omega
    · have hki : ¬ ((k : Int) < 2) := by omega
      go_wp2_with fail
      go_ret
      exact ⟨rfl, bstep (unhide B7) (unhide HB)⟩

set_option maxHeartbeats 12800000 in
set_option maxRecDepth 100000 in
theorem rp_text (name s : ByteArray) (v : Value) (xs : List Int) (n : Int) (w : World) (hMx : Mx w) (hT : Tb w) (hn : name.size ≤ maxLen) (hs : s.size ≤ maxLen) (hv : Ints w v xs) (hz : xs.length * 8 ≤ 140737488355328) (h1 : name.size ≤ 3000) (h2 : 3000 < s.size) :
    Calls Tryz.prog 11 #[.string name, .string s, v, .int .i64 n] w fun e w' => e = .returned (.bool true) ∧ Below w.heap.size w w' := by
  have HM := hide hMx
  have HT := hide hT
  have HV := hide hv
  have HN := hide hn
  have HS := hide hs
  have hvm : xs.length ≤ maxLen := by obtain ⟨_, _, _, hm, _⟩ := hv; exact hm
  obtain ⟨ao, cap, rfl, -⟩ := hv
  have HE := hide (fun w (hi : Ints w (.slice ao xs.length cap) xs) => encOf_rp n w hi)
  have HEn := hide (fun (v' : Value) w ht (hi : Ints w v' xs) => Enc_rp n w ht hi)
  generalize rpE n xs = R at *
  obtain ⟨T, c⟩ := R
  dsimp only at HE HEn
  have HDc := hide (fun w hm => dcErrs name s w hn hs (.inr h2) hm)
  have T1 := hide (fun w => tooLong_no name w h1)
  have T2 := hide (fun w => tooLong_yes s w h2 hs)
  have HZ := hide hz
  clear hMx hT hn hs hz h1 h2
  unfold maxLen at hvm
  go_enter Tryz.func11, Tryz.ntmps11
  go_wp2_with fail
  refine (begunT_any _).mono ?_
  rintro e w1 ⟨rfl, hb⟩
  have B1 := hide (hb)
  clear hb
  go_wp2_with fail
  refine (begunX_any dcSays rcSays ctSays _ ((unhide HM).below (unhide B1)) ((unhide HT).below (unhide B1))).mono ?_
  rintro e w2 ⟨rfl, hb⟩
  have B2 := hide (bstep (unhide B1) hb)
  clear hb B1
  go_wp2_with fail
  refine (attrBegun_any nextSays allSays chsSays _ ((unhide HM).below (unhide B2))).mono ?_
  rintro e w3 ⟨rfl, hb⟩
  have B3 := hide (bstep (unhide B2) hb)
  clear hb B2
  go_wp2_with fail
  refine (encoderBegun_any _ ((unhide HT).below (unhide B3))).mono ?_
  rintro e w4 ⟨rfl, hb⟩
  have B4 := hide (bstep (unhide B3) hb)
  clear hb B3
  go_wp2_with fail
  refine (begunF_any chSays bgSays fdSays ckSays _ ((unhide HM).below (unhide B4))).mono ?_
  rintro e w5 ⟨rfl, hb⟩
  have B5 := hide (bstep (unhide B4) hb)
  clear hb B4
  go_wp2_with (at_builtin; refine append_intsX rfl (.tmp 55) (.tmp 56) rfl w5.heap.size _ [] rfl (empty_row _) _ xs rfl (((unhide HV).below (unhide B5)).below (balloc _ _)) (by simpa using unhide HZ) (by simp) ?_)
  intro v6 w6 ho6 hb6
  obtain ⟨a6, c6, rfl⟩ := owns_shape ho6
  have I6 := hide (Ints.of_owns ho6)
  have B6 := hide (bstep (unhide B5) ((balloc w5 _).trans hb6))
  clear ho6 hb6 B5 HZ
  go_wp2_with fail
  refine (unhide HE _ ((unhide HV).below (unhide B6))).mono ?_
  rintro e w7 ⟨rfl, hb7⟩
  have I7 := hide ((unhide I6).below hb7)
  have B7 := hide (bstep (unhide B6) hb7)
  clear hb7 I6 B6 HE
  go_wp2_with fail
  refine (unhide T1 _).mono ?_
  rintro e wx ⟨rfl, hw⟩
  replace hw := hw.symm
  subst hw
  go_wp2_with fail
  refine (unhide T2 _).mono ?_
  rintro e wx ⟨rfl, hw⟩
  replace hw := hw.symm
  subst hw
  go_wp2_with fail
  have L0 := hide ((unhide HV).below (unhide B7))
  have M0 := hide ((unhide HM).below (unhide B7))
  have T0 := hide ((unhide HT).below (unhide B7))
  clear HV HM HT
  go_loopw [14] (fun iv wr => ∃ k : Nat, k ≤ 2 ∧ iv = .int .i64 k ∧ Below w7.heap.size w7 wr) (fun iv _ => 2 - (intOf iv).toNat)
  case atStart => exact ⟨0, by omega, rfl, Below.refl _ _⟩
  case round =>
    obtain ⟨k, hk, rfl, hBr⟩ := hrel
    obtain ⟨V, rfl⟩ : ∃ V, V = wr := ⟨_, rfl⟩
    have HB := hide hBr
    clear hBr
    by_cases hlt : k < 2
    · have hki : (k : Int) < 2 := by omega
      go_wp2_with fail
      refine (unhide HEn _ _ ((unhide T0).below (unhide HB)) ((unhide I7).below (unhide HB))).mono ?_
      rintro e x1 ⟨rfl, hb⟩
      have D1 := hide hb
      clear hb
      go_wp2_with fail
      refine (unhide HDc _ ((unhide M0).below (bstep (unhide HB) (unhide D1)))).mono ?_
      rintro e x2 ⟨v2, rfl, hI, hb⟩
      have J2 := hide hI
      have A2 := hide ((Mine.nil x1.heap.size hI).mono (unhide D1).size)
      obtain ⟨a2, c2, rfl, -⟩ := hI
      have D2 := hide (bstep (unhide D1) hb)
      clear hb D1
      go_wp2_with fail
      refine (intsAre_two _ _ _ _ (unhide J2)).mono ?_
      rintro e x3 ⟨rfl, hb⟩
      have A3 := hide ((unhide A2).below hb)
      have D3 := hide (bstep (unhide D2) hb)
      clear hb A2 D2 J2
      go_wp2_with fail
      refine (sd_mine n s _ (unhide HS)).mono ?_
      rintro e x4 ⟨a4, k4, c4, y4, rfl, hm, hb⟩
      have A4 := hide ((unhide A3).below hb)
      have E4 := hide (hm.mono (unhide D3).size)
      have D4 := hide (bstep (unhide D3) hb)
      clear hb hm A3 D3
      go_wp2_with fail
      refine (op_all n _).mono ?_
      rintro e x5 ⟨e5, y5, rfl, hb⟩
      have A5 := hide ((unhide A4).below hb)
      have E5 := hide ((unhide E4).below hb)
      have D5 := hide (bstep (unhide D4) hb)
      clear hb A4 E4 D4
      go_wp2_with fail
      refine (sf_mine e5 s _ (unhide HS)).mono ?_
      rintro e x6 ⟨a6', k6, c6', e6, r6, g6, f6, s6, y6, rfl, hm, hb⟩
      have st := bstep (balloc _ _) hb
      have A6 := hide ((unhide A5).below st)
      have E6 := hide ((unhide E5).below st)
      have F6 := hide (hm.mono (Nat.le_trans (unhide D5).size (by simp)))
      have D6 := hide (bstep (unhide D5) st)
      clear hb hm st A5 E5 D5
      go_wp2_with fail
      refine (bg_all name _ (unhide HN)).mono ?_
      rintro e x7 ⟨K, y7, hK, rfl, hb⟩
      have st := bstep (balloc _ _) hb
      have A7 := hide ((unhide A6).below st)
      have E7 := hide ((unhide E6).below st)
      have F7 := hide ((unhide F6).below st)
      have D7 := hide (bstep (unhide D6) st)
      clear hb st A6 E6 F6 D6
      go_wp2_with fail
      refine (ff_mine K s _ ((unhide M0).below (bstep (unhide HB) (bstep (unhide D7) (balloc _ _)))) hK (unhide HS)).mono ?_
      rintro e x8 ⟨a8', k8, c8', L8, n8, y8, W8, e8, r8, g8, f8, s8, z8, rfl, hm, hb⟩
      have st := bstep (balloc _ _) hb
      have A8 := hide ((unhide A7).below st)
      have E8 := hide ((unhide E7).below st)
      have F8 := hide ((unhide F7).below st)
      have G8 := hide (hm.mono (Nat.le_trans (unhide D7).size (by simp)))
      have D8 := hide (bstep (unhide D7) st)
      clear hb hm st A7 E7 F7 D7 hK
      go_wp2_with fail
      refine (al_mine s _ (unhide HS)).mono ?_
      rintro e x9 ⟨a9, k9, c9, y9, z9, rfl, hm, hb⟩
      have st := bstep (balloc _ _) hb
      have A9 := hide ((unhide A8).below st)
      have E9 := hide ((unhide E8).below st)
      have F9 := hide ((unhide F8).below st)
      have G9 := hide ((unhide G8).below st)
      have H9 := hide (hm.mono (Nat.le_trans (unhide D8).size (by simp)))
      have D9 := hide (bstep (unhide D8) st)
      clear hb hm st A8 E8 F8 G8 D8
      go_wp2_with fail
      refine (ct_all _ ((unhide I7).below (bstep (unhide HB) (unhide D9)))).mono ?_
      rintro e x10 ⟨u1, u2, u3, rfl, hb⟩
      have A10 := hide ((unhide A9).below hb)
      have E10 := hide ((unhide E9).below hb)
      have F10 := hide ((unhide F9).below hb)
      have G10 := hide ((unhide G9).below hb)
      have H10 := hide ((unhide H9).below hb)
      have D10 := hide (bstep (unhide D9) hb)
      clear hb A9 E9 F9 G9 H9 D9
      go_wp2_with fail
      refine (same_any _ ((unhide I7).below (bstep (unhide HB) (unhide D10))) ((unhide L0).below (bstep (unhide HB) (unhide D10)))).mono ?_
      rintro e x11 ⟨rfl, hb⟩
      rw [show (xs == xs) = true from by simp]
      have A11 := hide ((unhide A10).below hb)
      have E11 := hide ((unhide E10).below hb)
      have F11 := hide ((unhide F10).below hb)
      have G11 := hide ((unhide G10).below hb)
      have H11 := hide ((unhide H10).below hb)
      have D11 := hide (bstep (unhide D10) hb)
      clear hb A10 E10 F10 G10 H10 D10
      go_wp2_with fail
      refine (spoil_sp _ (unhide A11)).mono ?_
      rintro e x12 ⟨rfl, hb, hsp⟩
      have E12 := hide ((unhide E11).sp hsp)
      have F12 := hide ((unhide F11).sp hsp)
      have G12 := hide ((unhide G11).sp hsp)
      have H12 := hide ((unhide H11).sp hsp)
      have D12 := hide ((unhide D11).trans hb)
      clear hb hsp A11 E11 F11 G11 H11 D11
      go_wp2_with fail
      refine (spoil_sp _ (unhide E12)).mono ?_
      rintro e x13 ⟨rfl, hb, hsp⟩
      have F13 := hide ((unhide F12).sp hsp)
      have G13 := hide ((unhide G12).sp hsp)
      have H13 := hide ((unhide H12).sp hsp)
      have D13 := hide ((unhide D12).trans hb)
      clear hb hsp E12 F12 G12 H12 D12
      go_wp2_with fail
      refine (spoil_sp _ (unhide F13)).mono ?_
      rintro e x14 ⟨rfl, hb, hsp⟩
      have G14 := hide ((unhide G13).sp hsp)
      have H14 := hide ((unhide H13).sp hsp)
      have D14 := hide ((unhide D13).trans hb)
      clear hb hsp F13 G13 H13 D13
      go_wp2_with fail
      refine (spoil_sp _ (unhide G14)).mono ?_
      rintro e x15 ⟨rfl, hb, hsp⟩
      have H15 := hide ((unhide H14).sp hsp)
      have D15 := hide ((unhide D14).trans hb)
      clear hb hsp G14 H14 D14
      go_wp2_with fail
      obtain ⟨hm9, hH⟩ := unhide H15
      unfold maxLen at hm9
      rcases hH with ⟨ao9, cap9, hsl, rfl⟩ | ⟨g9, cap9, hsl, hg9, hc9⟩
      · injection hsl with i1 i2 i3
        subst i1 i3
        go_loopw [36] (fun iv wr => iv = .int .i64 0 ∧ wr = x15) (fun _ _ => 0)
        case atStart => exact ⟨rfl, rfl⟩
        case round =>
          obtain ⟨rfl, hwr⟩ := hrel
          replace hwr := hwr.symm
          subst hwr
          go_wp2_with fail
          go_roundw
          case rel => exact ⟨k + 1, by omega, by go_num, bstep (unhide HB) (unhide D15)⟩
          case measure => simp [intOf]; omega
      · injection hsl with i1 i2 i3
        subst i1 i3
        have HC9 := hide hc9
        clear hc9
        go_loopw [36] (fun iv wr => ∃ j : Nat, j ≤ k9 ∧ iv = .int .i64 j ∧ Below V.heap.size V wr ∧ ∀ i, i < k9 → (∃ x, wr.cell? ⟨g9, i * 2, none⟩ = some (.string x)) ∧ wr.frozen? ⟨g9, i * 2, none⟩ = false) (fun iv _ => k9 - (intOf iv).toNat)
        case atStart => exact ⟨0, by omega, rfl, unhide D15, unhide HC9⟩
        case round =>
          obtain ⟨j, hj, rfl, hBj, hq⟩ := hrel
          have HBj := hide hBj
          have HQ := hide hq
          clear hBj hq
          by_cases hjl : j < k9
          · obtain ⟨⟨x, hx⟩, hf⟩ := unhide HQ j hjl
            have hl := World.block_lt_of_cell? wr _ hx
            have hji : (j : Int) < (k9 : Int) := by omega
            go_wp2_with fail
            go_roundw
            case rel =>
              refine ⟨j + 1, by omega, by go_num, (unhide HBj).setCell (p := ⟨g9, j * 2, none⟩) hg9 _, fun i hi => ?_⟩
              obtain ⟨⟨y, hy⟩, hfy⟩ := unhide HQ i hi
              refine ⟨?_, by rw [World.frozen?_setCell]; exact hfy⟩
              by_cases e : i = j
              · subst e; exact ⟨_, World.cell?_setCell_same _ _ _ hy⟩
              · exact ⟨y, (World.cell?_setCell_other _ _ _ _ (by intro h; injection h; omega)).trans hy⟩
            case measure => simp [intOf]; omega
          · have hji : ¬ ((j : Int) < (k9 : Int)) := by omega
            go_wp2_with fail
            go_roundw
            case rel => exact ⟨k + 1, by omega, by go_num, bstep (unhide HB) (unhide HBj)⟩
            case measure => simp [intOf]; omega
    · have hki : ¬ ((k : Int) < 2) := by omega
      go_wp2_with fail
      go_ret
      exact ⟨rfl, bstep (unhide B7) (unhide HB)⟩

theorem rest_walk (name s : ByteArray) (v : Value) (xs : List Int) (n : Int) (w : World) (hMx : Mx w) (hT : Tb w) (hn : name.size ≤ maxLen) (hs : s.size ≤ maxLen) (hv : Ints w v xs) (hz : xs.length * 8 ≤ 140737488355328) :
    Calls Tryz.prog 11 #[.string name, .string s, v, .int .i64 n] w fun e w' => e = .returned (.bool true) ∧ Below w.heap.size w w' := by
  by_cases h1 : 3000 < name.size
  · exact rp_name name s v xs n w hMx hT hn hs hv hz h1
  · by_cases h2 : 3000 < s.size
    · exact rp_text name s v xs n w hMx hT hn hs hv hz (by omega) h2
    · exact rp_ok name s v xs n w hMx hT hn hs hv hz (by omega) (by omega)
end Go.Proofs.YtaiinjfnkmidbaaGreatDoor
