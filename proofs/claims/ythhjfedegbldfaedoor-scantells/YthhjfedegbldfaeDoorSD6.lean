/- The contracts of scan.step, look and Scan: what a text says of itself; nothing that was there is written. Conditions: at most 3000 bytes, else ErrMany; the library's variable MaxLen holds an integer. -/
import Derived.Test.YthhjfedegbldfaeDoorSC6
namespace Go.Proofs.YthhjfedegbldfaeDoor
open Go.RowKit
set_option linter.unusedVariables false

set_option maxHeartbeats 400000 in
set_option maxRecDepth 100000 in
theorem lStep1 (c : Int) (w : World) (h : 0 ≤ c ∧ c < 256) : Calls Tryd.prog 86 #[.int .u8 c] w fun e w' => e = .returned (.bool (pVal c)) ∧ w' = w := by
  by_cases h62 : c = 62
  · subst h62
    go_enter Tryd.func86, Tryd.ntmps86
    go_wp2_with fail
    go_ret
    exact ⟨ret_bool (by decide), rfl⟩
  · have h62e := ne_eq h62
    have h62n := ne_ne h62
    have W := hide (fun w => white_any c w h)
    have HP : Hid (pVal c = !wh c) := hide (by unfold pVal; rw [h62e]; simp)
    obtain ⟨q, HQ⟩ : ∃ q, Hid (wh c = q) := ⟨_, hide rfl⟩
    rw [unhide HQ] at W HP
    go_enter Tryd.func86, Tryd.ntmps86
    go_wp2_with fail
    refine (unhide W _).mono ?_
    rintro e w1 ⟨rfl, hw⟩
    replace hw := hw.symm
    subst hw
    go_wp2_with fail
    go_ret
    exact ⟨ret_bool (by rw [unhide HP]), rfl⟩
set_option maxHeartbeats 400000 in
set_option maxRecDepth 100000 in
theorem lStep2 (c : Int) (w : World) (h : 0 ≤ c ∧ c < 256) : Calls Tryd.prog 87 #[.int .u8 c] w fun e w' => e = .returned (.bool (pNot 62 c)) ∧ w' = w := by
  go_enter Tryd.func87, Tryd.ntmps87
  go_wp2_with fail
  go_ret
  exact ⟨ret_bool (by unfold pNot; rfl), rfl⟩
theorem wStep1 (s : ByteArray) (k : Nat) (w : World) (hk : k ≤ s.size) (hs : s.size ≤ 3000) :
    Calls Tryd.prog 47 #[.string s, .int .i64 (k : Int), .func (Fn.func 86) #[] #[]] w fun e w' => e = .returned (.int .i64 (run pVal (bl s) k : Int)) ∧ w' = w :=
  while0 86 pVal s k w hk hs (enters_of Tryd.func86 (by kernel_rfl) rfl) (fun c w h => lStep1 c w h)
theorem wStep2 (s : ByteArray) (k : Nat) (w : World) (hk : k ≤ s.size) (hs : s.size ≤ 3000) :
    Calls Tryd.prog 47 #[.string s, .int .i64 (k : Int), .func (Fn.func 87) #[] #[]] w fun e w' => e = .returned (.int .i64 (run (pNot 62) (bl s) k : Int)) ∧ w' = w :=
  while0 87 (pNot 62) s k w hk hs (enters_of Tryd.func87 (by kernel_rfl) rfl) (fun c w h => lStep2 c w h)
/-- The encoding that the thing at a place tells. -/
def encI (l : List Int) (k : Nat) : Int := if bgn l k b4 = false ∧ isMeta l k = true then metaAt l k else 0
theorem encI_yes {l : List Int} {k : Nat} (hk : k < l.length) (h : encI l k ≠ 0) : scnF l k = encI l k := by
  unfold encI at *
  split at h
  · rename_i c
    rw [if_pos c, scnF_meta hk c.1 c.2 h]
  · exact absurd rfl h
theorem encI_no {l : List Int} {k : Nat} (hk : k < l.length) (h : encI l k = 0) : scnF l k = scnF l (nxtP l k) := by
  refine scnF_next hk ?_ rfl
  rintro ⟨h1, h2, h3⟩
  unfold encI at h
  rw [if_pos ⟨h1, h2⟩] at h
  exact h3 h
theorem alike_gt {l : List Int} {k t : Nat} (hk : k < l.length) (h : Alike l t (nxtP l k)) : k < t := by
  rcases h with rfl | ⟨h1, _⟩
  · exact nxtP_gt hk
  · omega
set_option maxHeartbeats 3200000 in
set_option maxRecDepth 100000 in
theorem step_any (s : ByteArray) (k : Nat) (w : World) (hk : k < s.size) (hs : s.size ≤ 3000) (hM : Mx w) :
    Calls Tryd.prog 68 #[.string s, .int .i64 (k : Int)] w fun e w' => ∃ t : Nat, e = .returned (.tuple #[.int .i64 (encI (bl s) k), .int .i64 (t : Int)]) ∧ Alike (bl s) t (nxtP (bl s) k) ∧ t ≤ 4000 ∧ Below w.heap.size w w' := by
  have hl := hide (bl_len s)
  have hzr : (s.extract k s.size).size ≤ 3000 := by simp; omega
  have hbr := bl_extract s k
  have HP := hide (fun w => hasPre_any (s.extract k s.size) ⟨#[60, 33, 45, 45]⟩ w)
  rw [show bl ⟨#[60, 33, 45, 45]⟩ = b4 from by decide, hbr, bg0_drop, bg0_low b4N b4low, Nat.add_zero] at HP
  have HBM := hide (fun w => beginsMeta_any (s.extract k s.size) w hzr)
  rw [hbr, isMeta_drop (by rw [unhide hl]; omega)] at HBM
  have HBT := hide (fun w => beginsTag_any (s.extract k s.size) w hzr)
  rw [hbr, isTg_drop, isTg_nm (by rw [unhide hl]; exact hk)] at HBT
  have HS0 := hide (fun w => stands_any (s.extract k s.size) 0 ⟨#[60]⟩ w (by omega) hzr)
  rw [show bl ⟨#[60]⟩ = [60] from by decide, hbr, stn_drop, Nat.add_zero, show ((0 : Nat) : Int) = 0 from rfl] at HS0
  have HS1 := hide (fun w => stands_any (s.extract k s.size) 1 ⟨#[33, 47, 63]⟩ w (by omega) hzr)
  rw [show bl ⟨#[33, 47, 63]⟩ = [33, 47, 63] from by decide, hbr, stn_drop, show ((1 : Nat) : Int) = 1 from rfl] at HS1
  have HDc := hide (isDecl_stn (bl s) k)
  have HM := hide hM
  clear hbr hzr hM
  obtain ⟨c4, H4⟩ : ∃ c4, Hid (bgn (bl s) k b4 = c4) := ⟨_, hide rfl⟩
  obtain ⟨cm, Hm⟩ : ∃ cm, Hid (isMeta (bl s) k = cm) := ⟨_, hide rfl⟩
  obtain ⟨ct, Ht⟩ : ∃ ct, Hid (decide (0 < nmAt (bl s) k) = ct) := ⟨_, hide rfl⟩
  obtain ⟨q0, Hq0⟩ : ∃ q, Hid (stn (bl s) k [60] = q) := ⟨_, hide rfl⟩
  obtain ⟨q1, Hq1⟩ : ∃ q, Hid (stn (bl s) (k + 1) [33, 47, 63] = q) := ⟨_, hide rfl⟩
  rw [unhide H4] at HP
  rw [unhide Hm] at HBM
  rw [unhide Ht] at HBT
  rw [unhide Hq0] at HS0 HDc
  rw [unhide Hq1] at HS1 HDc
  generalize hrest : s.extract k s.size = rest at *
  have Hrest := hide hrest
  have hsl : ∀ wx, (Instr.slice 9 (.string s) (some (.int .i64 (k : Int))) none none).run Tryd.prog wx = .ok (.string rest) wx := fun wx => by
    rw [← unhide Hrest]
    have := run_slice_string_from_if (P := Tryd.prog) (w := wx) 9 s .i64 (k : Int) Tryd.underlying9
    rw [this]
    simp
    omega
  clear hrest
  go_enter Tryd.func68, Tryd.ntmps68
  go_wp2_with fail
  refine (unhide HP _).mono ?_
  rintro e w1 ⟨rfl, hw⟩
  replace hw := hw.symm
  subst hw
  cases c4
  · clear HP
    go_wp2_with fail
    refine (unhide HBM _).mono ?_
    rintro e w1 ⟨rfl, hb1⟩
    have HB1 := hide hb1
    clear hb1 HBM
    cases cm
    · have HE : Hid (encI (bl s) k = 0) := hide (by unfold encI; rw [unhide Hm, if_neg (by simp)])
      go_wp2_with fail
      refine (unhide HBT _).mono ?_
      rintro e w2 ⟨rfl, hw⟩
      replace hw := hw.symm
      subst hw
      clear HBT
      cases ct
      · have hnn : ¬ 0 < nmAt (bl s) k := of_decide_eq_false (unhide Ht)
        have HN0 := hide (fun h => nxtP_0 (unhide H4) (unhide Hm) hnn h)
        have HN1 := hide (fun h => nxtP_d (unhide H4) (unhide Hm) hnn h)
        rw [unhide HDc] at HN0 HN1
        clear hnn
        go_wp2_with fail
        refine (unhide HS0 _).mono ?_
        rintro e w2 ⟨rfl, hw⟩
        replace hw := hw.symm
        subst hw
        clear HS0
        cases q0
        · have HN := hide (unhide HN0 rfl)
          clear HN0 HN1
          go_wp2_with fail
          go_ret2
          exact ⟨k + 1, by rw [unhide HE]; rfl, .inl (unhide HN).symm, by omega, unhide HB1⟩
        · go_wp2_with fail
          refine (unhide HS1 _).mono ?_
          rintro e w2 ⟨rfl, hw⟩
          replace hw := hw.symm
          subst hw
          clear HS1
          cases q1
          · have HN := hide (unhide HN0 rfl)
            clear HN0 HN1
            go_wp2_with fail
            go_ret2
            exact ⟨k + 1, by rw [unhide HE]; rfl, .inl (unhide HN).symm, by omega, unhide HB1⟩
          · have HN := hide (unhide HN1 rfl)
            have hr := run_le (pNot 62) (bl s) (i := k) (by rw [unhide hl]; omega)
            rw [unhide hl] at hr
            have HW := hide (fun w => wStep2 s k w (by omega) hs)
            clear HN0 HN1
            generalize run (pNot 62) (bl s) k = r at *
            go_wp2_with fail
            refine (unhide HW _).mono ?_
            rintro e w2 ⟨rfl, hw⟩
            replace hw := hw.symm
            subst hw
            go_wp2_with fail
            go_ret2
            exact ⟨r + 1, by rw [unhide HE]; rfl, .inl (unhide HN).symm, by omega, unhide HB1⟩
      · have hnn : 0 < nmAt (bl s) k := of_decide_eq_true (unhide Ht)
        have HN := hide (nxtP_n (unhide H4) (unhide Hm) hnn)
        rw [← run_nm (by rw [unhide hl]; exact hk) hnn] at HN
        have hr := run_le pVal (bl s) (i := k) (by rw [unhide hl]; omega)
        rw [unhide hl] at hr
        have HW := hide (fun w => wStep1 s k w (by omega) hs)
        clear hnn
        generalize run pVal (bl s) k = r at *
        have HA := hide (fun w => All_ok s r w hr hs)
        have hle := attrsI_le (bl s) _ r (Nat.le_refl _) (by rw [unhide hl]; exact hr)
        rw [unhide hl] at hle
        obtain ⟨A, tt, HX⟩ : ∃ A tt, Hid (attrsI (bl s) r = (A, tt)) := ⟨_, _, hide rfl⟩
        rw [unhide HX] at HA HN hle
        simp only at HA HN hle
        go_wp2_with fail
        refine (unhide HW _).mono ?_
        rintro e w2 ⟨rfl, hw⟩
        replace hw := hw.symm
        subst hw
        go_wp2_with fail
        refine (unhide HA _).mono ?_
        rintro e w2 ⟨v, rfl, hat, hb2⟩
        have HB2 := hide (bstep (unhide HB1) hb2)
        clear hb2 hat
        go_wp2_with fail
        go_ret2
        exact ⟨tt + 1, by rw [unhide HE]; rfl, .inl (unhide HN).symm, by omega, unhide HB2⟩
    · have HE : Hid (encI (bl s) k = metaAt (bl s) k) := hide (by unfold encI; rw [unhide Hm, unhide H4, if_pos ⟨rfl, rfl⟩])
      have h5 : k + 5 < s.size := by
        have := unhide Hm
        unfold isMeta at this
        rw [Bool.and_eq_true, Bool.and_eq_true, decide_eq_true_eq, unhide hl] at this
        exact this.2.1
      have HN := hide (nxtP_m (unhide H4) (unhide Hm))
      have HA := hide (fun w => All_ok s (k + 5) w (by omega) hs)
      rw [show ((k + 5 : Nat) : Int) = (k : Int) + 5 from by omega] at HA
      have hle := attrsI_le (bl s) _ (k + 5) (Nat.le_refl _) (by rw [unhide hl]; omega)
      rw [unhide hl] at hle
      have HMt := hide (fun (v : Value) (w : World) (h : Ats w v (txts (attrsI (bl s) (k + 5)).1)) (hm : Mx w) => Meta_ok w h (by simp only [txts, List.length_map]; omega) (txts_both (by rw [unhide hl]; exact hs)) hm)
      have HME : Hid (metaAt (bl s) k = metaI (txts (attrsI (bl s) (k + 5)).1)) := hide rfl
      rw [← unhide HME, ← unhide HE] at HMt
      clear HME HE
      obtain ⟨A, tt, HX⟩ : ∃ A tt, Hid (attrsI (bl s) (k + 5) = (A, tt)) := ⟨_, _, hide rfl⟩
      rw [unhide HX] at HA HN hle HMt
      simp only at HA HN hle HMt
      go_wp2_with fail
      refine (unhide HA _).mono ?_
      rintro e w2 ⟨v, rfl, hat, hb2⟩
      have HB2 := hide (bstep (unhide HB1) hb2)
      have HMc := hide (unhide HMt v w2 hat ((unhide HM).below (unhide HB2)))
      clear hb2 hat HMt
      go_wp2_with fail
      refine (unhide HMc).mono ?_
      rintro e w3 ⟨rfl, hb3⟩
      have HB3 := hide (bstep (unhide HB2) hb3)
      clear hb3
      go_wp2_with fail
      go_ret2
      exact ⟨tt + 1, rfl, .inl (unhide HN).symm, by omega, unhide HB3⟩
  · have HE : Hid (encI (bl s) k = 0) := hide (by unfold encI; rw [unhide H4, if_neg (by simp)])
    have hb4 : k + 4 ≤ s.size := by have := bgn_le (unhide H4); rw [unhide hl] at this; exact this
    have HN := hide (nxtP_4 (unhide H4))
    have HC := hide (behind_any s k w hb4 hs (unhide HM))
    rw [← unhide HN] at HC
    go_wp2_with fail
    refine (unhide HC).mono ?_
    rintro e w1 ⟨⟨t, rfl, hal, ht⟩, hw⟩
    replace hw := hw.symm
    subst hw
    have HAl := hide hal
    clear hal
    go_wp2_with fail
    go_ret2
    exact ⟨t, by rw [unhide HE]; rfl, unhide HAl, ht, Below.refl _ _⟩
set_option maxHeartbeats 800000 in
set_option maxRecDepth 100000 in
theorem look_any (s : ByteArray) (w : World) (hs : s.size ≤ 3000) (hM : Mx w) :
    Calls Tryd.prog 45 #[.string s] w fun e w' => e = .returned (.int .i64 (scnF (bl s) 0)) ∧ Below w.heap.size w w' := by
  have hl := hide (bl_len s)
  have HM := hide hM
  clear hM
  go_enter Tryd.func45, Tryd.ntmps45
  go_wp2_with fail
  go_loopw [3] (fun i wr => ∃ k : Nat, i = .int .i64 k ∧ k ≤ 4000 ∧ Below w.heap.size w wr ∧ Hid (scnF (bl s) 0 = scnF (bl s) k)) (fun i _ => 5000 - (intOf i).toNat)
  case atStart => exact ⟨0, rfl, by omega, Below.refl _ _, hide rfl⟩
  case round =>
    obtain ⟨k, rfl, hk, hbr, HS⟩ := hrel
    have HB := hide hbr
    clear hbr
    by_cases hlt : k < s.size
    · have HC := hide (step_any s k wr hlt hs ((unhide HM).below (unhide HB)))
      have HY := hide (fun h => encI_yes (l := bl s) (k := k) (by rw [unhide hl]; exact hlt) h)
      have HNo := hide (fun h => encI_no (l := bl s) (k := k) (by rw [unhide hl]; exact hlt) h)
      have HG := hide (fun t (h : Alike (bl s) t (nxtP (bl s) k)) => alike_gt (by rw [unhide hl]; exact hlt) h)
      generalize encI (bl s) k = E at *
      go_wp2_with fail
      refine (unhide HC).mono ?_
      rintro e w1 ⟨t, rfl, hal, ht, hb1⟩
      have HB1 := hide (bstep (unhide HB) hb1)
      have hgt := unhide HG t hal
      have HAl := hide (scnF_alike hal)
      clear hb1 hal HC HG
      by_cases hE : E = 0
      · subst hE
        have HS' : Hid (scnF (bl s) 0 = scnF (bl s) t) := hide (by rw [unhide HS, unhide HNo rfl, unhide HAl])
        clear HY HNo HAl
        go_wp2_with fail
        go_roundw
        case rel => exact ⟨t, rfl, ht, unhide HB1, HS'⟩
        case measure => simp [intOf]; omega
      · have hne : (E != 0) = true := bne_iff_ne.2 hE
        have HS' : Hid (scnF (bl s) 0 = E) := hide (by rw [unhide HS, unhide HY hE])
        clear HY HNo HAl hE
        go_wp2_with fail
        go_ret
        exact ⟨ret_int (unhide HS').symm, unhide HB1⟩
    · have HS' : Hid (scnF (bl s) 0 = 0) := hide (by rw [unhide HS, scnF_end (by rw [unhide hl]; omega)])
      go_wp2_with fail
      go_ret
      exact ⟨ret_int (unhide HS').symm, unhide HB⟩
set_option maxHeartbeats 800000 in
set_option maxRecDepth 100000 in
theorem scan1_any (s : ByteArray) (w : World) (hs : s.size ≤ 3000) (hM : Mx w) :
    Calls Tryd.prog 44 #[.string s] w fun e w' => e = .returned (.int .i64 (scnI (bl s))) ∧ Below w.heap.size w w' := by
  by_cases h : s.size ≤ 256
  · have HL := hide (look_any s w hs hM)
    rw [show scnF (bl s) 0 = scnI (bl s) from by unfold scnI; rw [List.take_of_length_le (by rw [bl_len]; exact h)]] at HL
    have hmin : min (s.size : Int) 256 = (s.size : Int) := by omega
    clear hM
    go_enter Tryd.func44, Tryd.ntmps44
    go_wp2_with fail
    refine (unhide HL).mono ?_
    rintro e w1 ⟨rfl, hb⟩
    have HB := hide hb
    clear hb
    go_wp2_with fail
    go_ret
    exact ⟨rfl, unhide HB⟩
  · have HL := hide (look_any (s.extract 0 256) w (by simp; omega) hM)
    rw [show scnF (bl (s.extract 0 256)) 0 = scnI (bl s) from by unfold scnI; rw [bl_take]] at HL
    have hmin : min (s.size : Int) 256 = 256 := by omega
    clear hM
    go_enter Tryd.func44, Tryd.ntmps44
    go_wp2_with fail
    refine (unhide HL).mono ?_
    rintro e w1 ⟨rfl, hb⟩
    have HB := hide hb
    clear hb
    go_wp2_with fail
    go_ret
    exact ⟨rfl, unhide HB⟩
set_option maxHeartbeats 400000 in
set_option maxRecDepth 100000 in
theorem Scan_ok (s : ByteArray) (w : World) (hs : s.size ≤ 3000) (hM : Mx w) :
    Calls Tryd.prog 21 #[.string s] w fun e w' => e = .returned (.tuple #[.int .i64 (scnI (bl s)), .int .i64 0]) ∧ Below w.heap.size w w' := by
  have HC := hide (scan1_any s w hs hM)
  clear hM
  generalize scnI (bl s) = r at HC ⊢
  go_enter Tryd.func21, Tryd.ntmps21
  go_wp2_with (first | (go_at_call 44; refine (unhide HC).mono ?_; rintro e w1 ⟨rfl, hb⟩) | go_in)
  go_ret2
  exact ⟨rfl, by assumption⟩
set_option maxHeartbeats 400000 in
set_option maxRecDepth 100000 in
theorem Scan_long (s : ByteArray) (w : World) (hm : s.size ≤ maxLen) (hs : 3000 < s.size) :
    Calls Tryd.prog 21 #[.string s] w fun e w' => e = .returned (.tuple #[.int .i64 0, .int .i64 2]) ∧ Below w.heap.size w w' := by
  unfold maxLen at hm
  go_enter Tryd.func21, Tryd.ntmps21
  go_wp2
  go_ret2
  exact ⟨rfl, Below.refl _ _⟩
end Go.Proofs.YthhjfedegbldfaeDoor
