/- Laws that the statements of this seat lean on, part 7 (RL5 MathM6 SC6 SD6 EN6 CF6 CK6 FC6 FD6 FT6 DG6 FG6): each a contract of a function, or a plain fact; conditions stand at each. -/
import Derived.Deep.CutBlock
import Derived.Deep.CutRange
import Derived.Deep.DeepCutAuto
import Derived.Deep.RegionHeld3
import Derived.Test.YtaiinjfnkmidbaaGreatDoorQC6
namespace Go.Proofs.YtaiinjfnkmidbaaGreatDoor
open Go.RowKit
set_option linter.unusedVariables false

set_option maxHeartbeats 400000 in
set_option maxRecDepth 100000 in
theorem isLetter_any (c : Int) (w : World) (h : 0 ≤ c ∧ c < 256) : Calls Tryz.prog 116 #[.int .u8 c] w fun e w' => e = .returned (.bool (isLet c)) ∧ w' = w := by
  have H1 := hide (fun w => between_any c 97 122 w)
  have H2 := hide (fun w => between_any c 65 90 w)
  unfold isLet
  generalize (decide (97 ≤ c) && decide (c ≤ 122)) = b1 at *
  generalize (decide (65 ≤ c) && decide (c ≤ 90)) = b2 at *
  cases b1
  all_goals
    go_enter Tryz.func116, Tryz.ntmps116
    go_wp2_with fail
    refine (unhide H1 _).mono ?_
    rintro e w1 ⟨rfl, hw⟩
    replace hw := hw.symm
    subst hw
    go_wp2_with fail
    first
    | (go_ret; exact ⟨rfl, rfl⟩)
    | (refine (unhide H2 _).mono ?_
       rintro e w1 ⟨rfl, hw⟩
       replace hw := hw.symm
       subst hw
       go_wp2_with fail
       go_ret
       exact ⟨rfl, rfl⟩)
theorem cut_few (l : List Int) (i j : Nat) : (cut l i j).length ≤ l.length := by
  unfold cut; rw [List.length_take, List.length_drop]; omega
theorem attrI_few (l : List Int) (k : Nat) : (attrI l k).1.1.length ≤ l.length ∧ (attrI l k).1.2.length ≤ l.length := by
  have h := fun i j => cut_few l i j
  unfold attrI
  simp only
  split
  · simp
  · split
    · exact ⟨by simp only [fd_len]; exact h _ _, by simp⟩
    · split
      · split
        · simp
        · exact ⟨by simp only [fd_len]; exact h _ _, by simp only [fd_len]; exact h _ _⟩
      · exact ⟨by simp only [fd_len]; exact h _ _, by simp only [fd_len]; exact h _ _⟩
theorem attrsN_few (l : List Int) : ∀ (n k : Nat), ∀ x ∈ (attrsN n l k).1, x.1.length ≤ l.length ∧ x.2.length ≤ l.length
  | 0, k, x, hx => by simp [attrsN] at hx
  | n + 1, k, x, hx => by
    unfold attrsN at hx
    split at hx
    · simp only [List.mem_cons] at hx
      rcases hx with rfl | hx
      · exact attrI_few l k
      · exact attrsN_few l n _ x hx
    · simp at hx
theorem txts_few {l : List Int} {k n : Nat} (h : l.length ≤ n) : ∀ x ∈ txts (attrsI l k).1, x.2.size ≤ n := by
  intro x hx
  unfold txts at hx
  rw [List.mem_map] at hx
  obtain ⟨y, hy, rfl⟩ := hx
  have := attrsN_few l _ k y hy
  rw [strOfNums_size]; omega
theorem nxtP_4 {l : List Int} {k : Nat} (h : bgn l k b4 = true) : nxtP l k = fbI l (k + 2) + 3 := by unfold nxtP; rw [if_pos h]
theorem nxtP_m {l : List Int} {k : Nat} (h : bgn l k b4 = false) (hm : isMeta l k = true) : nxtP l k = (attrsI l (k + 5)).2 + 1 := by unfold nxtP; rw [if_neg (by simp [h]), if_pos hm]
theorem nxtP_n {l : List Int} {k : Nat} (h : bgn l k b4 = false) (hm : isMeta l k = false) (hn : 0 < nmAt l k) : nxtP l k = (attrsI l (run pVal l (nmAt l k))).2 + 1 := by unfold nxtP; rw [if_neg (by simp [h]), if_neg (by simp [hm]), if_pos hn]
theorem nxtP_d {l : List Int} {k : Nat} (h : bgn l k b4 = false) (hm : isMeta l k = false) (hn : ¬ 0 < nmAt l k) (hd : isDecl l k = true) : nxtP l k = run (pNot 62) l k + 1 := by unfold nxtP; rw [if_neg (by simp [h]), if_neg (by simp [hm]), if_neg hn, if_pos hd]
theorem nxtP_0 {l : List Int} {k : Nat} (h : bgn l k b4 = false) (hm : isMeta l k = false) (hn : ¬ 0 < nmAt l k) (hd : isDecl l k = false) : nxtP l k = k + 1 := by unfold nxtP; rw [if_neg (by simp [h]), if_neg (by simp [hm]), if_neg hn, if_neg (by simp [hd])]
theorem no_meta {l : List Int} {k : Nat} (hm : isMeta l k = false) : ¬ (bgn l k b4 = false ∧ isMeta l k = true ∧ metaAt l k ≠ 0) := fun h => by rw [hm] at h; cases h.2.1

set_option maxHeartbeats 25600000 in
set_option maxRecDepth 100000 in
theorem scanOf_any (s : ByteArray) (w : World) (hs : s.size ≤ 4000) :
    Calls Tryz.prog 56 #[.string s] w fun e w' => e = .returned (.int .i64 (scnI (bl s))) ∧ Below w.heap.size w w' := by
  obtain ⟨R, HR0⟩ : ∃ R, Hid (scnI (bl s) = R) := ⟨_, hide rfl⟩
  rw [unhide HR0]
  go_enter Tryz.func56, Tryz.ntmps56
  go_upto_if 13 with fail
  go_cut [0] (fun v wx => ∃ t : ByteArray, v = .string t ∧ bl t = (bl s).take 256 ∧ wx = w)
  case first =>
    by_cases h : 256 < s.size
    · go_wp2_with fail
      go_meet
      case rel => exact ⟨s.extract 0 256, rfl, bl_take s 256, rfl⟩
    · go_wp2_with fail
      go_meet
      case rel => exact ⟨s, rfl, (List.take_of_length_le (by rw [bl_len]; omega)).symm, rfl⟩
  obtain ⟨t, rfl, ht, hwc⟩ := hcut
  replace hwc := hwc.symm
  subst hwc
  have HS : Hid (scnF (bl t) 0 = R) := hide (by rw [← unhide HR0]; unfold scnI; rw [ht])
  have hts : t.size ≤ 256 := by rw [← bl_len, ht, List.length_take]; omega
  clear ht hs HR0
  have hl := bl_len t
  have G4 := hide (fun (k : Nat) (hk : k ≤ t.size) (w : World) => beginsAt_any t k ⟨#[60, 33, 45, 45]⟩ w hk (by omega) (by decide))
  rw [show bl ⟨#[60, 33, 45, 45]⟩ = b4 from by decide] at G4
  have G3 := hide (fun (k : Nat) (hk : k ≤ t.size) (w : World) => beginsAt_any t k ⟨#[45, 45, 62]⟩ w hk (by omega) (by decide))
  rw [show bl ⟨#[45, 45, 62]⟩ = b3 from by decide] at G3
  have G5 := hide (fun (k : Nat) (hk : k ≤ t.size) (w : World) => beginsAt_any t k ⟨#[60, 109, 101, 116, 97]⟩ w hk (by omega) (by decide))
  rw [show bl ⟨#[60, 109, 101, 116, 97]⟩ = b5 from by decide] at G5
  have GE := hide (fun (k : Nat) (hk : k ≤ t.size) (w : World) => beginsAt_any t k ⟨#[60, 33]⟩ w hk (by omega) (by decide))
  rw [show bl ⟨#[60, 33]⟩ = bE from by decide] at GE
  have GS := hide (fun (k : Nat) (hk : k ≤ t.size) (w : World) => beginsAt_any t k ⟨#[60, 47]⟩ w hk (by omega) (by decide))
  rw [show bl ⟨#[60, 47]⟩ = bS from by decide] at GS
  have GQ := hide (fun (k : Nat) (hk : k ≤ t.size) (w : World) => beginsAt_any t k ⟨#[60, 63]⟩ w hk (by omega) (by decide))
  rw [show bl ⟨#[60, 63]⟩ = bQ from by decide] at GQ
  go_wp2_with fail
  go_loopw [3] (fun i wr => ∃ K : Nat, i = .int .i64 K ∧ K ≤ t.size + 5 ∧ Below w.heap.size w wr ∧ Hid (scnF (bl t) K = R)) (fun i _ => t.size - (intOf i).toNat)
  case atStart => exact ⟨0, rfl, by omega, Below.refl _ _, HS⟩
  case round =>
    obtain ⟨K, rfl, hK5, hB, HC⟩ := hrel
    have HB := hide hB
    clear hB HS
    by_cases hK : K < t.size
    · cases hb4 : bgn (bl t) K b4
      · have HG := hide (unhide G4 K (by omega))
        rw [hb4] at HG
        go_wp2_with fail
        refine (unhide HG _).mono ?_
        rintro e w1 ⟨rfl, hb1⟩
        have HB1 := hide (bstep (unhide HB) hb1)
        clear hb1
        have HG5 := hide (unhide G5 K (by omega))
        go_upto_region 10 with fail
        go_cut [62] (fun b wx => b = .bool (isMeta (bl t) K) ∧ Below w.heap.size w wx)
        case first =>
          as_aux_lemma =>
            cases hb5 : bgn (bl t) K b5
            · rw [hb5] at HG5
              have HM0 : Hid (isMeta (bl t) K = false) := hide (by unfold isMeta; rw [hb5]; rfl)
              clear hb5
              go_wp2_with fail
              refine (unhide HG5 _).mono ?_
              rintro e w2 ⟨rfl, hbx⟩
              have HB2 := hide (bstep (unhide HB1) hbx)
              clear hbx
              go_wp2_with fail
              go_meet
              case rel => exact ⟨by rw [unhide HM0], unhide HB2⟩
            · rw [hb5] at HG5
              by_cases h5 : K + 5 < t.size
              · have hcb5 := u8_lt t h5
                have HGc := hide (bl_at h5)
                obtain ⟨c5, hcc5⟩ : ∃ c : Int, (t[K + 5].toNat : Int) = c := ⟨_, rfl⟩
                rw [hcc5] at hcb5 HGc
                have W := isWhite_any c5
                cases hw : wh c5
                · rw [hw] at W
                  by_cases h47 : c5 = 47
                  · subst h47
                    have HM0 : Hid (isMeta (bl t) K = true) := hide (by unfold isMeta; rw [hb5, unhide HGc, decide_eq_true (by omega)]; rfl)
                    clear hb5 hw
                    go_wp2_with fail
                    refine (unhide HG5 _).mono ?_
                    rintro e w2 ⟨rfl, hbx⟩
                    have HB2 := hide (bstep (unhide HB1) hbx)
                    clear hbx
                    go_wp2_with fail
                    refine (W _ hcb5).mono ?_
                    rintro e wz ⟨rfl, hwz⟩
                    replace hwz := hwz.symm
                    subst hwz
                    go_wp2_with fail
                    go_meet
                    case rel => exact ⟨by rw [unhide HM0], unhide HB2⟩
                  · have h47e := ne_eq h47
                    have HM0 : Hid (isMeta (bl t) K = false) := hide (by unfold isMeta; rw [hb5, unhide HGc, decide_eq_true (by omega), pAhead_n hw h47e]; rfl)
                    clear hb5 hw h47
                    go_wp2_with fail
                    refine (unhide HG5 _).mono ?_
                    rintro e w2 ⟨rfl, hbx⟩
                    have HB2 := hide (bstep (unhide HB1) hbx)
                    clear hbx
                    go_wp2_with fail
                    refine (W _ hcb5).mono ?_
                    rintro e wz ⟨rfl, hwz⟩
                    replace hwz := hwz.symm
                    subst hwz
                    go_wp2_with fail
                    go_meet
                    case rel => exact ⟨by rw [unhide HM0], unhide HB2⟩
                · rw [hw] at W
                  have HM0 : Hid (isMeta (bl t) K = true) := hide (by unfold isMeta; rw [hb5, unhide HGc, decide_eq_true (by omega), pAhead_w hw]; rfl)
                  clear hb5 hw
                  go_wp2_with fail
                  refine (unhide HG5 _).mono ?_
                  rintro e w2 ⟨rfl, hbx⟩
                  have HB2 := hide (bstep (unhide HB1) hbx)
                  clear hbx
                  go_wp2_with fail
                  refine (W _ hcb5).mono ?_
                  rintro e wz ⟨rfl, hwz⟩
                  replace hwz := hwz.symm
                  subst hwz
                  go_wp2_with fail
                  go_meet
                  case rel => exact ⟨by rw [unhide HM0], unhide HB2⟩
              · have HM0 : Hid (isMeta (bl t) K = false) := hide (by unfold isMeta; rw [hb5, decide_eq_false (by omega)]; rfl)
                clear hb5
                go_wp2_with fail
                refine (unhide HG5 _).mono ?_
                rintro e w2 ⟨rfl, hbx⟩
                have HB2 := hide (bstep (unhide HB1) hbx)
                clear hbx
                go_wp2_with fail
                go_meet
                case rel => exact ⟨by rw [unhide HM0], unhide HB2⟩
        obtain ⟨rfl, hB2⟩ := hcut
        have HB2 := hide hB2
        clear hB2
        generalize hwd : wc = w2 at *
        clear hwd
        cases hm : isMeta (bl t) K
        · have hcb0 := u8_lt t hK
          have HG0 := hide (bl_at hK)
          obtain ⟨c0, hcc0⟩ : ∃ c : Int, (t[K].toNat : Int) = c := ⟨_, rfl⟩
          rw [hcc0] at hcb0 HG0
          go_upto_if 80 with fail
          go_cut [8] (fun nmv wx => nmv = .int .i64 (nmAt (bl t) K : Int) ∧ wx = w2)
          case first =>
            as_aux_lemma =>
              by_cases h60 : c0 = 60
              · subst h60
                by_cases h1 : K + 1 < t.size
                · have hcb1 := u8_lt t h1
                  have HG1 := hide (bl_at h1)
                  obtain ⟨c1, hcc1⟩ : ∃ c : Int, (t[K + 1].toNat : Int) = c := ⟨_, rfl⟩
                  rw [hcc1] at hcb1 HG1
                  have L1 := isLetter_any c1
                  cases hl1 : isLet c1
                  · rw [hl1] at L1
                    by_cases h47 : c1 = 47
                    · subst h47
                      by_cases h2 : K + 2 < t.size
                      · have hcb2 := u8_lt t h2
                        have HG2 := hide (bl_at h2)
                        obtain ⟨c2, hcc2⟩ : ∃ c : Int, (t[K + 2].toNat : Int) = c := ⟨_, rfl⟩
                        rw [hcc2] at hcb2 HG2
                        have L2 := isLetter_any c2
                        cases hl2 : isLet c2
                        · rw [hl2] at L2
                          have HNm : Hid (nmAt (bl t) K = 0) := hide (by unfold nmAt; rw [if_pos (unhide HG0), unhide HG1, unhide HG2, if_neg (by rw [hl2]; simp), if_neg (by rw [hl1]; simp)])
                          go_wp2_with fail
                          refine (L1 _ hcb1).mono ?_
                          rintro e wz ⟨rfl, hwz⟩
                          replace hwz := hwz.symm
                          subst hwz
                          go_wp2_with fail
                          refine (L2 _ hcb2).mono ?_
                          rintro e wz ⟨rfl, hwz⟩
                          replace hwz := hwz.symm
                          subst hwz
                          go_wp2_with fail
                          go_meet
                          case rel => exact ⟨by rw [unhide HNm]; rfl, rfl⟩
                        · rw [hl2] at L2
                          have HNm : Hid (nmAt (bl t) K = K + 2) := hide (by unfold nmAt; rw [if_pos (unhide HG0), unhide HG1, unhide HG2, if_pos ⟨by omega, rfl, hl2⟩])
                          go_wp2_with fail
                          refine (L1 _ hcb1).mono ?_
                          rintro e wz ⟨rfl, hwz⟩
                          replace hwz := hwz.symm
                          subst hwz
                          go_wp2_with fail
                          refine (L2 _ hcb2).mono ?_
                          rintro e wz ⟨rfl, hwz⟩
                          replace hwz := hwz.symm
                          subst hwz
                          go_wp2_with fail
                          go_meet
                          case rel => exact ⟨by rw [unhide HNm]; go_num, rfl⟩
                      · have HNm : Hid (nmAt (bl t) K = 0) := hide (by unfold nmAt; rw [if_pos (unhide HG0), unhide HG1, if_neg (by omega), if_neg (by rw [hl1]; simp)])
                        go_wp2_with fail
                        refine (L1 _ hcb1).mono ?_
                        rintro e wz ⟨rfl, hwz⟩
                        replace hwz := hwz.symm
                        subst hwz
                        go_wp2_with fail
                        go_meet
                        case rel => exact ⟨by rw [unhide HNm]; rfl, rfl⟩
                    · have h47e := ne_eq h47
                      have HNm : Hid (nmAt (bl t) K = 0) := hide (by unfold nmAt; rw [if_pos (unhide HG0), unhide HG1, if_neg (fun h => h47 h.2.1), if_neg (by rw [hl1]; simp)])
                      clear h47
                      by_cases h2 : K + 2 < t.size
                      all_goals
                        go_wp2_with fail
                        refine (L1 _ hcb1).mono ?_
                        rintro e wz ⟨rfl, hwz⟩
                        replace hwz := hwz.symm
                        subst hwz
                        go_wp2_with fail
                        go_meet
                        case rel => exact ⟨by rw [unhide HNm]; rfl, rfl⟩
                  · rw [hl1] at L1
                    have h47 : c1 ≠ 47 := fun h => by rw [h] at hl1; revert hl1; decide
                    have h47e := ne_eq h47
                    have HNm : Hid (nmAt (bl t) K = K + 1) := hide (by unfold nmAt; rw [if_pos (unhide HG0), unhide HG1, if_neg (fun h => h47 h.2.1), if_pos ⟨by omega, hl1⟩])
                    clear h47
                    by_cases h2 : K + 2 < t.size
                    all_goals
                      go_wp2_with fail
                      refine (L1 _ hcb1).mono ?_
                      rintro e wz ⟨rfl, hwz⟩
                      replace hwz := hwz.symm
                      subst hwz
                      go_wp2_with fail
                      go_meet
                      case rel => exact ⟨by rw [unhide HNm]; go_num, rfl⟩
                · have HNm : Hid (nmAt (bl t) K = 0) := hide (by unfold nmAt; rw [if_pos (unhide HG0), if_neg (by omega), if_neg (by omega)])
                  go_wp2_with fail
                  go_meet
                  case rel => exact ⟨by rw [unhide HNm]; rfl, rfl⟩
              · have h60e := ne_eq h60
                have HNm : Hid (nmAt (bl t) K = 0) := hide (by unfold nmAt; rw [if_neg (by rw [unhide HG0]; exact h60)])
                go_wp2_with fail
                go_meet
                case rel => exact ⟨by rw [unhide HNm]; rfl, rfl⟩
          obtain ⟨rfl, hwc⟩ := hcut
          replace hwc := hwc.symm
          subst hwc
          by_cases hn0 : 0 < nmAt (bl t) K
          · as_aux_lemma =>
              have hn := nmAt_le hn0
              have HNx := hide (nxtP_n hb4 hm hn0)
              have HMn := hide (no_meta hm)
              obtain ⟨nm, HNm⟩ : ∃ nm, Hid (nmAt (bl t) K = nm) := ⟨_, hide rfl⟩
              rw [unhide HNm] at hn0 hn HNx ⊢
              clear hb4 hm
              go_upto_block 4 with fail
              go_cut [8] (fun i wx => i = .int .i64 (run pVal (bl t) (nm) : Int) ∧ wx = w2)
              case first =>
                go_wp2_with fail
                go_loop [8] (fun i => ∃ k : Nat, i = .int .i64 k ∧ k ≤ t.size ∧ Hid (run pVal (bl t) k = run pVal (bl t) (nm))) (fun i => t.size - (intOf i).toNat)
                case atStart => exact ⟨nm, by go_num, by omega, hide rfl⟩
                case round =>
                  obtain ⟨k, rfl, hk, HR⟩ := hrel
                  by_cases hlt : k < t.size
                  · have hcb := u8_lt t hlt
                    have HG := hide (bl_at hlt)
                    obtain ⟨c, hcc⟩ : ∃ c : Int, (t[k].toNat : Int) = c := ⟨_, rfl⟩
                    rw [hcc] at hcb HG
                    by_cases h62 : c = 62
                    · subst h62
                      have HE : Hid (run pVal (bl t) (nm) = k) := hide (by rw [← unhide HR, run_stop (by omega) (by rw [unhide HG]; exact (by decide))])
                      go_wp2_with fail
                      go_meet
                      case rel => exact ⟨by rw [unhide HE], rfl⟩
                    · have h62e := ne_eq h62
                      have h62n := ne_ne h62
                      have W := isWhite_any c
                      cases hw : wh c
                      · rw [hw] at W
                        have HR' : Hid (run pVal (bl t) (k + 1) = run pVal (bl t) (nm)) := hide (by rw [← run_step (by omega) (by rw [unhide HG]; exact pVal_n h62e hw), unhide HR])
                        go_wp2_with fail
                        refine (W _ hcb).mono ?_
                        rintro e wz ⟨rfl, hwz⟩
                        replace hwz := hwz.symm
                        subst hwz
                        go_wp2_with fail
                        go_round
                        case rel => exact ⟨k + 1, by go_num, by omega, HR'⟩
                        case measure => simp [intOf]; omega
                      · rw [hw] at W
                        have HE : Hid (run pVal (bl t) (nm) = k) := hide (by rw [← unhide HR, run_stop (by omega) (by rw [unhide HG]; exact pVal_w hw)])
                        go_wp2_with fail
                        refine (W _ hcb).mono ?_
                        rintro e wz ⟨rfl, hwz⟩
                        replace hwz := hwz.symm
                        subst hwz
                        go_wp2_with fail
                        go_meet
                        case rel => exact ⟨by rw [unhide HE], rfl⟩
                  · have HE : Hid (run pVal (bl t) (nm) = k) := hide (by rw [← unhide HR, run_end (by omega)])
                    go_wp2_with fail
                    go_meet
                    case rel => exact ⟨by rw [unhide HE], rfl⟩
              obtain ⟨rfl, hwc⟩ := hcut
              replace hwc := hwc.symm
              subst hwc
              have ha := run_le pVal (bl t) (i := nm) (by omega)
              have ga := run_ge pVal (bl t) nm
              obtain ⟨a, HA⟩ : ∃ a, Hid (run pVal (bl t) nm = a) := ⟨_, hide rfl⟩
              rw [unhide HA] at ha ga HNx ⊢
              have HAt := hide (fun w => attrsAt_any t a w (by omega) (by omega))
              have hle := attrsI_le (bl t) _ a (Nat.le_refl _) (by omega)
              obtain ⟨Lx, tx, HLx⟩ : ∃ Lx tx, Hid (attrsI (bl t) a = (Lx, tx)) := ⟨_, _, hide rfl⟩
              rw [unhide HLx] at HAt hle HNx
              simp only at HAt hle HNx
              have HE : Hid (scnF (bl t) (tx + 1) = R) := hide (by rw [← scnF_next (by omega) (unhide HMn) (unhide HNx), unhide HC])
              clear HLx
              go_wp2_with fail
              refine (unhide HAt _).mono ?_
              rintro e w3 ⟨va, rfl, hOa, hb3⟩
              have HB3 := hide (bstep (unhide HB2) hb3)
              obtain ⟨aa, ca, hsa⟩ := owns_shape hOa
              subst hsa
              clear hb3 hOa
              go_wp2_with fail
              go_roundw
              case rel => exact ⟨tx + 1, by go_num, by omega, unhide HB3, HE⟩
              case measure => simp [intOf]; omega
          · as_aux_lemma =>
              have hz0 : nmAt (bl t) K = 0 := by omega
              rw [hz0]
              have HD0 := hide (fun h => nxtP_0 (l := bl t) (k := K) hb4 hm hn0 h)
              have HD1 := hide (fun h => nxtP_d (l := bl t) (k := K) hb4 hm hn0 h)
              have HMn := hide (no_meta hm)
              clear hb4 hm hn0 hz0
              go_upto_region 27 with fail
              go_cut [157] (fun b wx => b = .bool (isDecl (bl t) K) ∧ Below w.heap.size w wx)
              case first =>
                have HGE := hide (unhide GE K (by omega))
                have HGS := hide (unhide GS K (by omega))
                have HGQ := hide (unhide GQ K (by omega))
                have HDc : Hid (isDecl (bl t) K = (bgn (bl t) K bE || (bgn (bl t) K bS || bgn (bl t) K bQ))) := hide rfl
                generalize bgn (bl t) K bE = x1 at *
                generalize bgn (bl t) K bS = x2 at *
                generalize bgn (bl t) K bQ = x3 at *
                cases x1
                · cases x2
                  · go_wp2_with fail
                    refine (unhide HGE _).mono ?_
                    rintro e w5 ⟨rfl, hbx⟩
                    have HB5 := hide (bstep (unhide HB2) hbx)
                    clear hbx
                    go_wp2_with fail
                    refine (unhide HGS _).mono ?_
                    rintro e w6 ⟨rfl, hbx⟩
                    have HB6 := hide (bstep (unhide HB5) hbx)
                    clear hbx
                    go_wp2_with fail
                    refine (unhide HGQ _).mono ?_
                    rintro e w7 ⟨rfl, hbx⟩
                    have HB7 := hide (bstep (unhide HB6) hbx)
                    clear hbx
                    go_wp2_with fail
                    go_meet
                    case rel => exact ⟨by rw [unhide HDc]; rfl, unhide HB7⟩
                  · go_wp2_with fail
                    refine (unhide HGE _).mono ?_
                    rintro e w5 ⟨rfl, hbx⟩
                    have HB5 := hide (bstep (unhide HB2) hbx)
                    clear hbx
                    go_wp2_with fail
                    refine (unhide HGS _).mono ?_
                    rintro e w6 ⟨rfl, hbx⟩
                    have HB6 := hide (bstep (unhide HB5) hbx)
                    clear hbx
                    go_wp2_with fail
                    go_meet
                    case rel => exact ⟨by rw [unhide HDc]; rfl, unhide HB6⟩
                · go_wp2_with fail
                  refine (unhide HGE _).mono ?_
                  rintro e w5 ⟨rfl, hbx⟩
                  have HB5 := hide (bstep (unhide HB2) hbx)
                  clear hbx
                  go_wp2_with fail
                  go_meet
                  case rel => exact ⟨by rw [unhide HDc]; rfl, unhide HB5⟩
              obtain ⟨rfl, hBd⟩ := hcut
              have HBd := hide hBd
              clear hBd
              cases hd : isDecl (bl t) K
              · have HE : Hid (scnF (bl t) (K + 1) = R) := hide (by rw [← scnF_next (by omega) (unhide HMn) (unhide HD0 hd), unhide HC])
                clear hd
                go_wp2_with fail
                go_roundw
                case rel => exact ⟨K + 1, by go_num, by omega, unhide HBd, HE⟩
                case measure => simp [intOf]; omega
              · have HNx := hide (unhide HD1 hd)
                clear hd
                generalize hwd : wc = wd at *
                clear hwd
                go_upto_block 6 with fail
                go_cut [3] (fun i wx => i = .int .i64 (run (pNot 62) (bl t) (K) : Int) ∧ wx = wd)
                case first =>
                  go_wp2_with fail
                  go_loop [3] (fun i => ∃ k : Nat, i = .int .i64 k ∧ k ≤ t.size ∧ Hid (run (pNot 62) (bl t) k = run (pNot 62) (bl t) (K))) (fun i => t.size - (intOf i).toNat)
                  case atStart => exact ⟨K, by go_num, by omega, hide rfl⟩
                  case round =>
                    obtain ⟨k, rfl, hk, HR⟩ := hrel
                    by_cases hlt : k < t.size
                    · have hcb := u8_lt t hlt
                      have HG := hide (bl_at hlt)
                      obtain ⟨c, hcc⟩ : ∃ c : Int, (t[k].toNat : Int) = c := ⟨_, rfl⟩
                      rw [hcc] at hcb HG
                      by_cases h62 : c = 62
                      · subst h62
                        have HE : Hid (run (pNot 62) (bl t) (K) = k) := hide (by rw [← unhide HR, run_stop (by omega) (by rw [unhide HG]; exact (by decide))])
                        go_wp2_with fail
                        go_meet
                        case rel => exact ⟨by rw [unhide HE], rfl⟩
                      · have h62e := ne_eq h62
                        have h62n := ne_ne h62
                        have HR' : Hid (run (pNot 62) (bl t) (k + 1) = run (pNot 62) (bl t) (K)) := hide (by rw [← run_step (by omega) (by rw [unhide HG]; exact pNot_n h62e), unhide HR])
                        go_wp2_with fail
                        go_round
                        case rel => exact ⟨k + 1, by go_num, by omega, HR'⟩
                        case measure => simp [intOf]; omega
                    · have HE : Hid (run (pNot 62) (bl t) (K) = k) := hide (by rw [← unhide HR, run_end (by omega)])
                      go_wp2_with fail
                      go_meet
                      case rel => exact ⟨by rw [unhide HE], rfl⟩
                obtain ⟨rfl, hwc⟩ := hcut
                replace hwc := hwc.symm
                subst hwc
                have ha := run_le (pNot 62) (bl t) (i := K) (by omega)
                have ga := run_ge (pNot 62) (bl t) K
                obtain ⟨a, HA⟩ : ∃ a, Hid (run (pNot 62) (bl t) K = a) := ⟨_, hide rfl⟩
                rw [unhide HA] at ha ga HNx ⊢
                have HE : Hid (scnF (bl t) (a + 1) = R) := hide (by rw [← scnF_next (by omega) (unhide HMn) (unhide HNx), unhide HC])
                go_wp2_with fail
                go_roundw
                case rel => exact ⟨a + 1, by go_num, by omega, unhide HBd, HE⟩
                case measure => simp [intOf]; omega
        · as_aux_lemma =>
            have h5 : K + 5 < t.size := by have := hm; unfold isMeta at this; simp at this; omega
            have HAt := hide (fun w => attrsAt_any t (K + 5) w (by omega) (by omega))
            have hle := attrsI_le (bl t) _ (K + 5) (Nat.le_refl _) (by omega)
            have HF := hide (txts_few (l := bl t) (k := K + 5) (n := 3000) (by omega))
            have HMv : Hid (metaAt (bl t) K = metaI (txts (attrsI (bl t) (K + 5)).1)) := hide rfl
            have HNx := hide (nxtP_m hb4 hm)
            have HSm := hide (fun h => scnF_meta (l := bl t) (k := K) (by omega) hb4 hm h)
            have HSn := hide (fun (h : metaAt (bl t) K = 0) => scnF_next (l := bl t) (k := K) (by omega) (fun q => q.2.2 h) (nxtP_m hb4 hm))
            obtain ⟨Lx, tx, HLx⟩ : ∃ Lx tx, Hid (attrsI (bl t) (K + 5) = (Lx, tx)) := ⟨_, _, hide rfl⟩
            rw [unhide HLx] at HAt hle HF HMv HNx HSn
            simp only at HAt hle
            clear hb4 hm HLx
            go_wp2_with fail
            refine (unhide HAt _).mono ?_
            rintro e w3 ⟨va, rfl, hOa, hb3⟩
            have HB3 := hide (bstep (unhide HB2) hb3)
            have HAs := hide (Ats.of_owns hOa)
            obtain ⟨aa, ca, hsa⟩ := owns_shape hOa
            subst hsa
            clear hb3 hOa
            have HMe := hide (metaOf_any w3 (unhide HAs) (unhide HF))
            rw [← unhide HMv] at HMe
            generalize metaAt (bl t) K = n at *
            go_wp2_with fail
            refine (unhide HMe).mono ?_
            rintro e w4 ⟨rfl, hb4⟩
            have HB4 := hide (bstep (unhide HB3) hb4)
            clear hb4
            by_cases hn0 : n = 0
            · have HE : Hid (scnF (bl t) (tx + 1) = R) := hide (by rw [← unhide HSn hn0, unhide HC])
              subst hn0
              go_wp2_with fail
              go_roundw
              case rel => exact ⟨tx + 1, by go_num, by omega, unhide HB4, HE⟩
              case measure => simp [intOf]; omega
            · have HE : Hid (R = n) := hide (by rw [← unhide HC, unhide HSm hn0])
              have hn0n := ne_ne hn0
              go_wp2_with fail
              go_ret
              exact ⟨by rw [unhide HE]; rfl, unhide HB4⟩
      · as_aux_lemma =>
        have HG := hide (unhide G4 K (by omega))
        rw [hb4] at HG
        have hb := bgn_le hb4
        have hk4 : K + 4 ≤ t.size := by rw [hl] at hb; exact hb
        have HN := hide (nxtP_4 hb4)
        have HM : Hid (¬ (bgn (bl t) K b4 = false ∧ isMeta (bl t) K = true ∧ metaAt (bl t) K ≠ 0)) := hide (fun h => by rw [hb4] at h; cases h.1)
        clear hb4 hb
        go_wp2_with fail
        refine (unhide HG _).mono ?_
        rintro e w1 ⟨rfl, hb1⟩
        have HB1 := hide (bstep (unhide HB) hb1)
        clear hb1
        go_wp2_with fail
        go_loopw [4] (fun i wr => ∃ j : Nat, i = .int .i64 j ∧ K + 2 ≤ j ∧ j ≤ t.size ∧ Below w.heap.size w wr ∧ Hid (fbI (bl t) j = fbI (bl t) (K + 2))) (fun i _ => t.size - (intOf i).toNat)
        case atStart => exact ⟨K + 2, by go_num, by omega, by omega, unhide HB1, hide rfl⟩
        case round =>
          obtain ⟨j, rfl, hKj, hj, hBj, HF⟩ := hrel
          have HBj := hide hBj
          clear hBj
          by_cases hjl : j < t.size
          · have HG3 := hide (unhide G3 j hj)
            cases hb3 : bgn (bl t) j b3
            · rw [hb3] at HG3
              have HF' : Hid (fbI (bl t) (j + 1) = fbI (bl t) (K + 2)) := hide (by rw [← fbI_miss (by omega) hb3, unhide HF])
              clear hb3
              go_wp2_with fail
              refine (unhide HG3 _).mono ?_
              rintro e w2 ⟨rfl, hb2⟩
              have HB2 := hide (bstep (unhide HBj) hb2)
              clear hb2
              go_wp2_with fail
              go_roundw
              case rel => exact ⟨j + 1, by go_num, by omega, by omega, unhide HB2, HF'⟩
              case measure => simp [intOf]; omega
            · rw [hb3] at HG3
              have HE : Hid (scnF (bl t) (j + 3) = R) := hide (by rw [← scnF_next (by omega) (unhide HM) (by rw [unhide HN, ← unhide HF, fbI_hit (by omega) hb3]), unhide HC])
              clear hb3
              go_wp2_with fail
              refine (unhide HG3 _).mono ?_
              rintro e w2 ⟨rfl, hb2⟩
              have HB2 := hide (bstep (unhide HBj) hb2)
              clear hb2
              go_wp2_with fail
              go_roundw
              case rel => exact ⟨j + 3, by go_num, by omega, unhide HB2, HE⟩
              case measure => simp [intOf]; omega
          · have HE : Hid (scnF (bl t) (j + 3) = R) := hide (by rw [← scnF_next (by omega) (unhide HM) (by rw [unhide HN, ← unhide HF, fbI_end (by omega)]), unhide HC])
            go_wp2_with fail
            go_roundw
            case rel => exact ⟨j + 3, by go_num, by omega, unhide HBj, HE⟩
            case measure => simp [intOf]; omega
    · have HZ : Hid (R = 0) := hide (by rw [← unhide HC, scnF_end (by omega)])
      go_wp2_with fail
      go_ret
      exact ⟨by rw [unhide HZ]; rfl, unhide HB⟩
end Go.Proofs.YtaiinjfnkmidbaaGreatDoor

namespace Go.Proofs.YtaiinjfnkmidbaaGreatDoor
open Go.RowKit

theorem bgn_drop (l : List Int) (k j : Nat) (m : List Int) (hk : k ≤ l.length) : bgn (l.drop k) j m = bgn l (k + j) m := by
  unfold bgn cut
  rw [List.length_drop, List.drop_drop, Bool.eq_iff_iff, decide_eq_true_eq, decide_eq_true_eq, show j + m.length - j = k + j + m.length - (k + j) from by omega]
  constructor
  · rintro ⟨h1, h2⟩
    by_cases h : m.length = 0
    · have : m = [] := List.eq_nil_of_length_eq_zero h
      subst this
      simp at h1 ⊢
      by_cases hz : k + j ≤ l.length
      · exact ⟨hz, by simpa using h2⟩
      · omega
    · exact ⟨by omega, h2⟩
  · rintro ⟨h1, h2⟩; exact ⟨by omega, h2⟩
theorem getD_drop (l : List Int) (k j : Nat) : (l.drop k).getD j 0 = l.getD (k + j) 0 := by
  rw [List.getD_eq_getElem?_getD, List.getElem?_drop, List.getD_eq_getElem?_getD]
theorem stn_drop (l : List Int) (k j : Nat) (m : List Int) : stn (l.drop k) j m = stn l (k + j) m := by
  unfold stn
  rw [getD_drop, List.length_drop]
  congr 1
  rw [Bool.eq_iff_iff, decide_eq_true_eq, decide_eq_true_eq]; omega
theorem stn_ahead (l : List Int) (k : Nat) : stn l k [9, 10, 12, 13, 32, 47] = (decide (k < l.length) && pAhead (l.getD k 0)) := by
  unfold stn pAhead wh
  congr 1
  rw [Bool.eq_iff_iff]
  simp
  omega
/-- Does a tag begin at a place? -/
def isTg (l : List Int) (k : Nat) : Bool :=
  if stn l k [60] = false then false else if stn l (k + 1) [47] = true then decide (k + 2 < l.length) && isLet (l.getD (k + 2) 0) else decide (k + 1 < l.length) && isLet (l.getD (k + 1) 0)
theorem isTg_nm {l : List Int} {k : Nat} (hk : k < l.length) : isTg l k = decide (0 < nmAt l k) := by
  unfold isTg nmAt
  by_cases h0 : l.getD k 0 = 60
  · rw [if_neg (by rw [(stn_one l k 60).2 ⟨hk, h0⟩]; simp), if_pos h0]
    by_cases h1 : k + 1 < l.length ∧ l.getD (k + 1) 0 = 47
    · rw [if_pos ((stn_one l (k + 1) 47).2 h1)]
      by_cases h2 : k + 2 < l.length ∧ isLet (l.getD (k + 2) 0) = true
      · rw [if_pos ⟨h2.1, h1.2, h2.2⟩, decide_eq_true h2.1, h2.2]; simp
      · have hn : ¬ (k + 2 < l.length ∧ l.getD (k + 1) 0 = 47 ∧ isLet (l.getD (k + 2) 0) = true) := fun h => h2 ⟨h.1, h.2.2⟩
        have hm : ¬ (k + 1 < l.length ∧ isLet (l.getD (k + 1) 0) = true) := fun h => by rw [h1.2] at h; exact absurd h.2 (by decide)
        rw [if_neg hn, if_neg hm, Bool.eq_iff_iff]
        simp only [Bool.and_eq_true, decide_eq_true_eq]
        exact ⟨fun h => absurd h h2, fun h => absurd h (by omega)⟩
    · have hs : ¬ stn l (k + 1) [47] = true := fun e => h1 ((stn_one l (k + 1) 47).1 e)
      have hn : ¬ (k + 2 < l.length ∧ l.getD (k + 1) 0 = 47 ∧ isLet (l.getD (k + 2) 0) = true) := fun h => h1 ⟨by omega, h.2.1⟩
      rw [if_neg hs, if_neg hn]
      by_cases h2 : k + 1 < l.length ∧ isLet (l.getD (k + 1) 0) = true
      · rw [if_pos h2, decide_eq_true h2.1, h2.2]; simp
      · rw [if_neg h2, Bool.eq_iff_iff]
        simp only [Bool.and_eq_true, decide_eq_true_eq]
        exact ⟨fun h => absurd h h2, fun h => absurd h (by omega)⟩
  · have hs : stn l k [60] = false := by
      cases hq : stn l k [60]
      · rfl
      · exact absurd ((stn_one l k 60).1 hq).2 h0
    rw [if_pos hs, if_neg h0]; rfl
theorem run_nm {l : List Int} {k : Nat} (hk : k < l.length) (h : 0 < nmAt l k) : run pVal l k = run pVal l (nmAt l k) := by
  have h' := h
  unfold nmAt at h' ⊢
  split at h'
  · rename_i c0
    rw [if_pos c0]
    have e1 : run pVal l k = run pVal l (k + 1) := run_step hk (by rw [c0]; decide)
    split at h'
    · rename_i c
      rw [if_pos c, e1, run_step (by omega) (by rw [c.2.1]; decide)]
    · rename_i c
      rw [if_neg c]
      split at h'
      · rename_i c'
        rw [if_pos c', e1]
      · omega
  · omega
theorem isMeta_stn (l : List Int) (k : Nat) : isMeta l k = (stn l (k + 5) [9, 10, 12, 13, 32, 47] && bgn l k b5) := by
  unfold isMeta; rw [stn_ahead, Bool.and_comm]
theorem isMeta_drop {l : List Int} {k : Nat} (hk : k ≤ l.length) : isMeta (l.drop k) 0 = isMeta l k := by
  rw [isMeta_stn, isMeta_stn, stn_drop, bgn_drop l k 0 b5 hk]; rfl
theorem isTg_drop {l : List Int} {k : Nat} : isTg (l.drop k) 0 = isTg l k := by
  unfold isTg
  rw [stn_drop, stn_drop, getD_drop, getD_drop, List.length_drop]
  have e1 : decide (0 + 2 < l.length - k) = decide (k + 2 < l.length) := by rw [Bool.eq_iff_iff, decide_eq_true_eq, decide_eq_true_eq]; omega
  have e2 : decide (0 + 1 < l.length - k) = decide (k + 1 < l.length) := by rw [Bool.eq_iff_iff, decide_eq_true_eq, decide_eq_true_eq]; omega
  rw [e1, e2]
  rfl
theorem bgn_two {l : List Int} {k : Nat} {x y : Int} (hx : x < 97 ∧ (x < 65 ∨ 90 < x)) (hy : y < 97 ∧ (y < 65 ∨ 90 < y)) : bgn l k [x, y] = (stn l k [x] && stn l (k + 1) [y]) := by
  rw [← bg0_low (by simp) (fun z hz => by simp at hz; rcases hz with rfl | rfl <;> assumption), bg0_cut (by simp), Bool.eq_iff_iff]
  simp only [Bool.and_eq_true, decide_eq_true_eq, stn_one, List.length_cons, List.length_nil]
  constructor
  · rintro ⟨h1, h2⟩
    rw [show k + (0 + 1 + 1) = k + 1 + 1 from by omega, cut_snoc (by omega) (by omega), cut_snoc (by omega) (by omega), cut_self] at h2
    simp at h2
    exact ⟨⟨by omega, by simpa using h2.1⟩, ⟨by omega, by simpa using h2.2⟩⟩
  · rintro ⟨⟨h1, h2⟩, h3, h4⟩
    refine ⟨by omega, ?_⟩
    rw [show k + (0 + 1 + 1) = k + 1 + 1 from by omega, cut_snoc (by omega) (by omega), cut_snoc (by omega) (by omega), cut_self, h2, h4]
    rfl
theorem isDecl_stn (l : List Int) (k : Nat) : isDecl l k = (stn l k [60] && stn l (k + 1) [33, 47, 63]) := by
  unfold isDecl bE bS bQ
  rw [bgn_two (by decide) (by decide), bgn_two (by decide) (by decide), bgn_two (by decide) (by decide)]
  have e : stn l (k + 1) [33, 47, 63] = (stn l (k + 1) [33] || (stn l (k + 1) [47] || stn l (k + 1) [63])) := by
    unfold stn
    cases decide (k + 1 < l.length) <;> simp
  rw [e]
  cases stn l k [60] <;> simp
theorem fbI_skip {l : List Int} {k : Nat} : ∀ i : Nat, k + i ≤ l.length → (∀ j, j < i → bgn l (k + j) b3 = false) → fbI l k = fbI l (k + i)
  | 0, _, _ => rfl
  | i + 1, h, hj => by
    rw [fbI_skip i (by omega) (fun j h' => hj j (by omega)), fbI_miss (by omega) (hj i (by omega))]
    rfl
theorem b3N : b3 ≠ [] := by decide
theorem b3low : ∀ y ∈ b3, y < 97 ∧ (y < 65 ∨ 90 < y) := by decide
theorem b4N : b4 ≠ [] := by decide
theorem b4low : ∀ y ∈ b4, y < 97 ∧ (y < 65 ∨ 90 < y) := by decide
theorem txts_both {l : List Int} {k n : Nat} (h : l.length ≤ n) : ∀ x ∈ txts (attrsI l k).1, x.1.size ≤ n ∧ x.2.size ≤ n := by
  intro x hx
  unfold txts at hx
  rw [List.mem_map] at hx
  obtain ⟨y, hy, rfl⟩ := hx
  have := attrsN_few l _ k y hy
  rw [strOfNums_size, strOfNums_size]; omega
/-- Two places from which a look goes on alike. -/
def Alike (l : List Int) (a b : Nat) : Prop := a = b ∨ (l.length ≤ a ∧ l.length ≤ b)
theorem scnF_alike {l : List Int} {a b : Nat} (h : Alike l a b) : scnF l a = scnF l b := by
  rcases h with rfl | ⟨h1, h2⟩
  · rfl
  · rw [scnF_end h1, scnF_end h2]
end Go.Proofs.YtaiinjfnkmidbaaGreatDoor

namespace Go.Proofs.YtaiinjfnkmidbaaGreatDoor
open Go.RowKit
set_option linter.unusedVariables false

set_option maxHeartbeats 400000 in
set_option maxRecDepth 100000 in
theorem sletter_any (c : Int) (w : World) (h : 0 ≤ c ∧ c < 256) : Calls Tryz.prog 219 #[.int .u8 c] w fun e w' => e = .returned (.bool (isLet c)) ∧ w' = w := by
  rcases (show c < 65 ∨ (65 ≤ c ∧ c ≤ 90) ∨ (90 < c ∧ c < 97) ∨ (97 ≤ c ∧ c ≤ 122) ∨ 122 < c from by omega) with h1 | h1 | h1 | h1 | h1
  · have HE : Hid (isLet c = false) := hide (by unfold isLet; rw [decide_eq_false (show ¬ 97 ≤ c from by omega), decide_eq_false (show ¬ 65 ≤ c from by omega)]; rfl)
    go_enter Tryz.func219, Tryz.ntmps219
    go_wp2_with fail
    go_ret
    exact ⟨ret_bool (by rw [unhide HE] <;> simp <;> omega), rfl⟩
  · obtain ⟨g1, g2⟩ := h1
    have HE : Hid (isLet c = true) := hide (by unfold isLet; rw [decide_eq_true (show 65 ≤ c from by omega), decide_eq_true (show c ≤ 90 from by omega)]; simp)
    go_enter Tryz.func219, Tryz.ntmps219
    go_wp2_with fail
    go_ret
    exact ⟨ret_bool (by rw [unhide HE] <;> simp <;> omega), rfl⟩
  · obtain ⟨g1, g2⟩ := h1
    have HE : Hid (isLet c = false) := hide (by unfold isLet; rw [decide_eq_false (show ¬ 97 ≤ c from by omega), decide_eq_false (show ¬ c ≤ 90 from by omega)]; simp)
    go_enter Tryz.func219, Tryz.ntmps219
    go_wp2_with fail
    go_ret
    exact ⟨ret_bool (by rw [unhide HE] <;> simp <;> omega), rfl⟩
  · obtain ⟨g1, g2⟩ := h1
    have HE : Hid (isLet c = true) := hide (by unfold isLet; rw [decide_eq_true (show 97 ≤ c from by omega), decide_eq_true (show c ≤ 122 from by omega)]; rfl)
    go_enter Tryz.func219, Tryz.ntmps219
    go_wp2_with fail
    go_ret
    exact ⟨ret_bool (by rw [unhide HE] <;> simp <;> omega), rfl⟩
  · have HE : Hid (isLet c = false) := hide (by unfold isLet; rw [decide_eq_false (show ¬ c ≤ 122 from by omega), decide_eq_false (show ¬ c ≤ 90 from by omega)]; simp)
    go_enter Tryz.func219, Tryz.ntmps219
    go_wp2_with fail
    go_ret
    exact ⟨ret_bool (by rw [unhide HE] <;> simp <;> omega), rfl⟩
set_option maxHeartbeats 800000 in
set_option maxRecDepth 100000 in
theorem beginsTag_any (s : ByteArray) (w : World) (hs : s.size ≤ 3000) : Calls Tryz.prog 188 #[.string s] w fun e w' => e = .returned (.bool (isTg (bl s) 0)) ∧ w' = w := by
  have hl := hide (bl_len s)
  have H0 := hide (fun w => stands_any s 0 ⟨#[60]⟩ w (by omega) hs)
  rw [show bl ⟨#[60]⟩ = [60] from by decide, show ((0 : Nat) : Int) = 0 from rfl] at H0
  have H1 := hide (fun w => stands_any s 1 ⟨#[47]⟩ w (by omega) hs)
  rw [show bl ⟨#[47]⟩ = [47] from by decide, show ((1 : Nat) : Int) = 1 from rfl] at H1
  have HT : Hid (isTg (bl s) 0 = if stn (bl s) 0 [60] = false then false else if stn (bl s) 1 [47] = true then decide (2 < s.size) && isLet ((bl s).getD 2 0) else decide (1 < s.size) && isLet ((bl s).getD 1 0)) := hide (by unfold isTg; rw [unhide hl])
  generalize stn (bl s) 0 [60] = q0 at *
  generalize stn (bl s) 1 [47] = q1 at *
  go_enter Tryz.func188, Tryz.ntmps188
  go_wp2_with fail
  refine (unhide H0 _).mono ?_
  rintro e w1 ⟨rfl, hw⟩
  replace hw := hw.symm
  subst hw
  cases q0
  · have HT' := hide ((unhide HT).trans (if_pos rfl))
    clear HT
    go_wp2_with fail
    go_ret
    exact ⟨ret_bool (unhide HT').symm, rfl⟩
  · have HT' := hide ((unhide HT).trans (if_neg (by simp)))
    clear HT
    go_wp2_with fail
    refine (unhide H1 _).mono ?_
    rintro e w1 ⟨rfl, hw⟩
    replace hw := hw.symm
    subst hw
    cases q1
    · have HT2 := hide ((unhide HT').trans (if_neg (by simp)))
      clear HT'
      by_cases h : 1 < s.size
      · have hcb := u8_lt s h
        have HG := hide (bl_at h)
        have HL := hide (fun w => sletter_any (s[1].toNat : Int) w hcb)
        have HT3 : Hid (isTg (bl s) 0 = isLet (s[1].toNat : Int)) := hide (by rw [unhide HT2, decide_eq_true h, unhide HG]; rfl)
        generalize isLet (s[1].toNat : Int) = z at *
        clear HT2
        go_wp2_with fail
        refine (unhide HL _).mono ?_
        rintro e w1 ⟨rfl, hw⟩
        replace hw := hw.symm
        subst hw
        go_wp2_with fail
        go_ret
        exact ⟨ret_bool (unhide HT3).symm, rfl⟩
      · have HT3 : Hid (isTg (bl s) 0 = false) := hide (by rw [unhide HT2, decide_eq_false h]; rfl)
        clear HT2
        go_wp2_with fail
        go_ret
        exact ⟨ret_bool (unhide HT3).symm, rfl⟩
    · have HT2 := hide ((unhide HT').trans (if_pos rfl))
      clear HT'
      by_cases h : 2 < s.size
      · have hcb := u8_lt s h
        have HG := hide (bl_at h)
        have HL := hide (fun w => sletter_any (s[2].toNat : Int) w hcb)
        have HT3 : Hid (isTg (bl s) 0 = isLet (s[2].toNat : Int)) := hide (by rw [unhide HT2, decide_eq_true h, unhide HG]; rfl)
        generalize isLet (s[2].toNat : Int) = z at *
        clear HT2
        go_wp2_with fail
        refine (unhide HL _).mono ?_
        rintro e w1 ⟨rfl, hw⟩
        replace hw := hw.symm
        subst hw
        go_wp2_with fail
        go_ret
        exact ⟨ret_bool (unhide HT3).symm, rfl⟩
      · have HT3 : Hid (isTg (bl s) 0 = false) := hide (by rw [unhide HT2, decide_eq_false h]; rfl)
        clear HT2
        go_wp2_with fail
        go_ret
        exact ⟨ret_bool (unhide HT3).symm, rfl⟩
set_option maxHeartbeats 800000 in
set_option maxRecDepth 100000 in
theorem beginsMeta_any (s : ByteArray) (w : World) (hs : s.size ≤ 3000) : Calls Tryz.prog 187 #[.string s] w fun e w' => e = .returned (.bool (isMeta (bl s) 0)) ∧ Below w.heap.size w w' := by
  have hl := hide (bl_len s)
  have H0 := hide (fun w => stands_any s 5 ⟨#[9, 10, 12, 13, 32, 47]⟩ w (by omega) hs)
  rw [show bl ⟨#[9, 10, 12, 13, 32, 47]⟩ = [9, 10, 12, 13, 32, 47] from by decide, show ((5 : Nat) : Int) = 5 from rfl] at H0
  have HM : Hid (isMeta (bl s) 0 = (stn (bl s) 5 [9, 10, 12, 13, 32, 47] && bgn (bl s) 0 b5)) := hide (isMeta_stn (bl s) 0)
  have HL : Hid (stn (bl s) 5 [9, 10, 12, 13, 32, 47] = true → 5 < s.size) := hide (fun h => by unfold stn at h; rw [Bool.and_eq_true, decide_eq_true_eq, unhide hl] at h; exact h.1)
  generalize stn (bl s) 5 [9, 10, 12, 13, 32, 47] = q0 at *
  go_enter Tryz.func187, Tryz.ntmps187
  go_wp2_with fail
  refine (unhide H0 _).mono ?_
  rintro e w1 ⟨rfl, hw⟩
  replace hw := hw.symm
  subst hw
  cases q0
  · clear HL
    go_wp2_with fail
    go_ret
    exact ⟨ret_bool (by rw [unhide HM]; rfl), Below.refl _ _⟩
  · have h5 := unhide HL rfl
    have HF := hide (fun w => Fold_ok (s.extract 0 5) w (by simp; omega))
    rw [show bl (s.extract 0 5) = cut (bl s) 0 (0 + 5) from by rw [bl_cut]] at HF
    have HE : Hid (isMeta (bl s) 0 = decide (strOfNums (fdI (cut (bl s) 0 (0 + 5))) = ⟨#[60, 109, 101, 116, 97]⟩)) := hide (by
      have h := bgn_at (s := s) (m := ⟨#[60, 109, 101, 116, 97]⟩) (k := 0) (by show 0 + 5 ≤ s.size; omega)
      rw [show bl ⟨#[60, 109, 101, 116, 97]⟩ = b5 from by decide] at h
      rw [unhide HM, ← h]; rfl)
    clear HM HL H0
    generalize strOfNums (fdI (cut (bl s) 0 (0 + 5))) = f at *
    have e4 := hide (eq_lit f ⟨#[60, 109, 101, 116, 97]⟩ [60, 109, 101, 116, 97] (by rw [Lib.toList_data]))
    go_wp2_with fail
    refine (unhide HF _).mono ?_
    rintro e w1 ⟨rfl, hb⟩
    have HB := hide hb
    clear hb
    go_wp2_with fail
    go_ret
    exact ⟨ret_bool (by rw [unhide HE, ← unhide e4]), unhide HB⟩
set_option maxHeartbeats 800000 in
set_option maxRecDepth 100000 in
theorem behind_any (s : ByteArray) (k : Nat) (w : World) (hk : k + 4 ≤ s.size) (hs : s.size ≤ 3000) (hM : Mx w) : Calls Tryz.prog 186 #[.string s, .int .i64 (k : Int)] w fun e w' => (∃ t : Nat, e = .returned (.int .i64 (t : Int)) ∧ Alike (bl s) t (fbI (bl s) (k + 2) + 3) ∧ t ≤ 4000) ∧ w' = w := by
  have hl := hide (bl_len s)
  have HI := hide (bIndex_any (s.extract (k + 2) s.size) ⟨#[45, 45, 62]⟩ w (by simp; omega) hM)
  have HX := idx_bl s ⟨#[45, 45, 62]⟩ (k + 2) (by omega)
  rw [show bl ⟨#[45, 45, 62]⟩ = b3 from by decide] at HX
  simp only [bg0_low b3N b3low] at HX
  rcases HX with ⟨e1, e2⟩ | ⟨i, e1, e2, e3, e4⟩
  · rw [e1] at HI
    have HA : Hid (Alike (bl s) s.size (fbI (bl s) (k + 2) + 3)) := hide (.inr ⟨by rw [unhide hl]; exact Nat.le_refl _, by
      have := fbI_skip (l := bl s) (k := k + 2) (s.size - (k + 2)) (by rw [unhide hl]; omega) (fun j hj => e2 _ (by omega) (by omega))
      rw [this, fbI_end (by rw [unhide hl]; omega), unhide hl]; omega⟩)
    clear e1 e2
    go_enter Tryz.func186, Tryz.ntmps186
    go_wp2_with fail
    refine (unhide HI).mono ?_
    rintro e w1 ⟨rfl, hw⟩
    replace hw := hw.symm
    subst hw
    go_wp2_with fail
    go_ret
    exact ⟨⟨s.size, rfl, unhide HA, by omega⟩, rfl⟩
  · rw [e1] at HI
    have h3 : k + 2 + i + 3 ≤ s.size := by have := bgn_le e3; rw [unhide hl] at this; exact this
    have HA : Hid (Alike (bl s) (k + 2 + i + 3) (fbI (bl s) (k + 2) + 3)) := hide (.inl (by
      rw [fbI_skip (l := bl s) (k := k + 2) i (by rw [unhide hl]; omega) e4, fbI_hit (by rw [unhide hl]; omega) e3]))
    clear e1 e3 e4
    go_enter Tryz.func186, Tryz.ntmps186
    go_wp2_with fail
    refine (unhide HI).mono ?_
    rintro e w1 ⟨rfl, hw⟩
    replace hw := hw.symm
    subst hw
    go_wp2_with fail
    go_ret
    exact ⟨⟨k + 2 + i + 3, ret_int (by omega), unhide HA, by omega⟩, rfl⟩
end Go.Proofs.YtaiinjfnkmidbaaGreatDoor

namespace Go.Proofs.YtaiinjfnkmidbaaGreatDoor
open Go.RowKit
set_option linter.unusedVariables false

set_option maxHeartbeats 400000 in
set_option maxRecDepth 100000 in
theorem lStep1 (c : Int) (w : World) (h : 0 ≤ c ∧ c < 256) : Calls Tryz.prog 189 #[.int .u8 c] w fun e w' => e = .returned (.bool (pVal c)) ∧ w' = w := by
  by_cases h62 : c = 62
  · subst h62
    go_enter Tryz.func189, Tryz.ntmps189
    go_wp2_with fail
    go_ret
    exact ⟨ret_bool (by decide), rfl⟩
  · have h62e := ne_eq h62
    have h62n := ne_ne h62
    have W := hide (fun w => white_any c w h)
    have HP : Hid (pVal c = !wh c) := hide (by unfold pVal; rw [h62e]; simp)
    obtain ⟨q, HQ⟩ : ∃ q, Hid (wh c = q) := ⟨_, hide rfl⟩
    rw [unhide HQ] at W HP
    go_enter Tryz.func189, Tryz.ntmps189
    go_wp2_with fail
    refine (unhide W _).mono ?_
    rintro e w1 ⟨rfl, hw⟩
    replace hw := hw.symm
    subst hw
    go_wp2_with fail
    go_ret
    exact ⟨ret_bool (by rw [unhide HP]), rfl⟩
set_option maxHeartbeats 400000 in
set_option maxRecDepth 100000 in
theorem lStep2 (c : Int) (w : World) (h : 0 ≤ c ∧ c < 256) : Calls Tryz.prog 191 #[.int .u8 c] w fun e w' => e = .returned (.bool (pNot 62 c)) ∧ w' = w := by
  go_enter Tryz.func191, Tryz.ntmps191
  go_wp2_with fail
  go_ret
  exact ⟨ret_bool (by unfold pNot; rfl), rfl⟩
theorem wStep1 (s : ByteArray) (k : Nat) (w : World) (hk : k ≤ s.size) (hs : s.size ≤ 3000) :
    Calls Tryz.prog 163 #[.string s, .int .i64 (k : Int), .func (Fn.func 189) #[] #[]] w fun e w' => e = .returned (.int .i64 (run pVal (bl s) k : Int)) ∧ w' = w :=
  while0 189 pVal s k w hk hs (enters_of Tryz.func189 (by kernel_rfl) rfl) (fun c w h => lStep1 c w h)
theorem wStep2 (s : ByteArray) (k : Nat) (w : World) (hk : k ≤ s.size) (hs : s.size ≤ 3000) :
    Calls Tryz.prog 163 #[.string s, .int .i64 (k : Int), .func (Fn.func 191) #[] #[]] w fun e w' => e = .returned (.int .i64 (run (pNot 62) (bl s) k : Int)) ∧ w' = w :=
  while0 191 (pNot 62) s k w hk hs (enters_of Tryz.func191 (by kernel_rfl) rfl) (fun c w h => lStep2 c w h)
/-- The encoding that the thing at a place tells. -/
def encI (l : List Int) (k : Nat) : Int := if bgn l k b4 = false ∧ isMeta l k = true then metaAt l k else 0
theorem encI_yes {l : List Int} {k : Nat} (hk : k < l.length) (h : encI l k ≠ 0) : scnF l k = encI l k := by
  unfold encI at *
  split at h
  · rename_i c
    rw [if_pos c, scnF_meta hk c.1 c.2 h]
  · exact absurd rfl h
theorem encI_no {l : List Int} {k : Nat} (hk : k < l.length) (h : encI l k = 0) : scnF l k = scnF l (nxtP l k) := by
  refine scnF_next hk ?_ rfl
  rintro ⟨h1, h2, h3⟩
  unfold encI at h
  rw [if_pos ⟨h1, h2⟩] at h
  exact h3 h
theorem alike_gt {l : List Int} {k t : Nat} (hk : k < l.length) (h : Alike l t (nxtP l k)) : k < t := by
  rcases h with rfl | ⟨h1, _⟩
  · exact nxtP_gt hk
  · omega
set_option maxHeartbeats 3200000 in
set_option maxRecDepth 100000 in
theorem step_any (s : ByteArray) (k : Nat) (w : World) (hk : k < s.size) (hs : s.size ≤ 3000) (hM : Mx w) :
    Calls Tryz.prog 135 #[.string s, .int .i64 (k : Int)] w fun e w' => ∃ t : Nat, e = .returned (.tuple #[.int .i64 (encI (bl s) k), .int .i64 (t : Int)]) ∧ Alike (bl s) t (nxtP (bl s) k) ∧ t ≤ 4000 ∧ Below w.heap.size w w' := by
  have hl := hide (bl_len s)
  have hzr : (s.extract k s.size).size ≤ 3000 := by simp; omega
  have hbr := bl_extract s k
  have HP := hide (fun w => hasPre_any (s.extract k s.size) ⟨#[60, 33, 45, 45]⟩ w)
  rw [show bl ⟨#[60, 33, 45, 45]⟩ = b4 from by decide, hbr, bg0_drop, bg0_low b4N b4low, Nat.add_zero] at HP
  have HBM := hide (fun w => beginsMeta_any (s.extract k s.size) w hzr)
  rw [hbr, isMeta_drop (by rw [unhide hl]; omega)] at HBM
  have HBT := hide (fun w => beginsTag_any (s.extract k s.size) w hzr)
  rw [hbr, isTg_drop, isTg_nm (by rw [unhide hl]; exact hk)] at HBT
  have HS0 := hide (fun w => stands_any (s.extract k s.size) 0 ⟨#[60]⟩ w (by omega) hzr)
  rw [show bl ⟨#[60]⟩ = [60] from by decide, hbr, stn_drop, Nat.add_zero, show ((0 : Nat) : Int) = 0 from rfl] at HS0
  have HS1 := hide (fun w => stands_any (s.extract k s.size) 1 ⟨#[33, 47, 63]⟩ w (by omega) hzr)
  rw [show bl ⟨#[33, 47, 63]⟩ = [33, 47, 63] from by decide, hbr, stn_drop, show ((1 : Nat) : Int) = 1 from rfl] at HS1
  have HDc := hide (isDecl_stn (bl s) k)
  have HM := hide hM
  clear hbr hzr hM
  obtain ⟨c4, H4⟩ : ∃ c4, Hid (bgn (bl s) k b4 = c4) := ⟨_, hide rfl⟩
  obtain ⟨cm, Hm⟩ : ∃ cm, Hid (isMeta (bl s) k = cm) := ⟨_, hide rfl⟩
  obtain ⟨ct, Ht⟩ : ∃ ct, Hid (decide (0 < nmAt (bl s) k) = ct) := ⟨_, hide rfl⟩
  obtain ⟨q0, Hq0⟩ : ∃ q, Hid (stn (bl s) k [60] = q) := ⟨_, hide rfl⟩
  obtain ⟨q1, Hq1⟩ : ∃ q, Hid (stn (bl s) (k + 1) [33, 47, 63] = q) := ⟨_, hide rfl⟩
  rw [unhide H4] at HP
  rw [unhide Hm] at HBM
  rw [unhide Ht] at HBT
  rw [unhide Hq0] at HS0 HDc
  rw [unhide Hq1] at HS1 HDc
  generalize hrest : s.extract k s.size = rest at *
  have Hrest := hide hrest
  have hsl : ∀ wx, (Instr.slice 9 (.string s) (some (.int .i64 (k : Int))) none none).run Tryz.prog wx = .ok (.string rest) wx := fun wx => by
    rw [← unhide Hrest]
    have := run_slice_string_from_if (P := Tryz.prog) (w := wx) 9 s .i64 (k : Int) Tryz.underlying9
    rw [this]
    simp
    omega
  clear hrest
  go_enter Tryz.func135, Tryz.ntmps135
  go_wp2_with fail
  refine (unhide HP _).mono ?_
  rintro e w1 ⟨rfl, hw⟩
  replace hw := hw.symm
  subst hw
  cases c4
  · clear HP
    go_wp2_with fail
    refine (unhide HBM _).mono ?_
    rintro e w1 ⟨rfl, hb1⟩
    have HB1 := hide hb1
    clear hb1 HBM
    cases cm
    · have HE : Hid (encI (bl s) k = 0) := hide (by unfold encI; rw [unhide Hm, if_neg (by simp)])
      go_wp2_with fail
      refine (unhide HBT _).mono ?_
      rintro e w2 ⟨rfl, hw⟩
      replace hw := hw.symm
      subst hw
      clear HBT
      cases ct
      · have hnn : ¬ 0 < nmAt (bl s) k := of_decide_eq_false (unhide Ht)
        have HN0 := hide (fun h => nxtP_0 (unhide H4) (unhide Hm) hnn h)
        have HN1 := hide (fun h => nxtP_d (unhide H4) (unhide Hm) hnn h)
        rw [unhide HDc] at HN0 HN1
        clear hnn
        go_wp2_with fail
        refine (unhide HS0 _).mono ?_
        rintro e w2 ⟨rfl, hw⟩
        replace hw := hw.symm
        subst hw
        clear HS0
        cases q0
        · have HN := hide (unhide HN0 rfl)
          clear HN0 HN1
          go_wp2_with fail
          go_ret2
          exact ⟨k + 1, by rw [unhide HE]; rfl, .inl (unhide HN).symm, by omega, unhide HB1⟩
        · go_wp2_with fail
          refine (unhide HS1 _).mono ?_
          rintro e w2 ⟨rfl, hw⟩
          replace hw := hw.symm
          subst hw
          clear HS1
          cases q1
          · have HN := hide (unhide HN0 rfl)
            clear HN0 HN1
            go_wp2_with fail
            go_ret2
            exact ⟨k + 1, by rw [unhide HE]; rfl, .inl (unhide HN).symm, by omega, unhide HB1⟩
          · have HN := hide (unhide HN1 rfl)
            have hr := run_le (pNot 62) (bl s) (i := k) (by rw [unhide hl]; omega)
            rw [unhide hl] at hr
            have HW := hide (fun w => wStep2 s k w (by omega) hs)
            clear HN0 HN1
            generalize run (pNot 62) (bl s) k = r at *
            go_wp2_with fail
            refine (unhide HW _).mono ?_
            rintro e w2 ⟨rfl, hw⟩
            replace hw := hw.symm
            subst hw
            go_wp2_with fail
            go_ret2
            exact ⟨r + 1, by rw [unhide HE]; rfl, .inl (unhide HN).symm, by omega, unhide HB1⟩
      · have hnn : 0 < nmAt (bl s) k := of_decide_eq_true (unhide Ht)
        have HN := hide (nxtP_n (unhide H4) (unhide Hm) hnn)
        rw [← run_nm (by rw [unhide hl]; exact hk) hnn] at HN
        have hr := run_le pVal (bl s) (i := k) (by rw [unhide hl]; omega)
        rw [unhide hl] at hr
        have HW := hide (fun w => wStep1 s k w (by omega) hs)
        clear hnn
        generalize run pVal (bl s) k = r at *
        have HA := hide (fun w => All_ok s r w hr hs)
        have hle := attrsI_le (bl s) _ r (Nat.le_refl _) (by rw [unhide hl]; exact hr)
        rw [unhide hl] at hle
        obtain ⟨A, tt, HX⟩ : ∃ A tt, Hid (attrsI (bl s) r = (A, tt)) := ⟨_, _, hide rfl⟩
        rw [unhide HX] at HA HN hle
        simp only at HA HN hle
        go_wp2_with fail
        refine (unhide HW _).mono ?_
        rintro e w2 ⟨rfl, hw⟩
        replace hw := hw.symm
        subst hw
        go_wp2_with fail
        refine (unhide HA _).mono ?_
        rintro e w2 ⟨v, rfl, hat, hb2⟩
        have HB2 := hide (bstep (unhide HB1) hb2)
        clear hb2 hat
        go_wp2_with fail
        go_ret2
        exact ⟨tt + 1, by rw [unhide HE]; rfl, .inl (unhide HN).symm, by omega, unhide HB2⟩
    · have HE : Hid (encI (bl s) k = metaAt (bl s) k) := hide (by unfold encI; rw [unhide Hm, unhide H4, if_pos ⟨rfl, rfl⟩])
      have h5 : k + 5 < s.size := by
        have := unhide Hm
        unfold isMeta at this
        rw [Bool.and_eq_true, Bool.and_eq_true, decide_eq_true_eq, unhide hl] at this
        exact this.2.1
      have HN := hide (nxtP_m (unhide H4) (unhide Hm))
      have HA := hide (fun w => All_ok s (k + 5) w (by omega) hs)
      rw [show ((k + 5 : Nat) : Int) = (k : Int) + 5 from by omega] at HA
      have hle := attrsI_le (bl s) _ (k + 5) (Nat.le_refl _) (by rw [unhide hl]; omega)
      rw [unhide hl] at hle
      have HMt := hide (fun (v : Value) (w : World) (h : Ats w v (txts (attrsI (bl s) (k + 5)).1)) (hm : Mx w) => Meta_ok w h (by simp only [txts, List.length_map]; omega) (txts_both (by rw [unhide hl]; exact hs)) hm)
      have HME : Hid (metaAt (bl s) k = metaI (txts (attrsI (bl s) (k + 5)).1)) := hide rfl
      rw [← unhide HME, ← unhide HE] at HMt
      clear HME HE
      obtain ⟨A, tt, HX⟩ : ∃ A tt, Hid (attrsI (bl s) (k + 5) = (A, tt)) := ⟨_, _, hide rfl⟩
      rw [unhide HX] at HA HN hle HMt
      simp only at HA HN hle HMt
      go_wp2_with fail
      refine (unhide HA _).mono ?_
      rintro e w2 ⟨v, rfl, hat, hb2⟩
      have HB2 := hide (bstep (unhide HB1) hb2)
      have HMc := hide (unhide HMt v w2 hat ((unhide HM).below (unhide HB2)))
      clear hb2 hat HMt
      go_wp2_with fail
      refine (unhide HMc).mono ?_
      rintro e w3 ⟨rfl, hb3⟩
      have HB3 := hide (bstep (unhide HB2) hb3)
      clear hb3
      go_wp2_with fail
      go_ret2
      exact ⟨tt + 1, rfl, .inl (unhide HN).symm, by omega, unhide HB3⟩
  · have HE : Hid (encI (bl s) k = 0) := hide (by unfold encI; rw [unhide H4, if_neg (by simp)])
    have hb4 : k + 4 ≤ s.size := by have := bgn_le (unhide H4); rw [unhide hl] at this; exact this
    have HN := hide (nxtP_4 (unhide H4))
    have HC := hide (behind_any s k w hb4 hs (unhide HM))
    rw [← unhide HN] at HC
    go_wp2_with fail
    refine (unhide HC).mono ?_
    rintro e w1 ⟨⟨t, rfl, hal, ht⟩, hw⟩
    replace hw := hw.symm
    subst hw
    have HAl := hide hal
    clear hal
    go_wp2_with fail
    go_ret2
    exact ⟨t, by rw [unhide HE]; rfl, unhide HAl, ht, Below.refl _ _⟩
set_option maxHeartbeats 800000 in
set_option maxRecDepth 100000 in
theorem look_any (s : ByteArray) (w : World) (hs : s.size ≤ 3000) (hM : Mx w) :
    Calls Tryz.prog 78 #[.string s] w fun e w' => e = .returned (.int .i64 (scnF (bl s) 0)) ∧ Below w.heap.size w w' := by
  have hl := hide (bl_len s)
  have HM := hide hM
  clear hM
  go_enter Tryz.func78, Tryz.ntmps78
  go_wp2_with fail
  go_loopw [3] (fun i wr => ∃ k : Nat, i = .int .i64 k ∧ k ≤ 4000 ∧ Below w.heap.size w wr ∧ Hid (scnF (bl s) 0 = scnF (bl s) k)) (fun i _ => 5000 - (intOf i).toNat)
  case atStart => exact ⟨0, rfl, by omega, Below.refl _ _, hide rfl⟩
  case round =>
    obtain ⟨k, rfl, hk, hbr, HS⟩ := hrel
    have HB := hide hbr
    clear hbr
    by_cases hlt : k < s.size
    · have HC := hide (step_any s k wr hlt hs ((unhide HM).below (unhide HB)))
      have HY := hide (fun h => encI_yes (l := bl s) (k := k) (by rw [unhide hl]; exact hlt) h)
      have HNo := hide (fun h => encI_no (l := bl s) (k := k) (by rw [unhide hl]; exact hlt) h)
      have HG := hide (fun t (h : Alike (bl s) t (nxtP (bl s) k)) => alike_gt (by rw [unhide hl]; exact hlt) h)
      generalize encI (bl s) k = E at *
      go_wp2_with fail
      refine (unhide HC).mono ?_
      rintro e w1 ⟨t, rfl, hal, ht, hb1⟩
      have HB1 := hide (bstep (unhide HB) hb1)
      have hgt := unhide HG t hal
      have HAl := hide (scnF_alike hal)
      clear hb1 hal HC HG
      by_cases hE : E = 0
      · subst hE
        have HS' : Hid (scnF (bl s) 0 = scnF (bl s) t) := hide (by rw [unhide HS, unhide HNo rfl, unhide HAl])
        clear HY HNo HAl
        go_wp2_with fail
        go_roundw
        case rel => exact ⟨t, rfl, ht, unhide HB1, HS'⟩
        case measure => simp [intOf]; omega
      · have hne : (E != 0) = true := bne_iff_ne.2 hE
        have HS' : Hid (scnF (bl s) 0 = E) := hide (by rw [unhide HS, unhide HY hE])
        clear HY HNo HAl hE
        go_wp2_with fail
        go_ret
        exact ⟨ret_int (unhide HS').symm, unhide HB1⟩
    · have HS' : Hid (scnF (bl s) 0 = 0) := hide (by rw [unhide HS, scnF_end (by rw [unhide hl]; omega)])
      go_wp2_with fail
      go_ret
      exact ⟨ret_int (unhide HS').symm, unhide HB⟩
set_option maxHeartbeats 800000 in
set_option maxRecDepth 100000 in
theorem scan1_any (s : ByteArray) (w : World) (hs : s.size ≤ 3000) (hM : Mx w) :
    Calls Tryz.prog 77 #[.string s] w fun e w' => e = .returned (.int .i64 (scnI (bl s))) ∧ Below w.heap.size w w' := by
  by_cases h : s.size ≤ 256
  · have HL := hide (look_any s w hs hM)
    rw [show scnF (bl s) 0 = scnI (bl s) from by unfold scnI; rw [List.take_of_length_le (by rw [bl_len]; exact h)]] at HL
    have hmin : min (s.size : Int) 256 = (s.size : Int) := by omega
    clear hM
    go_enter Tryz.func77, Tryz.ntmps77
    go_wp2_with fail
    refine (unhide HL).mono ?_
    rintro e w1 ⟨rfl, hb⟩
    have HB := hide hb
    clear hb
    go_wp2_with fail
    go_ret
    exact ⟨rfl, unhide HB⟩
  · have HL := hide (look_any (s.extract 0 256) w (by simp; omega) hM)
    rw [show scnF (bl (s.extract 0 256)) 0 = scnI (bl s) from by unfold scnI; rw [bl_take]] at HL
    have hmin : min (s.size : Int) 256 = 256 := by omega
    clear hM
    go_enter Tryz.func77, Tryz.ntmps77
    go_wp2_with fail
    refine (unhide HL).mono ?_
    rintro e w1 ⟨rfl, hb⟩
    have HB := hide hb
    clear hb
    go_wp2_with fail
    go_ret
    exact ⟨rfl, unhide HB⟩
set_option maxHeartbeats 400000 in
set_option maxRecDepth 100000 in
theorem Scan_ok (s : ByteArray) (w : World) (hs : s.size ≤ 3000) (hM : Mx w) :
    Calls Tryz.prog 30 #[.string s] w fun e w' => e = .returned (.tuple #[.int .i64 (scnI (bl s)), .int .i64 0]) ∧ Below w.heap.size w w' := by
  have HC := hide (scan1_any s w hs hM)
  clear hM
  generalize scnI (bl s) = r at HC ⊢
  go_enter Tryz.func30, Tryz.ntmps30
  go_wp2_with (first | (go_at_call 77; refine (unhide HC).mono ?_; rintro e w1 ⟨rfl, hb⟩) | go_in)
  go_ret2
  exact ⟨rfl, by assumption⟩
set_option maxHeartbeats 400000 in
set_option maxRecDepth 100000 in
theorem Scan_long (s : ByteArray) (w : World) (hm : s.size ≤ maxLen) (hs : 3000 < s.size) :
    Calls Tryz.prog 30 #[.string s] w fun e w' => e = .returned (.tuple #[.int .i64 0, .int .i64 2]) ∧ Below w.heap.size w w' := by
  unfold maxLen at hm
  go_enter Tryz.func30, Tryz.ntmps30
  go_wp2
  go_ret2
  exact ⟨rfl, Below.refl _ _⟩
end Go.Proofs.YtaiinjfnkmidbaaGreatDoor

namespace Go.Proofs.YtaiinjfnkmidbaaGreatDoor
open Go.RowKit
set_option linter.unusedVariables false

theorem results_tmp4 {fn : Func} {t u v x : Tmp} (h : fn.results = #[.tmp t, .tmp u, .tmp v, .tmp x]) (tmps : Array Value) (P : Program) (w : World) :
    (results fn tmps).run P w = .ok (.tuple #[tmps.getD t undef, tmps.getD u undef, tmps.getD v undef, tmps.getD x undef]) w := by
  simp [results, h]
set_option maxHeartbeats 800000 in
set_option maxRecDepth 100000 in
theorem enough_any (name s : ByteArray) (w : World) (hn : name.size ≤ 3000) (hs : s.size ≤ maxLen) :
    Calls Tryz.prog 105 #[.string name, .string s] w fun e w' => e = .returned (.bool (enF name (bl s))) ∧ Below w.heap.size w w' := by
  have HS := hide (fun w => Sniff_any s w hs)
  have HF := hide (fun w => Find_ok name w hn)
  have HE : Hid (enF name (bl s) = (decide ((M.sn (bl s)).1 ≠ 0) || (decide (256 ≤ s.size) || (decide (findI name ≠ 0) && decide (3 ≤ s.size))))) := hide (by unfold enF; rw [bl_len])
  generalize (M.sn (bl s)).1 = a at *
  generalize (M.sn (bl s)).2 = b at *
  generalize findI name = c at *
  generalize enF name (bl s) = q at *
  unfold maxLen at hs
  by_cases h0 : a = 0
  · subst h0
    by_cases h1 : c = 0
    · subst h1
      have HR : Hid (q = decide ((256 : Int) ≤ (s.size : Int))) := hide (by rw [unhide HE, Bool.eq_iff_iff]; simp; omega)
      clear HE
      go_enter Tryz.func105, Tryz.ntmps105
      go_wp2_with fail
      refine (unhide HS _).mono ?_
      rintro e w1 ⟨rfl, hb1⟩
      have HB1 := hide hb1
      clear hb1
      go_wp2_with fail
      refine (unhide HF _).mono ?_
      rintro e w2 ⟨rfl, hb2⟩
      have HB2 := hide (bstep (unhide HB1) hb2)
      clear hb2
      go_wp2_with fail
      go_ret
      exact ⟨ret_bool (by rw [unhide HR]), unhide HB2⟩
    · have HR : Hid (q = decide ((3 : Int) ≤ (s.size : Int))) := hide (by rw [unhide HE, Bool.eq_iff_iff]; simp [h1]; omega)
      have hne : (c != 0) = true := bne_iff_ne.2 h1
      clear HE h1
      go_enter Tryz.func105, Tryz.ntmps105
      go_wp2_with fail
      refine (unhide HS _).mono ?_
      rintro e w1 ⟨rfl, hb1⟩
      have HB1 := hide hb1
      clear hb1
      go_wp2_with fail
      refine (unhide HF _).mono ?_
      rintro e w2 ⟨rfl, hb2⟩
      have HB2 := hide (bstep (unhide HB1) hb2)
      clear hb2
      go_wp2_with fail
      go_ret
      exact ⟨ret_bool (by rw [unhide HR]), unhide HB2⟩
  · have HR : Hid (q = true) := hide (by rw [unhide HE]; simp [h0])
    have hne : (a != 0) = true := bne_iff_ne.2 h0
    clear HE h0
    go_enter Tryz.func105, Tryz.ntmps105
    go_wp2_with fail
    refine (unhide HS _).mono ?_
    rintro e w1 ⟨rfl, hb1⟩
    have HB1 := hide hb1
    clear hb1
    go_wp2_with fail
    go_ret
    exact ⟨ret_bool (unhide HR).symm, unhide HB1⟩

set_option maxHeartbeats 1600000 in
set_option maxRecDepth 100000 in
theorem chSays : ChSays := by
  intro name s w hn hs hM
  have HM := hide hM
  have HS := hide (fun w => Sniff_any s w (by unfold maxLen; omega))
  have HF := hide (fun w => Find_ok name w hn)
  have HC := hide (fun w h => Scan_ok s w hs h)
  have R1 := hide (fun h => chI_mark (name := name) (l := bl s) h)
  have R2 := hide (fun h h1 => chI_label (name := name) (l := bl s) h h1)
  have R3 := hide (fun h h1 h2 => chI_meta (name := name) (l := bl s) h h1 h2)
  have R4 := hide (fun h h1 h2 => chI_none (name := name) (l := bl s) h h1 h2)
  generalize (M.sn (bl s)).1 = a at *
  generalize (M.sn (bl s)).2 = b at *
  generalize findI name = c at *
  generalize scnI (bl s) = d at *
  generalize chI name (bl s) = K at *
  clear hM hn hs
  go_enter Tryz.func12, Tryz.ntmps12
  go_wp2_with fail
  refine (unhide HF _).mono ?_
  rintro e w1 ⟨rfl, hb1⟩
  have HB1 := hide hb1
  clear hb1 HF
  go_wp2_with fail
  refine (unhide HC _ ((unhide HM).below (unhide HB1))).mono ?_
  rintro e w2 ⟨rfl, hb2⟩
  have HB2 := hide (bstep (unhide HB1) hb2)
  clear hb2 HB1 HC
  go_wp2_with fail
  refine (unhide HS _).mono ?_
  rintro e w3 ⟨rfl, hb3⟩
  have HB3 := hide (bstep (unhide HB2) hb3)
  clear hb3 HB2 HS
  by_cases h0 : a = 0
  · subst h0
    by_cases h1 : c = 0
    · subst h1
      by_cases h2 : d = 0
      · subst h2
        have HR := hide (unhide R4 rfl rfl rfl)
        clear R1 R2 R3 R4
        go_wp2_with fail
        refine bodyPost_ret (results_tmp4 rfl _ _ _) rfl ?_
        exact ⟨by rw [unhide HR]; rfl, unhide HB3⟩
      · have HR := hide (unhide R3 rfl rfl h2)
        have hne : (d != 0) = true := bne_iff_ne.2 h2
        clear R1 R2 R3 R4 h2
        go_wp2_with fail
        refine bodyPost_ret (results_tmp4 rfl _ _ _) rfl ?_
        exact ⟨by rw [unhide HR]; rfl, unhide HB3⟩
    · have HR := hide (unhide R2 rfl h1)
      have hne : (c != 0) = true := bne_iff_ne.2 h1
      clear R1 R2 R3 R4 h1
      go_wp2_with fail
      refine bodyPost_ret (results_tmp4 rfl _ _ _) rfl ?_
      exact ⟨by rw [unhide HR]; rfl, unhide HB3⟩
  · have HR := hide (unhide R1 h0)
    have hne : (a != 0) = true := bne_iff_ne.2 h0
    clear R1 R2 R3 R4 h0
    go_wp2_with fail
    refine bodyPost_ret (results_tmp4 rfl _ _ _) rfl ?_
    exact ⟨by rw [unhide HR]; rfl, unhide HB3⟩

set_option maxHeartbeats 800000 in
set_option maxRecDepth 100000 in
theorem chErrs : ChErrs := by
  intro name s w hn hs h hM
  have HM := hide hM
  by_cases hq : 3000 < name.size
  · have HF := hide (fun w => Find_long name w hq hn)
    clear hM hn hs h
    go_enter Tryz.func12, Tryz.ntmps12
    go_wp2_with fail
    refine (unhide HF _).mono ?_
    rintro e w1 ⟨rfl, hw⟩
    replace hw := hw.symm
    subst hw
    go_wp2_with fail
    refine bodyPost_ret (results_tmp4 rfl _ _ _) rfl ?_
    exact ⟨rfl, Below.refl _ _⟩
  · have HF := hide (fun w => Find_ok name w (by omega))
    have HC := hide (fun w => Scan_long s w hs (by omega))
    generalize findI name = c at *
    clear hM hn hs h hq
    go_enter Tryz.func12, Tryz.ntmps12
    go_wp2_with fail
    refine (unhide HF _).mono ?_
    rintro e w1 ⟨rfl, hb1⟩
    have HB1 := hide hb1
    clear hb1 HF
    go_wp2_with fail
    refine (unhide HC _).mono ?_
    rintro e w2 ⟨rfl, hb2⟩
    have HB2 := hide (bstep (unhide HB1) hb2)
    clear hb2 HB1 HC
    go_wp2_with fail
    refine bodyPost_ret (results_tmp4 rfl _ _ _) rfl ?_
    exact ⟨rfl, unhide HB2⟩
end Go.Proofs.YtaiinjfnkmidbaaGreatDoor

namespace Go.Proofs.YtaiinjfnkmidbaaGreatDoor
open Go.RowKit
set_option linter.unusedVariables false

/-- The error of a front, by its parts. -/
def chkF (L : ByteArray) (enc why : Int) (W : ByteArray) (e : Int) (r : ByteArray) (t : M.St) : Int := Fr.chk ⟨L, enc, why, W, e, r, t⟩
theorem size0 {r : ByteArray} (h : r.size = 0) : r = ⟨#[]⟩ := by
  have : bl r = [] := List.eq_nil_of_length_eq_zero (by rw [bl_len]; exact h)
  rw [← str_bl r, this]; rfl
theorem empty_eq (r : ByteArray) : (r.toList == []) = decide (r.size = 0) := by
  rw [← isEmpty_size]; cases r.toList <;> rfl
end Go.Proofs.YtaiinjfnkmidbaaGreatDoor

namespace Go.Proofs.YtaiinjfnkmidbaaGreatDoor
open Go.RowKit
set_option linter.unusedVariables false

set_option maxHeartbeats 400000 in
set_option maxRecDepth 100000 in
theorem fenc_yes (n : Int) (w : World) (hn : 1 ≤ n ∧ n ≤ 7) : Calls Tryz.prog 58 #[.int .i64 n] w fun e w' => e = .returned (.bool true) ∧ Below w.heap.size w w' := by
  have HO := hide (fun w => open_yes n w hn)
  unfold sv at HO
  clear hn
  go_enter Tryz.func58, Tryz.ntmps58
  go_wp2_with fail
  refine (unhide HO _).mono ?_
  rintro e w1 ⟨rfl, hb1⟩
  have HB1 := hide hb1
  clear hb1
  go_wp2_with fail
  go_ret
  exact ⟨rfl, bstep (unhide HB1) (balloc _ _)⟩
set_option maxHeartbeats 400000 in
set_option maxRecDepth 100000 in
theorem fenc_no (n : Int) (w : World) (hn : ¬ (1 ≤ n ∧ n ≤ 7)) : Calls Tryz.prog 58 #[.int .i64 n] w fun e w' => e = .returned (.bool false) ∧ Below w.heap.size w w' := by
  have HO := hide (fun w => open_no n w hn)
  unfold sv at HO
  clear hn
  go_enter Tryz.func58, Tryz.ntmps58
  go_wp2_with fail
  refine (unhide HO _).mono ?_
  rintro e w1 ⟨rfl, hb1⟩
  have HB1 := hide hb1
  clear hb1
  go_wp2_with fail
  go_ret
  exact ⟨rfl, bstep (unhide HB1) (balloc _ _)⟩
set_option maxHeartbeats 1600000 in
set_option maxRecDepth 100000 in
theorem cw_s1 (L : ByteArray) (enc why : Int) (W : ByteArray) (e : Int) (r : ByteArray) (g : Int) (fr st : Bool) (w : World) (h : ¬ (e = 0 ∧ r.size = 0 ∧ (g, fr, st) = M.st0)) :
    Calls Tryz.prog 59 #[.agg #[.string L, .int .i64 enc, .int .i64 why, .string W, .int .i64 e, .string r, .int .i64 g, .bool fr, .bool st]] w fun e' w' => e' = .returned (.int .i64 1) ∧ Below w.heap.size w w' := by
  have hre := empty_eq r
  have HH := hide h
  clear h
  go_enter Tryz.func59, Tryz.ntmps59
  go_wp2_with fail
  all_goals first
    | (go_ret; exact ⟨rfl, balloc _ _⟩)
    | (exfalso
       apply unhide HH
       have hr' : r = ByteArray.empty := by assumption
       have he' : e = 0 := by assumption
       have hg' : g = 0 := by assumption
       have hf' : ¬ fr = true := by assumption
       have hs' : ¬ st = true := by assumption
       refine ⟨he', by rw [hr']; rfl, ?_⟩
       rw [hg', show fr = false from by simpa using hf', show st = false from by simpa using hs']
       rfl)
set_option maxHeartbeats 1600000 in
set_option maxRecDepth 100000 in
theorem cw_s2 (L W : ByteArray) (w : World) (h0 : L.size ≤ 3000) (h1 : W.size ≤ 3000) :
    Calls Tryz.prog 59 #[.agg #[.string L, .int .i64 0, .int .i64 0, .string W, .int .i64 0, .string ⟨#[]⟩, .int .i64 0, .bool false, .bool false]] w fun e' w' => e' = .returned (.int .i64 (if enF L (bl W) = true then 4 else 0)) ∧ Below w.heap.size w w' := by
  have HEn := hide (fun w => enough_any L W w h0 (by unfold maxLen; omega))
  generalize enF L (bl W) = q at *
  go_enter Tryz.func59, Tryz.ntmps59
  go_wp2_with fail
  refine (unhide HEn _).mono ?_
  rintro e' w2 ⟨rfl, hb2⟩
  have HB2 := hide (bstep (balloc _ _) hb2)
  clear hb2
  cases q
  · go_wp2_with fail
    go_ret
    exact ⟨rfl, unhide HB2⟩
  · go_wp2_with fail
    go_ret
    exact ⟨rfl, unhide HB2⟩
theorem cells9 (w w1 : World) (L : ByteArray) (enc why : Int) (W : ByteArray) (e : Int) (r : ByteArray) (g : Int) (fr st : Bool) (hb : Below (w.alloc (.cells #[.string L, .int .i64 enc, .int .i64 why, .string W, .int .i64 e, .string r, .int .i64 g, .bool fr, .bool st] 25)).heap.size (w.alloc (.cells #[.string L, .int .i64 enc, .int .i64 why, .string W, .int .i64 e, .string r, .int .i64 g, .bool fr, .bool st] 25)) w1) :
    w1.cell? ⟨w.heap.size, 0, none⟩ = some (.string L) ∧ w1.cell? ⟨w.heap.size, 1, none⟩ = some (.int .i64 enc) ∧ w1.cell? ⟨w.heap.size, 2, none⟩ = some (.int .i64 why) ∧ w1.cell? ⟨w.heap.size, 3, none⟩ = some (.string W) ∧ w1.cell? ⟨w.heap.size, 4, none⟩ = some (.int .i64 e) ∧ w1.cell? ⟨w.heap.size, 5, none⟩ = some (.string r) ∧ w1.cell? ⟨w.heap.size, 6, none⟩ = some (.int .i64 g) ∧ w1.cell? ⟨w.heap.size, 7, none⟩ = some (.bool fr) ∧ w1.cell? ⟨w.heap.size, 8, none⟩ = some (.bool st) := by
  have h := (Fb.new w ⟨L, enc, why, W, e, r, (g, fr, st)⟩).on hb
  exact ⟨h.c0, h.c1, h.c2, h.c3, h.c4, h.c5, h.c6, h.c7, h.c8⟩
set_option maxHeartbeats 1600000 in
set_option maxRecDepth 100000 in
theorem ck_L (L : ByteArray) (enc why : Int) (W : ByteArray) (e : Int) (r : ByteArray) (g : Int) (fr st : Bool) (w : World) (hL : L.size ≤ maxLen) (hW : W.size ≤ maxLen) (hr : r.size ≤ maxLen) (h : 3000 < L.size) :
    Calls Tryz.prog 20 #[.agg #[.string L, .int .i64 enc, .int .i64 why, .string W, .int .i64 e, .string r, .int .i64 g, .bool fr, .bool st]] w fun e' w' => e' = .returned (.int .i64 (chkF L enc why W e r (g, fr, st))) ∧ Below w.heap.size w w' := by
  have HR : Hid (chkF L enc why W e r (g, fr, st) = 2) := hide (by
    unfold chkF Fr.chk
    simp only
    rw [if_pos (.inl h)])
  unfold maxLen at hL hW hr
  go_enter Tryz.func20, Tryz.ntmps20
  go_wp2_with fail
  go_ret
  exact ⟨ret_int (unhide HR).symm, balloc _ _⟩
set_option maxHeartbeats 1600000 in
set_option maxRecDepth 100000 in
theorem ck_W (L : ByteArray) (enc why : Int) (W : ByteArray) (e : Int) (r : ByteArray) (g : Int) (fr st : Bool) (w : World) (hL : L.size ≤ maxLen) (hW : W.size ≤ maxLen) (hr : r.size ≤ maxLen) (h0 : L.size ≤ 3000) (h : 3000 < W.size) :
    Calls Tryz.prog 20 #[.agg #[.string L, .int .i64 enc, .int .i64 why, .string W, .int .i64 e, .string r, .int .i64 g, .bool fr, .bool st]] w fun e' w' => e' = .returned (.int .i64 (chkF L enc why W e r (g, fr, st))) ∧ Below w.heap.size w w' := by
  have HR : Hid (chkF L enc why W e r (g, fr, st) = 2) := hide (by
    unfold chkF Fr.chk
    simp only
    rw [if_pos (.inr h)])
  unfold maxLen at hL hW hr
  go_enter Tryz.func20, Tryz.ntmps20
  go_wp2_with fail
  go_ret
  exact ⟨ret_int (unhide HR).symm, balloc _ _⟩
set_option maxHeartbeats 1600000 in
set_option maxRecDepth 100000 in
theorem ck_enc (L : ByteArray) (enc why : Int) (W : ByteArray) (e : Int) (r : ByteArray) (g : Int) (fr st : Bool) (w : World) (hL : L.size ≤ maxLen) (hW : W.size ≤ maxLen) (hr : r.size ≤ maxLen) (h0 : L.size ≤ 3000) (h1 : W.size ≤ 3000) (h : ¬ (0 ≤ enc ∧ enc ≤ 7)) :
    Calls Tryz.prog 20 #[.agg #[.string L, .int .i64 enc, .int .i64 why, .string W, .int .i64 e, .string r, .int .i64 g, .bool fr, .bool st]] w fun e' w' => e' = .returned (.int .i64 (chkF L enc why W e r (g, fr, st))) ∧ Below w.heap.size w w' := by
  have HR : Hid (chkF L enc why W e r (g, fr, st) = 6) := hide (by
    unfold chkF Fr.chk
    simp only
    rw [if_neg (by omega), if_pos h])
  unfold maxLen at hL hW hr
  have hee : (enc != 0) = true := bne_iff_ne.2 (by omega)
  have HIe := hide (fun w => fenc_no enc w (by omega))
  clear h
  go_enter Tryz.func20, Tryz.ntmps20
  go_wp2_with fail
  refine (unhide HIe _).mono ?_
  rintro e' w1 ⟨rfl, hb1⟩
  have HB1 := hide (bstep (balloc _ _) hb1)
  obtain ⟨a0, a1, a2, a3, a4, a5, a6, a7, a8⟩ := cells9 w w1 L _ _ W _ r _ _ _ hb1
  have hlt : w.heap.size < w1.heap.size := by have := hb1.size; simp at this; omega
  clear hb1
  go_wp2_with fail
  go_ret
  exact ⟨ret_int (unhide HR).symm, unhide HB1⟩
set_option maxHeartbeats 1600000 in
set_option maxRecDepth 100000 in
theorem ck_whyz (L : ByteArray) (enc why : Int) (W : ByteArray) (e : Int) (r : ByteArray) (g : Int) (fr st : Bool) (w : World) (hL : L.size ≤ maxLen) (hW : W.size ≤ maxLen) (hr : r.size ≤ maxLen) (h0 : L.size ≤ 3000) (h1 : W.size ≤ 3000) (h2 : 0 ≤ enc ∧ enc ≤ 7) (h : ¬ (0 ≤ why ∧ why ≤ 4)) (h3 : enc = 0) :
    Calls Tryz.prog 20 #[.agg #[.string L, .int .i64 enc, .int .i64 why, .string W, .int .i64 e, .string r, .int .i64 g, .bool fr, .bool st]] w fun e' w' => e' = .returned (.int .i64 (chkF L enc why W e r (g, fr, st))) ∧ Below w.heap.size w w' := by
  have HR : Hid (chkF L enc why W e r (g, fr, st) = 4) := hide (by
    unfold chkF Fr.chk
    simp only
    rw [if_neg (by omega), if_neg (fun q => q h2), if_pos (.inl h)])
  unfold maxLen at hL hW hr
  subst h3
  have hwd : (decide (why < 0) || decide (4 < why)) = true := by simp; omega
  go_enter Tryz.func20, Tryz.ntmps20
  go_wp2_with fail
  all_goals first
    | (go_ret; exact ⟨ret_int (unhide HR).symm, balloc _ _⟩)
    | (exfalso; omega)
    | (exfalso; simp_all; omega)
set_option maxHeartbeats 1600000 in
set_option maxRecDepth 100000 in
theorem ck_whye (L : ByteArray) (enc why : Int) (W : ByteArray) (e : Int) (r : ByteArray) (g : Int) (fr st : Bool) (w : World) (hL : L.size ≤ maxLen) (hW : W.size ≤ maxLen) (hr : r.size ≤ maxLen) (h0 : L.size ≤ 3000) (h1 : W.size ≤ 3000) (h2 : 0 ≤ enc ∧ enc ≤ 7) (h : ¬ (0 ≤ why ∧ why ≤ 4)) (h3 : enc ≠ 0) :
    Calls Tryz.prog 20 #[.agg #[.string L, .int .i64 enc, .int .i64 why, .string W, .int .i64 e, .string r, .int .i64 g, .bool fr, .bool st]] w fun e' w' => e' = .returned (.int .i64 (chkF L enc why W e r (g, fr, st))) ∧ Below w.heap.size w w' := by
  have HR : Hid (chkF L enc why W e r (g, fr, st) = 4) := hide (by
    unfold chkF Fr.chk
    simp only
    rw [if_neg (by omega), if_neg (fun q => q h2), if_pos (.inl h)])
  unfold maxLen at hL hW hr
  have hee : (enc != 0) = true := bne_iff_ne.2 (by omega)
  have HIe := hide (fun w => fenc_yes enc w (by omega))
  have hwd : (decide (why < 0) || decide (4 < why)) = true := by simp; omega
  go_enter Tryz.func20, Tryz.ntmps20
  go_wp2_with fail
  refine (unhide HIe _).mono ?_
  rintro e' w1 ⟨rfl, hb1⟩
  have HB1 := hide (bstep (balloc _ _) hb1)
  obtain ⟨a0, a1, a2, a3, a4, a5, a6, a7, a8⟩ := cells9 w w1 L _ _ W _ r _ _ _ hb1
  have hlt : w.heap.size < w1.heap.size := by have := hb1.size; simp at this; omega
  clear hb1
  go_wp2_with fail
  all_goals first
    | (go_ret; exact ⟨ret_int (unhide HR).symm, unhide HB1⟩)
    | (exfalso; omega)
    | (exfalso; simp_all; omega)
set_option maxHeartbeats 1600000 in
set_option maxRecDepth 100000 in
theorem ck_w0 (L : ByteArray) (enc why : Int) (W : ByteArray) (e : Int) (r : ByteArray) (g : Int) (fr st : Bool) (w : World) (hL : L.size ≤ maxLen) (hW : W.size ≤ maxLen) (hr : r.size ≤ maxLen) (h0 : L.size ≤ 3000) (h1 : W.size ≤ 3000) (h2 : 0 ≤ enc ∧ enc ≤ 7) (h3 : why = 0) (h : enc ≠ 0) :
    Calls Tryz.prog 20 #[.agg #[.string L, .int .i64 enc, .int .i64 why, .string W, .int .i64 e, .string r, .int .i64 g, .bool fr, .bool st]] w fun e' w' => e' = .returned (.int .i64 (chkF L enc why W e r (g, fr, st))) ∧ Below w.heap.size w w' := by
  have HR : Hid (chkF L enc why W e r (g, fr, st) = 4) := hide (by
    unfold chkF Fr.chk
    simp only
    rw [if_neg (by omega), if_neg (fun q => q h2), if_pos (.inr (.inl ⟨h3, h⟩))])
  unfold maxLen at hL hW hr
  have hee : (enc != 0) = true := bne_iff_ne.2 (by omega)
  have HIe := hide (fun w => fenc_yes enc w (by omega))
  subst h3
  clear h h2
  go_enter Tryz.func20, Tryz.ntmps20
  go_wp2_with fail
  refine (unhide HIe _).mono ?_
  rintro e' w1 ⟨rfl, hb1⟩
  have HB1 := hide (bstep (balloc _ _) hb1)
  obtain ⟨a0, a1, a2, a3, a4, a5, a6, a7, a8⟩ := cells9 w w1 L _ _ W _ r _ _ _ hb1
  have hlt : w.heap.size < w1.heap.size := by have := hb1.size; simp at this; omega
  clear hb1
  go_wp2_with fail
  go_ret
  exact ⟨ret_int (unhide HR).symm, unhide HB1⟩
set_option maxHeartbeats 1600000 in
set_option maxRecDepth 100000 in
theorem ck_w1 (L : ByteArray) (enc why : Int) (W : ByteArray) (e : Int) (r : ByteArray) (g : Int) (fr st : Bool) (w : World) (hL : L.size ≤ maxLen) (hW : W.size ≤ maxLen) (hr : r.size ≤ maxLen) (h0 : L.size ≤ 3000) (h1 : W.size ≤ 3000) (h2 : 0 ≤ enc ∧ enc ≤ 7) (hy : 0 ≤ why ∧ why ≤ 4) (h3 : why ≠ 0) (h : enc = 0) :
    Calls Tryz.prog 20 #[.agg #[.string L, .int .i64 enc, .int .i64 why, .string W, .int .i64 e, .string r, .int .i64 g, .bool fr, .bool st]] w fun e' w' => e' = .returned (.int .i64 (chkF L enc why W e r (g, fr, st))) ∧ Below w.heap.size w w' := by
  have HR : Hid (chkF L enc why W e r (g, fr, st) = 4) := hide (by
    unfold chkF Fr.chk
    simp only
    rw [if_neg (by omega), if_neg (fun q => q h2), if_pos (.inr (.inr ⟨h3, h⟩))])
  unfold maxLen at hL hW hr
  have hne : (why != 0) = true := bne_iff_ne.2 h3
  have hw1 : decide (why < 0) = false := decide_eq_false (by omega)
  have hw2 : decide (4 < why) = false := decide_eq_false (by omega)
  subst h
  clear h2 h3
  go_enter Tryz.func20, Tryz.ntmps20
  go_wp2_with fail
  go_ret
  exact ⟨ret_int (unhide HR).symm, balloc _ _⟩
set_option maxHeartbeats 1600000 in
set_option maxRecDepth 100000 in
theorem ck_s1 (L : ByteArray) (enc why : Int) (W : ByteArray) (e : Int) (r : ByteArray) (g : Int) (fr st : Bool) (w : World) (hL : L.size ≤ maxLen) (hW : W.size ≤ maxLen) (hr : r.size ≤ maxLen) (h0 : L.size ≤ 3000) (h1 : W.size ≤ 3000) (h3 : why = 0) (h4 : enc = 0) (h : ¬ (e = 0 ∧ r.size = 0 ∧ (g, fr, st) = M.st0)) :
    Calls Tryz.prog 20 #[.agg #[.string L, .int .i64 enc, .int .i64 why, .string W, .int .i64 e, .string r, .int .i64 g, .bool fr, .bool st]] w fun e' w' => e' = .returned (.int .i64 (chkF L enc why W e r (g, fr, st))) ∧ Below w.heap.size w w' := by
  have HR : Hid (chkF L enc why W e r (g, fr, st) = 1) := hide (by
    unfold chkF Fr.chk
    simp only
    rw [if_neg (by omega), if_neg (by omega), if_neg (by omega), if_pos (.inl ⟨h3, h⟩)])
  unfold maxLen at hL hW hr
  subst h3 h4
  have HCw := hide (fun w => cw_s1 L 0 0 W e r g fr st w h)
  clear h
  go_enter Tryz.func20, Tryz.ntmps20
  go_wp2_with fail
  refine (unhide HCw _).mono ?_
  rintro e' w1 ⟨rfl, hb1⟩
  have HB1 := hide (bstep (balloc _ _) hb1)
  clear hb1
  go_wp2_with fail
  go_ret
  exact ⟨ret_int (unhide HR).symm, unhide HB1⟩
set_option maxHeartbeats 1600000 in
set_option maxRecDepth 100000 in
theorem ck_s2 (L W : ByteArray) (w : World) (h0 : L.size ≤ 3000) (h1 : W.size ≤ 3000) :
    Calls Tryz.prog 20 #[.agg #[.string L, .int .i64 0, .int .i64 0, .string W, .int .i64 0, .string ⟨#[]⟩, .int .i64 0, .bool false, .bool false]] w fun e' w' => e' = .returned (.int .i64 (chkF L 0 0 W 0 ⟨#[]⟩ M.st0)) ∧ Below w.heap.size w w' := by
  have z : (⟨#[]⟩ : ByteArray).size = 0 := rfl
  have HR : Hid (chkF L 0 0 W 0 ⟨#[]⟩ M.st0 = if enF L (bl W) = true then 4 else 0) := hide (by
    unfold chkF Fr.chk
    simp only
    rw [if_neg (by omega), if_neg (by omega), if_neg (by omega), if_neg (by rw [z]; rintro (h | h); exact h.2 ⟨by trivial, by trivial, by trivial⟩; exact h.1 (by trivial))]
    rfl)
  have HCw := hide (fun w => cw_s2 L W w h0 h1)
  rw [← unhide HR] at HCw
  generalize chkF L 0 0 W 0 ⟨#[]⟩ M.st0 = K at *
  clear z HR
  go_enter Tryz.func20, Tryz.ntmps20
  go_wp2_with fail
  refine (unhide HCw _).mono ?_
  rintro e' w2 ⟨rfl, hb2⟩
  have HB2 := hide (bstep (balloc _ _) hb2)
  clear hb2
  go_wp2_with fail
  go_ret
  exact ⟨rfl, unhide HB2⟩
set_option maxHeartbeats 1600000 in
set_option maxRecDepth 100000 in
theorem ck_n1 (L : ByteArray) (enc why : Int) (W : ByteArray) (e : Int) (r : ByteArray) (g : Int) (fr st : Bool) (w : World) (hL : L.size ≤ maxLen) (hW : W.size ≤ maxLen) (hr : r.size ≤ maxLen) (h0 : L.size ≤ 3000) (h1 : W.size ≤ 3000) (h2 : 0 ≤ enc ∧ enc ≤ 7) (hy : 0 ≤ why ∧ why ≤ 4) (h3 : why ≠ 0) (h4 : enc ≠ 0) (h : W.size ≠ 0) :
    Calls Tryz.prog 20 #[.agg #[.string L, .int .i64 enc, .int .i64 why, .string W, .int .i64 e, .string r, .int .i64 g, .bool fr, .bool st]] w fun e' w' => e' = .returned (.int .i64 (chkF L enc why W e r (g, fr, st))) ∧ Below w.heap.size w w' := by
  have HR : Hid (chkF L enc why W e r (g, fr, st) = 1) := hide (by
    unfold chkF Fr.chk
    simp only
    rw [if_neg (by omega), if_neg (by omega), if_neg (by omega), if_pos (.inr ⟨h3, .inl h⟩)])
  unfold maxLen at hL hW hr
  have hee : (enc != 0) = true := bne_iff_ne.2 (by omega)
  have HIe := hide (fun w => fenc_yes enc w (by omega))
  have hne : (why != 0) = true := bne_iff_ne.2 h3
  have hw1 : decide (why < 0) = false := decide_eq_false (by omega)
  have hw2 : decide (4 < why) = false := decide_eq_false (by omega)
  have hwe := empty_eq W
  rw [decide_eq_false h] at hwe
  clear h2 h3 h4 h
  go_enter Tryz.func20, Tryz.ntmps20
  go_wp2_with fail
  refine (unhide HIe _).mono ?_
  rintro e' w1 ⟨rfl, hb1⟩
  have HB1 := hide (bstep (balloc _ _) hb1)
  obtain ⟨a0, a1, a2, a3, a4, a5, a6, a7, a8⟩ := cells9 w w1 L _ _ W _ r _ _ _ hb1
  have hlt : w.heap.size < w1.heap.size := by have := hb1.size; simp at this; omega
  clear hb1
  go_wp2_with fail
  go_ret
  exact ⟨ret_int (unhide HR).symm, unhide HB1⟩
set_option maxHeartbeats 1600000 in
set_option maxRecDepth 100000 in
theorem ck_n2 (L : ByteArray) (enc why : Int) (W : ByteArray) (e : Int) (r : ByteArray) (g : Int) (fr st : Bool) (w : World) (hL : L.size ≤ maxLen) (hW : W.size ≤ maxLen) (hr : r.size ≤ maxLen) (h0 : L.size ≤ 3000) (h1 : W.size ≤ 3000) (h2 : 0 ≤ enc ∧ enc ≤ 7) (hy : 0 ≤ why ∧ why ≤ 4) (h3 : why ≠ 0) (h4 : enc ≠ 0) (h5 : W.size = 0) (h : e ≠ enc) :
    Calls Tryz.prog 20 #[.agg #[.string L, .int .i64 enc, .int .i64 why, .string W, .int .i64 e, .string r, .int .i64 g, .bool fr, .bool st]] w fun e' w' => e' = .returned (.int .i64 (chkF L enc why W e r (g, fr, st))) ∧ Below w.heap.size w w' := by
  have HR : Hid (chkF L enc why W e r (g, fr, st) = 1) := hide (by
    unfold chkF Fr.chk
    simp only
    rw [if_neg (by omega), if_neg (by omega), if_neg (by omega), if_pos (.inr ⟨h3, .inr h⟩)])
  unfold maxLen at hL hW hr
  have hee : (enc != 0) = true := bne_iff_ne.2 (by omega)
  have HIe := hide (fun w => fenc_yes enc w (by omega))
  have hne : (why != 0) = true := bne_iff_ne.2 h3
  have hw1 : decide (why < 0) = false := decide_eq_false (by omega)
  have hw2 : decide (4 < why) = false := decide_eq_false (by omega)
  have hwe := empty_eq W
  rw [decide_eq_true h5] at hwe
  have hen : (e != enc) = true := bne_iff_ne.2 h
  clear h2 h3 h4 h
  go_enter Tryz.func20, Tryz.ntmps20
  go_wp2_with fail
  refine (unhide HIe _).mono ?_
  rintro e' w1 ⟨rfl, hb1⟩
  have HB1 := hide (bstep (balloc _ _) hb1)
  obtain ⟨a0, a1, a2, a3, a4, a5, a6, a7, a8⟩ := cells9 w w1 L _ _ W _ r _ _ _ hb1
  have hlt : w.heap.size < w1.heap.size := by have := hb1.size; simp at this; omega
  clear hb1
  go_wp2_with fail
  go_ret
  exact ⟨ret_int (unhide HR).symm, unhide HB1⟩
set_option maxHeartbeats 1600000 in
set_option maxRecDepth 100000 in
theorem ck_n3 (L : ByteArray) (enc why : Int) (W : ByteArray) (e : Int) (r : ByteArray) (g : Int) (fr st : Bool) (w : World) (hL : L.size ≤ maxLen) (hW : W.size ≤ maxLen) (hr : r.size ≤ maxLen) (h0 : L.size ≤ 3000) (h1 : W.size ≤ 3000) (h2 : 0 ≤ enc ∧ enc ≤ 7) (hy : 0 ≤ why ∧ why ≤ 4) (h3 : why ≠ 0) (h4 : enc ≠ 0) (h5 : W.size = 0) (h : e = enc) :
    Calls Tryz.prog 20 #[.agg #[.string L, .int .i64 enc, .int .i64 why, .string W, .int .i64 e, .string r, .int .i64 g, .bool fr, .bool st]] w fun e' w' => e' = .returned (.int .i64 (chkF L enc why W e r (g, fr, st))) ∧ Below w.heap.size w w' := by
  have HR : Hid (chkF L enc why W e r (g, fr, st) = chk e r (g, fr, st)) := hide (by
    unfold chkF Fr.chk
    simp only
    rw [if_neg (by omega), if_neg (by omega), if_neg (by omega), if_neg (by rintro (q | q); exact h3 q.1; exact q.2.elim (fun z => z h5) (fun z => z h)), if_neg h3])
  have HC := hide (fun w => check_any e r (g, fr, st) w hr)
  unfold sv at HC
  simp only at HC
  rw [← unhide HR] at HC
  generalize chkF L enc why W e r (g, fr, st) = K at *
  unfold maxLen at hL hW hr
  have hee : (enc != 0) = true := bne_iff_ne.2 (by omega)
  have HIe := hide (fun w => fenc_yes enc w (by omega))
  have hne : (why != 0) = true := bne_iff_ne.2 h3
  have hw1 : decide (why < 0) = false := decide_eq_false (by omega)
  have hw2 : decide (4 < why) = false := decide_eq_false (by omega)
  have hwe := empty_eq W
  rw [decide_eq_true h5] at hwe
  have hen : (e != enc) = false := by rw [h]; simp
  clear h2 h3 h4 h
  go_enter Tryz.func20, Tryz.ntmps20
  go_wp2_with fail
  refine (unhide HIe _).mono ?_
  rintro e' w1 ⟨rfl, hb1⟩
  have HB1 := hide (bstep (balloc _ _) hb1)
  obtain ⟨a0, a1, a2, a3, a4, a5, a6, a7, a8⟩ := cells9 w w1 L _ _ W _ r _ _ _ hb1
  have hlt : w.heap.size < w1.heap.size := by have := hb1.size; simp at this; omega
  clear hb1
  go_wp2_with fail
  refine (unhide HC _).mono ?_
  rintro e' w2 ⟨rfl, hb2⟩
  have HB2 := hide (bstep (unhide HB1) hb2)
  clear hb2
  go_wp2_with fail
  go_ret
  exact ⟨rfl, unhide HB2⟩
theorem ckSays : CkSays := by
  intro f w hL hW hr hM
  obtain ⟨L, enc, why, W, e, r, g, fr, st⟩ := f
  show Calls Tryz.prog 20 #[.agg #[.string L, .int .i64 enc, .int .i64 why, .string W, .int .i64 e, .string r, .int .i64 g, .bool fr, .bool st]] w fun e' w' => e' = .returned (.int .i64 (chkF L enc why W e r (g, fr, st))) ∧ Below w.heap.size w w'
  simp only at hL hW hr
  by_cases h0 : 3000 < L.size
  · exact ck_L L enc why W e r g fr st w hL hW hr h0
  by_cases h1 : 3000 < W.size
  · exact ck_W L enc why W e r g fr st w hL hW hr (by omega) h1
  by_cases h2 : 0 ≤ enc ∧ enc ≤ 7
  case neg => exact ck_enc L enc why W e r g fr st w hL hW hr (by omega) (by omega) h2
  by_cases hy : 0 ≤ why ∧ why ≤ 4
  case neg =>
    by_cases h4 : enc = 0
    · exact ck_whyz L enc why W e r g fr st w hL hW hr (by omega) (by omega) h2 hy h4
    · exact ck_whye L enc why W e r g fr st w hL hW hr (by omega) (by omega) h2 hy h4
  by_cases h3 : why = 0
  · by_cases h4 : enc = 0
    case neg => exact ck_w0 L enc why W e r g fr st w hL hW hr (by omega) (by omega) h2 h3 h4
    by_cases h5 : e = 0 ∧ r.size = 0 ∧ (g, fr, st) = M.st0
    case neg => exact ck_s1 L enc why W e r g fr st w hL hW hr (by omega) (by omega) h3 h4 h5
    obtain ⟨rfl, hr0, ht⟩ := h5
    have := size0 hr0
    subst this h3 h4
    obtain ⟨rfl, rfl, rfl⟩ : g = 0 ∧ fr = false ∧ st = false := by simpa [M.st0] using ht
    exact ck_s2 L W w (by omega) (by omega)
  · by_cases h4 : enc = 0
    · exact ck_w1 L enc why W e r g fr st w hL hW hr (by omega) (by omega) h2 hy h3 h4
    by_cases h5 : W.size = 0
    case neg => exact ck_n1 L enc why W e r g fr st w hL hW hr (by omega) (by omega) h2 hy h3 h4 h5
    by_cases h6 : e = enc
    case neg => exact ck_n2 L enc why W e r g fr st w hL hW hr (by omega) (by omega) h2 hy h3 h4 h5 h6
    exact ck_n3 L enc why W e r g fr st w hL hW hr (by omega) (by omega) h2 hy h3 h4 h5 h6
end Go.Proofs.YtaiinjfnkmidbaaGreatDoor

namespace Go.Proofs.YtaiinjfnkmidbaaGreatDoor
open Go.RowKit
set_option linter.unusedVariables false

set_option maxHeartbeats 800000 in
set_option maxRecDepth 100000 in
theorem bgSays : BgSays := by
  intro L w hL
  have HC := hide (fun w => clone_any L w (by omega))
  go_enter Tryz.func13, Tryz.ntmps13
  go_wp2_with fail
  refine (unhide HC _).mono ?_
  rintro e w1 ⟨rfl, hb1⟩
  have hF := (Fb.new w (Fr.new ⟨#[]⟩)).on hb1
  have HF := hide hF
  obtain ⟨c0, c1, c2, c3, c4, c5, c6, c7, c8, f0, f1, f2, f3, f4, f5, f6, f7, f8⟩ := hF
  dsimp only [Fr.new, M.st0] at c0 c1 c2 c3 c4 c5 c6 c7 c8
  have hlt := (unhide HF).lt
  have HB := hide (bstep (balloc w (.cells #[.string ⟨#[]⟩, .int .i64 0, .int .i64 0, .string ⟨#[]⟩, .int .i64 0, .string ⟨#[]⟩, .int .i64 0, .bool false, .bool false] 25)) hb1)
  clear hb1
  go_wp2_with fail
  refine bodyPost_ret (v := .tuple #[(Fr.new L).v, .int .i64 0]) (by simp [results, Tryz.results13, go_sem, c0, c1, c2, c3, c4, c5, c6, c7, c8, Fr.v, Fr.new, M.st0]) rfl ⟨rfl, ?_⟩
  exact bput9 (B := w.heap.size) (unhide HB) (Nat.le_refl _) (Fr.new L)

set_option maxHeartbeats 800000 in
set_option maxRecDepth 100000 in
theorem bgErrs : BgErrs := by
  intro L w hm hL
  unfold maxLen at hm
  go_enter Tryz.func13, Tryz.ntmps13
  go_wp2_with fail
  refine bodyPost_ret (v := .tuple #[(Fr.new ⟨#[]⟩).v, .int .i64 2]) (by simp [results, Tryz.results13, go_sem, Fr.v, Fr.new, M.st0]) rfl ⟨rfl, ?_⟩
  first | exact balloc _ _ | exact bput9 (B := w.heap.size) (balloc _ _) (Nat.le_refl _) (Fr.new ⟨#[]⟩)
end Go.Proofs.YtaiinjfnkmidbaaGreatDoor

namespace Go.Proofs.YtaiinjfnkmidbaaGreatDoor
open Go.RowKit
set_option linter.unusedVariables false

theorem Fb.c9set {B : Nat} {f : Fr} {w : World} (h : Fb B f w) (u : Value) : Fb B f (w.setCell ⟨B, 9, none⟩ u) where
  c0 := (World.cell?_setCell_other _ _ _ _ (by simp)).trans h.c0
  c1 := (World.cell?_setCell_other _ _ _ _ (by simp)).trans h.c1
  c2 := (World.cell?_setCell_other _ _ _ _ (by simp)).trans h.c2
  c3 := (World.cell?_setCell_other _ _ _ _ (by simp)).trans h.c3
  c4 := (World.cell?_setCell_other _ _ _ _ (by simp)).trans h.c4
  c5 := (World.cell?_setCell_other _ _ _ _ (by simp)).trans h.c5
  c6 := (World.cell?_setCell_other _ _ _ _ (by simp)).trans h.c6
  c7 := (World.cell?_setCell_other _ _ _ _ (by simp)).trans h.c7
  c8 := (World.cell?_setCell_other _ _ _ _ (by simp)).trans h.c8
  f0 := by rw [World.frozen?_setCell]; exact h.f0
  f1 := by rw [World.frozen?_setCell]; exact h.f1
  f2 := by rw [World.frozen?_setCell]; exact h.f2
  f3 := by rw [World.frozen?_setCell]; exact h.f3
  f4 := by rw [World.frozen?_setCell]; exact h.f4
  f5 := by rw [World.frozen?_setCell]; exact h.f5
  f6 := by rw [World.frozen?_setCell]; exact h.f6
  f7 := by rw [World.frozen?_setCell]; exact h.f7
  f8 := by rw [World.frozen?_setCell]; exact h.f8
/-- Who chooses, in memory: the front, and what has been told. -/
def Ch (C : Nat) (f : Fr) (xs : List Int) (w : World) : Prop :=
  ∃ v, Fb C f w ∧ w.cell? ⟨C, 9, none⟩ = some v ∧ w.frozen? ⟨C, 9, none⟩ = false ∧ w.ownsRow (C + 1) 3 1 v xs.length (xs.map (Value.int .i64))
/-- What is told of bytes p by a decoder. -/
def Tel (e : Int) (r : ByteArray) (t : M.St) (l : List Int) (last : Bool) (L : List Int) (r' : ByteArray) (t' : M.St) : Prop :=
  (last = false → L = (M.RE e t l).1 ∧ bl r' = (M.RE e t l).2.2 ∧ t' = (M.RE e t l).2.1) ∧ (last = true → L = (M.TE e t l).1 ∧ r' = ⟨#[]⟩ ∧ t' = M.st0)
theorem Tel.len {e : Int} (he : 1 ≤ e ∧ e ≤ 7) {r r' : ByteArray} {t t' : M.St} {l L : List Int} {last : Bool} (h : Tel e r t l last L r' t') : L.length ≤ l.length := by
  cases last
  · rw [(h.1 rfl).1]; exact M.RE_out he t l
  · rw [(h.2 rfl).1]; exact M.TE_few e _ t l (Nat.le_refl _)
theorem feed_fed (e : Int) (r : ByteArray) (t : M.St) (p : ByteArray) (last : Bool) (w : World) (he : 1 ≤ e ∧ e ≤ 7) (hr : M.wE e (bl r) = r.size ∧ r.size ≤ 3) (hk : M.Ok e t) (hs : p.size ≤ 3000) :
    Calls Tryz.prog 46 #[.agg #[.int .i64 e, .string r, .int .i64 t.1, .bool t.2.1, .bool t.2.2], .string p, .bool last] w fun e' w' => ∃ v r' t' L, e' = .returned (.tuple #[v, .agg #[.int .i64 e, .string r', .int .i64 t'.1, .bool t'.2.1, .bool t'.2.2], .int .i64 0]) ∧ w'.ownsRow w.heap.size 3 1 v L.length (L.map (Value.int .i64)) ∧ Below w.heap.size w w' ∧ Tel e r t (bl r ++ bl p) last L r' t' := by
  have h : Calls Tryz.prog 46 #[sv e r t, .string p, .bool last] w (Fed e r t p last w) := by
    cases last
    · exact feed_more e r t p w he hr hk hs
    · exact feed_last e r t p w he hr hk hs
  refine Calls.mono h fun e' w' hh => ?_
  obtain ⟨v, r', t', L, h1, h2, h3, h4, h5⟩ := hh
  exact ⟨v, r', t', L, h1, h2, h3, h4, h5⟩

set_option maxHeartbeats 1600000 in
set_option maxRecDepth 100000 in
theorem cfeed_any (C : Nat) (f : Fr) (xs : List Int) (p : ByteArray) (last : Bool) (w : World) (he : 1 ≤ f.e ∧ f.e ≤ 7) (hr : M.wE f.e (bl f.r) = f.r.size ∧ f.r.size ≤ 3) (hk : M.Ok f.e f.t) (hp : p.size ≤ 3000) (hx : xs.length ≤ 10000) (hD : Ch C f xs w) :
    Calls Tryz.prog 169 #[.pointer (some ⟨C, 0, none⟩), .string p, .bool last] w fun e' w' => e' = .returned (.tuple #[]) ∧ ∃ r' t' L, Ch C { f with r := r', t := t' } (xs ++ L) w' ∧ Below C w w' ∧ Tel f.e f.r f.t (bl f.r ++ bl p) last L r' t' := by
  obtain ⟨L0, enc, why, W, e, r, t⟩ := f
  dsimp only at *
  have HF := hide (fun w => feed_fed e r t p last w he hr hk hp)
  have hlen : (bl r ++ bl p).length ≤ 3003 := by rw [List.length_append, bl_len, bl_len]; omega
  have HLn := hide (fun (L : List Int) (r' : ByteArray) (t' : M.St) (h : Tel e r t (bl r ++ bl p) last L r' t') => Nat.le_trans (h.len he) hlen)
  obtain ⟨v, hFb, h9, g9, hO⟩ := hD
  have HFb := hide hFb
  have hC := hFb.lt
  obtain ⟨c0, c1, c2, c3, c4, c5, c6, c7, c8, f0, f1, f2, f3, f4, f5, f6, f7, f8⟩ := hFb
  dsimp only at c0 c1 c2 c3 c4 c5 c6 c7 c8
  obtain ⟨av, cv, hsv⟩ := owns_shape hO
  subst hsv
  have HO := hide hO
  clear hr hk hp hO hlen
  go_enter Tryz.func169, Tryz.ntmps169
  go_wp2_with fail
  refine (unhide HF _).mono ?_
  rintro e' w1 ⟨v1, r1, t1, L, rfl, ho1, hb1, hT⟩
  obtain ⟨a1, k1, hs1⟩ := owns_shape ho1
  subst hs1
  have hLl := unhide HLn L r1 t1 hT
  have HT := hide hT
  have hz1 := hb1.size
  have I1 := hide ((Ints.of_owns ho1).below (balloc w1 (.cells #[.int .i64 e, .string r1, .int .i64 t1.1, .bool t1.2.1, .bool t1.2.2] 23)))
  have HFb1 := hide (((unhide HFb).on hb1).alloc (.cells #[.int .i64 e, .string r1, .int .i64 t1.1, .bool t1.2.1, .bool t1.2.2] 23))
  have h91 : Hid ((w1.alloc (.cells #[.int .i64 e, .string r1, .int .i64 t1.1, .bool t1.2.1, .bool t1.2.2] 23)).cell? ⟨C, 9, none⟩ = some (.slice av xs.length cv)) := hide (((balloc w1 _).cell (p := ⟨C, 9, none⟩) (by simp; omega)).trans ((hb1.cell (p := ⟨C, 9, none⟩) hC).trans h9))
  have g91 : Hid ((w1.alloc (.cells #[.int .i64 e, .string r1, .int .i64 t1.1, .bool t1.2.1, .bool t1.2.2] 23)).frozen? ⟨C, 9, none⟩ = false) := hide (((balloc w1 _).frozen (p := ⟨C, 9, none⟩) (by simp; omega)).trans ((hb1.frozen (p := ⟨C, 9, none⟩) hC).trans g9))
  have HO1 := hide (owns_a (owns_below (unhide HO) hb1) (.cells #[.int .i64 e, .string r1, .int .i64 t1.1, .bool t1.2.1, .bool t1.2.2] 23))
  have HB1 := hide ((hb1.mono (Nat.le_of_lt hC)).trans ((balloc w1 (.cells #[.int .i64 e, .string r1, .int .i64 t1.1, .bool t1.2.1, .bool t1.2.2] 23)).mono (by omega)))
  have hS := Sc.new w1 e r1 t1
  have HSc := hide hS
  have hov : Value.ownBlock (.slice av xs.length cv) ≠ some w1.heap.size := fun h => by have := owns_lt (unhide HO) _ h; omega
  clear hb1 ho1 hT c0 c1 c2 c3 c4 c5 c6 c7 c8 f0 f1 f2 f3 f4 f5 f6 f7 f8 h9 g9 HFb HO HF
  obtain ⟨c0, c1, c2, c3, c4, c5, c6, c7, c8, f0, f1, f2, f3, f4, f5, f6, f7, f8⟩ := unhide HFb1
  dsimp only at c0 c1 c2 c3 c4 c5 c6 c7 c8
  have h9 := unhide h91
  have g9 := unhide g91
  go_wp2_with (at_builtin; refine append_keep rfl (.tmp 25) (.tmp 26) rfl (C + 1) _ xs rfl (unhide HO1) _ L rfl (unhide I1) (by omega) (by simp; omega) ?_)
  intro ao2 cap2 w2 ho2 hb2 hk2
  have HFb2 := hide ((unhide HFb1).below hb2 (Nat.lt_succ_self C))
  have h92 : w2.cell? ⟨C, 9, none⟩ = some (.slice av xs.length cv) := (hb2.cell (p := ⟨C, 9, none⟩) (Nat.lt_succ_self C)).trans (unhide h91)
  have g92 : w2.frozen? ⟨C, 9, none⟩ = false := (hb2.frozen (p := ⟨C, 9, none⟩) (Nat.lt_succ_self C)).trans (unhide g91)
  have HB2 := hide ((unhide HB1).trans (hb2.mono (Nat.le_succ C)))
  have z0 : w2.cell? ⟨w1.heap.size, 0, none⟩ = some (.int .i64 e) := (hk2 w1.heap.size 0 (by simp) hov).trans (unhide HSc).c0
  have z1 : w2.cell? ⟨w1.heap.size, 1, none⟩ = some (.string r1) := (hk2 w1.heap.size 1 (by simp) hov).trans (unhide HSc).c1
  have z2 : w2.cell? ⟨w1.heap.size, 2, none⟩ = some (.int .i64 t1.1) := (hk2 w1.heap.size 2 (by simp) hov).trans (unhide HSc).c2
  have z3 : w2.cell? ⟨w1.heap.size, 3, none⟩ = some (.bool t1.2.1) := (hk2 w1.heap.size 3 (by simp) hov).trans (unhide HSc).c3
  have z4 : w2.cell? ⟨w1.heap.size, 4, none⟩ = some (.bool t1.2.2) := (hk2 w1.heap.size 4 (by simp) hov).trans (unhide HSc).c4
  have HO2 : Hid (w2.ownsRow (C + 1) 3 1 (.slice ao2 (xs.length + L.length) cap2) (xs ++ L).length ((xs ++ L).map (Value.int .i64))) := hide (by simpa using ho2)
  have hC2 : C < w2.heap.size := (unhide HFb2).lt
  have hB2 : w1.heap.size < w2.heap.size := World.block_lt_of_cell? w2 _ z0
  have hne : ¬ (C = w1.heap.size) := by omega
  have hne' : ¬ (w1.heap.size = C) := by omega
  clear ho2 hb2 hk2 h9 g9 c0 c1 c2 c3 c4 c5 c6 c7 c8 f0 f1 f2 f3 f4 f5 f6 f7 f8 HFb1 h91 g91 HO1 HB1 HSc hS I1 hov
  obtain ⟨c0, c1, c2, c3, c4, c5, c6, c7, c8, f0, f1, f2, f3, f4, f5, f6, f7, f8⟩ := unhide HFb2
  dsimp only at c0 c1 c2 c3 c4 c5 c6 c7 c8
  go_wp2_with fail
  go_end0
  refine ⟨rfl, r1, t1, L, ⟨.slice ao2 (xs.length + L.length) cap2, ?_, ?_, ?_, ?_⟩, ?_, unhide HT⟩
  · exact Fb.put5 ((unhide HFb2).c9set _) e r1 t1
  · rw [World.cell?_setCell_other _ _ _ _ (by simp), World.cell?_setCell_other _ _ _ _ (by simp), World.cell?_setCell_other _ _ _ _ (by simp), World.cell?_setCell_other _ _ _ _ (by simp), World.cell?_setCell_other _ _ _ _ (by simp), World.cell?_setCell_same _ _ _ h92]
  · rw [World.frozen?_setCell, World.frozen?_setCell, World.frozen?_setCell, World.frozen?_setCell, World.frozen?_setCell, World.frozen?_setCell]; exact g92
  · exact oput5 (owns_set (unhide HO2) ⟨C, 9, none⟩ (Nat.lt_succ_self C) _) (Nat.lt_succ_self C) e r1 t1
  · exact bput5 (bset (unhide HB2) ⟨C, 9, none⟩ _ (Nat.le_refl _)) (Nat.le_refl _) e r1 t1

theorem Tel.app {e : Int} {r r1 r' : ByteArray} {t t1 t' : M.St} {l m L L' : List Int} {last : Bool} (h1 : Tel e r t l false L r1 t1) (h2 : Tel e r1 t1 (bl r1 ++ m) last L' r' t') : Tel e r t (l ++ m) last (L ++ L') r' t' := by
  obtain ⟨a1, a2, a3⟩ := h1.1 rfl
  rw [a2, a3] at h2
  refine ⟨fun h => ?_, fun h => ?_⟩
  · obtain ⟨b1, b2, b3⟩ := h2.1 h
    rw [M.RE_app, a1, b1]
    exact ⟨rfl, b2, b3⟩
  · obtain ⟨b1, b2, b3⟩ := h2.2 h
    rw [M.TE_app, a1, b1]
    exact ⟨rfl, b2, b3⟩
theorem Tel.right {e : Int} (he : 1 ≤ e ∧ e ≤ 7) {r r' : ByteArray} {t t' : M.St} {l L : List Int} (hk : M.Ok e t) (h : Tel e r t l false L r' t') : (M.wE e (bl r') = r'.size ∧ r'.size ≤ 3) ∧ M.Ok e t' := by
  obtain ⟨_, a2, a3⟩ := h.1 rfl
  have hz : r'.size = (M.RE e t l).2.2.length := by rw [← bl_len, a2]
  refine ⟨⟨?_, ?_⟩, ?_⟩
  · rw [a2, hz]; exact M.RE_left he t l
  · rw [hz]; exact M.RE_few he t l
  · rw [a3]; exact M.Ok_run he hk l
set_option maxHeartbeats 800000 in
set_option maxRecDepth 100000 in
theorem ctell_any (C : Nat) (f : Fr) (xs : List Int) (p : ByteArray) (last : Bool) (w : World) (he : 1 ≤ f.e ∧ f.e ≤ 7) (hr : M.wE f.e (bl f.r) = f.r.size ∧ f.r.size ≤ 3) (hk : M.Ok f.e f.t) (hp : p.size ≤ 6000) (hx : xs.length ≤ 5000) (hD : Ch C f xs w) :
    Calls Tryz.prog 107 #[.pointer (some ⟨C, 0, none⟩), .string p, .bool last] w fun e' w' => e' = .returned (.tuple #[]) ∧ ∃ r' t' L, Ch C { f with r := r', t := t' } (xs ++ L) w' ∧ Below C w w' ∧ Tel f.e f.r f.t (bl f.r ++ bl p) last L r' t' := by
  by_cases h3 : p.size ≤ 3000
  · have H := hide (cfeed_any C f xs p last w he hr hk h3 (by omega) hD)
    clear hr hk hx hD he
    go_enter Tryz.func107, Tryz.ntmps107
    go_wp2_with fail
    refine wp_loop_rounds 1 ?_
    rw [rounds_succ]
    go_wp2_with fail
    refine (unhide H).mono ?_
    rintro e' w1 ⟨rfl, h1⟩
    have H1 := hide h1
    clear h1 H
    go_wp2_with fail
    go_end0
    exact ⟨rfl, unhide H1⟩
  · have H1 := hide (cfeed_any C f xs (p.extract 0 3000) false w he hr hk (by simp; omega) (by omega) hD)
    have hlen : (bl f.r ++ bl (p.extract 0 3000)).length ≤ 3003 := by rw [List.length_append, bl_len, bl_len]; simp; omega
    have HS : Hid (bl f.r ++ bl p = (bl f.r ++ bl (p.extract 0 3000)) ++ bl (p.extract 3000 p.size)) := hide (by rw [bl_take, bl_extract, List.append_assoc, List.take_append_drop])
    have hb0 : (p.extract 3000 p.size).size ≤ 3000 := by simp; omega
    obtain ⟨b, HBq⟩ : ∃ b, Hid (p.extract 3000 p.size = b) := ⟨_, hide rfl⟩
    rw [unhide HBq] at hb0 HS
    have hbq := unhide HBq
    have hh3 : 3000 < p.size := by omega
    clear hr hD
    go_enter Tryz.func107, Tryz.ntmps107
    go_wp2_with fail
    refine wp_loop_rounds 2 ?_
    rw [rounds_succ]
    go_wp2_with fail
    refine (unhide H1).mono ?_
    rintro e' w1 ⟨rfl, r1, t1, L1, hC1, hB1, hT1⟩
    have hr1 := hT1.right he hk
    have hl1 := hT1.len he
    have H2 := hide (cfeed_any C { f with r := r1, t := t1 } (xs ++ L1) b last w1 he hr1.1 hr1.2 hb0 (by rw [List.length_append]; omega) hC1)
    have HT1 := hide hT1
    have HB1 := hide hB1
    clear H1 hC1 hB1 hT1 hr1 hk hlen hl1 he hx
    go_wp2_with fail
    rw [rounds_succ]
    go_wp2_with fail
    refine (unhide H2).mono ?_
    rintro e' w2 ⟨rfl, r2, t2, L2, hC2, hB2, hT2⟩
    have H3 : Hid (∃ r' t' L, Ch C { f with r := r', t := t' } (xs ++ L) w2 ∧ Below C w w2 ∧ Tel f.e f.r f.t (bl f.r ++ bl p) last L r' t') := hide (by
      refine ⟨r2, t2, L1 ++ L2, ?_, (unhide HB1).trans hB2, ?_⟩
      · rw [← List.append_assoc]; exact hC2
      · rw [unhide HS]; exact Tel.app (unhide HT1) hT2)
    clear H2 hC2 hB2 hT2
    go_wp2_with fail
    go_end0
    exact ⟨rfl, unhide H3⟩
end Go.Proofs.YtaiinjfnkmidbaaGreatDoor

namespace Go.Proofs.YtaiinjfnkmidbaaGreatDoor
open Go.RowKit
set_option linter.unusedVariables false

theorem ch_cut (L all : ByteArray) : chI L (bl (all.extract 0 (min all.size 256))) = chI L (bl all) := by
  rw [bl_take]
  by_cases h : all.size ≤ 256
  · rw [Nat.min_eq_left h, List.take_of_length_le (by rw [bl_len]; omega)]
  · rw [Nat.min_eq_right (by omega)]
    have e : chI L ((bl all).take 256 ++ (bl all).drop 256) = chI L ((bl all).take 256) := chI_more (by
      unfold enF
      rw [decide_eq_true (show 256 ≤ ((bl all).take 256).length from by rw [List.length_take, bl_len]; omega)]
      simp) _
    rw [List.take_append_drop] at e
    exact e.symm
theorem Ch.below {C : Nat} {f : Fr} {xs : List Int} {w w2 : World} (h : Ch C f xs w) (hb : Below w.heap.size w w2) : Ch C f xs w2 := by
  obtain ⟨v, h1, h2, h3, h4⟩ := h
  exact ⟨v, h1.on hb, (hb.cell (p := ⟨C, 9, none⟩) h1.lt).trans h2, (hb.frozen (p := ⟨C, 9, none⟩) h1.lt).trans h3, owns_below h4 hb⟩

theorem Ch.lt {C : Nat} {f : Fr} {xs : List Int} {w : World} (h : Ch C f xs w) : C < w.heap.size := by
  obtain ⟨v, h1, _⟩ := h
  exact h1.lt
theorem Ch.put {C k : Nat} {f g : Fr} {xs : List Int} {w : World} {u : Value} (h : Ch C f xs w) (hk : k ≠ 9) (hg : Fb C f w → Fb C g (w.setCell ⟨C, k, none⟩ u)) : Ch C g xs (w.setCell ⟨C, k, none⟩ u) := by
  obtain ⟨v, h1, h2, h3, h4⟩ := h
  exact ⟨v, hg h1, (World.cell?_setCell_other _ _ _ _ (by intro h; cases h; exact hk rfl)).trans h2, by rw [World.frozen?_setCell]; exact h3, owns_set h4 ⟨C, k, none⟩ (Nat.lt_succ_self C) _⟩
theorem Ch.put5 {C : Nat} {f : Fr} {xs : List Int} {w : World} (h : Ch C f xs w) (e : Int) (r : ByteArray) (t : M.St) : Ch C { f with e := e, r := r, t := t } xs (((((w.setCell ⟨C, 4, none⟩ (.int .i64 e)).setCell ⟨C, 5, none⟩ (.string r)).setCell ⟨C, 6, none⟩ (.int .i64 t.1)).setCell ⟨C, 7, none⟩ (.bool t.2.1)).setCell ⟨C, 8, none⟩ (.bool t.2.2)) :=
  ((((h.put (by decide) (fun q => q.set4 e)).put (by decide) (fun q => q.set5 r)).put (by decide) (fun q => q.set6 t.1)).put (by decide) (fun q => q.set7 t.2.1)).put (by decide) (fun q => q.set8 t.2.2)
theorem Ch.put9 {C : Nat} {f : Fr} {xs : List Int} {w : World} (h : Ch C f xs w) (g : Fr) : Ch C g xs (((((((((w.setCell ⟨C, 0, none⟩ (.string g.L)).setCell ⟨C, 1, none⟩ (.int .i64 g.enc)).setCell ⟨C, 2, none⟩ (.int .i64 g.why)).setCell ⟨C, 3, none⟩ (.string g.W)).setCell ⟨C, 4, none⟩ (.int .i64 g.e)).setCell ⟨C, 5, none⟩ (.string g.r)).setCell ⟨C, 6, none⟩ (.int .i64 g.t.1)).setCell ⟨C, 7, none⟩ (.bool g.t.2.1)).setCell ⟨C, 8, none⟩ (.bool g.t.2.2)) :=
  ((((((((h.put (by decide) (fun q => q.set0 g.L)).put (by decide) (fun q => q.set1 g.enc)).put (by decide) (fun q => q.set2 g.why)).put (by decide) (fun q => q.set3 g.W)).put (by decide) (fun q => q.set4 g.e)).put (by decide) (fun q => q.set5 g.r)).put (by decide) (fun q => q.set6 g.t.1)).put (by decide) (fun q => q.set7 g.t.2.1)).put (by decide) (fun q => q.set8 g.t.2.2)
theorem wE_nil {n : Int} (hn : 1 ≤ n ∧ n ≤ 7) : M.wE n (bl ⟨#[]⟩) = (⟨#[]⟩ : ByteArray).size ∧ (⟨#[]⟩ : ByteArray).size ≤ 3 := by
  obtain rfl | rfl | rfl | rfl | rfl | rfl | rfl := M.seven hn <;> decide +kernel

set_option maxHeartbeats 3200000 in
set_option maxRecDepth 100000 in
theorem cchoose_any (C : Nat) (L W all : ByteArray) (w : World) (hL : L.size ≤ 3000) (hall : all.size ≤ 6000) (hM : Mx w) (hD : Ch C ⟨L, 0, 0, W, 0, ⟨#[]⟩, M.st0⟩ [] w) :
    Calls Tryz.prog 106 #[.pointer (some ⟨C, 0, none⟩), .string all] w fun e' w' => e' = .returned (.string (all.extract (chI L (bl all)).2.2.toNat all.size)) ∧ Ch C ⟨L, (chI L (bl all)).1, (chI L (bl all)).2.1, ⟨#[]⟩, (chI L (bl all)).1, ⟨#[]⟩, M.st0⟩ [] w' ∧ Below C w w' := by
  have hbd := chI_bd L (bl all)
  rw [bl_len] at hbd
  have HCh := hide (fun w h => chSays L (all.extract 0 (min all.size 256)) w hL (by simp; omega) h)
  rw [ch_cut] at HCh
  have HOp := hide (fun w => open_yes (chI L (bl all)).1 w hbd.1)
  unfold sv M.st0 at HOp
  dsimp only at HOp
  generalize (chI L (bl all)).1 = n at *
  generalize (chI L (bl all)).2.1 = y at *
  generalize hm : (chI L (bl all)).2.2 = m at *
  obtain ⟨k, rfl⟩ : ∃ k : Nat, m = (k : Int) := ⟨m.toNat, by omega⟩
  rw [Int.toNat_natCast]
  have hkl : k ≤ all.size := by omega
  have HM := hide hM
  obtain ⟨v, hFb, h9, g9, hO⟩ := hD
  have HFb := hide hFb
  have hC := hFb.lt
  have HD := hide (show Ch C ⟨L, 0, 0, W, 0, ⟨#[]⟩, M.st0⟩ [] w from ⟨v, hFb, h9, g9, hO⟩)
  have c0 := hFb.c0
  dsimp only at c0
  have hcl : ∀ w', Below w.heap.size w w' → w'.cell? ⟨C, 0, none⟩ = some (.string L) := fun w' hb => (hb.cell (p := ⟨C, 0, none⟩) hC).trans c0
  have hmin : min (all.size : Int) 256 = ((min all.size 256 : Nat) : Int) := by omega
  have hsl : ∀ wx, (Instr.slice 9 (.string all) none (some (.int .i64 (min (all.size : Int) 256))) none).run Tryz.prog wx = .ok (.string (all.extract 0 (min all.size 256))) wx := fun wx => by
    rw [hmin]
    exact run_slice_string_h (P := Tryz.prog) wx 9 all Tryz.underlying9 .i64 ((min all.size 256 : Nat) : Int) (by omega) (by omega)
  clear hbd hm hM hFb h9 g9 hO c0 hmin
  go_enter Tryz.func106, Tryz.ntmps106
  go_wp2_with fail
  go_region_held3 (fun w' => Below w.heap.size w w') (first | exact below_drewN (Below.refl _ _) 1 | assumption)
    ((first
      | (go_at_call 12; refine (unhide HCh _ ((unhide HM).below (by assumption))).mono ?_; rintro e' z ⟨rfl, hz⟩; have hS := bstep (by assumption) hz; clear hz)))
  have hCz : C < z.heap.size := by have := hS.size; omega
  have HDz := hide ((unhide HD).below hS)
  have HBz := hide (hS.mono (Nat.le_of_lt hC))
  obtain ⟨c0, c1, c2, c3, c4, c5, c6, c7, c8, f0, f1, f2, f3, f4, f5, f6, f7, f8⟩ := (unhide HFb).on hS
  dsimp only [M.st0] at c0 c1 c2 c3 c4 c5 c6 c7 c8
  clear hcl hsl hS HCh HD HFb
  go_wp2_with fail
  refine (unhide HOp _).mono ?_
  rintro e' w2 ⟨rfl, hb2⟩
  have H2 := hide (((((unhide HDz).put (k := 1) (by decide) (fun q => q.set1 n)).put (k := 2) (by decide) (fun q => q.set2 y)).put (k := 3) (by decide) (fun q => q.set3 ⟨#[]⟩)).below hb2)
  have HB2 := hide ((bset (bset (bset (unhide HBz) ⟨C, 1, none⟩ (.int .i64 n) (Nat.le_refl _)) ⟨C, 2, none⟩ (.int .i64 y) (Nat.le_refl _)) ⟨C, 3, none⟩ (.string ⟨#[]⟩) (Nat.le_refl _)).trans (hb2.mono (by simp; omega)))
  have hC2 := (unhide H2).lt
  clear hb2 c0 c1 c2 c3 c4 c5 c6 c7 c8 f0 f1 f2 f3 f4 f5 f6 f7 f8 HDz HBz
  obtain ⟨v2, q2, -, -, -⟩ := unhide H2
  obtain ⟨c0, c1, c2, c3, c4, c5, c6, c7, c8, f0, f1, f2, f3, f4, f5, f6, f7, f8⟩ := q2
  dsimp only [M.st0] at c0 c1 c2 c3 c4 c5 c6 c7 c8
  go_wp2_with fail
  go_ret
  exact ⟨rfl, Ch.put5 (unhide H2) n ⟨#[]⟩ M.st0, bput5 (unhide HB2) (Nat.le_refl _) n ⟨#[]⟩ M.st0⟩
set_option maxHeartbeats 1600000 in
set_option maxRecDepth 100000 in
theorem ctake_on_false (C : Nat) (L : ByteArray) (enc why e : Int) (r : ByteArray) (t : M.St) (p : ByteArray) (w : World) (hy : why ≠ 0) (he : 1 ≤ e ∧ e ≤ 7) (hr : M.wE e (bl r) = r.size ∧ r.size ≤ 3) (hk : M.Ok e t) (hp : p.size ≤ 3000) (hD : Ch C ⟨L, enc, why, ⟨#[]⟩, e, r, t⟩ [] w) :
    Calls Tryz.prog 50 #[.pointer (some ⟨C, 0, none⟩), .string p, .bool false] w fun e' w' => e' = .returned (.tuple #[]) ∧ Ch C (Fr.nxt ⟨L, enc, why, ⟨#[]⟩, e, r, t⟩ p false) (Fr.outs ⟨L, enc, why, ⟨#[]⟩, e, r, t⟩ p false) w' ∧ Below C w w' := by
  have H := hide (ctell_any C ⟨L, enc, why, ⟨#[]⟩, e, r, t⟩ [] p false w he hr hk (by omega) (by simp) hD)
  have hyb : (why == 0) = false := beq_eq_false_iff_ne.2 hy
  have HY := hide hy
  have hC := hD.lt
  obtain ⟨v, q, -, -, -⟩ := hD
  obtain ⟨c0, c1, c2, c3, c4, c5, c6, c7, c8, f0, f1, f2, f3, f4, f5, f6, f7, f8⟩ := q
  dsimp only at c0 c1 c2 c3 c4 c5 c6 c7 c8
  clear hy he hr hk hp
  go_enter Tryz.func50, Tryz.ntmps50
  go_wp2_with fail
  refine (unhide H).mono ?_
  rintro e' w1 ⟨rfl, r1, t1, L1, hC1, hB1, hT1⟩
  rw [List.nil_append] at hC1

  have HN : Hid (Ch C (Fr.nxt ⟨L, enc, why, ⟨#[]⟩, e, r, t⟩ p false) (Fr.outs ⟨L, enc, why, ⟨#[]⟩, e, r, t⟩ p false) w1) := hide (by
    obtain ⟨a1, a2, a3⟩ := hT1.1 rfl
    rw [nxt_on (f := ⟨L, enc, why, ⟨#[]⟩, e, r, t⟩) (unhide HY) a2 a3, outs_on (f := ⟨L, enc, why, ⟨#[]⟩, e, r, t⟩) (unhide HY), ← a1]
    exact hC1)
  have HB1 := hide hB1
  clear hC1 hB1 hT1 H c0 c1 c2 c3 c4 c5 c6 c7 c8 f0 f1 f2 f3 f4 f5 f6 f7 f8
  go_wp2_with fail
  go_end0
  exact ⟨rfl, unhide HN, unhide HB1⟩

set_option maxHeartbeats 1600000 in
set_option maxRecDepth 100000 in
theorem ctake_on_true (C : Nat) (L : ByteArray) (enc why e : Int) (r : ByteArray) (t : M.St) (p : ByteArray) (w : World) (hy : why ≠ 0) (he : 1 ≤ e ∧ e ≤ 7) (hr : M.wE e (bl r) = r.size ∧ r.size ≤ 3) (hk : M.Ok e t) (hp : p.size ≤ 3000) (hD : Ch C ⟨L, enc, why, ⟨#[]⟩, e, r, t⟩ [] w) :
    Calls Tryz.prog 50 #[.pointer (some ⟨C, 0, none⟩), .string p, .bool true] w fun e' w' => e' = .returned (.tuple #[]) ∧ Ch C (Fr.nxt ⟨L, enc, why, ⟨#[]⟩, e, r, t⟩ p true) (Fr.outs ⟨L, enc, why, ⟨#[]⟩, e, r, t⟩ p true) w' ∧ Below C w w' := by
  have H := hide (ctell_any C ⟨L, enc, why, ⟨#[]⟩, e, r, t⟩ [] p true w he hr hk (by omega) (by simp) hD)
  have hyb : (why == 0) = false := beq_eq_false_iff_ne.2 hy
  have HY := hide hy
  have hC := hD.lt
  obtain ⟨v, q, -, -, -⟩ := hD
  obtain ⟨c0, c1, c2, c3, c4, c5, c6, c7, c8, f0, f1, f2, f3, f4, f5, f6, f7, f8⟩ := q
  dsimp only at c0 c1 c2 c3 c4 c5 c6 c7 c8
  clear hy he hr hk hp
  go_enter Tryz.func50, Tryz.ntmps50
  go_wp2_with fail
  refine (unhide H).mono ?_
  rintro e' w1 ⟨rfl, r1, t1, L1, hC1, hB1, hT1⟩
  rw [List.nil_append] at hC1

  have HN : Hid (Fr.outs ⟨L, enc, why, ⟨#[]⟩, e, r, t⟩ p true = L1) := hide (by
    obtain ⟨a1, a2, a3⟩ := hT1.2 rfl
    rw [outs_end (f := ⟨L, enc, why, ⟨#[]⟩, e, r, t⟩) (unhide HY), ← a1])
  have HC1 := hide hC1
  have HB1 := hide hB1
  have hC2 := hC1.lt
  clear hB1 hT1 H c0 c1 c2 c3 c4 c5 c6 c7 c8 f0 f1 f2 f3 f4 f5 f6 f7 f8
  obtain ⟨v1, q1, -, -, -⟩ := hC1
  obtain ⟨c0, c1, c2, c3, c4, c5, c6, c7, c8, f0, f1, f2, f3, f4, f5, f6, f7, f8⟩ := q1
  dsimp only at c0 c1 c2 c3 c4 c5 c6 c7 c8
  go_wp2_with fail
  go_end0
  refine ⟨rfl, ?_, bput9 (unhide HB1) (Nat.le_refl _) (Fr.new L)⟩
  rw [unhide HN]
  exact Ch.put9 (unhide HC1) (Fr.new L)

set_option maxHeartbeats 1600000 in
set_option maxRecDepth 100000 in
theorem ctake_wait (C : Nat) (L W p : ByteArray) (w : World) (hL : L.size ≤ 3000) (hW : W.size < 256) (hp : p.size ≤ 3000) (hM : Mx w) (hE : enF L (bl W ++ bl p) = false) (hD : Ch C ⟨L, 0, 0, W, 0, ⟨#[]⟩, M.st0⟩ [] w) :
    Calls Tryz.prog 50 #[.pointer (some ⟨C, 0, none⟩), .string p, .bool false] w fun e' w' => e' = .returned (.tuple #[]) ∧ Ch C (Fr.nxt ⟨L, 0, 0, W, 0, ⟨#[]⟩, M.st0⟩ p false) (Fr.outs ⟨L, 0, 0, W, 0, ⟨#[]⟩, M.st0⟩ p false) w' ∧ Below C w w' := by
  have HM := hide hM
  have HD := hide hD
  have hC := hD.lt
  obtain ⟨s, hs1⟩ : ∃ s, W ++ p = s := ⟨_, rfl⟩
  have hs2 : W.append p = s := hs1
  have hsz : s.size ≤ 3255 := by rw [← hs1]; simp; omega
  have HS : Hid (bl s = bl W ++ bl p) := hide (by rw [← hs1, bl_app])
  have HEn := hide (fun w => enough_any L s w hL (by unfold maxLen; omega))
  rw [unhide HS, hE] at HEn
  have HCl := hide (fun w => clone_any s w (by omega))
  have HN : Hid (∀ w', Ch C ⟨L, 0, 0, s, 0, ⟨#[]⟩, M.st0⟩ [] w' → Ch C (Fr.nxt ⟨L, 0, 0, W, 0, ⟨#[]⟩, M.st0⟩ p false) (Fr.outs ⟨L, 0, 0, W, 0, ⟨#[]⟩, M.st0⟩ p false) w') := hide (fun w' h => by rw [nxt_wait hE, outs_wait hE, hs1]; exact h)
  obtain ⟨v, q, -, -, -⟩ := hD
  obtain ⟨c0, c1, c2, c3, c4, c5, c6, c7, c8, f0, f1, f2, f3, f4, f5, f6, f7, f8⟩ := q
  dsimp only [M.st0] at c0 c1 c2 c3 c4 c5 c6 c7 c8
  clear hM
  clear hE
  go_enter Tryz.func50, Tryz.ntmps50
  go_wp2_with fail
  refine (unhide HEn _).mono ?_
  rintro e' w1 ⟨rfl, hb1⟩
  have HB1 := hide (hb1.mono (Nat.le_of_lt hC))
  have HM1 := hide ((unhide HM).below hb1)
  have HD1 := hide ((unhide HD).below hb1)
  have hC1 := (unhide HD1).lt
  clear hb1 HEn HM HD c0 c1 c2 c3 c4 c5 c6 c7 c8 f0 f1 f2 f3 f4 f5 f6 f7 f8
  obtain ⟨v1, q1, -, -, -⟩ := unhide HD1
  obtain ⟨c0, c1, c2, c3, c4, c5, c6, c7, c8, f0, f1, f2, f3, f4, f5, f6, f7, f8⟩ := q1
  dsimp only [M.st0] at c0 c1 c2 c3 c4 c5 c6 c7 c8
  go_wp2_with fail
  refine (unhide HCl _).mono ?_
  rintro e' w2 ⟨rfl, hb2⟩
  have HD2 := hide ((unhide HD1).below hb2)
  have HB2 := hide ((unhide HB1).trans (hb2.mono (Nat.le_of_lt hC1)))
  have hC2 := (unhide HD2).lt
  clear hb2 HD1 HB1 HCl c0 c1 c2 c3 c4 c5 c6 c7 c8 f0 f1 f2 f3 f4 f5 f6 f7 f8
  obtain ⟨v2, q2, -, -, -⟩ := unhide HD2
  obtain ⟨c0, c1, c2, c3, c4, c5, c6, c7, c8, f0, f1, f2, f3, f4, f5, f6, f7, f8⟩ := q2
  dsimp only [M.st0] at c0 c1 c2 c3 c4 c5 c6 c7 c8
  go_wp2_with fail
  first | go_end0 | refine bodyPost_ret (results_none rfl _ _ _) rfl ?_
  exact ⟨rfl, unhide HN _ ((unhide HD2).put (k := 3) (by decide) (fun q => q.set3 s)), bset (unhide HB2) ⟨C, 3, none⟩ _ (Nat.le_refl _)⟩

set_option maxHeartbeats 1600000 in
set_option maxRecDepth 100000 in
theorem ctake_got_false (C : Nat) (L W p : ByteArray) (w : World) (hL : L.size ≤ 3000) (hW : W.size < 256) (hp : p.size ≤ 3000) (hM : Mx w) (hE : enF L (bl W ++ bl p) = true) (hD : Ch C ⟨L, 0, 0, W, 0, ⟨#[]⟩, M.st0⟩ [] w) :
    Calls Tryz.prog 50 #[.pointer (some ⟨C, 0, none⟩), .string p, .bool false] w fun e' w' => e' = .returned (.tuple #[]) ∧ Ch C (Fr.nxt ⟨L, 0, 0, W, 0, ⟨#[]⟩, M.st0⟩ p false) (Fr.outs ⟨L, 0, 0, W, 0, ⟨#[]⟩, M.st0⟩ p false) w' ∧ Below C w w' := by
  have HM := hide hM
  have HD := hide hD
  have hC := hD.lt
  obtain ⟨s, hs1⟩ : ∃ s, W ++ p = s := ⟨_, rfl⟩
  have hs2 : W.append p = s := hs1
  have hsz : s.size ≤ 3255 := by rw [← hs1]; simp; omega
  have HS : Hid (bl s = bl W ++ bl p) := hide (by rw [← hs1, bl_app])
  have HEn := hide (fun w => enough_any L s w hL (by unfold maxLen; omega))
  rw [unhide HS, hE] at HEn
  have hbd := chI_bd L (bl s)
  rw [bl_len] at hbd
  obtain ⟨n, y, m, HX⟩ : ∃ n y m, Hid (chI L (bl s) = (n, y, m)) := ⟨_, _, _, hide rfl⟩
  have HCo := hide (fun w h hd => cchoose_any C L W s w hL (by omega) h hd)
  rw [unhide HX] at HCo hbd
  dsimp only at HCo hbd
  obtain ⟨hn, hyb, hm0, hm3, hml⟩ := hbd
  obtain ⟨q', HQ⟩ : ∃ q', Hid (s.extract m.toNat s.size = q') := ⟨_, hide rfl⟩
  have hqz : q'.size ≤ 3255 := by rw [← unhide HQ]; simp; omega
  rw [unhide HQ] at HCo
  have HQ2 : Hid (bl q' = (bl W ++ bl p).drop m.toNat) := hide (by rw [← unhide HQ, bl_extract, unhide HS])
  have HX2 : Hid (chI L (bl W ++ bl p) = (n, y, m)) := hide (by rw [← unhide HS]; exact unhide HX)
  have HTl := hide (fun w hd => ctell_any C ⟨L, n, y, ⟨#[]⟩, n, ⟨#[]⟩, M.st0⟩ [] q' false w hn (wE_nil hn) (M.Ok_st0 n) (by omega) (by simp) hd)
  have HN : Hid (∀ w' r1 t1 L1, Ch C ⟨L, n, y, ⟨#[]⟩, n, r1, t1⟩ L1 w' → Tel n ⟨#[]⟩ M.st0 (bl ⟨#[]⟩ ++ bl q') false L1 r1 t1 → Ch C (Fr.nxt ⟨L, 0, 0, W, 0, ⟨#[]⟩, M.st0⟩ p false) (Fr.outs ⟨L, 0, 0, W, 0, ⟨#[]⟩, M.st0⟩ p false) w') := hide (fun w' r1 t1 L1 h ht => by
    obtain ⟨a1, a2, a3⟩ := ht.1 rfl
    rw [nxt_got hE (unhide HX2) (unhide HQ2) a2 a3, outs_got hE (unhide HX2) (unhide HQ2), ← a1]
    exact h)
  obtain ⟨v, q, -, -, -⟩ := hD
  obtain ⟨c0, c1, c2, c3, c4, c5, c6, c7, c8, f0, f1, f2, f3, f4, f5, f6, f7, f8⟩ := q
  dsimp only [M.st0] at c0 c1 c2 c3 c4 c5 c6 c7 c8
  clear hM
  clear hE
  clear hn hyb hm0 hm3 hml hqz HQ HX HQ2 HX2 HS
  go_enter Tryz.func50, Tryz.ntmps50
  go_wp2_with fail
  refine (unhide HEn _).mono ?_
  rintro e' w1 ⟨rfl, hb1⟩
  have HB1 := hide (hb1.mono (Nat.le_of_lt hC))
  have HM1 := hide ((unhide HM).below hb1)
  have HD1 := hide ((unhide HD).below hb1)
  have hC1 := (unhide HD1).lt
  clear hb1 HEn HM HD c0 c1 c2 c3 c4 c5 c6 c7 c8 f0 f1 f2 f3 f4 f5 f6 f7 f8
  go_wp2_with fail
  refine (unhide HCo _ (unhide HM1) (unhide HD1)).mono ?_
  rintro e' w2 ⟨rfl, hD2, hb2⟩
  have HB2 := hide ((unhide HB1).trans hb2)
  clear HB1 HD1 HM1
  have HD2 := hide hD2
  clear hb2 hD2 HCo
  go_wp2_with fail
  refine (unhide HTl _ (unhide HD2)).mono ?_
  rintro e' w3 ⟨rfl, r1, t1, L1, hC3, hB3, hT3⟩
  rw [List.nil_append] at hC3
  have HB3 := hide ((unhide HB2).trans hB3)
  have HE := hide (unhide HN w3 r1 t1 L1 hC3 hT3)
  clear hC3 hB3 hT3 HTl HN HB2 HD2
  go_wp2_with fail
  go_end0
  exact ⟨rfl, unhide HE, unhide HB3⟩

set_option maxHeartbeats 1600000 in
set_option maxRecDepth 100000 in
theorem ctake_got_true (C : Nat) (L W p : ByteArray) (w : World) (hL : L.size ≤ 3000) (hW : W.size < 256) (hp : p.size ≤ 3000) (hM : Mx w) (hD : Ch C ⟨L, 0, 0, W, 0, ⟨#[]⟩, M.st0⟩ [] w) :
    Calls Tryz.prog 50 #[.pointer (some ⟨C, 0, none⟩), .string p, .bool true] w fun e' w' => e' = .returned (.tuple #[]) ∧ Ch C (Fr.nxt ⟨L, 0, 0, W, 0, ⟨#[]⟩, M.st0⟩ p true) (Fr.outs ⟨L, 0, 0, W, 0, ⟨#[]⟩, M.st0⟩ p true) w' ∧ Below C w w' := by
  have HM := hide hM
  have HD := hide hD
  have hC := hD.lt
  obtain ⟨s, hs1⟩ : ∃ s, W ++ p = s := ⟨_, rfl⟩
  have hs2 : W.append p = s := hs1
  have hsz : s.size ≤ 3255 := by rw [← hs1]; simp; omega
  have HS : Hid (bl s = bl W ++ bl p) := hide (by rw [← hs1, bl_app])
  have hbd := chI_bd L (bl s)
  rw [bl_len] at hbd
  obtain ⟨n, y, m, HX⟩ : ∃ n y m, Hid (chI L (bl s) = (n, y, m)) := ⟨_, _, _, hide rfl⟩
  have HCo := hide (fun w h hd => cchoose_any C L W s w hL (by omega) h hd)
  rw [unhide HX] at HCo hbd
  dsimp only at HCo hbd
  obtain ⟨hn, hyb, hm0, hm3, hml⟩ := hbd
  obtain ⟨q', HQ⟩ : ∃ q', Hid (s.extract m.toNat s.size = q') := ⟨_, hide rfl⟩
  have hqz : q'.size ≤ 3255 := by rw [← unhide HQ]; simp; omega
  rw [unhide HQ] at HCo
  have HQ2 : Hid (bl q' = (bl W ++ bl p).drop m.toNat) := hide (by rw [← unhide HQ, bl_extract, unhide HS])
  have HX2 : Hid (chI L (bl W ++ bl p) = (n, y, m)) := hide (by rw [← unhide HS]; exact unhide HX)
  have HTl := hide (fun w hd => ctell_any C ⟨L, n, y, ⟨#[]⟩, n, ⟨#[]⟩, M.st0⟩ [] q' true w hn (wE_nil hn) (M.Ok_st0 n) (by omega) (by simp) hd)
  have HN : Hid (∀ r1 t1 L1, Tel n ⟨#[]⟩ M.st0 (bl ⟨#[]⟩ ++ bl q') true L1 r1 t1 → Fr.outs ⟨L, 0, 0, W, 0, ⟨#[]⟩, M.st0⟩ p true = L1) := hide (fun r1 t1 L1 ht => by
    obtain ⟨a1, a2, a3⟩ := ht.2 rfl
    rw [outs_whole (unhide HX2) (unhide HQ2), ← a1])
  obtain ⟨v, q, -, -, -⟩ := hD
  obtain ⟨c0, c1, c2, c3, c4, c5, c6, c7, c8, f0, f1, f2, f3, f4, f5, f6, f7, f8⟩ := q
  dsimp only [M.st0] at c0 c1 c2 c3 c4 c5 c6 c7 c8
  clear hM
  clear hn hyb hm0 hm3 hml hqz HQ HX HQ2 HX2 HS
  go_enter Tryz.func50, Tryz.ntmps50
  go_wp2_with fail
  refine (unhide HCo _ (unhide HM) (unhide HD)).mono ?_
  rintro e' w2 ⟨rfl, hD2, hb2⟩
  have HB2 := hide hb2
  clear HM HD c0 c1 c2 c3 c4 c5 c6 c7 c8 f0 f1 f2 f3 f4 f5 f6 f7 f8
  have HD2 := hide hD2
  clear hb2 hD2 HCo
  go_wp2_with fail
  refine (unhide HTl _ (unhide HD2)).mono ?_
  rintro e' w3 ⟨rfl, r1, t1, L1, hC3, hB3, hT3⟩
  rw [List.nil_append] at hC3
  have HB3 := hide ((unhide HB2).trans hB3)
  have HE := hide (unhide HN r1 t1 L1 hT3)
  have HC3 := hide hC3
  have hC4 := hC3.lt
  clear hB3 hT3 HTl HN HB2 HD2
  obtain ⟨v3, q3, -, -, -⟩ := hC3
  obtain ⟨c0, c1, c2, c3, c4, c5, c6, c7, c8, f0, f1, f2, f3, f4, f5, f6, f7, f8⟩ := q3
  dsimp only at c0 c1 c2 c3 c4 c5 c6 c7 c8
  go_wp2_with fail
  go_end0
  refine ⟨rfl, ?_, bput9 (unhide HB3) (Nat.le_refl _) (Fr.new L)⟩
  rw [unhide HE]
  exact Ch.put9 (unhide HC3) (Fr.new L)

theorem ctake_any (C : Nat) (f : Fr) (p : ByteArray) (last : Bool) (w : World) (hk : f.chk = 0) (hp : p.size ≤ 3000) (hM : Mx w) (hD : Ch C f [] w) :
    Calls Tryz.prog 50 #[.pointer (some ⟨C, 0, none⟩), .string p, .bool last] w fun e' w' => e' = .returned (.tuple #[]) ∧ Ch C (f.nxt p last) (f.outs p last) w' ∧ Below C w w' := by
  obtain ⟨L, enc, why, W, e, r, g, fr, st⟩ := f
  have h := hk
  unfold Fr.chk at h
  dsimp only at h
  split at h
  · cases h
  rename_i c1
  split at h
  · cases h
  split at h
  · cases h
  rename_i c3
  split at h
  · cases h
  rename_i c4
  split at h
  · rename_i c5
    subst c5
    split at h
    · cases h
    rename_i c6
    have h4 : enc = 0 := by omega
    obtain ⟨rfl, hr0, ht⟩ : e = 0 ∧ r.size = 0 ∧ (g, fr, st) = M.st0 := by
      refine Classical.byContradiction fun q => c4 (.inl ⟨rfl, q⟩)
    have hr := size0 hr0
    subst hr h4
    obtain ⟨rfl, rfl, rfl⟩ : g = 0 ∧ fr = false ∧ st = false := by simpa [M.st0] using ht
    have hW : W.size < 256 := by
      have := enF_few (name := L) (l := bl W) (by simpa using c6)
      rwa [bl_len] at this
    cases last
    · cases hE : enF L (bl W ++ bl p)
      · exact ctake_wait C L W p w (by omega) hW hp hM hE hD
      · exact ctake_got_false C L W p w (by omega) hW hp hM hE hD
    · exact ctake_got_true C L W p w (by omega) hW hp hM hD
  · rename_i c5
    have hW0 : W.size = 0 := Classical.byContradiction fun q => c4 (.inr ⟨c5, .inl q⟩)
    have hee : e = enc := Classical.byContradiction fun q => c4 (.inr ⟨c5, .inr q⟩)
    have hW := size0 hW0
    subst hW hee
    obtain ⟨k1, k2, k3⟩ := chk_ok.1 h
    cases last
    · exact ctake_on_false C L e why e r (g, fr, st) p w c5 k1 k2 k3 hp hD
    · exact ctake_on_true C L e why e r (g, fr, st) p w c5 k1 k2 k3 hp hD
end Go.Proofs.YtaiinjfnkmidbaaGreatDoor

namespace Go.Proofs.YtaiinjfnkmidbaaGreatDoor
open Go.RowKit
set_option linter.unusedVariables false

def InF6 (W : World) (N : Fr) (O : List Int) (a x f : Value) (wx : World) : Prop :=
  ∃ av cv B, a = .slice av O.length cv ∧ x = .pointer (some ⟨B, 0, none⟩) ∧ f = .int .i64 0 ∧ Fb B N wx ∧ Ints wx (.slice av O.length cv) O ∧ Below W.heap.size W wx
theorem InF6.a {W w1 : World} {N : Fr} {O : List Int} {av : Option Addr} {cv : Nat} (HW : Below W.heap.size W w1) (HI : w1.ownsRow W.heap.size 3 1 (.slice av O.length cv) O.length (O.map (Value.int .i64))) :
    InF6 W N O (.slice av O.length cv) (.pointer (some ⟨w1.heap.size, 0, none⟩)) (.int .i64 0) (w1.alloc (.cells #[.string N.L, .int .i64 N.enc, .int .i64 N.why, .string N.W, .int .i64 N.e, .string N.r, .int .i64 N.t.1, .bool N.t.2.1, .bool N.t.2.2] 25)) :=
  ⟨av, cv, w1.heap.size, rfl, rfl, rfl, Fb.new w1 N, (Ints.of_owns HI).below (balloc _ _), bstep HW (balloc _ _)⟩
theorem InF6.b {W w1 : World} {N N0 : Fr} {O : List Int} {av : Option Addr} {cv : Nat} (HW : Below W.heap.size W w1) (HR : Fb W.heap.size N0 w1) (HI : w1.ownsRow (W.heap.size + 1) 3 1 (.slice av O.length cv) O.length (O.map (Value.int .i64))) :
    InF6 W N O (.slice av O.length cv) (.pointer (some ⟨W.heap.size, 0, none⟩)) (.int .i64 0) (((((((((w1.setCell ⟨W.heap.size, 0, none⟩ (.string N.L)).setCell ⟨W.heap.size, 1, none⟩ (.int .i64 N.enc)).setCell ⟨W.heap.size, 2, none⟩ (.int .i64 N.why)).setCell ⟨W.heap.size, 3, none⟩ (.string N.W)).setCell ⟨W.heap.size, 4, none⟩ (.int .i64 N.e)).setCell ⟨W.heap.size, 5, none⟩ (.string N.r)).setCell ⟨W.heap.size, 6, none⟩ (.int .i64 N.t.1)).setCell ⟨W.heap.size, 7, none⟩ (.bool N.t.2.1)).setCell ⟨W.heap.size, 8, none⟩ (.bool N.t.2.2)) :=
  ⟨av, cv, W.heap.size, rfl, rfl, rfl, HR.put9 N, Ints.of_owns (oput9 HI (Nat.lt_succ_self _) N), bput9 HW (Nat.le_refl _) N⟩
theorem chk_sizes {f : Fr} (h : f.chk = 0) : f.L.size ≤ 3000 ∧ f.W.size ≤ 3000 ∧ f.r.size ≤ 3000 := by
  unfold Fr.chk at h
  split at h
  · cases h
  rename_i h1
  split at h
  · cases h
  split at h
  · cases h
  split at h
  · cases h
  rename_i h4
  split at h
  · rename_i h5
    refine ⟨by omega, by omega, ?_⟩
    have : f.e = 0 ∧ f.r.size = 0 ∧ f.t = M.st0 := by
      rcases Classical.em (f.e = 0 ∧ f.r.size = 0 ∧ f.t = M.st0) with a | a
      · exact a
      · exact absurd (.inl ⟨h5, a⟩) h4
    omega
  · have := (chk_ok.1 h).2.1.2
    exact ⟨by omega, by omega, by omega⟩
end Go.Proofs.YtaiinjfnkmidbaaGreatDoor

namespace Go.Proofs.YtaiinjfnkmidbaaGreatDoor
open Go.RowKit
set_option linter.unusedVariables false

theorem nxt_L (f : Fr) (p : ByteArray) (last : Bool) : (f.nxt p last).L = f.L := by
  unfold Fr.nxt
  split
  · rfl
  · split
    · split <;> rfl
    · rfl
theorem Ch.new (w : World) (L : ByteArray) (enc why : Int) (W : ByteArray) (e : Int) (r : ByteArray) (g : Int) (fr st : Bool) : Ch w.heap.size ⟨L, enc, why, W, e, r, (g, fr, st)⟩ [] (w.alloc (.cells #[.string L, .int .i64 enc, .int .i64 why, .string W, .int .i64 e, .string r, .int .i64 g, .bool fr, .bool st, .slice none 0 0] 84)) :=
  ⟨.slice none 0 0, by constructor <;> simp [go_sem], by simp [go_sem], by simp [go_sem], World.ownsRow_nil _ _ _ _⟩
set_option maxHeartbeats 3200000 in
set_option maxRecDepth 100000 in
theorem fdSays : FdSays := by
  intro f p last w hk hp hM
  have hz := chk_sizes hk
  have HCk := hide (fun w h => ckSays f w (by unfold maxLen; omega) (by unfold maxLen; omega) (by unfold maxLen; omega) h)
  rw [hk] at HCk
  have HTk := hide (fun C w hm hd => ctake_any C f p last w hk hp hm hd)
  have HNL := hide (nxt_L f p last)
  have HM := hide hM
  obtain ⟨L, enc, why, W, e, r, g, fr, st⟩ := f
  generalize Fr.nxt ⟨L, enc, why, W, e, r, g, fr, st⟩ p last = N at *
  generalize Fr.outs ⟨L, enc, why, W, e, r, g, fr, st⟩ p last = xs at *
  dsimp only at hz HNL
  have HCl := hide (fun w => clone_any N.L w (by rw [unhide HNL]; omega))
  obtain ⟨nL, nenc, nwhy, nW, ne, nr, ng, nfr, nst⟩ := N
  unfold Fr.v at HCk ⊢
  dsimp only at HCk HCl ⊢
  clear hk hM hz HNL
  go_enter Tryz.func14, Tryz.ntmps14
  go_wp2_with fail
  refine (unhide HCk _ ((unhide HM).below (bstep (balloc w (.cells #[.string L, .int .i64 enc, .int .i64 why, .string W, .int .i64 e, .string r, .int .i64 g, .bool fr, .bool st] 25)) (balloc _ (.cells #[.string ⟨#[]⟩, .int .i64 0, .int .i64 0, .string ⟨#[]⟩, .int .i64 0, .string ⟨#[]⟩, .int .i64 0, .bool false, .bool false] 25))))).mono ?_
  rintro e' w1 ⟨rfl, hb1⟩
  have HR1 := hide ((Fb.new2 w (.cells #[.string L, .int .i64 enc, .int .i64 why, .string W, .int .i64 e, .string r, .int .i64 g, .bool fr, .bool st] 25)).on hb1)
  have HF1 := hide (((Fb.new w ⟨L, enc, why, W, e, r, (g, fr, st)⟩).alloc (.cells #[.string ⟨#[]⟩, .int .i64 0, .int .i64 0, .string ⟨#[]⟩, .int .i64 0, .string ⟨#[]⟩, .int .i64 0, .bool false, .bool false] 25)).on hb1)
  have HB1 := hide (bstep (bstep (balloc w (.cells #[.string L, .int .i64 enc, .int .i64 why, .string W, .int .i64 e, .string r, .int .i64 g, .bool fr, .bool st] 25)) (balloc _ (.cells #[.string ⟨#[]⟩, .int .i64 0, .int .i64 0, .string ⟨#[]⟩, .int .i64 0, .string ⟨#[]⟩, .int .i64 0, .bool false, .bool false] 25))) hb1)
  have hz1 : w.heap.size + 2 ≤ w1.heap.size := by have := hb1.size; simp at this; omega
  clear hb1 HCk
  obtain ⟨c0, c1, c2, c3, c4, c5, c6, c7, c8, f0, f1, f2, f3, f4, f5, f6, f7, f8⟩ := unhide HF1
  dsimp only at c0 c1 c2 c3 c4 c5 c6 c7 c8
  have hBl : w.heap.size < w1.heap.size := by omega
  go_wp2_with fail
  refine (unhide HTk _ _ ((unhide HM).below (bstep (unhide HB1) (balloc w1 (.cells #[.string L, .int .i64 enc, .int .i64 why, .string W, .int .i64 e, .string r, .int .i64 g, .bool fr, .bool st, .slice none 0 0] 84)))) (Ch.new w1 L enc why W e r g fr st)).mono ?_
  rintro e' w2 ⟨rfl, hC2, hB2⟩
  have HB2 := hide ((bstep (unhide HB1) (balloc w1 (.cells #[.string L, .int .i64 enc, .int .i64 why, .string W, .int .i64 e, .string r, .int .i64 g, .bool fr, .bool st, .slice none 0 0] 84))).trans (hB2.mono (by omega)))
  have HR2 := hide (((unhide HR1).alloc (.cells #[.string L, .int .i64 enc, .int .i64 why, .string W, .int .i64 e, .string r, .int .i64 g, .bool fr, .bool st, .slice none 0 0] 84)).below hB2 (by omega))
  have hlt2 := hC2.lt
  have HC2 := hide hC2
  generalize hCq : w1.heap.size = C at *
  clear hCq hB2 HTk HF1 HB1 HR1 c0 c1 c2 c3 c4 c5 c6 c7 c8 f0 f1 f2 f3 f4 f5 f6 f7 f8 hBl
  obtain ⟨v2, q2, -, -, -⟩ := hC2
  obtain ⟨c0, c1, c2, c3, c4, c5, c6, c7, c8, f0, f1, f2, f3, f4, f5, f6, f7, f8⟩ := q2
  dsimp only at c0 c1 c2 c3 c4 c5 c6 c7 c8
  go_wp2_with fail
  refine (unhide HCl _).mono ?_
  rintro e' w3 ⟨rfl, hb3⟩
  have HC3 := hide ((unhide HC2).below hb3)
  have HR3 := hide ((unhide HR2).on hb3)
  have HB3 := hide (bstep (unhide HB2) hb3)
  have hlt3 := (unhide HC3).lt
  have hltR := (unhide HR3).lt
  clear hb3 HC2 HR2 HB2 HCl c0 c1 c2 c3 c4 c5 c6 c7 c8 f0 f1 f2 f3 f4 f5 f6 f7 f8 hlt2
  obtain ⟨v3, q3, h9, g9, hO⟩ := unhide HC3
  obtain ⟨av, cv, hsv⟩ := owns_shape hO
  subst hsv
  have HO := hide hO
  obtain ⟨c0, c1, c2, c3, c4, c5, c6, c7, c8, f0, f1, f2, f3, f4, f5, f6, f7, f8⟩ := q3
  dsimp only at c0 c1 c2 c3 c4 c5 c6 c7 c8
  obtain ⟨b0, b1, b2, b3, b4, b5, b6, b7, b8, g0, g1, g2, g3, g4, g5, g6, g7, g8⟩ := unhide HR3
  dsimp only [Fr.new, M.st0] at b0 b1 b2 b3 b4 b5 b6 b7 b8
  have hne : ¬ (w.heap.size + 1 = C) := by omega
  have hne' : ¬ (C = w.heap.size + 1) := by omega
  clear hO
  go_wp2_with fail
  go_region
  all_goals
    go_wp2_with fail
    refine bodyPost_ret (v := .tuple #[.slice av xs.length cv, .agg #[.string nL, .int .i64 nenc, .int .i64 nwhy, .string nW, .int .i64 ne, .string nr, .int .i64 ng, .bool nfr, .bool nst], .int .i64 0]) (by simp [results, Tryz.results14, go_sem, b0, b1, b2, b3, b4, b5, b6, b7, b8]) rfl ?_
    have HZ9 := bput9 (B := w.heap.size + 1) (bset (unhide HB3) ⟨C, 0, none⟩ (.string nL) (by simp; omega)) (by omega) ⟨nL, nenc, nwhy, nW, ne, nr, (ng, nfr, nst)⟩
    have HO9 := owns_mono (owns_below (oput9 (B := w.heap.size + 1) (owns_set (unhide HO) ⟨C, 0, none⟩ (Nat.lt_succ_self C) (.string nL)) (by omega) ⟨nL, nenc, nwhy, nW, ne, nr, (ng, nfr, nst)⟩) (below_drewN (Below.refl _ _) 1)) (show w.heap.size ≤ C + 1 from by omega)
    exact ⟨.slice av xs.length cv, rfl, HO9, below_drewN HZ9 1⟩
set_option maxHeartbeats 3200000 in
set_option maxRecDepth 100000 in
theorem fdErrs : FdErrs := by
  intro f p last w hL hW hr hpm h hM
  have HCk := hide (fun w h => ckSays f w hL hW hr h)
  have HM := hide hM
  unfold maxLen at hpm
  by_cases hk : f.chk = 0
  · have h3 : 3000 < p.size := by rcases h with h | h; exact absurd hk h; exact h
    rw [hk] at HCk ⊢
    rw [if_pos rfl]
    obtain ⟨L, enc, why, W, e, r, g, fr, st⟩ := f
    unfold Fr.v at HCk ⊢
    dsimp only [Fr.new, M.st0] at HCk ⊢
    clear hk hM hL hW hr h
    go_enter Tryz.func14, Tryz.ntmps14
    go_wp2_with fail
    refine (unhide HCk _ ((unhide HM).below (bstep (balloc w (.cells #[.string L, .int .i64 enc, .int .i64 why, .string W, .int .i64 e, .string r, .int .i64 g, .bool fr, .bool st] 25)) (balloc _ (.cells #[.string ⟨#[]⟩, .int .i64 0, .int .i64 0, .string ⟨#[]⟩, .int .i64 0, .string ⟨#[]⟩, .int .i64 0, .bool false, .bool false] 25))))).mono ?_
    rintro e' w1 ⟨rfl, hb1⟩
    have HR1 := hide ((Fb.new2 w (.cells #[.string L, .int .i64 enc, .int .i64 why, .string W, .int .i64 e, .string r, .int .i64 g, .bool fr, .bool st] 25)).on hb1)
    have HF1 := hide (((Fb.new w ⟨L, enc, why, W, e, r, (g, fr, st)⟩).alloc (.cells #[.string ⟨#[]⟩, .int .i64 0, .int .i64 0, .string ⟨#[]⟩, .int .i64 0, .string ⟨#[]⟩, .int .i64 0, .bool false, .bool false] 25)).on hb1)
    have HB1 := hide (bstep (bstep (balloc w (.cells #[.string L, .int .i64 enc, .int .i64 why, .string W, .int .i64 e, .string r, .int .i64 g, .bool fr, .bool st] 25)) (balloc _ (.cells #[.string ⟨#[]⟩, .int .i64 0, .int .i64 0, .string ⟨#[]⟩, .int .i64 0, .string ⟨#[]⟩, .int .i64 0, .bool false, .bool false] 25))) hb1)
    have hz1 : w.heap.size + 2 ≤ w1.heap.size := by have := hb1.size; simp at this; omega
    clear hb1 HCk
    obtain ⟨b0, b1, b2, b3, b4, b5, b6, b7, b8, g0, g1, g2, g3, g4, g5, g6, g7, g8⟩ := unhide HR1
    dsimp only [Fr.new, M.st0] at b0 b1 b2 b3 b4 b5 b6 b7 b8
    have hlt := (unhide HR1).lt
    go_wp2_with fail
    refine bodyPost_ret (v := .tuple #[.slice none 0 0, .agg #[.string ⟨#[]⟩, .int .i64 0, .int .i64 0, .string ⟨#[]⟩, .int .i64 0, .string ⟨#[]⟩, .int .i64 0, .bool false, .bool false], .int .i64 2]) (by simp [results, Tryz.results14, go_sem, b0, b1, b2, b3, b4, b5, b6, b7, b8]) rfl ?_
    exact ⟨.slice none 0 0, rfl, Ints.nil _, bput9 (B := w.heap.size + 1) (unhide HB1) (by omega) (Fr.new ⟨#[]⟩)⟩
  · rw [if_neg hk]
    have hkb : (f.chk != 0) = true := bne_iff_ne.2 hk
    generalize f.chk = K at *
    obtain ⟨L, enc, why, W, e, r, g, fr, st⟩ := f
    unfold Fr.v at HCk ⊢
    dsimp only [Fr.new, M.st0] at HCk ⊢
    clear hk hM hL hW hr h
    go_enter Tryz.func14, Tryz.ntmps14
    go_wp2_with fail
    refine (unhide HCk _ ((unhide HM).below (bstep (balloc w (.cells #[.string L, .int .i64 enc, .int .i64 why, .string W, .int .i64 e, .string r, .int .i64 g, .bool fr, .bool st] 25)) (balloc _ (.cells #[.string ⟨#[]⟩, .int .i64 0, .int .i64 0, .string ⟨#[]⟩, .int .i64 0, .string ⟨#[]⟩, .int .i64 0, .bool false, .bool false] 25))))).mono ?_
    rintro e' w1 ⟨rfl, hb1⟩
    have HR1 := hide ((Fb.new2 w (.cells #[.string L, .int .i64 enc, .int .i64 why, .string W, .int .i64 e, .string r, .int .i64 g, .bool fr, .bool st] 25)).on hb1)
    have HF1 := hide (((Fb.new w ⟨L, enc, why, W, e, r, (g, fr, st)⟩).alloc (.cells #[.string ⟨#[]⟩, .int .i64 0, .int .i64 0, .string ⟨#[]⟩, .int .i64 0, .string ⟨#[]⟩, .int .i64 0, .bool false, .bool false] 25)).on hb1)
    have HB1 := hide (bstep (bstep (balloc w (.cells #[.string L, .int .i64 enc, .int .i64 why, .string W, .int .i64 e, .string r, .int .i64 g, .bool fr, .bool st] 25)) (balloc _ (.cells #[.string ⟨#[]⟩, .int .i64 0, .int .i64 0, .string ⟨#[]⟩, .int .i64 0, .string ⟨#[]⟩, .int .i64 0, .bool false, .bool false] 25))) hb1)
    have hz1 : w.heap.size + 2 ≤ w1.heap.size := by have := hb1.size; simp at this; omega
    clear hb1 HCk
    obtain ⟨b0, b1, b2, b3, b4, b5, b6, b7, b8, g0, g1, g2, g3, g4, g5, g6, g7, g8⟩ := unhide HR1
    dsimp only [Fr.new, M.st0] at b0 b1 b2 b3 b4 b5 b6 b7 b8
    have hlt := (unhide HR1).lt
    go_wp2_with fail
    refine bodyPost_ret (v := .tuple #[.slice none 0 0, .agg #[.string ⟨#[]⟩, .int .i64 0, .int .i64 0, .string ⟨#[]⟩, .int .i64 0, .string ⟨#[]⟩, .int .i64 0, .bool false, .bool false], .int .i64 K]) (by simp [results, Tryz.results14, go_sem, b0, b1, b2, b3, b4, b5, b6, b7, b8]) rfl ?_
    exact ⟨.slice none 0 0, rfl, Ints.nil _, bput9 (B := w.heap.size + 1) (unhide HB1) (by omega) (Fr.new ⟨#[]⟩)⟩
end Go.Proofs.YtaiinjfnkmidbaaGreatDoor
