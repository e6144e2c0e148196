/- The contract of the reference's isLetter and ScanOf: what a text says of itself; nothing that was there is written. Condition: at most 3000 bytes. -/
import Derived.Test.YthhjfedegbldfaeDoorMathP
import Derived.Deep.CutBlock
import Derived.Deep.DeepCutAuto
namespace Go.Proofs.YthhjfedegbldfaeDoor
open Go.RowKit
set_option linter.unusedVariables false

set_option maxHeartbeats 400000 in
set_option maxRecDepth 100000 in
theorem isLetter_any (c : Int) (w : World) (h : 0 ≤ c ∧ c < 256) : Calls Tryd.prog 46 #[.int .u8 c] w fun e w' => e = .returned (.bool (isLet c)) ∧ w' = w := by
  have H1 := hide (fun w => between_any c 97 122 w)
  have H2 := hide (fun w => between_any c 65 90 w)
  unfold isLet
  generalize (decide (97 ≤ c) && decide (c ≤ 122)) = b1 at *
  generalize (decide (65 ≤ c) && decide (c ≤ 90)) = b2 at *
  cases b1
  all_goals
    go_enter Tryd.func46, Tryd.ntmps46
    go_wp2_with fail
    refine (unhide H1 _).mono ?_
    rintro e w1 ⟨rfl, hw⟩
    replace hw := hw.symm
    subst hw
    go_wp2_with fail
    first
    | (go_ret; exact ⟨rfl, rfl⟩)
    | (refine (unhide H2 _).mono ?_
       rintro e w1 ⟨rfl, hw⟩
       replace hw := hw.symm
       subst hw
       go_wp2_with fail
       go_ret
       exact ⟨rfl, rfl⟩)
theorem cut_few (l : List Int) (i j : Nat) : (cut l i j).length ≤ l.length := by
  unfold cut; rw [List.length_take, List.length_drop]; omega
theorem attrI_few (l : List Int) (k : Nat) : (attrI l k).1.1.length ≤ l.length ∧ (attrI l k).1.2.length ≤ l.length := by
  have h := fun i j => cut_few l i j
  unfold attrI
  simp only
  split
  · simp
  · split
    · exact ⟨by simp only [fd_len]; exact h _ _, by simp⟩
    · split
      · split
        · simp
        · exact ⟨by simp only [fd_len]; exact h _ _, by simp only [fd_len]; exact h _ _⟩
      · exact ⟨by simp only [fd_len]; exact h _ _, by simp only [fd_len]; exact h _ _⟩
theorem attrsN_few (l : List Int) : ∀ (n k : Nat), ∀ x ∈ (attrsN n l k).1, x.1.length ≤ l.length ∧ x.2.length ≤ l.length
  | 0, k, x, hx => by simp [attrsN] at hx
  | n + 1, k, x, hx => by
    unfold attrsN at hx
    split at hx
    · simp only [List.mem_cons] at hx
      rcases hx with rfl | hx
      · exact attrI_few l k
      · exact attrsN_few l n _ x hx
    · simp at hx
theorem txts_few {l : List Int} {k n : Nat} (h : l.length ≤ n) : ∀ x ∈ txts (attrsI l k).1, x.2.size ≤ n := by
  intro x hx
  unfold txts at hx
  rw [List.mem_map] at hx
  obtain ⟨y, hy, rfl⟩ := hx
  have := attrsN_few l _ k y hy
  rw [strOfNums_size]; omega
theorem fbI_le (l : List Int) : ∀ (n i : Nat), l.length - i ≤ n → i ≤ l.length → fbI l i ≤ l.length
  | 0, i, h, hi => by rw [fbI_end (by omega)]; exact hi
  | n + 1, i, h, hi => by
    by_cases hl : i < l.length
    · cases hb : bgn l i b3
      · rw [fbI_miss hl hb]; exact fbI_le l n (i + 1) (by omega) (by omega)
      · rw [fbI_hit hl hb]; exact hi
    · rw [fbI_end (by omega)]; exact hi
theorem nxtP_4 {l : List Int} {k : Nat} (h : bgn l k b4 = true) : nxtP l k = fbI l (k + 2) + 3 := by unfold nxtP; rw [if_pos h]
theorem nxtP_m {l : List Int} {k : Nat} (h : bgn l k b4 = false) (hm : isMeta l k = true) : nxtP l k = (attrsI l (k + 5)).2 + 1 := by unfold nxtP; rw [if_neg (by simp [h]), if_pos hm]
theorem nxtP_n {l : List Int} {k : Nat} (h : bgn l k b4 = false) (hm : isMeta l k = false) (hn : 0 < nmAt l k) : nxtP l k = (attrsI l (run pVal l (nmAt l k))).2 + 1 := by unfold nxtP; rw [if_neg (by simp [h]), if_neg (by simp [hm]), if_pos hn]
theorem nxtP_d {l : List Int} {k : Nat} (h : bgn l k b4 = false) (hm : isMeta l k = false) (hn : ¬ 0 < nmAt l k) (hd : isDecl l k = true) : nxtP l k = run (pNot 62) l k + 1 := by unfold nxtP; rw [if_neg (by simp [h]), if_neg (by simp [hm]), if_neg hn, if_pos hd]
theorem nxtP_0 {l : List Int} {k : Nat} (h : bgn l k b4 = false) (hm : isMeta l k = false) (hn : ¬ 0 < nmAt l k) (hd : isDecl l k = false) : nxtP l k = k + 1 := by unfold nxtP; rw [if_neg (by simp [h]), if_neg (by simp [hm]), if_neg hn, if_neg (by simp [hd])]
theorem no_meta {l : List Int} {k : Nat} (hm : isMeta l k = false) : ¬ (bgn l k b4 = false ∧ isMeta l k = true ∧ metaAt l k ≠ 0) := fun h => by rw [hm] at h; cases h.2.1

set_option maxHeartbeats 25600000 in
set_option maxRecDepth 100000 in
theorem scanOf_any (s : ByteArray) (w : World) (hs : s.size ≤ 3000) :
    Calls Tryd.prog 23 #[.string s] w fun e w' => e = .returned (.int .i64 (scnI (bl s))) ∧ Below w.heap.size w w' := by
  obtain ⟨R, HR0⟩ : ∃ R, Hid (scnI (bl s) = R) := ⟨_, hide rfl⟩
  rw [unhide HR0]
  go_enter Tryd.func23, Tryd.ntmps23
  go_upto_if 13 with fail
  go_cut [0] (fun v wx => ∃ t : ByteArray, v = .string t ∧ bl t = (bl s).take 256 ∧ wx = w)
  case first =>
    by_cases h : 256 < s.size
    · go_wp2_with fail
      go_meet
      case rel => exact ⟨s.extract 0 256, rfl, bl_take s 256, rfl⟩
    · go_wp2_with fail
      go_meet
      case rel => exact ⟨s, rfl, (List.take_of_length_le (by rw [bl_len]; omega)).symm, rfl⟩
  obtain ⟨t, rfl, ht, hwc⟩ := hcut
  replace hwc := hwc.symm
  subst hwc
  have HS : Hid (scnF (bl t) 0 = R) := hide (by rw [← unhide HR0]; unfold scnI; rw [ht])
  have hts : t.size ≤ 256 := by rw [← bl_len, ht, List.length_take]; omega
  clear ht hs HR0
  have hl := bl_len t
  have G4 := hide (fun (k : Nat) (hk : k ≤ t.size) (w : World) => beginsAt_any t k ⟨#[60, 33, 45, 45]⟩ w hk (by omega) (by decide))
  rw [show bl ⟨#[60, 33, 45, 45]⟩ = b4 from by decide] at G4
  have G3 := hide (fun (k : Nat) (hk : k ≤ t.size) (w : World) => beginsAt_any t k ⟨#[45, 45, 62]⟩ w hk (by omega) (by decide))
  rw [show bl ⟨#[45, 45, 62]⟩ = b3 from by decide] at G3
  have G5 := hide (fun (k : Nat) (hk : k ≤ t.size) (w : World) => beginsAt_any t k ⟨#[60, 109, 101, 116, 97]⟩ w hk (by omega) (by decide))
  rw [show bl ⟨#[60, 109, 101, 116, 97]⟩ = b5 from by decide] at G5
  have GE := hide (fun (k : Nat) (hk : k ≤ t.size) (w : World) => beginsAt_any t k ⟨#[60, 33]⟩ w hk (by omega) (by decide))
  rw [show bl ⟨#[60, 33]⟩ = bE from by decide] at GE
  have GS := hide (fun (k : Nat) (hk : k ≤ t.size) (w : World) => beginsAt_any t k ⟨#[60, 47]⟩ w hk (by omega) (by decide))
  rw [show bl ⟨#[60, 47]⟩ = bS from by decide] at GS
  have GQ := hide (fun (k : Nat) (hk : k ≤ t.size) (w : World) => beginsAt_any t k ⟨#[60, 63]⟩ w hk (by omega) (by decide))
  rw [show bl ⟨#[60, 63]⟩ = bQ from by decide] at GQ
  go_wp2_with fail
  go_loopw [3] (fun i wr => ∃ K : Nat, i = .int .i64 K ∧ K ≤ t.size + 5 ∧ Below w.heap.size w wr ∧ Hid (scnF (bl t) K = R)) (fun i _ => t.size - (intOf i).toNat)
  case atStart => exact ⟨0, rfl, by omega, Below.refl _ _, HS⟩
  case round =>
    obtain ⟨K, rfl, hK5, hB, HC⟩ := hrel
    have HB := hide hB
    clear hB HS
    by_cases hK : K < t.size
    · cases hb4 : bgn (bl t) K b4
      · have HG := hide (unhide G4 K (by omega))
        rw [hb4] at HG
        go_wp2_with fail
        refine (unhide HG _).mono ?_
        rintro e w1 ⟨rfl, hb1⟩
        have HB1 := hide (bstep (unhide HB) hb1)
        clear hb1
        have HG5 := hide (unhide G5 K (by omega))
        go_upto_region 10 with fail
        go_cut [62] (fun b wx => b = .bool (isMeta (bl t) K) ∧ Below w.heap.size w wx)
        case first =>
          as_aux_lemma =>
            cases hb5 : bgn (bl t) K b5
            · rw [hb5] at HG5
              have HM0 : Hid (isMeta (bl t) K = false) := hide (by unfold isMeta; rw [hb5]; rfl)
              clear hb5
              go_wp2_with fail
              refine (unhide HG5 _).mono ?_
              rintro e w2 ⟨rfl, hbx⟩
              have HB2 := hide (bstep (unhide HB1) hbx)
              clear hbx
              go_wp2_with fail
              go_meet
              case rel => exact ⟨by rw [unhide HM0], unhide HB2⟩
            · rw [hb5] at HG5
              by_cases h5 : K + 5 < t.size
              · have hcb5 := u8_lt t h5
                have HGc := hide (bl_at h5)
                obtain ⟨c5, hcc5⟩ : ∃ c : Int, (t[K + 5].toNat : Int) = c := ⟨_, rfl⟩
                rw [hcc5] at hcb5 HGc
                have W := isWhite_any c5
                cases hw : wh c5
                · rw [hw] at W
                  by_cases h47 : c5 = 47
                  · subst h47
                    have HM0 : Hid (isMeta (bl t) K = true) := hide (by unfold isMeta; rw [hb5, unhide HGc, decide_eq_true (by omega)]; rfl)
                    clear hb5 hw
                    go_wp2_with fail
                    refine (unhide HG5 _).mono ?_
                    rintro e w2 ⟨rfl, hbx⟩
                    have HB2 := hide (bstep (unhide HB1) hbx)
                    clear hbx
                    go_wp2_with fail
                    refine (W _ hcb5).mono ?_
                    rintro e wz ⟨rfl, hwz⟩
                    replace hwz := hwz.symm
                    subst hwz
                    go_wp2_with fail
                    go_meet
                    case rel => exact ⟨by rw [unhide HM0], unhide HB2⟩
                  · have h47e := ne_eq h47
                    have HM0 : Hid (isMeta (bl t) K = false) := hide (by unfold isMeta; rw [hb5, unhide HGc, decide_eq_true (by omega), pAhead_n hw h47e]; rfl)
                    clear hb5 hw h47
                    go_wp2_with fail
                    refine (unhide HG5 _).mono ?_
                    rintro e w2 ⟨rfl, hbx⟩
                    have HB2 := hide (bstep (unhide HB1) hbx)
                    clear hbx
                    go_wp2_with fail
                    refine (W _ hcb5).mono ?_
                    rintro e wz ⟨rfl, hwz⟩
                    replace hwz := hwz.symm
                    subst hwz
                    go_wp2_with fail
                    go_meet
                    case rel => exact ⟨by rw [unhide HM0], unhide HB2⟩
                · rw [hw] at W
                  have HM0 : Hid (isMeta (bl t) K = true) := hide (by unfold isMeta; rw [hb5, unhide HGc, decide_eq_true (by omega), pAhead_w hw]; rfl)
                  clear hb5 hw
                  go_wp2_with fail
                  refine (unhide HG5 _).mono ?_
                  rintro e w2 ⟨rfl, hbx⟩
                  have HB2 := hide (bstep (unhide HB1) hbx)
                  clear hbx
                  go_wp2_with fail
                  refine (W _ hcb5).mono ?_
                  rintro e wz ⟨rfl, hwz⟩
                  replace hwz := hwz.symm
                  subst hwz
                  go_wp2_with fail
                  go_meet
                  case rel => exact ⟨by rw [unhide HM0], unhide HB2⟩
              · have HM0 : Hid (isMeta (bl t) K = false) := hide (by unfold isMeta; rw [hb5, decide_eq_false (by omega)]; rfl)
                clear hb5
                go_wp2_with fail
                refine (unhide HG5 _).mono ?_
                rintro e w2 ⟨rfl, hbx⟩
                have HB2 := hide (bstep (unhide HB1) hbx)
                clear hbx
                go_wp2_with fail
                go_meet
                case rel => exact ⟨by rw [unhide HM0], unhide HB2⟩
        obtain ⟨rfl, hB2⟩ := hcut
        have HB2 := hide hB2
        clear hB2
        generalize hwd : wc = w2 at *
        clear hwd
        cases hm : isMeta (bl t) K
        · have hcb0 := u8_lt t hK
          have HG0 := hide (bl_at hK)
          obtain ⟨c0, hcc0⟩ : ∃ c : Int, (t[K].toNat : Int) = c := ⟨_, rfl⟩
          rw [hcc0] at hcb0 HG0
          go_upto_if 80 with fail
          go_cut [8] (fun nmv wx => nmv = .int .i64 (nmAt (bl t) K : Int) ∧ wx = w2)
          case first =>
            as_aux_lemma =>
              by_cases h60 : c0 = 60
              · subst h60
                by_cases h1 : K + 1 < t.size
                · have hcb1 := u8_lt t h1
                  have HG1 := hide (bl_at h1)
                  obtain ⟨c1, hcc1⟩ : ∃ c : Int, (t[K + 1].toNat : Int) = c := ⟨_, rfl⟩
                  rw [hcc1] at hcb1 HG1
                  have L1 := isLetter_any c1
                  cases hl1 : isLet c1
                  · rw [hl1] at L1
                    by_cases h47 : c1 = 47
                    · subst h47
                      by_cases h2 : K + 2 < t.size
                      · have hcb2 := u8_lt t h2
                        have HG2 := hide (bl_at h2)
                        obtain ⟨c2, hcc2⟩ : ∃ c : Int, (t[K + 2].toNat : Int) = c := ⟨_, rfl⟩
                        rw [hcc2] at hcb2 HG2
                        have L2 := isLetter_any c2
                        cases hl2 : isLet c2
                        · rw [hl2] at L2
                          have HNm : Hid (nmAt (bl t) K = 0) := hide (by unfold nmAt; rw [if_pos (unhide HG0), unhide HG1, unhide HG2, if_neg (by rw [hl2]; simp), if_neg (by rw [hl1]; simp)])
                          go_wp2_with fail
                          refine (L1 _ hcb1).mono ?_
                          rintro e wz ⟨rfl, hwz⟩
                          replace hwz := hwz.symm
                          subst hwz
                          go_wp2_with fail
                          refine (L2 _ hcb2).mono ?_
                          rintro e wz ⟨rfl, hwz⟩
                          replace hwz := hwz.symm
                          subst hwz
                          go_wp2_with fail
                          go_meet
                          case rel => exact ⟨by rw [unhide HNm]; rfl, rfl⟩
                        · rw [hl2] at L2
                          have HNm : Hid (nmAt (bl t) K = K + 2) := hide (by unfold nmAt; rw [if_pos (unhide HG0), unhide HG1, unhide HG2, if_pos ⟨by omega, rfl, hl2⟩])
                          go_wp2_with fail
                          refine (L1 _ hcb1).mono ?_
                          rintro e wz ⟨rfl, hwz⟩
                          replace hwz := hwz.symm
                          subst hwz
                          go_wp2_with fail
                          refine (L2 _ hcb2).mono ?_
                          rintro e wz ⟨rfl, hwz⟩
                          replace hwz := hwz.symm
                          subst hwz
                          go_wp2_with fail
                          go_meet
                          case rel => exact ⟨by rw [unhide HNm]; go_num, rfl⟩
                      · have HNm : Hid (nmAt (bl t) K = 0) := hide (by unfold nmAt; rw [if_pos (unhide HG0), unhide HG1, if_neg (by omega), if_neg (by rw [hl1]; simp)])
                        go_wp2_with fail
                        refine (L1 _ hcb1).mono ?_
                        rintro e wz ⟨rfl, hwz⟩
                        replace hwz := hwz.symm
                        subst hwz
                        go_wp2_with fail
                        go_meet
                        case rel => exact ⟨by rw [unhide HNm]; rfl, rfl⟩
                    · have h47e := ne_eq h47
                      have HNm : Hid (nmAt (bl t) K = 0) := hide (by unfold nmAt; rw [if_pos (unhide HG0), unhide HG1, if_neg (fun h => h47 h.2.1), if_neg (by rw [hl1]; simp)])
                      clear h47
                      by_cases h2 : K + 2 < t.size
                      all_goals
                        go_wp2_with fail
                        refine (L1 _ hcb1).mono ?_
                        rintro e wz ⟨rfl, hwz⟩
                        replace hwz := hwz.symm
                        subst hwz
                        go_wp2_with fail
                        go_meet
                        case rel => exact ⟨by rw [unhide HNm]; rfl, rfl⟩
                  · rw [hl1] at L1
                    have h47 : c1 ≠ 47 := fun h => by rw [h] at hl1; revert hl1; decide
                    have h47e := ne_eq h47
                    have HNm : Hid (nmAt (bl t) K = K + 1) := hide (by unfold nmAt; rw [if_pos (unhide HG0), unhide HG1, if_neg (fun h => h47 h.2.1), if_pos ⟨by omega, hl1⟩])
                    clear h47
                    by_cases h2 : K + 2 < t.size
                    all_goals
                      go_wp2_with fail
                      refine (L1 _ hcb1).mono ?_
                      rintro e wz ⟨rfl, hwz⟩
                      replace hwz := hwz.symm
                      subst hwz
                      go_wp2_with fail
                      go_meet
                      case rel => exact ⟨by rw [unhide HNm]; go_num, rfl⟩
                · have HNm : Hid (nmAt (bl t) K = 0) := hide (by unfold nmAt; rw [if_pos (unhide HG0), if_neg (by omega), if_neg (by omega)])
                  go_wp2_with fail
                  go_meet
                  case rel => exact ⟨by rw [unhide HNm]; rfl, rfl⟩
              · have h60e := ne_eq h60
                have HNm : Hid (nmAt (bl t) K = 0) := hide (by unfold nmAt; rw [if_neg (by rw [unhide HG0]; exact h60)])
                go_wp2_with fail
                go_meet
                case rel => exact ⟨by rw [unhide HNm]; rfl, rfl⟩
          obtain ⟨rfl, hwc⟩ := hcut
          replace hwc := hwc.symm
          subst hwc
          by_cases hn0 : 0 < nmAt (bl t) K
          · as_aux_lemma =>
              have hn := nmAt_le hn0
              have HNx := hide (nxtP_n hb4 hm hn0)
              have HMn := hide (no_meta hm)
              obtain ⟨nm, HNm⟩ : ∃ nm, Hid (nmAt (bl t) K = nm) := ⟨_, hide rfl⟩
              rw [unhide HNm] at hn0 hn HNx ⊢
              clear hb4 hm
              go_upto_block 4 with fail
              go_cut [8] (fun i wx => i = .int .i64 (run pVal (bl t) (nm) : Int) ∧ wx = w2)
              case first =>
                go_wp2_with fail
                go_loop [8] (fun i => ∃ k : Nat, i = .int .i64 k ∧ k ≤ t.size ∧ Hid (run pVal (bl t) k = run pVal (bl t) (nm))) (fun i => t.size - (intOf i).toNat)
                case atStart => exact ⟨nm, by go_num, by omega, hide rfl⟩
                case round =>
                  obtain ⟨k, rfl, hk, HR⟩ := hrel
                  by_cases hlt : k < t.size
                  · have hcb := u8_lt t hlt
                    have HG := hide (bl_at hlt)
                    obtain ⟨c, hcc⟩ : ∃ c : Int, (t[k].toNat : Int) = c := ⟨_, rfl⟩
                    rw [hcc] at hcb HG
                    by_cases h62 : c = 62
                    · subst h62
                      have HE : Hid (run pVal (bl t) (nm) = k) := hide (by rw [← unhide HR, run_stop (by omega) (by rw [unhide HG]; exact (by decide))])
                      go_wp2_with fail
                      go_meet
                      case rel => exact ⟨by rw [unhide HE], rfl⟩
                    · have h62e := ne_eq h62
                      have h62n := ne_ne h62
                      have W := isWhite_any c
                      cases hw : wh c
                      · rw [hw] at W
                        have HR' : Hid (run pVal (bl t) (k + 1) = run pVal (bl t) (nm)) := hide (by rw [← run_step (by omega) (by rw [unhide HG]; exact pVal_n h62e hw), unhide HR])
                        go_wp2_with fail
                        refine (W _ hcb).mono ?_
                        rintro e wz ⟨rfl, hwz⟩
                        replace hwz := hwz.symm
                        subst hwz
                        go_wp2_with fail
                        go_round
                        case rel => exact ⟨k + 1, by go_num, by omega, HR'⟩
                        case measure => simp [intOf]; omega
                      · rw [hw] at W
                        have HE : Hid (run pVal (bl t) (nm) = k) := hide (by rw [← unhide HR, run_stop (by omega) (by rw [unhide HG]; exact pVal_w hw)])
                        go_wp2_with fail
                        refine (W _ hcb).mono ?_
                        rintro e wz ⟨rfl, hwz⟩
                        replace hwz := hwz.symm
                        subst hwz
                        go_wp2_with fail
                        go_meet
                        case rel => exact ⟨by rw [unhide HE], rfl⟩
                  · have HE : Hid (run pVal (bl t) (nm) = k) := hide (by rw [← unhide HR, run_end (by omega)])
                    go_wp2_with fail
                    go_meet
                    case rel => exact ⟨by rw [unhide HE], rfl⟩
              obtain ⟨rfl, hwc⟩ := hcut
              replace hwc := hwc.symm
              subst hwc
              have ha := run_le pVal (bl t) (i := nm) (by omega)
              have ga := run_ge pVal (bl t) nm
              obtain ⟨a, HA⟩ : ∃ a, Hid (run pVal (bl t) nm = a) := ⟨_, hide rfl⟩
              rw [unhide HA] at ha ga HNx ⊢
              have HAt := hide (fun w => attrsAt_any t a w (by omega) (by omega))
              have hle := attrsI_le (bl t) _ a (Nat.le_refl _) (by omega)
              obtain ⟨Lx, tx, HLx⟩ : ∃ Lx tx, Hid (attrsI (bl t) a = (Lx, tx)) := ⟨_, _, hide rfl⟩
              rw [unhide HLx] at HAt hle HNx
              simp only at HAt hle HNx
              have HE : Hid (scnF (bl t) (tx + 1) = R) := hide (by rw [← scnF_next (by omega) (unhide HMn) (unhide HNx), unhide HC])
              clear HLx
              go_wp2_with fail
              refine (unhide HAt _).mono ?_
              rintro e w3 ⟨va, rfl, hOa, hb3⟩
              have HB3 := hide (bstep (unhide HB2) hb3)
              obtain ⟨aa, ca, hsa⟩ := owns_shape hOa
              subst hsa
              clear hb3 hOa
              go_wp2_with fail
              go_roundw
              case rel => exact ⟨tx + 1, by go_num, by omega, unhide HB3, HE⟩
              case measure => simp [intOf]; omega
          · as_aux_lemma =>
              have hz0 : nmAt (bl t) K = 0 := by omega
              rw [hz0]
              have HD0 := hide (fun h => nxtP_0 (l := bl t) (k := K) hb4 hm hn0 h)
              have HD1 := hide (fun h => nxtP_d (l := bl t) (k := K) hb4 hm hn0 h)
              have HMn := hide (no_meta hm)
              clear hb4 hm hn0 hz0
              go_upto_region 27 with fail
              go_cut [157] (fun b wx => b = .bool (isDecl (bl t) K) ∧ Below w.heap.size w wx)
              case first =>
                have HGE := hide (unhide GE K (by omega))
                have HGS := hide (unhide GS K (by omega))
                have HGQ := hide (unhide GQ K (by omega))
                have HDc : Hid (isDecl (bl t) K = (bgn (bl t) K bE || (bgn (bl t) K bS || bgn (bl t) K bQ))) := hide rfl
                generalize bgn (bl t) K bE = x1 at *
                generalize bgn (bl t) K bS = x2 at *
                generalize bgn (bl t) K bQ = x3 at *
                cases x1
                · cases x2
                  · go_wp2_with fail
                    refine (unhide HGE _).mono ?_
                    rintro e w5 ⟨rfl, hbx⟩
                    have HB5 := hide (bstep (unhide HB2) hbx)
                    clear hbx
                    go_wp2_with fail
                    refine (unhide HGS _).mono ?_
                    rintro e w6 ⟨rfl, hbx⟩
                    have HB6 := hide (bstep (unhide HB5) hbx)
                    clear hbx
                    go_wp2_with fail
                    refine (unhide HGQ _).mono ?_
                    rintro e w7 ⟨rfl, hbx⟩
                    have HB7 := hide (bstep (unhide HB6) hbx)
                    clear hbx
                    go_wp2_with fail
                    go_meet
                    case rel => exact ⟨by rw [unhide HDc]; rfl, unhide HB7⟩
                  · go_wp2_with fail
                    refine (unhide HGE _).mono ?_
                    rintro e w5 ⟨rfl, hbx⟩
                    have HB5 := hide (bstep (unhide HB2) hbx)
                    clear hbx
                    go_wp2_with fail
                    refine (unhide HGS _).mono ?_
                    rintro e w6 ⟨rfl, hbx⟩
                    have HB6 := hide (bstep (unhide HB5) hbx)
                    clear hbx
                    go_wp2_with fail
                    go_meet
                    case rel => exact ⟨by rw [unhide HDc]; rfl, unhide HB6⟩
                · go_wp2_with fail
                  refine (unhide HGE _).mono ?_
                  rintro e w5 ⟨rfl, hbx⟩
                  have HB5 := hide (bstep (unhide HB2) hbx)
                  clear hbx
                  go_wp2_with fail
                  go_meet
                  case rel => exact ⟨by rw [unhide HDc]; rfl, unhide HB5⟩
              obtain ⟨rfl, hBd⟩ := hcut
              have HBd := hide hBd
              clear hBd
              cases hd : isDecl (bl t) K
              · have HE : Hid (scnF (bl t) (K + 1) = R) := hide (by rw [← scnF_next (by omega) (unhide HMn) (unhide HD0 hd), unhide HC])
                clear hd
                go_wp2_with fail
                go_roundw
                case rel => exact ⟨K + 1, by go_num, by omega, unhide HBd, HE⟩
                case measure => simp [intOf]; omega
              · have HNx := hide (unhide HD1 hd)
                clear hd
                generalize hwd : wc = wd at *
                clear hwd
                go_upto_block 6 with fail
                go_cut [3] (fun i wx => i = .int .i64 (run (pNot 62) (bl t) (K) : Int) ∧ wx = wd)
                case first =>
                  go_wp2_with fail
                  go_loop [3] (fun i => ∃ k : Nat, i = .int .i64 k ∧ k ≤ t.size ∧ Hid (run (pNot 62) (bl t) k = run (pNot 62) (bl t) (K))) (fun i => t.size - (intOf i).toNat)
                  case atStart => exact ⟨K, by go_num, by omega, hide rfl⟩
                  case round =>
                    obtain ⟨k, rfl, hk, HR⟩ := hrel
                    by_cases hlt : k < t.size
                    · have hcb := u8_lt t hlt
                      have HG := hide (bl_at hlt)
                      obtain ⟨c, hcc⟩ : ∃ c : Int, (t[k].toNat : Int) = c := ⟨_, rfl⟩
                      rw [hcc] at hcb HG
                      by_cases h62 : c = 62
                      · subst h62
                        have HE : Hid (run (pNot 62) (bl t) (K) = k) := hide (by rw [← unhide HR, run_stop (by omega) (by rw [unhide HG]; exact (by decide))])
                        go_wp2_with fail
                        go_meet
                        case rel => exact ⟨by rw [unhide HE], rfl⟩
                      · have h62e := ne_eq h62
                        have h62n := ne_ne h62
                        have HR' : Hid (run (pNot 62) (bl t) (k + 1) = run (pNot 62) (bl t) (K)) := hide (by rw [← run_step (by omega) (by rw [unhide HG]; exact pNot_n h62e), unhide HR])
                        go_wp2_with fail
                        go_round
                        case rel => exact ⟨k + 1, by go_num, by omega, HR'⟩
                        case measure => simp [intOf]; omega
                    · have HE : Hid (run (pNot 62) (bl t) (K) = k) := hide (by rw [← unhide HR, run_end (by omega)])
                      go_wp2_with fail
                      go_meet
                      case rel => exact ⟨by rw [unhide HE], rfl⟩
                obtain ⟨rfl, hwc⟩ := hcut
                replace hwc := hwc.symm
                subst hwc
                have ha := run_le (pNot 62) (bl t) (i := K) (by omega)
                have ga := run_ge (pNot 62) (bl t) K
                obtain ⟨a, HA⟩ : ∃ a, Hid (run (pNot 62) (bl t) K = a) := ⟨_, hide rfl⟩
                rw [unhide HA] at ha ga HNx ⊢
                have HE : Hid (scnF (bl t) (a + 1) = R) := hide (by rw [← scnF_next (by omega) (unhide HMn) (unhide HNx), unhide HC])
                go_wp2_with fail
                go_roundw
                case rel => exact ⟨a + 1, by go_num, by omega, unhide HBd, HE⟩
                case measure => simp [intOf]; omega
        · as_aux_lemma =>
            have h5 : K + 5 < t.size := by have := hm; unfold isMeta at this; simp at this; omega
            have HAt := hide (fun w => attrsAt_any t (K + 5) w (by omega) (by omega))
            have hle := attrsI_le (bl t) _ (K + 5) (Nat.le_refl _) (by omega)
            have HF := hide (txts_few (l := bl t) (k := K + 5) (n := 3000) (by omega))
            have HMv : Hid (metaAt (bl t) K = metaI (txts (attrsI (bl t) (K + 5)).1)) := hide rfl
            have HNx := hide (nxtP_m hb4 hm)
            have HSm := hide (fun h => scnF_meta (l := bl t) (k := K) (by omega) hb4 hm h)
            have HSn := hide (fun (h : metaAt (bl t) K = 0) => scnF_next (l := bl t) (k := K) (by omega) (fun q => q.2.2 h) (nxtP_m hb4 hm))
            obtain ⟨Lx, tx, HLx⟩ : ∃ Lx tx, Hid (attrsI (bl t) (K + 5) = (Lx, tx)) := ⟨_, _, hide rfl⟩
            rw [unhide HLx] at HAt hle HF HMv HNx HSn
            simp only at HAt hle
            clear hb4 hm HLx
            go_wp2_with fail
            refine (unhide HAt _).mono ?_
            rintro e w3 ⟨va, rfl, hOa, hb3⟩
            have HB3 := hide (bstep (unhide HB2) hb3)
            have HAs := hide (Ats.of_owns hOa)
            obtain ⟨aa, ca, hsa⟩ := owns_shape hOa
            subst hsa
            clear hb3 hOa
            have HMe := hide (metaOf_any w3 (unhide HAs) (unhide HF))
            rw [← unhide HMv] at HMe
            generalize metaAt (bl t) K = n at *
            go_wp2_with fail
            refine (unhide HMe).mono ?_
            rintro e w4 ⟨rfl, hb4⟩
            have HB4 := hide (bstep (unhide HB3) hb4)
            clear hb4
            by_cases hn0 : n = 0
            · have HE : Hid (scnF (bl t) (tx + 1) = R) := hide (by rw [← unhide HSn hn0, unhide HC])
              subst hn0
              go_wp2_with fail
              go_roundw
              case rel => exact ⟨tx + 1, by go_num, by omega, unhide HB4, HE⟩
              case measure => simp [intOf]; omega
            · have HE : Hid (R = n) := hide (by rw [← unhide HC, unhide HSm hn0])
              have hn0n := ne_ne hn0
              go_wp2_with fail
              go_ret
              exact ⟨by rw [unhide HE]; rfl, unhide HB4⟩
      · as_aux_lemma =>
        have HG := hide (unhide G4 K (by omega))
        rw [hb4] at HG
        have hb := bgn_le hb4
        have hk4 : K + 4 ≤ t.size := by rw [hl] at hb; exact hb
        have HN := hide (nxtP_4 hb4)
        have HM : Hid (¬ (bgn (bl t) K b4 = false ∧ isMeta (bl t) K = true ∧ metaAt (bl t) K ≠ 0)) := hide (fun h => by rw [hb4] at h; cases h.1)
        clear hb4 hb
        go_wp2_with fail
        refine (unhide HG _).mono ?_
        rintro e w1 ⟨rfl, hb1⟩
        have HB1 := hide (bstep (unhide HB) hb1)
        clear hb1
        go_wp2_with fail
        go_loopw [4] (fun i wr => ∃ j : Nat, i = .int .i64 j ∧ K + 2 ≤ j ∧ j ≤ t.size ∧ Below w.heap.size w wr ∧ Hid (fbI (bl t) j = fbI (bl t) (K + 2))) (fun i _ => t.size - (intOf i).toNat)
        case atStart => exact ⟨K + 2, by go_num, by omega, by omega, unhide HB1, hide rfl⟩
        case round =>
          obtain ⟨j, rfl, hKj, hj, hBj, HF⟩ := hrel
          have HBj := hide hBj
          clear hBj
          by_cases hjl : j < t.size
          · have HG3 := hide (unhide G3 j hj)
            cases hb3 : bgn (bl t) j b3
            · rw [hb3] at HG3
              have HF' : Hid (fbI (bl t) (j + 1) = fbI (bl t) (K + 2)) := hide (by rw [← fbI_miss (by omega) hb3, unhide HF])
              clear hb3
              go_wp2_with fail
              refine (unhide HG3 _).mono ?_
              rintro e w2 ⟨rfl, hb2⟩
              have HB2 := hide (bstep (unhide HBj) hb2)
              clear hb2
              go_wp2_with fail
              go_roundw
              case rel => exact ⟨j + 1, by go_num, by omega, by omega, unhide HB2, HF'⟩
              case measure => simp [intOf]; omega
            · rw [hb3] at HG3
              have HE : Hid (scnF (bl t) (j + 3) = R) := hide (by rw [← scnF_next (by omega) (unhide HM) (by rw [unhide HN, ← unhide HF, fbI_hit (by omega) hb3]), unhide HC])
              clear hb3
              go_wp2_with fail
              refine (unhide HG3 _).mono ?_
              rintro e w2 ⟨rfl, hb2⟩
              have HB2 := hide (bstep (unhide HBj) hb2)
              clear hb2
              go_wp2_with fail
              go_roundw
              case rel => exact ⟨j + 3, by go_num, by omega, unhide HB2, HE⟩
              case measure => simp [intOf]; omega
          · have HE : Hid (scnF (bl t) (j + 3) = R) := hide (by rw [← scnF_next (by omega) (unhide HM) (by rw [unhide HN, ← unhide HF, fbI_end (by omega)]), unhide HC])
            go_wp2_with fail
            go_roundw
            case rel => exact ⟨j + 3, by go_num, by omega, unhide HBj, HE⟩
            case measure => simp [intOf]; omega
    · have HZ : Hid (R = 0) := hide (by rw [← unhide HC, scnF_end (by omega)])
      go_wp2_with fail
      go_ret
      exact ⟨by rw [unhide HZ]; rfl, unhide HB⟩
end Go.Proofs.YthhjfedegbldfaeDoor
