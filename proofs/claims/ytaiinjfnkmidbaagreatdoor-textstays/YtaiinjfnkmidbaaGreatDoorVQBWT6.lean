/- The walk of TextTells over what text's calls have to answer: true; nothing that was there is written. -/
import Derived.Test.YtaiinjfnkmidbaaGreatDoorQB9
import Derived.Test.YtaiinjfnkmidbaaGreatDoorVQBWC6
namespace Go.Proofs.YtaiinjfnkmidbaaGreatDoor
open Go.RowKit
set_option linter.unusedVariables false

set_option maxHeartbeats 400000 in
set_option maxRecDepth 100000 in
theorem intsAre_many {v : Value} (ao : Option Addr) (n c : Nat) (w : World) (h : Ints w v []) :
    Calls Tryz.prog 21 #[v, .int .i64 2, .int .i64 2, .slice ao n c] w fun e w' => e = .returned (.bool true) ∧ Below w.heap.size w w' := by
  have HI := hide h
  obtain ⟨a1, c1, rfl, -⟩ := h
  go_enter Tryz.func21, Tryz.ntmps21
  go_wp2_with fail
  refine (same_any _ (unhide HI) (Ints.nil _)).mono ?_
  rintro e w1 ⟨rfl, hb⟩
  rw [show (([] : List Int) == []) = true from rfl]
  go_wp2_with fail
  go_ret
  exact ⟨rfl, hb⟩
set_option maxHeartbeats 6400000 in
set_option maxRecDepth 100000 in
theorem tt_name_good (hD : DcSays) (hDE : DcErrs) (hR : RcSays) (hRE : RcErrs) (hRK : RcKind) (hCt : CtSays) (hCE : CtErrs) (name s : ByteArray) (n : Int) (v : Value) (xs : List Int) (w : World) (hMx : Mx w) (hT : Tb w) (hn : name.size ≤ maxLen) (hs : s.size ≤ maxLen) (hv : Ints w v xs) (h : 3000 < name.size) (l0 : xs.length ≤ 3000) (l1 : xs.all M.sclr = true) :
    Calls Tryz.prog 7 #[.string name, .string s, .int .i64 n, v] w fun e w' => e = .returned (.bool true) ∧ Below w.heap.size w w' := by
  have HM := hide hMx
  have HT := hide hT
  have GX := hide (fun w h h' => begunX_any hD hR hCt w h h')
  have r1 := hide (fun w hm => hDE name s w hn hs (.inl h) hm)
  have r2 := hide (fun w hm ht => hRE name s n w hn hs (.inl h) hm ht)
  have t1 := hide (fun w => tooLong_yes name w h hn)
  have c1 := hide (fun w (hi : Ints w v xs) => hCt v xs w hi l0 l1)
  have c2 := hide (fun w (hi : Ints w v xs) => pcheck_any w hi l0)
  rw [chkRes_yes l1] at c2
  have HV := hide hv
  have hvm : xs.length ≤ maxLen := by obtain ⟨_, _, _, hm, _⟩ := hv; exact hm
  obtain ⟨ao, cap, rfl, -⟩ := hv
  unfold maxLen at hn hs hvm
  clear hD hDE hR hRE hRK hCt hCE hMx hT
  go_enter Tryz.func7, Tryz.ntmps7
  go_wp2_with fail
  refine (unhide r1 _ (unhide HM)).mono ?_
  rintro e w1 ⟨v1, rfl, hI1, hb1⟩
  have I1 := hide hI1
  obtain ⟨ao1, cap1, rfl, -⟩ := hI1
  have HB1 := hide hb1
  clear hb1 r1
  go_wp2_with fail
  refine (unhide r2 _ ((unhide HM).below (unhide HB1)) ((unhide HT).below (unhide HB1))).mono ?_
  rintro e w2 ⟨rfl, hb2⟩
  have HB2 := hide (bstep (unhide HB1) hb2)
  have I2 := hide ((unhide I1).below hb2)
  clear hb2 HB1 r2
  go_wp2_with fail
  refine (unhide c1 _ ((unhide HV).below (unhide HB2))).mono ?_
  rintro e w3 ⟨rfl, hb3⟩
  have HB3 := hide (bstep (unhide HB2) hb3)
  have I3 := hide ((unhide I2).below hb3)
  clear hb3 HB2 c1
  go_wp2_with fail
  refine (unhide t1 _).mono ?_
  rintro e w' ⟨rfl, hw⟩
  replace hw := hw.symm
  subst hw
  go_wp2_with fail
  refine (unhide c2 _ ((unhide HV).below (unhide HB3))).mono ?_
  rintro e w' ⟨rfl, hw⟩
  replace hw := hw.symm
  subst hw
  go_wp2_with fail
  go_loopw [24, 25, 27] (fun kv hv' iv wr => ∃ k : Nat, k ≤ xs.length ∧ iv = .int .i64 k ∧ kv = .int .i64 (cntB (xs.take k) : Int) ∧ hv' = .int .i64 (cntF (xs.take k) : Int) ∧ wr = w3) (fun _ _ iv _ => xs.length - (intOf iv).toNat)
  case atStart => exact ⟨0, by omega, rfl, by simp [cntB], by simp [cntF], rfl⟩
  case round =>
    obtain ⟨k, hk, rfl, rfl, rfl, hwr⟩ := hrel
    replace hwr := hwr.symm
    subst hwr
    by_cases hlt : k < xs.length
    · obtain ⟨b, off, rfl, hcell⟩ := ints_at ((unhide HV).below (unhide HB3)) (by omega)
      have hc := hcell k hlt
      have HC := hide (cnt_take hlt)
      have hb1 := cntB_le (xs.take k)
      have hb2 := cntF_le (xs.take k)
      have hb3 := List.length_take_le k xs
      clear hcell
      generalize xs.getD k 0 = c at *
      have hltI : (k : Int) < (xs.length : Int) := by omega
      by_cases h65 : c = 65533
      · subst h65
        rw [if_pos rfl, if_pos (by decide)] at HC
        go_wp2_with fail
        go_roundw
        case rel => exact ⟨k + 1, by omega, by go_num, by rw [(unhide HC).1]; go_num, by rw [(unhide HC).2]; go_num, by trivial⟩
        case measure => simp [intOf]; omega
      · have e65 : (c == 65533) = false := beq_eq_false_iff_ne.2 h65
        rw [if_neg h65] at HC
        by_cases h127 : 127 < c
        · rw [if_pos h127] at HC
          clear h65
          go_wp2_with fail
          go_roundw
          case rel => exact ⟨k + 1, by omega, by go_num, by rw [(unhide HC).1]; go_num, by rw [(unhide HC).2]; go_num, by trivial⟩
          case measure => simp [intOf]; omega
        · rw [if_neg h127] at HC
          clear h65
          go_wp2_with fail
          go_roundw
          case rel => exact ⟨k + 1, by omega, by go_num, by rw [(unhide HC).1]; go_num, by rw [(unhide HC).2]; go_num, by trivial⟩
          case measure => simp [intOf]; omega
    · have hE : xs.take k = xs := List.take_of_length_le (by omega)
      rw [hE]
      have hltI : ¬ (k : Int) < (xs.length : Int) := by omega
      clear hE
      go_wp2_with fail
      refine (unhide GX _ ((unhide HM).below (unhide HB3)) ((unhide HT).below (unhide HB3))).mono ?_
      rintro e w8 ⟨rfl, hb8⟩
      have HB8 := hide (bstep (unhide HB3) hb8)
      go_wp2_with fail
      refine (intsAre_many _ _ _ _ ((unhide I3).below hb8)).mono ?_
      rintro e w9 ⟨rfl, hb9⟩
      have HB9 := hide (bstep (unhide HB8) hb9)
      go_wp2_with fail
      go_ret
      exact ⟨ret_bool (by simp), unhide HB9⟩
set_option maxHeartbeats 6400000 in
set_option maxRecDepth 100000 in
theorem tt_name_long (hD : DcSays) (hDE : DcErrs) (hR : RcSays) (hRE : RcErrs) (hRK : RcKind) (hCt : CtSays) (hCE : CtErrs) (name s : ByteArray) (n : Int) (v : Value) (xs : List Int) (w : World) (hMx : Mx w) (hT : Tb w) (hn : name.size ≤ maxLen) (hs : s.size ≤ maxLen) (hv : Ints w v xs) (h : 3000 < name.size) (l0 : 3000 < xs.length) :
    Calls Tryz.prog 7 #[.string name, .string s, .int .i64 n, v] w fun e w' => e = .returned (.bool true) ∧ Below w.heap.size w w' := by
  have HM := hide hMx
  have HT := hide hT
  have GX := hide (fun w h h' => begunX_any hD hR hCt w h h')
  have r1 := hide (fun w hm => hDE name s w hn hs (.inl h) hm)
  have r2 := hide (fun w hm ht => hRE name s n w hn hs (.inl h) hm ht)
  have t1 := hide (fun w => tooLong_yes name w h hn)
  have c1 := hide (fun w (hi : Ints w v xs) => hCE v xs w hi (.inl l0))
  rw [if_pos l0] at c1
  have HV := hide hv
  have hvm : xs.length ≤ maxLen := by obtain ⟨_, _, _, hm, _⟩ := hv; exact hm
  obtain ⟨ao, cap, rfl, -⟩ := hv
  have c2 := hide (fun w => check_many ao xs.length cap w l0 hvm)
  unfold maxLen at hn hs hvm
  clear hD hDE hR hRE hRK hCt hCE hMx hT
  go_enter Tryz.func7, Tryz.ntmps7
  go_wp2_with fail
  refine (unhide r1 _ (unhide HM)).mono ?_
  rintro e w1 ⟨v1, rfl, hI1, hb1⟩
  have I1 := hide hI1
  obtain ⟨ao1, cap1, rfl, -⟩ := hI1
  have HB1 := hide hb1
  clear hb1 r1
  go_wp2_with fail
  refine (unhide r2 _ ((unhide HM).below (unhide HB1)) ((unhide HT).below (unhide HB1))).mono ?_
  rintro e w2 ⟨rfl, hb2⟩
  have HB2 := hide (bstep (unhide HB1) hb2)
  have I2 := hide ((unhide I1).below hb2)
  clear hb2 HB1 r2
  go_wp2_with fail
  refine (unhide c1 _ ((unhide HV).below (unhide HB2))).mono ?_
  rintro e w3 ⟨rfl, hb3⟩
  have HB3 := hide (bstep (unhide HB2) hb3)
  have I3 := hide ((unhide I2).below hb3)
  clear hb3 HB2 c1
  go_wp2_with fail
  refine (unhide t1 _).mono ?_
  rintro e w' ⟨rfl, hw⟩
  replace hw := hw.symm
  subst hw
  go_wp2_with fail
  refine (unhide c2 _).mono ?_
  rintro e w' ⟨rfl, hw⟩
  replace hw := hw.symm
  subst hw
  go_wp2_with fail
  go_loopw [24, 25, 27] (fun kv hv' iv wr => kv = .int .i64 0 ∧ hv' = .int .i64 0 ∧ iv = .int .i64 0 ∧ wr = w3) (fun _ _ _ _ => 0)
  case atStart => exact ⟨rfl, rfl, rfl, rfl⟩
  case round =>
    obtain ⟨rfl, rfl, rfl, hwr⟩ := hrel
    replace hwr := hwr.symm
    subst hwr
    have hltI : (0 : Int) < (xs.length : Int) := by omega
    go_wp2_with fail
    refine (unhide GX _ ((unhide HM).below (unhide HB3)) ((unhide HT).below (unhide HB3))).mono ?_
    rintro e w8 ⟨rfl, hb8⟩
    have HB8 := hide (bstep (unhide HB3) hb8)
    go_wp2_with fail
    refine (intsAre_many _ _ _ _ ((unhide I3).below hb8)).mono ?_
    rintro e w9 ⟨rfl, hb9⟩
    have HB9 := hide (bstep (unhide HB8) hb9)
    go_wp2_with fail
    go_ret
    exact ⟨ret_bool (by simp), unhide HB9⟩
set_option maxHeartbeats 6400000 in
set_option maxRecDepth 100000 in
theorem tt_name_range (hD : DcSays) (hDE : DcErrs) (hR : RcSays) (hRE : RcErrs) (hRK : RcKind) (hCt : CtSays) (hCE : CtErrs) (name s : ByteArray) (n : Int) (v : Value) (xs : List Int) (w : World) (hMx : Mx w) (hT : Tb w) (hn : name.size ≤ maxLen) (hs : s.size ≤ maxLen) (hv : Ints w v xs) (h : 3000 < name.size) (l0 : xs.length ≤ 3000) (l1 : xs.all M.sclr = false) :
    Calls Tryz.prog 7 #[.string name, .string s, .int .i64 n, v] w fun e w' => e = .returned (.bool true) ∧ Below w.heap.size w w' := by
  have HM := hide hMx
  have HT := hide hT
  have GX := hide (fun w h h' => begunX_any hD hR hCt w h h')
  have r1 := hide (fun w hm => hDE name s w hn hs (.inl h) hm)
  have r2 := hide (fun w hm ht => hRE name s n w hn hs (.inl h) hm ht)
  have t1 := hide (fun w => tooLong_yes name w h hn)
  have c1 := hide (fun w (hi : Ints w v xs) => hCE v xs w hi (.inr l1))
  rw [if_neg (by omega)] at c1
  have c2 := hide (fun w (hi : Ints w v xs) => pcheck_any w hi l0)
  rw [chkRes_no l1] at c2
  have HV := hide hv
  have hvm : xs.length ≤ maxLen := by obtain ⟨_, _, _, hm, _⟩ := hv; exact hm
  obtain ⟨ao, cap, rfl, -⟩ := hv
  have hpos : 0 < xs.length := by cases xs with | nil => cases l1 | cons => simp
  unfold maxLen at hn hs hvm
  clear hD hDE hR hRE hRK hCt hCE hMx hT
  go_enter Tryz.func7, Tryz.ntmps7
  go_wp2_with fail
  refine (unhide r1 _ (unhide HM)).mono ?_
  rintro e w1 ⟨v1, rfl, hI1, hb1⟩
  have I1 := hide hI1
  obtain ⟨ao1, cap1, rfl, -⟩ := hI1
  have HB1 := hide hb1
  clear hb1 r1
  go_wp2_with fail
  refine (unhide r2 _ ((unhide HM).below (unhide HB1)) ((unhide HT).below (unhide HB1))).mono ?_
  rintro e w2 ⟨rfl, hb2⟩
  have HB2 := hide (bstep (unhide HB1) hb2)
  have I2 := hide ((unhide I1).below hb2)
  clear hb2 HB1 r2
  go_wp2_with fail
  refine (unhide c1 _ ((unhide HV).below (unhide HB2))).mono ?_
  rintro e w3 ⟨rfl, hb3⟩
  have HB3 := hide (bstep (unhide HB2) hb3)
  have I3 := hide ((unhide I2).below hb3)
  clear hb3 HB2 c1
  go_wp2_with fail
  refine (unhide t1 _).mono ?_
  rintro e w' ⟨rfl, hw⟩
  replace hw := hw.symm
  subst hw
  go_wp2_with fail
  refine (unhide c2 _ ((unhide HV).below (unhide HB3))).mono ?_
  rintro e w' ⟨rfl, hw⟩
  replace hw := hw.symm
  subst hw
  go_wp2_with fail
  go_loopw [24, 25, 27] (fun kv hv' iv wr => kv = .int .i64 0 ∧ hv' = .int .i64 0 ∧ iv = .int .i64 0 ∧ wr = w3) (fun _ _ _ _ => 0)
  case atStart => exact ⟨rfl, rfl, rfl, rfl⟩
  case round =>
    obtain ⟨rfl, rfl, rfl, hwr⟩ := hrel
    replace hwr := hwr.symm
    subst hwr
    have hltI : (0 : Int) < (xs.length : Int) := by omega
    go_wp2_with fail
    refine (unhide GX _ ((unhide HM).below (unhide HB3)) ((unhide HT).below (unhide HB3))).mono ?_
    rintro e w8 ⟨rfl, hb8⟩
    have HB8 := hide (bstep (unhide HB3) hb8)
    go_wp2_with fail
    refine (intsAre_many _ _ _ _ ((unhide I3).below hb8)).mono ?_
    rintro e w9 ⟨rfl, hb9⟩
    have HB9 := hide (bstep (unhide HB8) hb9)
    go_wp2_with fail
    go_ret
    exact ⟨ret_bool (by simp), unhide HB9⟩
set_option maxHeartbeats 6400000 in
set_option maxRecDepth 100000 in
theorem tt_s_good (hD : DcSays) (hDE : DcErrs) (hR : RcSays) (hRE : RcErrs) (hRK : RcKind) (hCt : CtSays) (hCE : CtErrs) (name s : ByteArray) (n : Int) (v : Value) (xs : List Int) (w : World) (hMx : Mx w) (hT : Tb w) (hn : name.size ≤ maxLen) (hs : s.size ≤ maxLen) (hv : Ints w v xs) (h0 : name.size ≤ 3000) (h : 3000 < s.size) (l0 : xs.length ≤ 3000) (l1 : xs.all M.sclr = true) :
    Calls Tryz.prog 7 #[.string name, .string s, .int .i64 n, v] w fun e w' => e = .returned (.bool true) ∧ Below w.heap.size w w' := by
  have HM := hide hMx
  have HT := hide hT
  have GX := hide (fun w h h' => begunX_any hD hR hCt w h h')
  have r1 := hide (fun w hm => hDE name s w hn hs (.inr h) hm)
  have r2 := hide (fun w hm ht => hRE name s n w hn hs (.inr h) hm ht)
  have t1 := hide (fun w => tooLong_no name w h0)
  have t2 := hide (fun w => tooLong_yes s w h hs)
  have c1 := hide (fun w (hi : Ints w v xs) => hCt v xs w hi l0 l1)
  have c2 := hide (fun w (hi : Ints w v xs) => pcheck_any w hi l0)
  rw [chkRes_yes l1] at c2
  have HV := hide hv
  have hvm : xs.length ≤ maxLen := by obtain ⟨_, _, _, hm, _⟩ := hv; exact hm
  obtain ⟨ao, cap, rfl, -⟩ := hv
  unfold maxLen at hn hs hvm
  clear hD hDE hR hRE hRK hCt hCE hMx hT
  go_enter Tryz.func7, Tryz.ntmps7
  go_wp2_with fail
  refine (unhide r1 _ (unhide HM)).mono ?_
  rintro e w1 ⟨v1, rfl, hI1, hb1⟩
  have I1 := hide hI1
  obtain ⟨ao1, cap1, rfl, -⟩ := hI1
  have HB1 := hide hb1
  clear hb1 r1
  go_wp2_with fail
  refine (unhide r2 _ ((unhide HM).below (unhide HB1)) ((unhide HT).below (unhide HB1))).mono ?_
  rintro e w2 ⟨rfl, hb2⟩
  have HB2 := hide (bstep (unhide HB1) hb2)
  have I2 := hide ((unhide I1).below hb2)
  clear hb2 HB1 r2
  go_wp2_with fail
  refine (unhide c1 _ ((unhide HV).below (unhide HB2))).mono ?_
  rintro e w3 ⟨rfl, hb3⟩
  have HB3 := hide (bstep (unhide HB2) hb3)
  have I3 := hide ((unhide I2).below hb3)
  clear hb3 HB2 c1
  go_wp2_with fail
  refine (unhide t1 _).mono ?_
  rintro e w' ⟨rfl, hw⟩
  replace hw := hw.symm
  subst hw
  go_wp2_with fail
  refine (unhide t2 _).mono ?_
  rintro e w' ⟨rfl, hw⟩
  replace hw := hw.symm
  subst hw
  go_wp2_with fail
  refine (unhide c2 _ ((unhide HV).below (unhide HB3))).mono ?_
  rintro e w' ⟨rfl, hw⟩
  replace hw := hw.symm
  subst hw
  go_wp2_with fail
  go_loopw [24, 25, 27] (fun kv hv' iv wr => ∃ k : Nat, k ≤ xs.length ∧ iv = .int .i64 k ∧ kv = .int .i64 (cntB (xs.take k) : Int) ∧ hv' = .int .i64 (cntF (xs.take k) : Int) ∧ wr = w3) (fun _ _ iv _ => xs.length - (intOf iv).toNat)
  case atStart => exact ⟨0, by omega, rfl, by simp [cntB], by simp [cntF], rfl⟩
  case round =>
    obtain ⟨k, hk, rfl, rfl, rfl, hwr⟩ := hrel
    replace hwr := hwr.symm
    subst hwr
    by_cases hlt : k < xs.length
    · obtain ⟨b, off, rfl, hcell⟩ := ints_at ((unhide HV).below (unhide HB3)) (by omega)
      have hc := hcell k hlt
      have HC := hide (cnt_take hlt)
      have hb1 := cntB_le (xs.take k)
      have hb2 := cntF_le (xs.take k)
      have hb3 := List.length_take_le k xs
      clear hcell
      generalize xs.getD k 0 = c at *
      have hltI : (k : Int) < (xs.length : Int) := by omega
      by_cases h65 : c = 65533
      · subst h65
        rw [if_pos rfl, if_pos (by decide)] at HC
        go_wp2_with fail
        go_roundw
        case rel => exact ⟨k + 1, by omega, by go_num, by rw [(unhide HC).1]; go_num, by rw [(unhide HC).2]; go_num, by trivial⟩
        case measure => simp [intOf]; omega
      · have e65 : (c == 65533) = false := beq_eq_false_iff_ne.2 h65
        rw [if_neg h65] at HC
        by_cases h127 : 127 < c
        · rw [if_pos h127] at HC
          clear h65
          go_wp2_with fail
          go_roundw
          case rel => exact ⟨k + 1, by omega, by go_num, by rw [(unhide HC).1]; go_num, by rw [(unhide HC).2]; go_num, by trivial⟩
          case measure => simp [intOf]; omega
        · rw [if_neg h127] at HC
          clear h65
          go_wp2_with fail
          go_roundw
          case rel => exact ⟨k + 1, by omega, by go_num, by rw [(unhide HC).1]; go_num, by rw [(unhide HC).2]; go_num, by trivial⟩
          case measure => simp [intOf]; omega
    · have hE : xs.take k = xs := List.take_of_length_le (by omega)
      rw [hE]
      have hltI : ¬ (k : Int) < (xs.length : Int) := by omega
      clear hE
      go_wp2_with fail
      refine (unhide GX _ ((unhide HM).below (unhide HB3)) ((unhide HT).below (unhide HB3))).mono ?_
      rintro e w8 ⟨rfl, hb8⟩
      have HB8 := hide (bstep (unhide HB3) hb8)
      go_wp2_with fail
      refine (intsAre_many _ _ _ _ ((unhide I3).below hb8)).mono ?_
      rintro e w9 ⟨rfl, hb9⟩
      have HB9 := hide (bstep (unhide HB8) hb9)
      go_wp2_with fail
      go_ret
      exact ⟨ret_bool (by simp), unhide HB9⟩
set_option maxHeartbeats 6400000 in
set_option maxRecDepth 100000 in
theorem tt_s_long (hD : DcSays) (hDE : DcErrs) (hR : RcSays) (hRE : RcErrs) (hRK : RcKind) (hCt : CtSays) (hCE : CtErrs) (name s : ByteArray) (n : Int) (v : Value) (xs : List Int) (w : World) (hMx : Mx w) (hT : Tb w) (hn : name.size ≤ maxLen) (hs : s.size ≤ maxLen) (hv : Ints w v xs) (h0 : name.size ≤ 3000) (h : 3000 < s.size) (l0 : 3000 < xs.length) :
    Calls Tryz.prog 7 #[.string name, .string s, .int .i64 n, v] w fun e w' => e = .returned (.bool true) ∧ Below w.heap.size w w' := by
  have HM := hide hMx
  have HT := hide hT
  have GX := hide (fun w h h' => begunX_any hD hR hCt w h h')
  have r1 := hide (fun w hm => hDE name s w hn hs (.inr h) hm)
  have r2 := hide (fun w hm ht => hRE name s n w hn hs (.inr h) hm ht)
  have t1 := hide (fun w => tooLong_no name w h0)
  have t2 := hide (fun w => tooLong_yes s w h hs)
  have c1 := hide (fun w (hi : Ints w v xs) => hCE v xs w hi (.inl l0))
  rw [if_pos l0] at c1
  have HV := hide hv
  have hvm : xs.length ≤ maxLen := by obtain ⟨_, _, _, hm, _⟩ := hv; exact hm
  obtain ⟨ao, cap, rfl, -⟩ := hv
  have c2 := hide (fun w => check_many ao xs.length cap w l0 hvm)
  unfold maxLen at hn hs hvm
  clear hD hDE hR hRE hRK hCt hCE hMx hT
  go_enter Tryz.func7, Tryz.ntmps7
  go_wp2_with fail
  refine (unhide r1 _ (unhide HM)).mono ?_
  rintro e w1 ⟨v1, rfl, hI1, hb1⟩
  have I1 := hide hI1
  obtain ⟨ao1, cap1, rfl, -⟩ := hI1
  have HB1 := hide hb1
  clear hb1 r1
  go_wp2_with fail
  refine (unhide r2 _ ((unhide HM).below (unhide HB1)) ((unhide HT).below (unhide HB1))).mono ?_
  rintro e w2 ⟨rfl, hb2⟩
  have HB2 := hide (bstep (unhide HB1) hb2)
  have I2 := hide ((unhide I1).below hb2)
  clear hb2 HB1 r2
  go_wp2_with fail
  refine (unhide c1 _ ((unhide HV).below (unhide HB2))).mono ?_
  rintro e w3 ⟨rfl, hb3⟩
  have HB3 := hide (bstep (unhide HB2) hb3)
  have I3 := hide ((unhide I2).below hb3)
  clear hb3 HB2 c1
  go_wp2_with fail
  refine (unhide t1 _).mono ?_
  rintro e w' ⟨rfl, hw⟩
  replace hw := hw.symm
  subst hw
  go_wp2_with fail
  refine (unhide t2 _).mono ?_
  rintro e w' ⟨rfl, hw⟩
  replace hw := hw.symm
  subst hw
  go_wp2_with fail
  refine (unhide c2 _).mono ?_
  rintro e w' ⟨rfl, hw⟩
  replace hw := hw.symm
  subst hw
  go_wp2_with fail
  go_loopw [24, 25, 27] (fun kv hv' iv wr => kv = .int .i64 0 ∧ hv' = .int .i64 0 ∧ iv = .int .i64 0 ∧ wr = w3) (fun _ _ _ _ => 0)
  case atStart => exact ⟨rfl, rfl, rfl, rfl⟩
  case round =>
    obtain ⟨rfl, rfl, rfl, hwr⟩ := hrel
    replace hwr := hwr.symm
    subst hwr
    have hltI : (0 : Int) < (xs.length : Int) := by omega
    go_wp2_with fail
    refine (unhide GX _ ((unhide HM).below (unhide HB3)) ((unhide HT).below (unhide HB3))).mono ?_
    rintro e w8 ⟨rfl, hb8⟩
    have HB8 := hide (bstep (unhide HB3) hb8)
    go_wp2_with fail
    refine (intsAre_many _ _ _ _ ((unhide I3).below hb8)).mono ?_
    rintro e w9 ⟨rfl, hb9⟩
    have HB9 := hide (bstep (unhide HB8) hb9)
    go_wp2_with fail
    go_ret
    exact ⟨ret_bool (by simp), unhide HB9⟩
set_option maxHeartbeats 6400000 in
set_option maxRecDepth 100000 in
theorem tt_s_range (hD : DcSays) (hDE : DcErrs) (hR : RcSays) (hRE : RcErrs) (hRK : RcKind) (hCt : CtSays) (hCE : CtErrs) (name s : ByteArray) (n : Int) (v : Value) (xs : List Int) (w : World) (hMx : Mx w) (hT : Tb w) (hn : name.size ≤ maxLen) (hs : s.size ≤ maxLen) (hv : Ints w v xs) (h0 : name.size ≤ 3000) (h : 3000 < s.size) (l0 : xs.length ≤ 3000) (l1 : xs.all M.sclr = false) :
    Calls Tryz.prog 7 #[.string name, .string s, .int .i64 n, v] w fun e w' => e = .returned (.bool true) ∧ Below w.heap.size w w' := by
  have HM := hide hMx
  have HT := hide hT
  have GX := hide (fun w h h' => begunX_any hD hR hCt w h h')
  have r1 := hide (fun w hm => hDE name s w hn hs (.inr h) hm)
  have r2 := hide (fun w hm ht => hRE name s n w hn hs (.inr h) hm ht)
  have t1 := hide (fun w => tooLong_no name w h0)
  have t2 := hide (fun w => tooLong_yes s w h hs)
  have c1 := hide (fun w (hi : Ints w v xs) => hCE v xs w hi (.inr l1))
  rw [if_neg (by omega)] at c1
  have c2 := hide (fun w (hi : Ints w v xs) => pcheck_any w hi l0)
  rw [chkRes_no l1] at c2
  have HV := hide hv
  have hvm : xs.length ≤ maxLen := by obtain ⟨_, _, _, hm, _⟩ := hv; exact hm
  obtain ⟨ao, cap, rfl, -⟩ := hv
  have hpos : 0 < xs.length := by cases xs with | nil => cases l1 | cons => simp
  unfold maxLen at hn hs hvm
  clear hD hDE hR hRE hRK hCt hCE hMx hT
  go_enter Tryz.func7, Tryz.ntmps7
  go_wp2_with fail
  refine (unhide r1 _ (unhide HM)).mono ?_
  rintro e w1 ⟨v1, rfl, hI1, hb1⟩
  have I1 := hide hI1
  obtain ⟨ao1, cap1, rfl, -⟩ := hI1
  have HB1 := hide hb1
  clear hb1 r1
  go_wp2_with fail
  refine (unhide r2 _ ((unhide HM).below (unhide HB1)) ((unhide HT).below (unhide HB1))).mono ?_
  rintro e w2 ⟨rfl, hb2⟩
  have HB2 := hide (bstep (unhide HB1) hb2)
  have I2 := hide ((unhide I1).below hb2)
  clear hb2 HB1 r2
  go_wp2_with fail
  refine (unhide c1 _ ((unhide HV).below (unhide HB2))).mono ?_
  rintro e w3 ⟨rfl, hb3⟩
  have HB3 := hide (bstep (unhide HB2) hb3)
  have I3 := hide ((unhide I2).below hb3)
  clear hb3 HB2 c1
  go_wp2_with fail
  refine (unhide t1 _).mono ?_
  rintro e w' ⟨rfl, hw⟩
  replace hw := hw.symm
  subst hw
  go_wp2_with fail
  refine (unhide t2 _).mono ?_
  rintro e w' ⟨rfl, hw⟩
  replace hw := hw.symm
  subst hw
  go_wp2_with fail
  refine (unhide c2 _ ((unhide HV).below (unhide HB3))).mono ?_
  rintro e w' ⟨rfl, hw⟩
  replace hw := hw.symm
  subst hw
  go_wp2_with fail
  go_loopw [24, 25, 27] (fun kv hv' iv wr => kv = .int .i64 0 ∧ hv' = .int .i64 0 ∧ iv = .int .i64 0 ∧ wr = w3) (fun _ _ _ _ => 0)
  case atStart => exact ⟨rfl, rfl, rfl, rfl⟩
  case round =>
    obtain ⟨rfl, rfl, rfl, hwr⟩ := hrel
    replace hwr := hwr.symm
    subst hwr
    have hltI : (0 : Int) < (xs.length : Int) := by omega
    go_wp2_with fail
    refine (unhide GX _ ((unhide HM).below (unhide HB3)) ((unhide HT).below (unhide HB3))).mono ?_
    rintro e w8 ⟨rfl, hb8⟩
    have HB8 := hide (bstep (unhide HB3) hb8)
    go_wp2_with fail
    refine (intsAre_many _ _ _ _ ((unhide I3).below hb8)).mono ?_
    rintro e w9 ⟨rfl, hb9⟩
    have HB9 := hide (bstep (unhide HB8) hb9)
    go_wp2_with fail
    go_ret
    exact ⟨ret_bool (by simp), unhide HB9⟩
set_option maxHeartbeats 6400000 in
set_option maxRecDepth 100000 in
theorem tt_kind_good (hD : DcSays) (hDE : DcErrs) (hR : RcSays) (hRE : RcErrs) (hRK : RcKind) (hCt : CtSays) (hCE : CtErrs) (name s : ByteArray) (n : Int) (v : Value) (xs : List Int) (w : World) (hMx : Mx w) (hT : Tb w) (hn : name.size ≤ maxLen) (hs : s.size ≤ maxLen) (hv : Ints w v xs) (h0 : name.size ≤ 3000) (h1 : s.size ≤ 3000) (h : ¬ (1 ≤ n ∧ n ≤ 7)) (l0 : xs.length ≤ 3000) (l1 : xs.all M.sclr = true) :
    Calls Tryz.prog 7 #[.string name, .string s, .int .i64 n, v] w fun e w' => e = .returned (.bool true) ∧ Below w.heap.size w w' := by
  have HM := hide hMx
  have HT := hide hT
  have GX := hide (fun w h h' => begunX_any hD hR hCt w h h')
  have r1 := hide (fun w hm => hD name s w h0 h1 hm)
  have t1 := hide (fun w => tooLong_no name w h0)
  have t2 := hide (fun w => tooLong_no s w h1)
  have q1 := hide (fun w => wholeOf_any name s w h0 h1)
  have hws := whI_sclr name s
  have hwl := whI_few name s
  have r2 := hide (fun w hm ht => hRK name s n w h0 h1 h hm ht)
  have q2 := hide (fun (ao : Option Addr) (len cap : Nat) w => encOf_kind n 1 ao len cap w h)
  have HLN : Hid ((whI name (bl s)).length ≤ 3000) := hide (by omega)
  clear hws hwl
  generalize (chI name (bl s)).1 = n1 at *
  generalize (chI name (bl s)).2.1 = y1 at *
  generalize whI name (bl s) = X at *
  have c1 := hide (fun w (hi : Ints w v xs) => hCt v xs w hi l0 l1)
  have c2 := hide (fun w (hi : Ints w v xs) => pcheck_any w hi l0)
  rw [chkRes_yes l1] at c2
  have HV := hide hv
  have hvm : xs.length ≤ maxLen := by obtain ⟨_, _, _, hm, _⟩ := hv; exact hm
  obtain ⟨ao, cap, rfl, -⟩ := hv
  unfold maxLen at hn hs hvm
  clear hD hDE hR hRE hRK hCt hCE hMx hT
  go_enter Tryz.func7, Tryz.ntmps7
  go_wp2_with fail
  refine (unhide r1 _ (unhide HM)).mono ?_
  rintro e w1 ⟨v1, rfl, ho1, hb1⟩
  obtain ⟨ao1, cap1, hsh1⟩ := owns_shape ho1
  subst hsh1
  have I1 := hide (Ints.of_owns ho1)
  have HB1 := hide hb1
  clear hb1 r1 ho1
  go_wp2_with fail
  refine (unhide r2 _ ((unhide HM).below (unhide HB1)) ((unhide HT).below (unhide HB1))).mono ?_
  rintro e w2 ⟨rfl, hb2⟩
  have HB2 := hide (bstep (unhide HB1) hb2)
  have I2 := hide ((unhide I1).below hb2)
  clear hb2 HB1 r2
  go_wp2_with fail
  refine (unhide c1 _ ((unhide HV).below (unhide HB2))).mono ?_
  rintro e w3 ⟨rfl, hb3⟩
  have HB3 := hide (bstep (unhide HB2) hb3)
  have I3 := hide ((unhide I2).below hb3)
  clear hb3 HB2 c1
  go_wp2_with fail
  refine (unhide t1 _).mono ?_
  rintro e w' ⟨rfl, hw⟩
  replace hw := hw.symm
  subst hw
  go_wp2_with fail
  refine (unhide t2 _).mono ?_
  rintro e w' ⟨rfl, hw⟩
  replace hw := hw.symm
  subst hw
  go_wp2_with fail
  refine (unhide c2 _ ((unhide HV).below (unhide HB3))).mono ?_
  rintro e w' ⟨rfl, hw⟩
  replace hw := hw.symm
  subst hw
  go_wp2_with fail
  refine (unhide q1 _).mono ?_
  rintro e w4 ⟨v4, rfl, ho4, hb4⟩
  obtain ⟨ao4, cap4, hsh4⟩ := owns_shape ho4
  subst hsh4
  have J4 := hide (Ints.of_owns ho4)
  have I4 := hide ((unhide I3).below hb4)
  have HB4 := hide (bstep (unhide HB3) hb4)
  clear hb4 q1 ho4
  go_wp2_with fail
  refine (unhide q2 _ _ _ _).mono ?_
  rintro e w' ⟨rfl, hw⟩
  replace hw := hw.symm
  subst hw
  go_wp2_with fail
  go_loopw [24, 25, 27] (fun kv hv' iv wr => ∃ k : Nat, k ≤ xs.length ∧ iv = .int .i64 k ∧ kv = .int .i64 (cntB (xs.take k) : Int) ∧ hv' = .int .i64 (cntF (xs.take k) : Int) ∧ wr = w4) (fun _ _ iv _ => xs.length - (intOf iv).toNat)
  case atStart => exact ⟨0, by omega, rfl, by simp [cntB], by simp [cntF], rfl⟩
  case round =>
    obtain ⟨k, hk, rfl, rfl, rfl, hwr⟩ := hrel
    replace hwr := hwr.symm
    subst hwr
    by_cases hlt : k < xs.length
    · obtain ⟨b, off, rfl, hcell⟩ := ints_at ((unhide HV).below (unhide HB4)) (by omega)
      have hc := hcell k hlt
      have HC := hide (cnt_take hlt)
      have hb1 := cntB_le (xs.take k)
      have hb2 := cntF_le (xs.take k)
      have hb3 := List.length_take_le k xs
      clear hcell
      generalize xs.getD k 0 = c at *
      have hltI : (k : Int) < (xs.length : Int) := by omega
      by_cases h65 : c = 65533
      · subst h65
        rw [if_pos rfl, if_pos (by decide)] at HC
        go_wp2_with fail
        go_roundw
        case rel => exact ⟨k + 1, by omega, by go_num, by rw [(unhide HC).1]; go_num, by rw [(unhide HC).2]; go_num, by trivial⟩
        case measure => simp [intOf]; omega
      · have e65 : (c == 65533) = false := beq_eq_false_iff_ne.2 h65
        rw [if_neg h65] at HC
        by_cases h127 : 127 < c
        · rw [if_pos h127] at HC
          clear h65
          go_wp2_with fail
          go_roundw
          case rel => exact ⟨k + 1, by omega, by go_num, by rw [(unhide HC).1]; go_num, by rw [(unhide HC).2]; go_num, by trivial⟩
          case measure => simp [intOf]; omega
        · rw [if_neg h127] at HC
          clear h65
          go_wp2_with fail
          go_roundw
          case rel => exact ⟨k + 1, by omega, by go_num, by rw [(unhide HC).1]; go_num, by rw [(unhide HC).2]; go_num, by trivial⟩
          case measure => simp [intOf]; omega
    · have hE : xs.take k = xs := List.take_of_length_le (by omega)
      rw [hE]
      have hltI : ¬ (k : Int) < (xs.length : Int) := by omega
      clear hE
      go_wp2_with fail
      refine (unhide GX _ ((unhide HM).below (unhide HB4)) ((unhide HT).below (unhide HB4))).mono ?_
      rintro e w8 ⟨rfl, hb8⟩
      have HB8 := hide (bstep (unhide HB4) hb8)
      have J8 := hide ((unhide J4).below hb8)
      have I8 := hide ((unhide I4).below hb8)
      go_wp2_with fail
      refine (intsAre_ok _ (unhide I8) (unhide J8)).mono ?_
      rintro e w9 ⟨rfl, hb9⟩
      have HB9 := hide (bstep (unhide HB8) hb9)
      go_wp2_with fail
      go_ret
      exact ⟨ret_bool (by simp), unhide HB9⟩
set_option maxHeartbeats 6400000 in
set_option maxRecDepth 100000 in
theorem tt_kind_long (hD : DcSays) (hDE : DcErrs) (hR : RcSays) (hRE : RcErrs) (hRK : RcKind) (hCt : CtSays) (hCE : CtErrs) (name s : ByteArray) (n : Int) (v : Value) (xs : List Int) (w : World) (hMx : Mx w) (hT : Tb w) (hn : name.size ≤ maxLen) (hs : s.size ≤ maxLen) (hv : Ints w v xs) (h0 : name.size ≤ 3000) (h1 : s.size ≤ 3000) (h : ¬ (1 ≤ n ∧ n ≤ 7)) (l0 : 3000 < xs.length) :
    Calls Tryz.prog 7 #[.string name, .string s, .int .i64 n, v] w fun e w' => e = .returned (.bool true) ∧ Below w.heap.size w w' := by
  have HM := hide hMx
  have HT := hide hT
  have GX := hide (fun w h h' => begunX_any hD hR hCt w h h')
  have r1 := hide (fun w hm => hD name s w h0 h1 hm)
  have t1 := hide (fun w => tooLong_no name w h0)
  have t2 := hide (fun w => tooLong_no s w h1)
  have q1 := hide (fun w => wholeOf_any name s w h0 h1)
  have hws := whI_sclr name s
  have hwl := whI_few name s
  have r2 := hide (fun w hm ht => hRK name s n w h0 h1 h hm ht)
  have q2 := hide (fun (ao : Option Addr) (len cap : Nat) w => encOf_kind n 1 ao len cap w h)
  have HLN : Hid ((whI name (bl s)).length ≤ 3000) := hide (by omega)
  clear hws hwl
  generalize (chI name (bl s)).1 = n1 at *
  generalize (chI name (bl s)).2.1 = y1 at *
  generalize whI name (bl s) = X at *
  have c1 := hide (fun w (hi : Ints w v xs) => hCE v xs w hi (.inl l0))
  rw [if_pos l0] at c1
  have HV := hide hv
  have hvm : xs.length ≤ maxLen := by obtain ⟨_, _, _, hm, _⟩ := hv; exact hm
  obtain ⟨ao, cap, rfl, -⟩ := hv
  have c2 := hide (fun w => check_many ao xs.length cap w l0 hvm)
  unfold maxLen at hn hs hvm
  clear hD hDE hR hRE hRK hCt hCE hMx hT
  go_enter Tryz.func7, Tryz.ntmps7
  go_wp2_with fail
  refine (unhide r1 _ (unhide HM)).mono ?_
  rintro e w1 ⟨v1, rfl, ho1, hb1⟩
  obtain ⟨ao1, cap1, hsh1⟩ := owns_shape ho1
  subst hsh1
  have I1 := hide (Ints.of_owns ho1)
  have HB1 := hide hb1
  clear hb1 r1 ho1
  go_wp2_with fail
  refine (unhide r2 _ ((unhide HM).below (unhide HB1)) ((unhide HT).below (unhide HB1))).mono ?_
  rintro e w2 ⟨rfl, hb2⟩
  have HB2 := hide (bstep (unhide HB1) hb2)
  have I2 := hide ((unhide I1).below hb2)
  clear hb2 HB1 r2
  go_wp2_with fail
  refine (unhide c1 _ ((unhide HV).below (unhide HB2))).mono ?_
  rintro e w3 ⟨rfl, hb3⟩
  have HB3 := hide (bstep (unhide HB2) hb3)
  have I3 := hide ((unhide I2).below hb3)
  clear hb3 HB2 c1
  go_wp2_with fail
  refine (unhide t1 _).mono ?_
  rintro e w' ⟨rfl, hw⟩
  replace hw := hw.symm
  subst hw
  go_wp2_with fail
  refine (unhide t2 _).mono ?_
  rintro e w' ⟨rfl, hw⟩
  replace hw := hw.symm
  subst hw
  go_wp2_with fail
  refine (unhide c2 _).mono ?_
  rintro e w' ⟨rfl, hw⟩
  replace hw := hw.symm
  subst hw
  go_wp2_with fail
  refine (unhide q1 _).mono ?_
  rintro e w4 ⟨v4, rfl, ho4, hb4⟩
  obtain ⟨ao4, cap4, hsh4⟩ := owns_shape ho4
  subst hsh4
  have J4 := hide (Ints.of_owns ho4)
  have I4 := hide ((unhide I3).below hb4)
  have HB4 := hide (bstep (unhide HB3) hb4)
  clear hb4 q1 ho4
  go_wp2_with fail
  refine (unhide q2 _ _ _ _).mono ?_
  rintro e w' ⟨rfl, hw⟩
  replace hw := hw.symm
  subst hw
  go_wp2_with fail
  go_loopw [24, 25, 27] (fun kv hv' iv wr => kv = .int .i64 0 ∧ hv' = .int .i64 0 ∧ iv = .int .i64 0 ∧ wr = w4) (fun _ _ _ _ => 0)
  case atStart => exact ⟨rfl, rfl, rfl, rfl⟩
  case round =>
    obtain ⟨rfl, rfl, rfl, hwr⟩ := hrel
    replace hwr := hwr.symm
    subst hwr
    have hltI : (0 : Int) < (xs.length : Int) := by omega
    go_wp2_with fail
    refine (unhide GX _ ((unhide HM).below (unhide HB4)) ((unhide HT).below (unhide HB4))).mono ?_
    rintro e w8 ⟨rfl, hb8⟩
    have HB8 := hide (bstep (unhide HB4) hb8)
    have J8 := hide ((unhide J4).below hb8)
    have I8 := hide ((unhide I4).below hb8)
    go_wp2_with fail
    refine (intsAre_ok _ (unhide I8) (unhide J8)).mono ?_
    rintro e w9 ⟨rfl, hb9⟩
    have HB9 := hide (bstep (unhide HB8) hb9)
    go_wp2_with fail
    go_ret
    exact ⟨ret_bool (by simp), unhide HB9⟩
set_option maxHeartbeats 6400000 in
set_option maxRecDepth 100000 in
theorem tt_kind_range (hD : DcSays) (hDE : DcErrs) (hR : RcSays) (hRE : RcErrs) (hRK : RcKind) (hCt : CtSays) (hCE : CtErrs) (name s : ByteArray) (n : Int) (v : Value) (xs : List Int) (w : World) (hMx : Mx w) (hT : Tb w) (hn : name.size ≤ maxLen) (hs : s.size ≤ maxLen) (hv : Ints w v xs) (h0 : name.size ≤ 3000) (h1 : s.size ≤ 3000) (h : ¬ (1 ≤ n ∧ n ≤ 7)) (l0 : xs.length ≤ 3000) (l1 : xs.all M.sclr = false) :
    Calls Tryz.prog 7 #[.string name, .string s, .int .i64 n, v] w fun e w' => e = .returned (.bool true) ∧ Below w.heap.size w w' := by
  have HM := hide hMx
  have HT := hide hT
  have GX := hide (fun w h h' => begunX_any hD hR hCt w h h')
  have r1 := hide (fun w hm => hD name s w h0 h1 hm)
  have t1 := hide (fun w => tooLong_no name w h0)
  have t2 := hide (fun w => tooLong_no s w h1)
  have q1 := hide (fun w => wholeOf_any name s w h0 h1)
  have hws := whI_sclr name s
  have hwl := whI_few name s
  have r2 := hide (fun w hm ht => hRK name s n w h0 h1 h hm ht)
  have q2 := hide (fun (ao : Option Addr) (len cap : Nat) w => encOf_kind n 1 ao len cap w h)
  have HLN : Hid ((whI name (bl s)).length ≤ 3000) := hide (by omega)
  clear hws hwl
  generalize (chI name (bl s)).1 = n1 at *
  generalize (chI name (bl s)).2.1 = y1 at *
  generalize whI name (bl s) = X at *
  have c1 := hide (fun w (hi : Ints w v xs) => hCE v xs w hi (.inr l1))
  rw [if_neg (by omega)] at c1
  have c2 := hide (fun w (hi : Ints w v xs) => pcheck_any w hi l0)
  rw [chkRes_no l1] at c2
  have HV := hide hv
  have hvm : xs.length ≤ maxLen := by obtain ⟨_, _, _, hm, _⟩ := hv; exact hm
  obtain ⟨ao, cap, rfl, -⟩ := hv
  have hpos : 0 < xs.length := by cases xs with | nil => cases l1 | cons => simp
  unfold maxLen at hn hs hvm
  clear hD hDE hR hRE hRK hCt hCE hMx hT
  go_enter Tryz.func7, Tryz.ntmps7
  go_wp2_with fail
  refine (unhide r1 _ (unhide HM)).mono ?_
  rintro e w1 ⟨v1, rfl, ho1, hb1⟩
  obtain ⟨ao1, cap1, hsh1⟩ := owns_shape ho1
  subst hsh1
  have I1 := hide (Ints.of_owns ho1)
  have HB1 := hide hb1
  clear hb1 r1 ho1
  go_wp2_with fail
  refine (unhide r2 _ ((unhide HM).below (unhide HB1)) ((unhide HT).below (unhide HB1))).mono ?_
  rintro e w2 ⟨rfl, hb2⟩
  have HB2 := hide (bstep (unhide HB1) hb2)
  have I2 := hide ((unhide I1).below hb2)
  clear hb2 HB1 r2
  go_wp2_with fail
  refine (unhide c1 _ ((unhide HV).below (unhide HB2))).mono ?_
  rintro e w3 ⟨rfl, hb3⟩
  have HB3 := hide (bstep (unhide HB2) hb3)
  have I3 := hide ((unhide I2).below hb3)
  clear hb3 HB2 c1
  go_wp2_with fail
  refine (unhide t1 _).mono ?_
  rintro e w' ⟨rfl, hw⟩
  replace hw := hw.symm
  subst hw
  go_wp2_with fail
  refine (unhide t2 _).mono ?_
  rintro e w' ⟨rfl, hw⟩
  replace hw := hw.symm
  subst hw
  go_wp2_with fail
  refine (unhide c2 _ ((unhide HV).below (unhide HB3))).mono ?_
  rintro e w' ⟨rfl, hw⟩
  replace hw := hw.symm
  subst hw
  go_wp2_with fail
  refine (unhide q1 _).mono ?_
  rintro e w4 ⟨v4, rfl, ho4, hb4⟩
  obtain ⟨ao4, cap4, hsh4⟩ := owns_shape ho4
  subst hsh4
  have J4 := hide (Ints.of_owns ho4)
  have I4 := hide ((unhide I3).below hb4)
  have HB4 := hide (bstep (unhide HB3) hb4)
  clear hb4 q1 ho4
  go_wp2_with fail
  refine (unhide q2 _ _ _ _).mono ?_
  rintro e w' ⟨rfl, hw⟩
  replace hw := hw.symm
  subst hw
  go_wp2_with fail
  go_loopw [24, 25, 27] (fun kv hv' iv wr => kv = .int .i64 0 ∧ hv' = .int .i64 0 ∧ iv = .int .i64 0 ∧ wr = w4) (fun _ _ _ _ => 0)
  case atStart => exact ⟨rfl, rfl, rfl, rfl⟩
  case round =>
    obtain ⟨rfl, rfl, rfl, hwr⟩ := hrel
    replace hwr := hwr.symm
    subst hwr
    have hltI : (0 : Int) < (xs.length : Int) := by omega
    go_wp2_with fail
    refine (unhide GX _ ((unhide HM).below (unhide HB4)) ((unhide HT).below (unhide HB4))).mono ?_
    rintro e w8 ⟨rfl, hb8⟩
    have HB8 := hide (bstep (unhide HB4) hb8)
    have J8 := hide ((unhide J4).below hb8)
    have I8 := hide ((unhide I4).below hb8)
    go_wp2_with fail
    refine (intsAre_ok _ (unhide I8) (unhide J8)).mono ?_
    rintro e w9 ⟨rfl, hb9⟩
    have HB9 := hide (bstep (unhide HB8) hb9)
    go_wp2_with fail
    go_ret
    exact ⟨ret_bool (by simp), unhide HB9⟩
set_option maxHeartbeats 6400000 in
set_option maxRecDepth 100000 in
theorem tt_fine_good (hD : DcSays) (hDE : DcErrs) (hR : RcSays) (hRE : RcErrs) (hRK : RcKind) (hCt : CtSays) (hCE : CtErrs) (name s : ByteArray) (n : Int) (v : Value) (xs : List Int) (w : World) (hMx : Mx w) (hT : Tb w) (hn : name.size ≤ maxLen) (hs : s.size ≤ maxLen) (hv : Ints w v xs) (h0 : name.size ≤ 3000) (h1 : s.size ≤ 3000) (h : 1 ≤ n ∧ n ≤ 7) (l0 : xs.length ≤ 3000) (l1 : xs.all M.sclr = true) :
    Calls Tryz.prog 7 #[.string name, .string s, .int .i64 n, v] w fun e w' => e = .returned (.bool true) ∧ Below w.heap.size w w' := by
  have HM := hide hMx
  have HT := hide hT
  have GX := hide (fun w h h' => begunX_any hD hR hCt w h h')
  have r1 := hide (fun w hm => hD name s w h0 h1 hm)
  have t1 := hide (fun w => tooLong_no name w h0)
  have t2 := hide (fun w => tooLong_no s w h1)
  have q1 := hide (fun w => wholeOf_any name s w h0 h1)
  have hws := whI_sclr name s
  have hwl := whI_few name s
  have r2 := hide (fun w hm ht => hR name s n w h0 h1 h hm ht)
  have q2 := hide (fun (w : World) (z : Value) (hz : Ints w z (whI name (bl s))) => encOf_1 n w h hz (by omega) hws)
  rw [resW_yes (.inl rfl)] at q2
  have q3 := hide (fun w => outputOf_any n w)
  have q4 := hide (fun w => markOf_any (M.outE n) w)
  have HRC : Hid (rcB name (bl s) n = mkB (M.outE n) ++ strOfNums (M.encB n (M.ptsE n (whI name (bl s))))) := hide rfl
  have hz1 : (mkB (M.outE n)).size ≤ 3 := by unfold mkB; split <;> (try split) <;> (try split) <;> decide
  have hz2 := encB_any (n := n) (by omega) hws (by omega : (whI name (bl s)).length ≤ 3000)
  have HLN : Hid ((whI name (bl s)).length ≤ 3000) := hide (by omega)
  clear hws hwl
  generalize (chI name (bl s)).1 = n1 at *
  generalize (chI name (bl s)).2.1 = y1 at *
  generalize hrc : rcB name (bl s) n = RC at *
  clear hrc
  generalize strOfNums (M.encB n (M.ptsE n (whI name (bl s)))) = EN at *
  generalize mkB (M.outE n) = MK at *
  generalize M.outE n = on at *
  have hcat : MK ++ EN = RC := (unhide HRC).symm
  have hcat2 : MK.append EN = RC := hcat
  generalize whI name (bl s) = X at *
  have c1 := hide (fun w (hi : Ints w v xs) => hCt v xs w hi l0 l1)
  have c2 := hide (fun w (hi : Ints w v xs) => pcheck_any w hi l0)
  rw [chkRes_yes l1] at c2
  have HV := hide hv
  have hvm : xs.length ≤ maxLen := by obtain ⟨_, _, _, hm, _⟩ := hv; exact hm
  obtain ⟨ao, cap, rfl, -⟩ := hv
  unfold maxLen at hn hs hvm
  clear hD hDE hR hRE hRK hCt hCE hMx hT
  go_enter Tryz.func7, Tryz.ntmps7
  go_wp2_with fail
  refine (unhide r1 _ (unhide HM)).mono ?_
  rintro e w1 ⟨v1, rfl, ho1, hb1⟩
  obtain ⟨ao1, cap1, hsh1⟩ := owns_shape ho1
  subst hsh1
  have I1 := hide (Ints.of_owns ho1)
  have HB1 := hide hb1
  clear hb1 r1 ho1
  go_wp2_with fail
  refine (unhide r2 _ ((unhide HM).below (unhide HB1)) ((unhide HT).below (unhide HB1))).mono ?_
  rintro e w2 ⟨rfl, hb2⟩
  have HB2 := hide (bstep (unhide HB1) hb2)
  have I2 := hide ((unhide I1).below hb2)
  clear hb2 HB1 r2
  go_wp2_with fail
  refine (unhide c1 _ ((unhide HV).below (unhide HB2))).mono ?_
  rintro e w3 ⟨rfl, hb3⟩
  have HB3 := hide (bstep (unhide HB2) hb3)
  have I3 := hide ((unhide I2).below hb3)
  clear hb3 HB2 c1
  go_wp2_with fail
  refine (unhide t1 _).mono ?_
  rintro e w' ⟨rfl, hw⟩
  replace hw := hw.symm
  subst hw
  go_wp2_with fail
  refine (unhide t2 _).mono ?_
  rintro e w' ⟨rfl, hw⟩
  replace hw := hw.symm
  subst hw
  go_wp2_with fail
  refine (unhide c2 _ ((unhide HV).below (unhide HB3))).mono ?_
  rintro e w' ⟨rfl, hw⟩
  replace hw := hw.symm
  subst hw
  go_wp2_with fail
  refine (unhide q1 _).mono ?_
  rintro e w4 ⟨v4, rfl, ho4, hb4⟩
  obtain ⟨ao4, cap4, hsh4⟩ := owns_shape ho4
  subst hsh4
  have J4 := hide (Ints.of_owns ho4)
  have I4 := hide ((unhide I3).below hb4)
  have HB4 := hide (bstep (unhide HB3) hb4)
  clear hb4 q1 ho4
  go_wp2_with fail
  refine (unhide q2 _ _ (unhide J4)).mono ?_
  rintro e w5 ⟨rfl, hb5⟩
  have J5 := hide ((unhide J4).below hb5)
  have I5 := hide ((unhide I4).below hb5)
  have HB5 := hide (bstep (unhide HB4) hb5)
  clear hb5 q2
  go_wp2_with fail
  refine (unhide q3 _).mono ?_
  rintro e w' ⟨rfl, hw⟩
  replace hw := hw.symm
  subst hw
  go_wp2_with fail
  refine (unhide q4 _).mono ?_
  rintro e w' ⟨rfl, hw⟩
  replace hw := hw.symm
  subst hw
  go_wp2_with fail
  go_loopw [24, 25, 27] (fun kv hv' iv wr => ∃ k : Nat, k ≤ xs.length ∧ iv = .int .i64 k ∧ kv = .int .i64 (cntB (xs.take k) : Int) ∧ hv' = .int .i64 (cntF (xs.take k) : Int) ∧ wr = w5) (fun _ _ iv _ => xs.length - (intOf iv).toNat)
  case atStart => exact ⟨0, by omega, rfl, by simp [cntB], by simp [cntF], rfl⟩
  case round =>
    obtain ⟨k, hk, rfl, rfl, rfl, hwr⟩ := hrel
    replace hwr := hwr.symm
    subst hwr
    by_cases hlt : k < xs.length
    · obtain ⟨b, off, rfl, hcell⟩ := ints_at ((unhide HV).below (unhide HB5)) (by omega)
      have hc := hcell k hlt
      have HC := hide (cnt_take hlt)
      have hb1 := cntB_le (xs.take k)
      have hb2 := cntF_le (xs.take k)
      have hb3 := List.length_take_le k xs
      clear hcell
      generalize xs.getD k 0 = c at *
      have hltI : (k : Int) < (xs.length : Int) := by omega
      by_cases h65 : c = 65533
      · subst h65
        rw [if_pos rfl, if_pos (by decide)] at HC
        go_wp2_with fail
        go_roundw
        case rel => exact ⟨k + 1, by omega, by go_num, by rw [(unhide HC).1]; go_num, by rw [(unhide HC).2]; go_num, by trivial⟩
        case measure => simp [intOf]; omega
      · have e65 : (c == 65533) = false := beq_eq_false_iff_ne.2 h65
        rw [if_neg h65] at HC
        by_cases h127 : 127 < c
        · rw [if_pos h127] at HC
          clear h65
          go_wp2_with fail
          go_roundw
          case rel => exact ⟨k + 1, by omega, by go_num, by rw [(unhide HC).1]; go_num, by rw [(unhide HC).2]; go_num, by trivial⟩
          case measure => simp [intOf]; omega
        · rw [if_neg h127] at HC
          clear h65
          go_wp2_with fail
          go_roundw
          case rel => exact ⟨k + 1, by omega, by go_num, by rw [(unhide HC).1]; go_num, by rw [(unhide HC).2]; go_num, by trivial⟩
          case measure => simp [intOf]; omega
    · have hE : xs.take k = xs := List.take_of_length_le (by omega)
      rw [hE]
      have hltI : ¬ (k : Int) < (xs.length : Int) := by omega
      clear hE
      go_wp2_with fail
      refine (unhide GX _ ((unhide HM).below (unhide HB5)) ((unhide HT).below (unhide HB5))).mono ?_
      rintro e w8 ⟨rfl, hb8⟩
      have HB8 := hide (bstep (unhide HB5) hb8)
      have J8 := hide ((unhide J5).below hb8)
      have I8 := hide ((unhide I5).below hb8)
      go_wp2_with fail
      refine (intsAre_ok _ (unhide I8) (unhide J8)).mono ?_
      rintro e w9 ⟨rfl, hb9⟩
      have HB9 := hide (bstep (unhide HB8) hb9)
      go_wp2_with fail
      go_ret
      exact ⟨ret_bool (by simp), unhide HB9⟩
set_option maxHeartbeats 6400000 in
set_option maxRecDepth 100000 in
theorem tt_fine_long (hD : DcSays) (hDE : DcErrs) (hR : RcSays) (hRE : RcErrs) (hRK : RcKind) (hCt : CtSays) (hCE : CtErrs) (name s : ByteArray) (n : Int) (v : Value) (xs : List Int) (w : World) (hMx : Mx w) (hT : Tb w) (hn : name.size ≤ maxLen) (hs : s.size ≤ maxLen) (hv : Ints w v xs) (h0 : name.size ≤ 3000) (h1 : s.size ≤ 3000) (h : 1 ≤ n ∧ n ≤ 7) (l0 : 3000 < xs.length) :
    Calls Tryz.prog 7 #[.string name, .string s, .int .i64 n, v] w fun e w' => e = .returned (.bool true) ∧ Below w.heap.size w w' := by
  have HM := hide hMx
  have HT := hide hT
  have GX := hide (fun w h h' => begunX_any hD hR hCt w h h')
  have r1 := hide (fun w hm => hD name s w h0 h1 hm)
  have t1 := hide (fun w => tooLong_no name w h0)
  have t2 := hide (fun w => tooLong_no s w h1)
  have q1 := hide (fun w => wholeOf_any name s w h0 h1)
  have hws := whI_sclr name s
  have hwl := whI_few name s
  have r2 := hide (fun w hm ht => hR name s n w h0 h1 h hm ht)
  have q2 := hide (fun (w : World) (z : Value) (hz : Ints w z (whI name (bl s))) => encOf_1 n w h hz (by omega) hws)
  rw [resW_yes (.inl rfl)] at q2
  have q3 := hide (fun w => outputOf_any n w)
  have q4 := hide (fun w => markOf_any (M.outE n) w)
  have HRC : Hid (rcB name (bl s) n = mkB (M.outE n) ++ strOfNums (M.encB n (M.ptsE n (whI name (bl s))))) := hide rfl
  have hz1 : (mkB (M.outE n)).size ≤ 3 := by unfold mkB; split <;> (try split) <;> (try split) <;> decide
  have hz2 := encB_any (n := n) (by omega) hws (by omega : (whI name (bl s)).length ≤ 3000)
  have HLN : Hid ((whI name (bl s)).length ≤ 3000) := hide (by omega)
  clear hws hwl
  generalize (chI name (bl s)).1 = n1 at *
  generalize (chI name (bl s)).2.1 = y1 at *
  generalize hrc : rcB name (bl s) n = RC at *
  clear hrc
  generalize strOfNums (M.encB n (M.ptsE n (whI name (bl s)))) = EN at *
  generalize mkB (M.outE n) = MK at *
  generalize M.outE n = on at *
  have hcat : MK ++ EN = RC := (unhide HRC).symm
  have hcat2 : MK.append EN = RC := hcat
  generalize whI name (bl s) = X at *
  have c1 := hide (fun w (hi : Ints w v xs) => hCE v xs w hi (.inl l0))
  rw [if_pos l0] at c1
  have HV := hide hv
  have hvm : xs.length ≤ maxLen := by obtain ⟨_, _, _, hm, _⟩ := hv; exact hm
  obtain ⟨ao, cap, rfl, -⟩ := hv
  have c2 := hide (fun w => check_many ao xs.length cap w l0 hvm)
  unfold maxLen at hn hs hvm
  clear hD hDE hR hRE hRK hCt hCE hMx hT
  go_enter Tryz.func7, Tryz.ntmps7
  go_wp2_with fail
  refine (unhide r1 _ (unhide HM)).mono ?_
  rintro e w1 ⟨v1, rfl, ho1, hb1⟩
  obtain ⟨ao1, cap1, hsh1⟩ := owns_shape ho1
  subst hsh1
  have I1 := hide (Ints.of_owns ho1)
  have HB1 := hide hb1
  clear hb1 r1 ho1
  go_wp2_with fail
  refine (unhide r2 _ ((unhide HM).below (unhide HB1)) ((unhide HT).below (unhide HB1))).mono ?_
  rintro e w2 ⟨rfl, hb2⟩
  have HB2 := hide (bstep (unhide HB1) hb2)
  have I2 := hide ((unhide I1).below hb2)
  clear hb2 HB1 r2
  go_wp2_with fail
  refine (unhide c1 _ ((unhide HV).below (unhide HB2))).mono ?_
  rintro e w3 ⟨rfl, hb3⟩
  have HB3 := hide (bstep (unhide HB2) hb3)
  have I3 := hide ((unhide I2).below hb3)
  clear hb3 HB2 c1
  go_wp2_with fail
  refine (unhide t1 _).mono ?_
  rintro e w' ⟨rfl, hw⟩
  replace hw := hw.symm
  subst hw
  go_wp2_with fail
  refine (unhide t2 _).mono ?_
  rintro e w' ⟨rfl, hw⟩
  replace hw := hw.symm
  subst hw
  go_wp2_with fail
  refine (unhide c2 _).mono ?_
  rintro e w' ⟨rfl, hw⟩
  replace hw := hw.symm
  subst hw
  go_wp2_with fail
  refine (unhide q1 _).mono ?_
  rintro e w4 ⟨v4, rfl, ho4, hb4⟩
  obtain ⟨ao4, cap4, hsh4⟩ := owns_shape ho4
  subst hsh4
  have J4 := hide (Ints.of_owns ho4)
  have I4 := hide ((unhide I3).below hb4)
  have HB4 := hide (bstep (unhide HB3) hb4)
  clear hb4 q1 ho4
  go_wp2_with fail
  refine (unhide q2 _ _ (unhide J4)).mono ?_
  rintro e w5 ⟨rfl, hb5⟩
  have J5 := hide ((unhide J4).below hb5)
  have I5 := hide ((unhide I4).below hb5)
  have HB5 := hide (bstep (unhide HB4) hb5)
  clear hb5 q2
  go_wp2_with fail
  refine (unhide q3 _).mono ?_
  rintro e w' ⟨rfl, hw⟩
  replace hw := hw.symm
  subst hw
  go_wp2_with fail
  refine (unhide q4 _).mono ?_
  rintro e w' ⟨rfl, hw⟩
  replace hw := hw.symm
  subst hw
  go_wp2_with fail
  go_loopw [24, 25, 27] (fun kv hv' iv wr => kv = .int .i64 0 ∧ hv' = .int .i64 0 ∧ iv = .int .i64 0 ∧ wr = w5) (fun _ _ _ _ => 0)
  case atStart => exact ⟨rfl, rfl, rfl, rfl⟩
  case round =>
    obtain ⟨rfl, rfl, rfl, hwr⟩ := hrel
    replace hwr := hwr.symm
    subst hwr
    have hltI : (0 : Int) < (xs.length : Int) := by omega
    go_wp2_with fail
    refine (unhide GX _ ((unhide HM).below (unhide HB5)) ((unhide HT).below (unhide HB5))).mono ?_
    rintro e w8 ⟨rfl, hb8⟩
    have HB8 := hide (bstep (unhide HB5) hb8)
    have J8 := hide ((unhide J5).below hb8)
    have I8 := hide ((unhide I5).below hb8)
    go_wp2_with fail
    refine (intsAre_ok _ (unhide I8) (unhide J8)).mono ?_
    rintro e w9 ⟨rfl, hb9⟩
    have HB9 := hide (bstep (unhide HB8) hb9)
    go_wp2_with fail
    go_ret
    exact ⟨ret_bool (by simp), unhide HB9⟩
set_option maxHeartbeats 6400000 in
set_option maxRecDepth 100000 in
theorem tt_fine_range (hD : DcSays) (hDE : DcErrs) (hR : RcSays) (hRE : RcErrs) (hRK : RcKind) (hCt : CtSays) (hCE : CtErrs) (name s : ByteArray) (n : Int) (v : Value) (xs : List Int) (w : World) (hMx : Mx w) (hT : Tb w) (hn : name.size ≤ maxLen) (hs : s.size ≤ maxLen) (hv : Ints w v xs) (h0 : name.size ≤ 3000) (h1 : s.size ≤ 3000) (h : 1 ≤ n ∧ n ≤ 7) (l0 : xs.length ≤ 3000) (l1 : xs.all M.sclr = false) :
    Calls Tryz.prog 7 #[.string name, .string s, .int .i64 n, v] w fun e w' => e = .returned (.bool true) ∧ Below w.heap.size w w' := by
  have HM := hide hMx
  have HT := hide hT
  have GX := hide (fun w h h' => begunX_any hD hR hCt w h h')
  have r1 := hide (fun w hm => hD name s w h0 h1 hm)
  have t1 := hide (fun w => tooLong_no name w h0)
  have t2 := hide (fun w => tooLong_no s w h1)
  have q1 := hide (fun w => wholeOf_any name s w h0 h1)
  have hws := whI_sclr name s
  have hwl := whI_few name s
  have r2 := hide (fun w hm ht => hR name s n w h0 h1 h hm ht)
  have q2 := hide (fun (w : World) (z : Value) (hz : Ints w z (whI name (bl s))) => encOf_1 n w h hz (by omega) hws)
  rw [resW_yes (.inl rfl)] at q2
  have q3 := hide (fun w => outputOf_any n w)
  have q4 := hide (fun w => markOf_any (M.outE n) w)
  have HRC : Hid (rcB name (bl s) n = mkB (M.outE n) ++ strOfNums (M.encB n (M.ptsE n (whI name (bl s))))) := hide rfl
  have hz1 : (mkB (M.outE n)).size ≤ 3 := by unfold mkB; split <;> (try split) <;> (try split) <;> decide
  have hz2 := encB_any (n := n) (by omega) hws (by omega : (whI name (bl s)).length ≤ 3000)
  have HLN : Hid ((whI name (bl s)).length ≤ 3000) := hide (by omega)
  clear hws hwl
  generalize (chI name (bl s)).1 = n1 at *
  generalize (chI name (bl s)).2.1 = y1 at *
  generalize hrc : rcB name (bl s) n = RC at *
  clear hrc
  generalize strOfNums (M.encB n (M.ptsE n (whI name (bl s)))) = EN at *
  generalize mkB (M.outE n) = MK at *
  generalize M.outE n = on at *
  have hcat : MK ++ EN = RC := (unhide HRC).symm
  have hcat2 : MK.append EN = RC := hcat
  generalize whI name (bl s) = X at *
  have c1 := hide (fun w (hi : Ints w v xs) => hCE v xs w hi (.inr l1))
  rw [if_neg (by omega)] at c1
  have c2 := hide (fun w (hi : Ints w v xs) => pcheck_any w hi l0)
  rw [chkRes_no l1] at c2
  have HV := hide hv
  have hvm : xs.length ≤ maxLen := by obtain ⟨_, _, _, hm, _⟩ := hv; exact hm
  obtain ⟨ao, cap, rfl, -⟩ := hv
  have hpos : 0 < xs.length := by cases xs with | nil => cases l1 | cons => simp
  unfold maxLen at hn hs hvm
  clear hD hDE hR hRE hRK hCt hCE hMx hT
  go_enter Tryz.func7, Tryz.ntmps7
  go_wp2_with fail
  refine (unhide r1 _ (unhide HM)).mono ?_
  rintro e w1 ⟨v1, rfl, ho1, hb1⟩
  obtain ⟨ao1, cap1, hsh1⟩ := owns_shape ho1
  subst hsh1
  have I1 := hide (Ints.of_owns ho1)
  have HB1 := hide hb1
  clear hb1 r1 ho1
  go_wp2_with fail
  refine (unhide r2 _ ((unhide HM).below (unhide HB1)) ((unhide HT).below (unhide HB1))).mono ?_
  rintro e w2 ⟨rfl, hb2⟩
  have HB2 := hide (bstep (unhide HB1) hb2)
  have I2 := hide ((unhide I1).below hb2)
  clear hb2 HB1 r2
  go_wp2_with fail
  refine (unhide c1 _ ((unhide HV).below (unhide HB2))).mono ?_
  rintro e w3 ⟨rfl, hb3⟩
  have HB3 := hide (bstep (unhide HB2) hb3)
  have I3 := hide ((unhide I2).below hb3)
  clear hb3 HB2 c1
  go_wp2_with fail
  refine (unhide t1 _).mono ?_
  rintro e w' ⟨rfl, hw⟩
  replace hw := hw.symm
  subst hw
  go_wp2_with fail
  refine (unhide t2 _).mono ?_
  rintro e w' ⟨rfl, hw⟩
  replace hw := hw.symm
  subst hw
  go_wp2_with fail
  refine (unhide c2 _ ((unhide HV).below (unhide HB3))).mono ?_
  rintro e w' ⟨rfl, hw⟩
  replace hw := hw.symm
  subst hw
  go_wp2_with fail
  refine (unhide q1 _).mono ?_
  rintro e w4 ⟨v4, rfl, ho4, hb4⟩
  obtain ⟨ao4, cap4, hsh4⟩ := owns_shape ho4
  subst hsh4
  have J4 := hide (Ints.of_owns ho4)
  have I4 := hide ((unhide I3).below hb4)
  have HB4 := hide (bstep (unhide HB3) hb4)
  clear hb4 q1 ho4
  go_wp2_with fail
  refine (unhide q2 _ _ (unhide J4)).mono ?_
  rintro e w5 ⟨rfl, hb5⟩
  have J5 := hide ((unhide J4).below hb5)
  have I5 := hide ((unhide I4).below hb5)
  have HB5 := hide (bstep (unhide HB4) hb5)
  clear hb5 q2
  go_wp2_with fail
  refine (unhide q3 _).mono ?_
  rintro e w' ⟨rfl, hw⟩
  replace hw := hw.symm
  subst hw
  go_wp2_with fail
  refine (unhide q4 _).mono ?_
  rintro e w' ⟨rfl, hw⟩
  replace hw := hw.symm
  subst hw
  go_wp2_with fail
  go_loopw [24, 25, 27] (fun kv hv' iv wr => kv = .int .i64 0 ∧ hv' = .int .i64 0 ∧ iv = .int .i64 0 ∧ wr = w5) (fun _ _ _ _ => 0)
  case atStart => exact ⟨rfl, rfl, rfl, rfl⟩
  case round =>
    obtain ⟨rfl, rfl, rfl, hwr⟩ := hrel
    replace hwr := hwr.symm
    subst hwr
    have hltI : (0 : Int) < (xs.length : Int) := by omega
    go_wp2_with fail
    refine (unhide GX _ ((unhide HM).below (unhide HB5)) ((unhide HT).below (unhide HB5))).mono ?_
    rintro e w8 ⟨rfl, hb8⟩
    have HB8 := hide (bstep (unhide HB5) hb8)
    have J8 := hide ((unhide J5).below hb8)
    have I8 := hide ((unhide I5).below hb8)
    go_wp2_with fail
    refine (intsAre_ok _ (unhide I8) (unhide J8)).mono ?_
    rintro e w9 ⟨rfl, hb9⟩
    have HB9 := hide (bstep (unhide HB8) hb9)
    go_wp2_with fail
    go_ret
    exact ⟨ret_bool (by simp), unhide HB9⟩
theorem ttext_walk (hD : DcSays) (hDE : DcErrs) (hR : RcSays) (hRE : RcErrs) (hRK : RcKind) (hCt : CtSays) (hCE : CtErrs) (name s : ByteArray) (n : Int) (v : Value) (xs : List Int) (w : World) (hMx : Mx w) (hT : Tb w) (hn : name.size ≤ maxLen) (hs : s.size ≤ maxLen) (hv : Ints w v xs) :
    Calls Tryz.prog 7 #[.string name, .string s, .int .i64 n, v] w fun e w' => e = .returned (.bool true) ∧ Below w.heap.size w w' := by
  by_cases l0 : 3000 < xs.length
  · by_cases h : 3000 < name.size
    · exact tt_name_long hD hDE hR hRE hRK hCt hCE name s n v xs w hMx hT hn hs hv h l0
    by_cases h' : 3000 < s.size
    · exact tt_s_long hD hDE hR hRE hRK hCt hCE name s n v xs w hMx hT hn hs hv (by omega) h' l0
    by_cases h2 : 1 ≤ n ∧ n ≤ 7
    · exact tt_fine_long hD hDE hR hRE hRK hCt hCE name s n v xs w hMx hT hn hs hv (by omega) (by omega) h2 l0
    · exact tt_kind_long hD hDE hR hRE hRK hCt hCE name s n v xs w hMx hT hn hs hv (by omega) (by omega) h2 l0
  cases l1 : xs.all M.sclr
  · by_cases h : 3000 < name.size
    · exact tt_name_range hD hDE hR hRE hRK hCt hCE name s n v xs w hMx hT hn hs hv h (by omega) l1
    by_cases h' : 3000 < s.size
    · exact tt_s_range hD hDE hR hRE hRK hCt hCE name s n v xs w hMx hT hn hs hv (by omega) h' (by omega) l1
    by_cases h2 : 1 ≤ n ∧ n ≤ 7
    · exact tt_fine_range hD hDE hR hRE hRK hCt hCE name s n v xs w hMx hT hn hs hv (by omega) (by omega) h2 (by omega) l1
    · exact tt_kind_range hD hDE hR hRE hRK hCt hCE name s n v xs w hMx hT hn hs hv (by omega) (by omega) h2 (by omega) l1
  · by_cases h : 3000 < name.size
    · exact tt_name_good hD hDE hR hRE hRK hCt hCE name s n v xs w hMx hT hn hs hv h (by omega) l1
    by_cases h' : 3000 < s.size
    · exact tt_s_good hD hDE hR hRE hRK hCt hCE name s n v xs w hMx hT hn hs hv (by omega) h' (by omega) l1
    by_cases h2 : 1 ≤ n ∧ n ≤ 7
    · exact tt_fine_good hD hDE hR hRE hRK hCt hCE name s n v xs w hMx hT hn hs hv (by omega) (by omega) h2 (by omega) l1
    · exact tt_kind_good hD hDE hR hRE hRK hCt hCE name s n v xs w hMx hT hn hs hv (by omega) (by omega) h2 (by omega) l1
end Go.Proofs.YtaiinjfnkmidbaaGreatDoor
