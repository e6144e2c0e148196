/- Proved: for every text s and every list l of integers the law Utf8Back returns true and leaves both as they were. No condition. -/
import Derived.Test.YthhjfedegbldfaaJ
import Derived.Test.YthhjfedegbldfaaMathD
import Derived.OpenShut
import Derived.ShutString
import Derived.ChangeOld
namespace Go.Proofs.Ythhjfedegbldfaa.utf8Back
open Go.ChangeShapes Go.WideShapes Go.ChangeAt Go.RowKit
open Go.ChangeMaps (open_string shut_string)
open Go.Proofs.Ythhjfedegbldfaa
set_option linter.unusedVariables false

theorem own : ownKnob Try.prog.godebug = none := by kernel_rfl
theorem laidOut : laidOutB Try.prog = true := by kernel_rfl

theorem any_snoc (xs : List Int) (k : Nat) (h : k < xs.length) : (xs.take (k + 1)).any (fun x => x == 65533) = ((xs.take k).any (fun x => x == 65533) || (xs.getD k 0 == 65533)) := by
  rw [take_snoc xs k h, List.any_append]; simp

set_option maxHeartbeats 1000000 in
set_option maxRecDepth 100000 in
theorem many_long (s : ByteArray) (v : Value) (ys : List Int) (w : World) (hx : Ints w v ys) (hl : 3000 < ys.length) (hs : 3000 < s.size) (hsm : s.size ≤ maxLen) :
    Calls Try.prog 4 #[.string s, v] w fun e w' => e = .returned (.bool true) ∧ Below w.heap.size w w' := by
  obtain ⟨yo, yc, hv, hym, -⟩ := id hx
  subst hv
  have HX := hide hx
  clear hx
  go_enter Try.func4, Try.ntmps4
  go_wp2_with fail
  refine (begun_any _).mono ?_
  rintro e w1 ⟨rfl, hb1⟩
  go_wp2_with fail
  refine (encode_many yo _ yc _ hl hym).mono ?_
  rintro e w2 ⟨rfl, hw⟩
  replace hw := hw.symm
  subst hw
  have HB := hide hb1
  clear hb1
  go_wp2_with fail
  · skip
    refine (decode_long s _ hs hsm).mono ?_
    rintro e w5 ⟨rfl, hw⟩
    replace hw := hw.symm
    subst hw
    go_wp2_with fail
    go_ret
    exact ⟨rfl, HB.out⟩

set_option maxHeartbeats 1000000 in
set_option maxRecDepth 100000 in
theorem rng_long (s : ByteArray) (v : Value) (ys : List Int) (w : World) (hx : Ints w v ys) (hl : ys.length ≤ 3000) (hn : Hid (ys.all M.sclr = false)) (hs : 3000 < s.size) (hsm : s.size ≤ maxLen) :
    Calls Try.prog 4 #[.string s, v] w fun e w' => e = .returned (.bool true) ∧ Below w.heap.size w w' := by
  obtain ⟨yo, yc, hv, hym, -⟩ := id hx
  subst hv
  have HX := hide hx
  clear hx
  go_enter Try.func4, Try.ntmps4
  go_wp2_with fail
  refine (begun_any _).mono ?_
  rintro e w1 ⟨rfl, hb1⟩
  go_wp2_with fail
  refine (encode_any _ ((unhide HX).below hb1) hl).mono ?_
  rintro e w2 ⟨hb2, rfl⟩
  rw [encRes_no (unhide hn)]
  have HB := hide (bstep hb1 hb2)
  clear hb1 hb2
  go_wp2_with fail
  · skip
    refine (decode_long s _ hs hsm).mono ?_
    rintro e w5 ⟨rfl, hw⟩
    replace hw := hw.symm
    subst hw
    go_wp2_with fail
    go_ret
    exact ⟨rfl, HB.out⟩

set_option maxHeartbeats 1000000 in
set_option maxRecDepth 100000 in
theorem big_long (s : ByteArray) (v : Value) (ys : List Int) (w : World) (hx : Ints w v ys) (hl : ys.length ≤ 3000) (hn : Hid (ys.all M.sclr = true)) (hg : 3000 < (M.enc ys).length) (hs : 3000 < s.size) (hsm : s.size ≤ maxLen) :
    Calls Try.prog 4 #[.string s, v] w fun e w' => e = .returned (.bool true) ∧ Below w.heap.size w w' := by
  obtain ⟨yo, yc, hv, hym, -⟩ := id hx
  subst hv
  have HX := hide hx
  clear hx
  go_enter Try.func4, Try.ntmps4
  go_wp2_with fail
  refine (begun_any _).mono ?_
  rintro e w1 ⟨rfl, hb1⟩
  go_wp2_with fail
  refine (encode_any _ ((unhide HX).below hb1) hl).mono ?_
  rintro e w2 ⟨hb2, rfl⟩
  rw [encRes_yes (unhide hn)]
  have hsz : 3000 < (strOfNums (M.enc ys)).size := by rw [strOfNums_size]; exact hg
  have hsb : (strOfNums (M.enc ys)).size ≤ 12000 := by rw [strOfNums_size]; have := M.enc_len ys; omega
  generalize strOfNums (M.enc ys) = t0 at *
  have HB := hide (bstep hb1 hb2)
  clear hb1 hb2
  go_wp2_with fail
  · skip
    refine (decode_long s _ hs hsm).mono ?_
    rintro e w5 ⟨rfl, hw⟩
    replace hw := hw.symm
    subst hw
    go_wp2_with fail
    go_ret
    exact ⟨rfl, HB.out⟩

set_option maxHeartbeats 1000000 in
set_option maxRecDepth 100000 in
theorem small_long (s : ByteArray) (v : Value) (ys : List Int) (w : World) (hx : Ints w v ys) (hl : ys.length ≤ 3000) (hn : Hid (ys.all M.sclr = true)) (hg : (M.enc ys).length ≤ 3000) (hs : 3000 < s.size) (hsm : s.size ≤ maxLen) :
    Calls Try.prog 4 #[.string s, v] w fun e w' => e = .returned (.bool true) ∧ Below w.heap.size w w' := by
  obtain ⟨yo, yc, hv, hym, -⟩ := id hx
  subst hv
  have HX := hide hx
  clear hx
  go_enter Try.func4, Try.ntmps4
  go_wp2_with fail
  refine (begun_any _).mono ?_
  rintro e w1 ⟨rfl, hb1⟩
  go_wp2_with fail
  refine (encode_any _ ((unhide HX).below hb1) hl).mono ?_
  rintro e w2 ⟨hb2, rfl⟩
  rw [encRes_yes (unhide hn)]
  have hsz : (strOfNums (M.enc ys)).size ≤ 3000 := by rw [strOfNums_size]; exact hg
  have HY := hide (show M.dec (bl (strOfNums (M.enc ys))) = ys from by rw [bl_str _ (M.enc_byt ys (unhide hn)), M.dec_enc ys (unhide hn)])
  generalize strOfNums (M.enc ys) = t0 at *
  go_wp2_with fail
  refine (decode_any t0 _ hsz).mono ?_
  rintro e w3 ⟨v3, rfl, hI3, hb3⟩
  rw [unhide HY] at hI3
  obtain ⟨ao3, cap3, hsh3, -⟩ := id hI3
  subst hsh3
  have HI3 := hide hI3
  clear hI3
  go_wp2_with fail
  refine (same_any _ (unhide HI3) ((unhide HX).below (bstep (bstep hb1 hb2) hb3))).mono ?_
  rintro e w4 ⟨rfl, hb4⟩
  rw [show (ys == ys) = true from by simp]
  have HB := hide (bstep (bstep (bstep hb1 hb2) hb3) hb4)
  clear hb1 hb2 hb3 hb4
  go_wp2_with fail
  · skip
    refine (decode_long s _ hs hsm).mono ?_
    rintro e w5 ⟨rfl, hw⟩
    replace hw := hw.symm
    subst hw
    go_wp2_with fail
    go_ret
    exact ⟨rfl, HB.out⟩

set_option maxHeartbeats 1000000 in
set_option maxRecDepth 100000 in
theorem many_short (s : ByteArray) (v : Value) (ys : List Int) (w : World) (hx : Ints w v ys) (hl : 3000 < ys.length) (hs : s.size ≤ 3000) :
    Calls Try.prog 4 #[.string s, v] w fun e w' => e = .returned (.bool true) ∧ Below w.heap.size w w' := by
  obtain ⟨yo, yc, hv, hym, -⟩ := id hx
  subst hv
  have HX := hide hx
  clear hx
  go_enter Try.func4, Try.ntmps4
  go_wp2_with fail
  refine (begun_any _).mono ?_
  rintro e w1 ⟨rfl, hb1⟩
  go_wp2_with fail
  refine (encode_many yo _ yc _ hl hym).mono ?_
  rintro e w2 ⟨rfl, hw⟩
  replace hw := hw.symm
  subst hw
  have HB := hide hb1
  clear hb1
  go_wp2_with fail
  · skip
    have hln := M.dec_len (bl s)
    rw [bl_len] at hln
    have HD := hide (M.dec_sclr (bl s) (bl_byt s))
    have HT := hide (fun h => (congrArg strOfNums (M.enc_dec (bl s) (bl_byt s) h)).trans (str_bl s))
    refine (decode_any s _ hs).mono ?_
    rintro e w5 ⟨v5, rfl, hI5, hb5⟩
    generalize M.dec (bl s) = xs at *
    obtain ⟨ao, cap, hsh, hm, -, hc⟩ := id hI5
    subst hsh
    have HC := hide hc
    have HI5 := hide hI5
    clear hc hI5
    go_wp2_with fail
    refine (encode_any _ (unhide HI5) (by omega)).mono ?_
    rintro e w6 ⟨hb6, rfl⟩
    rw [encRes_yes (unhide HD)]
    generalize strOfNums (M.enc xs) = t at *
    go_wp2_with fail
    go_loop [10, 11] (fun b i => ∃ k : Nat, k ≤ xs.length ∧ i = .int .i64 k ∧ b = .bool ((xs.take k).any (fun x => x == 65533))) (fun _ i => xs.length - (intOf i).toNat)
    case atStart => exact ⟨0, by omega, rfl, rfl⟩
    case round =>
      obtain ⟨k, hk, rfl, rfl⟩ := hrel
      by_cases hlt : k < xs.length
      · have HA := hide (any_snoc xs k hlt)
        obtain ⟨q, HQ⟩ : ∃ q, Hid ((xs.take k).any (fun x => x == 65533) = q) := ⟨_, rfl⟩
        rw [unhide HQ] at HA ⊢
        rcases unhide HC with h0 | ⟨b, off, rfl, hc⟩
        · subst h0; simp at hlt
        · have cx : w6.cell? ⟨b, off + k, none⟩ = some (.int .i64 (xs.getD k 0)) := (hb6.cell (p := ⟨b, off + k, none⟩) (World.block_lt_of_cell? w5 _ (hc k hlt))).trans (hc k hlt)
          obtain ⟨p, HP⟩ : ∃ p, Hid (xs.getD k 0 = p) := ⟨_, rfl⟩
          rw [unhide HP] at HA cx
          clear hc
          cases q
          all_goals
            go_wp2_with fail
            go_round
            case rel => exact ⟨k + 1, by omega, by go_num, by rw [unhide HA]; rfl⟩
            case measure => simp [intOf]; omega
      · obtain ⟨q, HQ⟩ : ∃ q, Hid ((xs.take k).any (fun x => x == 65533) = q) := ⟨_, rfl⟩
        rw [unhide HQ]
        have HB6 := hide (bstep (bstep HB.out hb5) hb6)
        cases q
        · have e : t = s := unhide HT (by
            have := unhide HQ
            rw [List.take_of_length_le (by omega), List.any_eq_false] at this
            intro x hx hx'
            exact this x hx (by simp [hx']))
          subst e
          go_wp2_with fail
          go_ret
          exact ⟨ret_bool (by simp), unhide HB6⟩
        · go_wp2_with fail
          go_ret
          exact ⟨ret_bool (by simp), unhide HB6⟩

set_option maxHeartbeats 1000000 in
set_option maxRecDepth 100000 in
theorem rng_short (s : ByteArray) (v : Value) (ys : List Int) (w : World) (hx : Ints w v ys) (hl : ys.length ≤ 3000) (hn : Hid (ys.all M.sclr = false)) (hs : s.size ≤ 3000) :
    Calls Try.prog 4 #[.string s, v] w fun e w' => e = .returned (.bool true) ∧ Below w.heap.size w w' := by
  obtain ⟨yo, yc, hv, hym, -⟩ := id hx
  subst hv
  have HX := hide hx
  clear hx
  go_enter Try.func4, Try.ntmps4
  go_wp2_with fail
  refine (begun_any _).mono ?_
  rintro e w1 ⟨rfl, hb1⟩
  go_wp2_with fail
  refine (encode_any _ ((unhide HX).below hb1) hl).mono ?_
  rintro e w2 ⟨hb2, rfl⟩
  rw [encRes_no (unhide hn)]
  have HB := hide (bstep hb1 hb2)
  clear hb1 hb2
  go_wp2_with fail
  · skip
    have hln := M.dec_len (bl s)
    rw [bl_len] at hln
    have HD := hide (M.dec_sclr (bl s) (bl_byt s))
    have HT := hide (fun h => (congrArg strOfNums (M.enc_dec (bl s) (bl_byt s) h)).trans (str_bl s))
    refine (decode_any s _ hs).mono ?_
    rintro e w5 ⟨v5, rfl, hI5, hb5⟩
    generalize M.dec (bl s) = xs at *
    obtain ⟨ao, cap, hsh, hm, -, hc⟩ := id hI5
    subst hsh
    have HC := hide hc
    have HI5 := hide hI5
    clear hc hI5
    go_wp2_with fail
    refine (encode_any _ (unhide HI5) (by omega)).mono ?_
    rintro e w6 ⟨hb6, rfl⟩
    rw [encRes_yes (unhide HD)]
    generalize strOfNums (M.enc xs) = t at *
    go_wp2_with fail
    go_loop [10, 11] (fun b i => ∃ k : Nat, k ≤ xs.length ∧ i = .int .i64 k ∧ b = .bool ((xs.take k).any (fun x => x == 65533))) (fun _ i => xs.length - (intOf i).toNat)
    case atStart => exact ⟨0, by omega, rfl, rfl⟩
    case round =>
      obtain ⟨k, hk, rfl, rfl⟩ := hrel
      by_cases hlt : k < xs.length
      · have HA := hide (any_snoc xs k hlt)
        obtain ⟨q, HQ⟩ : ∃ q, Hid ((xs.take k).any (fun x => x == 65533) = q) := ⟨_, rfl⟩
        rw [unhide HQ] at HA ⊢
        rcases unhide HC with h0 | ⟨b, off, rfl, hc⟩
        · subst h0; simp at hlt
        · have cx : w6.cell? ⟨b, off + k, none⟩ = some (.int .i64 (xs.getD k 0)) := (hb6.cell (p := ⟨b, off + k, none⟩) (World.block_lt_of_cell? w5 _ (hc k hlt))).trans (hc k hlt)
          obtain ⟨p, HP⟩ : ∃ p, Hid (xs.getD k 0 = p) := ⟨_, rfl⟩
          rw [unhide HP] at HA cx
          clear hc
          cases q
          all_goals
            go_wp2_with fail
            go_round
            case rel => exact ⟨k + 1, by omega, by go_num, by rw [unhide HA]; rfl⟩
            case measure => simp [intOf]; omega
      · obtain ⟨q, HQ⟩ : ∃ q, Hid ((xs.take k).any (fun x => x == 65533) = q) := ⟨_, rfl⟩
        rw [unhide HQ]
        have HB6 := hide (bstep (bstep HB.out hb5) hb6)
        cases q
        · have e : t = s := unhide HT (by
            have := unhide HQ
            rw [List.take_of_length_le (by omega), List.any_eq_false] at this
            intro x hx hx'
            exact this x hx (by simp [hx']))
          subst e
          go_wp2_with fail
          go_ret
          exact ⟨ret_bool (by simp), unhide HB6⟩
        · go_wp2_with fail
          go_ret
          exact ⟨ret_bool (by simp), unhide HB6⟩

set_option maxHeartbeats 1000000 in
set_option maxRecDepth 100000 in
theorem big_short (s : ByteArray) (v : Value) (ys : List Int) (w : World) (hx : Ints w v ys) (hl : ys.length ≤ 3000) (hn : Hid (ys.all M.sclr = true)) (hg : 3000 < (M.enc ys).length) (hs : s.size ≤ 3000) :
    Calls Try.prog 4 #[.string s, v] w fun e w' => e = .returned (.bool true) ∧ Below w.heap.size w w' := by
  obtain ⟨yo, yc, hv, hym, -⟩ := id hx
  subst hv
  have HX := hide hx
  clear hx
  go_enter Try.func4, Try.ntmps4
  go_wp2_with fail
  refine (begun_any _).mono ?_
  rintro e w1 ⟨rfl, hb1⟩
  go_wp2_with fail
  refine (encode_any _ ((unhide HX).below hb1) hl).mono ?_
  rintro e w2 ⟨hb2, rfl⟩
  rw [encRes_yes (unhide hn)]
  have hsz : 3000 < (strOfNums (M.enc ys)).size := by rw [strOfNums_size]; exact hg
  have hsb : (strOfNums (M.enc ys)).size ≤ 12000 := by rw [strOfNums_size]; have := M.enc_len ys; omega
  generalize strOfNums (M.enc ys) = t0 at *
  have HB := hide (bstep hb1 hb2)
  clear hb1 hb2
  go_wp2_with fail
  · skip
    have hln := M.dec_len (bl s)
    rw [bl_len] at hln
    have HD := hide (M.dec_sclr (bl s) (bl_byt s))
    have HT := hide (fun h => (congrArg strOfNums (M.enc_dec (bl s) (bl_byt s) h)).trans (str_bl s))
    refine (decode_any s _ hs).mono ?_
    rintro e w5 ⟨v5, rfl, hI5, hb5⟩
    generalize M.dec (bl s) = xs at *
    obtain ⟨ao, cap, hsh, hm, -, hc⟩ := id hI5
    subst hsh
    have HC := hide hc
    have HI5 := hide hI5
    clear hc hI5
    go_wp2_with fail
    refine (encode_any _ (unhide HI5) (by omega)).mono ?_
    rintro e w6 ⟨hb6, rfl⟩
    rw [encRes_yes (unhide HD)]
    generalize strOfNums (M.enc xs) = t at *
    go_wp2_with fail
    go_loop [10, 11] (fun b i => ∃ k : Nat, k ≤ xs.length ∧ i = .int .i64 k ∧ b = .bool ((xs.take k).any (fun x => x == 65533))) (fun _ i => xs.length - (intOf i).toNat)
    case atStart => exact ⟨0, by omega, rfl, rfl⟩
    case round =>
      obtain ⟨k, hk, rfl, rfl⟩ := hrel
      by_cases hlt : k < xs.length
      · have HA := hide (any_snoc xs k hlt)
        obtain ⟨q, HQ⟩ : ∃ q, Hid ((xs.take k).any (fun x => x == 65533) = q) := ⟨_, rfl⟩
        rw [unhide HQ] at HA ⊢
        rcases unhide HC with h0 | ⟨b, off, rfl, hc⟩
        · subst h0; simp at hlt
        · have cx : w6.cell? ⟨b, off + k, none⟩ = some (.int .i64 (xs.getD k 0)) := (hb6.cell (p := ⟨b, off + k, none⟩) (World.block_lt_of_cell? w5 _ (hc k hlt))).trans (hc k hlt)
          obtain ⟨p, HP⟩ : ∃ p, Hid (xs.getD k 0 = p) := ⟨_, rfl⟩
          rw [unhide HP] at HA cx
          clear hc
          cases q
          all_goals
            go_wp2_with fail
            go_round
            case rel => exact ⟨k + 1, by omega, by go_num, by rw [unhide HA]; rfl⟩
            case measure => simp [intOf]; omega
      · obtain ⟨q, HQ⟩ : ∃ q, Hid ((xs.take k).any (fun x => x == 65533) = q) := ⟨_, rfl⟩
        rw [unhide HQ]
        have HB6 := hide (bstep (bstep HB.out hb5) hb6)
        cases q
        · have e : t = s := unhide HT (by
            have := unhide HQ
            rw [List.take_of_length_le (by omega), List.any_eq_false] at this
            intro x hx hx'
            exact this x hx (by simp [hx']))
          subst e
          go_wp2_with fail
          go_ret
          exact ⟨ret_bool (by simp), unhide HB6⟩
        · go_wp2_with fail
          go_ret
          exact ⟨ret_bool (by simp), unhide HB6⟩

set_option maxHeartbeats 1000000 in
set_option maxRecDepth 100000 in
theorem small_short (s : ByteArray) (v : Value) (ys : List Int) (w : World) (hx : Ints w v ys) (hl : ys.length ≤ 3000) (hn : Hid (ys.all M.sclr = true)) (hg : (M.enc ys).length ≤ 3000) (hs : s.size ≤ 3000) :
    Calls Try.prog 4 #[.string s, v] w fun e w' => e = .returned (.bool true) ∧ Below w.heap.size w w' := by
  obtain ⟨yo, yc, hv, hym, -⟩ := id hx
  subst hv
  have HX := hide hx
  clear hx
  go_enter Try.func4, Try.ntmps4
  go_wp2_with fail
  refine (begun_any _).mono ?_
  rintro e w1 ⟨rfl, hb1⟩
  go_wp2_with fail
  refine (encode_any _ ((unhide HX).below hb1) hl).mono ?_
  rintro e w2 ⟨hb2, rfl⟩
  rw [encRes_yes (unhide hn)]
  have hsz : (strOfNums (M.enc ys)).size ≤ 3000 := by rw [strOfNums_size]; exact hg
  have HY := hide (show M.dec (bl (strOfNums (M.enc ys))) = ys from by rw [bl_str _ (M.enc_byt ys (unhide hn)), M.dec_enc ys (unhide hn)])
  generalize strOfNums (M.enc ys) = t0 at *
  go_wp2_with fail
  refine (decode_any t0 _ hsz).mono ?_
  rintro e w3 ⟨v3, rfl, hI3, hb3⟩
  rw [unhide HY] at hI3
  obtain ⟨ao3, cap3, hsh3, -⟩ := id hI3
  subst hsh3
  have HI3 := hide hI3
  clear hI3
  go_wp2_with fail
  refine (same_any _ (unhide HI3) ((unhide HX).below (bstep (bstep hb1 hb2) hb3))).mono ?_
  rintro e w4 ⟨rfl, hb4⟩
  rw [show (ys == ys) = true from by simp]
  have HB := hide (bstep (bstep (bstep hb1 hb2) hb3) hb4)
  clear hb1 hb2 hb3 hb4
  go_wp2_with fail
  · skip
    have hln := M.dec_len (bl s)
    rw [bl_len] at hln
    have HD := hide (M.dec_sclr (bl s) (bl_byt s))
    have HT := hide (fun h => (congrArg strOfNums (M.enc_dec (bl s) (bl_byt s) h)).trans (str_bl s))
    refine (decode_any s _ hs).mono ?_
    rintro e w5 ⟨v5, rfl, hI5, hb5⟩
    generalize M.dec (bl s) = xs at *
    obtain ⟨ao, cap, hsh, hm, -, hc⟩ := id hI5
    subst hsh
    have HC := hide hc
    have HI5 := hide hI5
    clear hc hI5
    go_wp2_with fail
    refine (encode_any _ (unhide HI5) (by omega)).mono ?_
    rintro e w6 ⟨hb6, rfl⟩
    rw [encRes_yes (unhide HD)]
    generalize strOfNums (M.enc xs) = t at *
    go_wp2_with fail
    go_loop [10, 11] (fun b i => ∃ k : Nat, k ≤ xs.length ∧ i = .int .i64 k ∧ b = .bool ((xs.take k).any (fun x => x == 65533))) (fun _ i => xs.length - (intOf i).toNat)
    case atStart => exact ⟨0, by omega, rfl, rfl⟩
    case round =>
      obtain ⟨k, hk, rfl, rfl⟩ := hrel
      by_cases hlt : k < xs.length
      · have HA := hide (any_snoc xs k hlt)
        obtain ⟨q, HQ⟩ : ∃ q, Hid ((xs.take k).any (fun x => x == 65533) = q) := ⟨_, rfl⟩
        rw [unhide HQ] at HA ⊢
        rcases unhide HC with h0 | ⟨b, off, rfl, hc⟩
        · subst h0; simp at hlt
        · have cx : w6.cell? ⟨b, off + k, none⟩ = some (.int .i64 (xs.getD k 0)) := (hb6.cell (p := ⟨b, off + k, none⟩) (World.block_lt_of_cell? w5 _ (hc k hlt))).trans (hc k hlt)
          obtain ⟨p, HP⟩ : ∃ p, Hid (xs.getD k 0 = p) := ⟨_, rfl⟩
          rw [unhide HP] at HA cx
          clear hc
          cases q
          all_goals
            go_wp2_with fail
            go_round
            case rel => exact ⟨k + 1, by omega, by go_num, by rw [unhide HA]; rfl⟩
            case measure => simp [intOf]; omega
      · obtain ⟨q, HQ⟩ : ∃ q, Hid ((xs.take k).any (fun x => x == 65533) = q) := ⟨_, rfl⟩
        rw [unhide HQ]
        have HB6 := hide (bstep (bstep HB.out hb5) hb6)
        cases q
        · have e : t = s := unhide HT (by
            have := unhide HQ
            rw [List.take_of_length_le (by omega), List.any_eq_false] at this
            intro x hx hx'
            exact this x hx (by simp [hx']))
          subst e
          go_wp2_with fail
          go_ret
          exact ⟨ret_bool (by simp), unhide HB6⟩
        · go_wp2_with fail
          go_ret
          exact ⟨ret_bool (by simp), unhide HB6⟩


theorem walk (s : ByteArray) (v : Value) (ys : List Int) (w : World) (hs : s.size ≤ maxLen) (hx : Ints w v ys) :
    Calls Try.prog 4 #[.string s, v] w fun e w' => e = .returned (.bool true) ∧ Below w.heap.size w w' := by
  by_cases h : 3000 < s.size
  · by_cases hl : 3000 < ys.length
    · exact many_long s v ys w hx hl h hs
    · by_cases hn : ys.all M.sclr = true
      · by_cases hg : 3000 < (M.enc ys).length
        · exact big_long s v ys w hx (by omega) hn hg h hs
        · exact small_long s v ys w hx (by omega) hn (by omega) h hs
      · exact rng_long s v ys w hx (by omega) (Bool.eq_false_iff.2 hn) h hs
  · by_cases hl : 3000 < ys.length
    · exact many_short s v ys w hx hl (by omega)
    · by_cases hn : ys.all M.sclr = true
      · by_cases hg : 3000 < (M.enc ys).length
        · exact big_short s v ys w hx (by omega) hn hg (by omega)
        · exact small_short s v ys w hx (by omega) hn (by omega) (by omega)
      · exact rng_short s v ys w hx (by omega) (Bool.eq_false_iff.2 hn) (by omega)

set_option maxRecDepth 100000 in
theorem lifted (os : Os) (started : os.Started) (H : Type) (enc : TypeId × Value → H) :
    ReturnsInHanded {} Try.checked os 4 .any (Rows.utf8BackSpec.pre6 enc Try.prog Try.f4 Rows.utf8BackRow.domain false) (Rows.utf8BackSpec.post enc Try.prog Try.f4 false true false false) := by
  refine returnsInHanded_of_change (C := Try.checked) own started (by kernel_rfl) Try.func4
    (ChangeSpec.witness6 (enc := enc) (C := Try.checked) false ⟨#[], #[.string ByteArray.empty, .slice none 0 0], []⟩ 8 (by kernel_rfl) (by kernel_rfl) (by kernel_rfl) (by kernel_rfl)) ?_
  intro W base args ds gs before hval0 hW hcnd _
  have hval : ∀ (j : Nat) t v, Try.f4.params[j]? = some t → args[j]? = some v → Value.okWide Try.prog W .any base t v := hval0
  have hW' := hW
  obtain ⟨p, q, hA0, hV, rfl, hfz, hnd⟩ := hW
  have hA : DataW.TrodAll enc Try.prog W 0 (fun _ => true) true Try.f4.params.toList args.toList ds p := hA0
  rw [Try.params4] at hA hval
  obtain ⟨v0, vs0, d0, ds0, p0, q0, hargs, rfl, rfl, h0, r0⟩ := trodAll_cons hA
  obtain ⟨v1, vs1, d1, ds1, p1, q1, rfl, rfl, rfl, h1, r1⟩ := trodAll_cons r0
  obtain ⟨rfl, rfl, rfl⟩ := trodAll_nil r1
  obtain rfl : args = #[v0, v1] := by cases args; simp_all
  obtain ⟨rfl, rfl⟩ := trodVars_none hV
  obtain ⟨a0, rfl, rfl, rfl, w0⟩ := open_string Try.underlying9 (hval 0 9 v0 rfl rfl) h0
  obtain ⟨a1, len1, cap1, rfl⟩ := okWide_slice Try.underlying22 (hval 1 22 v1 rfl rfl)
  have k1 := h1
  have lt1 : ∀ x ∈ p1, x.block < W.heap.size := by obtain ⟨m, hm⟩ := k1; exact DataW.trod_lt m _ _ _ hm
  obtain ⟨z1, w1⟩ : ∃ zs, IsRow .i64 W a1 len1 cap1 zs := by
    obtain ⟨fuel, hf⟩ := h1
    rcases open_ints Try.underlying22 Try.underlying3 (by kernel_rfl) hf with ⟨hcs, _⟩ | ⟨x, l, c, zs, hcs, _, hl, hm, hz, _, hcell, hwz⟩
    · simp [Value.cells] at hcs
      obtain ⟨rfl, rfl, rfl⟩ := hcs
      exact ⟨[], .inl ⟨rfl, rfl, rfl, rfl⟩⟩
    · simp [Value.cells] at hcs
      obtain ⟨rfl, rfl, rfl⟩ := hcs
      exact ⟨zs, .inr ⟨_, rfl, hl, hm, by simpa using hz, hcell, hwz⟩⟩
  clear hA0 hval0
  refine (walk a0 (.slice a1 len1 cap1) (z1.take len1) W w0 (Ints.of_row w1)).mono fun e W' ⟨he, bel⟩ => ?_
  subst he
  exact ⟨_, rfl, _, _, _, [], _, [], hW', trodAll_mk1 (shut_bool Try.underlying4 _), (trodAll_cons_mk (shut_string Try.underlying9 w0) (trodAll_cons_mk (Below.trod laidOut (by kernel_rfl) (of_decide_eq_true (by kernel_rfl)) k1 bel lt1) trodAll_mk0)), rfl, bel.frame _, fun h => by cases h⟩

theorem over : Rows.utf8BackRow.holds Try.pinned (OpenSpec.ofChange Rows.utf8BackSpec) :=
  OpenClaim.holds_of_wide 4 Try.f4 rfl rfl rfl rfl rfl rfl rfl ⟨rfl, rfl, rfl, rfl, rfl⟩ rfl rfl rfl rfl rfl (by kernel_rfl) Try.func4 (by kernel_rfl)
    (of_decide_eq_true (by kernel_rfl)) (by unfold Func.isWrapper; first | (rw [if_pos (by decide +kernel)]; kernel_rfl) | (rw [if_neg (by decide +kernel)]; exact ⟨rfl, rfl⟩))
    (fun os started H enc _ => lifted os started H enc)
end Go.Proofs.Ythhjfedegbldfaa.utf8Back

namespace Go.Proofs.Ythhjfedegbldfaa
theorem utf8Back_holds : Rows.Utf8BackSaid := utf8Back.over
end Go.Proofs.Ythhjfedegbldfaa
