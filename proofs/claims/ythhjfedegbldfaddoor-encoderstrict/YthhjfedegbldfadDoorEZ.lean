/- Proved: for every integer encoding and every list of integers the law EncoderStrict returns true and leaves both as they were. Its conditions are those of the given card: the tables of math/bits and of internal/strconv lie as their texts lay them. -/
import Derived.Test.YthhjfedegbldfadDoorCards
import Derived.Test.YthhjfedegbldfadDoorTie
import Derived.Test.YthhjfedegbldfadDoorEI
import Derived.Test.YthhjfedegbldfadDoorEG
import Derived.Test.YthhjfedegbldfadDoorET
import Derived.Test.YthhjfedegbldfadDoorDF
import Derived.Test.YthhjfedegbldfadDoorSame
import Derived.OpenShut
import Derived.ShutString
import Derived.ChangeOld
import Derived.Lay
import Derived.LaidOnce
import Derived.MakeChecks
import Derived.SevenTiedAt
namespace Go.Proofs.YthhjfedegbldfadDoor.encoderStrict
open Go.ChangeShapes Go.WideShapes Go.ChangeAt Go.RowKit
open Go.ChangeMaps (open_string shut_string)
open Go.Proofs.YthhjfedegbldfadDoor
set_option linter.unusedVariables false

theorem own : ownKnob Tryd.prog.godebug = none := by kernel_rfl
theorem laidOut : laidOutB Tryd.prog = true := by kernel_rfl


set_option maxHeartbeats 3200000 in
set_option maxRecDepth 100000 in
theorem walkKind (n : Int) (v : Value) (ys : List Int) (w : World) (hT : Tb w) (hI : Ints w v ys) (hn : ¬ (1 ≤ n ∧ n ≤ 7)) : Calls Tryd.prog 4 #[.int .i64 n, v] w fun e w' => e = .returned (.bool true) ∧ Below w.heap.size w w' := by
  have G := hide (encoderBegun_any w hT)
  have G2 := hide (fun w => begunT_any w)
  obtain ⟨ao, cap, rfl, -, -, -⟩ := hI
  have E := hide (fun w => Enc_kind n 0 ao ys.length cap w hn)
  clear hT hn
  go_enter Tryd.func4, Tryd.ntmps4
  go_wp2_with fail
  refine (unhide G ).mono ?_
  rintro e w1 ⟨rfl, hb⟩
  have HB1 := hide (hb)
  clear hb
  go_wp2_with fail
  refine (unhide G2 _).mono ?_
  rintro e w2 ⟨rfl, hb⟩
  have HB2 := hide (bstep (unhide HB1) hb)
  clear hb
  go_wp2_with fail
  refine (unhide E _).mono ?_
  rintro e w3 ⟨rfl, hb⟩
  have HB3 := hide (bstep (unhide HB2) hb)
  clear hb
  go_wp2_with fail
  go_ret
  exact ⟨rfl, unhide HB3⟩

set_option maxHeartbeats 3200000 in
set_option maxRecDepth 100000 in
theorem walkMany (n : Int) (v : Value) (ys : List Int) (w : World) (hT : Tb w) (hI : Ints w v ys) (hn : 1 ≤ n ∧ n ≤ 7) (hl : 3000 < ys.length) : Calls Tryd.prog 4 #[.int .i64 n, v] w fun e w' => e = .returned (.bool true) ∧ Below w.heap.size w w' := by
  have G := hide (encoderBegun_any w hT)
  have G2 := hide (fun w => begunT_any w)
  have E := hide (fun (w' : World) (hb : Below w.heap.size w w') => Enc_all n 0 w' (hT.below hb) hn (.inl rfl) (hI.below hb))
  rw [show encP n 0 ys = (⟨#[]⟩, 2) from by unfold encP; rw [if_pos hl]] at E
  simp only at E
  obtain ⟨ao, cap, rfl, -, -, -⟩ := hI
  clear hT hn hl
  go_enter Tryd.func4, Tryd.ntmps4
  go_wp2_with fail
  refine (unhide G ).mono ?_
  rintro e w1 ⟨rfl, hb⟩
  have HB1 := hide (hb)
  clear hb
  go_wp2_with fail
  refine (unhide G2 _).mono ?_
  rintro e w2 ⟨rfl, hb⟩
  have HB2 := hide (bstep (unhide HB1) hb)
  clear hb
  go_wp2_with fail
  refine (unhide E _ (unhide HB2)).mono ?_
  rintro e w3 ⟨rfl, hb⟩
  have HB3 := hide (bstep (unhide HB2) hb)
  clear hb
  go_wp2_with fail
  go_ret
  exact ⟨rfl, unhide HB3⟩

set_option maxHeartbeats 3200000 in
set_option maxRecDepth 100000 in
theorem walkRange (n : Int) (v : Value) (ys : List Int) (w : World) (hT : Tb w) (hI : Ints w v ys) (hn : 1 ≤ n ∧ n ≤ 7) (hl : ys.length ≤ 3000) (hs : ys.all M.sclr = false) : Calls Tryd.prog 4 #[.int .i64 n, v] w fun e w' => e = .returned (.bool true) ∧ Below w.heap.size w w' := by
  have G := hide (encoderBegun_any w hT)
  have G2 := hide (fun w => begunT_any w)
  have E := hide (fun (w' : World) (hb : Below w.heap.size w w') => Enc_all n 0 w' (hT.below hb) hn (.inl rfl) (hI.below hb))
  rw [show encP n 0 ys = (⟨#[]⟩, 3) from by unfold encP; rw [if_neg (by omega), if_pos hs]] at E
  simp only at E
  obtain ⟨ao, cap, rfl, -, -, -⟩ := hI
  clear hT hn hl hs
  go_enter Tryd.func4, Tryd.ntmps4
  go_wp2_with fail
  refine (unhide G ).mono ?_
  rintro e w1 ⟨rfl, hb⟩
  have HB1 := hide (hb)
  clear hb
  go_wp2_with fail
  refine (unhide G2 _).mono ?_
  rintro e w2 ⟨rfl, hb⟩
  have HB2 := hide (bstep (unhide HB1) hb)
  clear hb
  go_wp2_with fail
  refine (unhide E _ (unhide HB2)).mono ?_
  rintro e w3 ⟨rfl, hb⟩
  have HB3 := hide (bstep (unhide HB2) hb)
  clear hb
  go_wp2_with fail
  go_ret
  exact ⟨rfl, unhide HB3⟩

set_option maxHeartbeats 3200000 in
set_option maxRecDepth 100000 in
theorem walkNone (n : Int) (v : Value) (ys : List Int) (w : World) (hT : Tb w) (hI : Ints w v ys) (hn : 1 ≤ n ∧ n ≤ 7) (hl : ys.length ≤ 3000) (hs : ys.all M.sclr = true) (ha : ys.all (M.hasE n) = false) : Calls Tryd.prog 4 #[.int .i64 n, v] w fun e w' => e = .returned (.bool true) ∧ Below w.heap.size w w' := by
  have G := hide (encoderBegun_any w hT)
  have G2 := hide (fun w => begunT_any w)
  have HN := hide hn
  have HS := hide hs
  have HA := hide ha
  have E := hide (fun (w' : World) (hb : Below w.heap.size w w') => Enc_all n 0 w' (hT.below hb) hn (.inl rfl) (hI.below hb))
  have HI := hide hI
  rw [encP_5 hl hs ha] at E
  simp only at E
  obtain ⟨ao, cap, rfl, -, -, hc⟩ := hI
  have HC := hide hc
  clear hT hc
  clear hn hs ha
  go_enter Tryd.func4, Tryd.ntmps4
  go_wp2_with fail
  refine (unhide G ).mono ?_
  rintro e w1 ⟨rfl, hb⟩
  have HB1 := hide (hb)
  clear hb
  go_wp2_with fail
  refine (unhide G2 _).mono ?_
  rintro e w2 ⟨rfl, hb⟩
  have HB2 := hide (bstep (unhide HB1) hb)
  clear hb
  go_wp2_with fail
  refine (unhide E _ (unhide HB2)).mono ?_
  rintro e w3 ⟨rfl, hb⟩
  have HB3 := hide (bstep (unhide HB2) hb)
  clear hb
  go_wp2_with fail
  go_loopw [7, 8] (fun a i wr => ∃ k : Nat, k ≤ ys.length ∧ i = .int .i64 k ∧ a = .bool ((ys.take k).all (M.hasE n)) ∧ Below w.heap.size w wr) (fun _ i _ => ys.length - (intOf i).toNat)
  case atStart => exact ⟨0, by omega, rfl, by simp, unhide HB3⟩
  case round =>
    obtain ⟨k, hk, rfl, rfl, hB⟩ := hrel
    have hz := hB.size
    have HB := hide hB
    clear hB
    by_cases hlt : k < ys.length
    · obtain ⟨b, off, rfl, hc⟩ : ∃ b off, ao = some ⟨b, off, none⟩ ∧ ∀ i, i < ys.length → w.cell? ⟨b, off + i, none⟩ = some (.int .i64 (ys.getD i 0)) := by
        rcases unhide HC with h | h
        · subst h; simp at hlt
        · exact h
      have hcell : wr.cell? ⟨b, off + k, none⟩ = some (.int .i64 (ys.getD k 0)) := ((unhide HB).cell (p := ⟨b, off + k, none⟩) (World.block_lt_of_cell? w _ (hc k hlt))).trans (hc k hlt)
      have hbr : b < wr.heap.size := World.block_lt_of_cell? wr _ hcell
      have HSp : Hid (M.sclr (ys.getD k 0) = true) := hide (sclr_all (unhide HS) _ (by simp [hlt]))
      obtain ⟨p, HP⟩ : ∃ p, Hid (ys.getD k 0 = p) := ⟨_, hide rfl⟩
      rw [unhide HP] at hcell HSp
      have HT1 : Hid ((ys.take (k + 1)).all (M.hasE n) = ((ys.take k).all (M.hasE n) && M.hasE n p)) := hide (by rw [take_getD hlt (unhide HP), List.all_append]; simp)
      have H := hide (fun w => Has_yes n p w (unhide HN) (unhide HSp))
      clear hc
      generalize (ys.take k).all (M.hasE n) = b1 at *
      generalize M.hasE n p = b2 at *
      go_wp2_with fail
      refine (unhide H _).mono ?_
      rintro e w5 ⟨rfl, hb5⟩
      have HB5 := hide (bstep (unhide HB) hb5)
      clear hb5 H
      cases b1
      all_goals
        go_wp2_with fail
        go_roundw
        case rel => exact ⟨k + 1, by omega, by go_num, by rw [unhide HT1]; rfl, unhide HB5⟩
        case measure => simp [intOf]; omega
    · have et : ys.take k = ys := List.take_of_length_le (by omega)
      rw [et, unhide HA]
      clear et
      go_wp2_with fail
      go_ret
      exact ⟨rfl, unhide HB⟩

set_option maxHeartbeats 3200000 in
set_option maxRecDepth 100000 in
theorem walkLong (n : Int) (v : Value) (ys : List Int) (w : World) (hT : Tb w) (hI : Ints w v ys) (hn : 1 ≤ n ∧ n ≤ 7) (hl : ys.length ≤ 3000) (hs : ys.all M.sclr = true) (ha : ys.all (M.hasE n) = true) (hz0 : 3000 < (strOfNums (M.encB n ys)).size) : Calls Tryd.prog 4 #[.int .i64 n, v] w fun e w' => e = .returned (.bool true) ∧ Below w.heap.size w w' := by
  have G := hide (encoderBegun_any w hT)
  have G2 := hide (fun w => begunT_any w)
  have HN := hide hn
  have HS := hide hs
  have HA := hide ha
  have E := hide (fun (w' : World) (hb : Below w.heap.size w w') => Enc_all n 0 w' (hT.below hb) hn (.inl rfl) (hI.below hb))
  have HI := hide hI
  rw [encP_0 hl hs ha] at E
  have hz1 := encB_max hn hl
  simp only at E
  obtain ⟨ao, cap, rfl, -, -, hc⟩ := hI
  have HC := hide hc
  clear hT hc
  generalize strOfNums (M.encB n ys) = bs at *
  clear hn hs ha
  go_enter Tryd.func4, Tryd.ntmps4
  go_wp2_with fail
  refine (unhide G ).mono ?_
  rintro e w1 ⟨rfl, hb⟩
  have HB1 := hide (hb)
  clear hb
  go_wp2_with fail
  refine (unhide G2 _).mono ?_
  rintro e w2 ⟨rfl, hb⟩
  have HB2 := hide (bstep (unhide HB1) hb)
  clear hb
  go_wp2_with fail
  refine (unhide E _ (unhide HB2)).mono ?_
  rintro e w3 ⟨rfl, hb⟩
  have HB3 := hide (bstep (unhide HB2) hb)
  clear hb
  go_wp2_with fail
  go_loopw [7, 8] (fun a i wr => ∃ k : Nat, k ≤ ys.length ∧ i = .int .i64 k ∧ a = .bool ((ys.take k).all (M.hasE n)) ∧ Below w.heap.size w wr) (fun _ i _ => ys.length - (intOf i).toNat)
  case atStart => exact ⟨0, by omega, rfl, by simp, unhide HB3⟩
  case round =>
    obtain ⟨k, hk, rfl, rfl, hB⟩ := hrel
    have hz := hB.size
    have HB := hide hB
    clear hB
    by_cases hlt : k < ys.length
    · obtain ⟨b, off, rfl, hc⟩ : ∃ b off, ao = some ⟨b, off, none⟩ ∧ ∀ i, i < ys.length → w.cell? ⟨b, off + i, none⟩ = some (.int .i64 (ys.getD i 0)) := by
        rcases unhide HC with h | h
        · subst h; simp at hlt
        · exact h
      have hcell : wr.cell? ⟨b, off + k, none⟩ = some (.int .i64 (ys.getD k 0)) := ((unhide HB).cell (p := ⟨b, off + k, none⟩) (World.block_lt_of_cell? w _ (hc k hlt))).trans (hc k hlt)
      have hbr : b < wr.heap.size := World.block_lt_of_cell? wr _ hcell
      have HSp : Hid (M.sclr (ys.getD k 0) = true) := hide (sclr_all (unhide HS) _ (by simp [hlt]))
      obtain ⟨p, HP⟩ : ∃ p, Hid (ys.getD k 0 = p) := ⟨_, hide rfl⟩
      rw [unhide HP] at hcell HSp
      have HT1 : Hid ((ys.take (k + 1)).all (M.hasE n) = ((ys.take k).all (M.hasE n) && M.hasE n p)) := hide (by rw [take_getD hlt (unhide HP), List.all_append]; simp)
      have H := hide (fun w => Has_yes n p w (unhide HN) (unhide HSp))
      clear hc
      generalize (ys.take k).all (M.hasE n) = b1 at *
      generalize M.hasE n p = b2 at *
      go_wp2_with fail
      refine (unhide H _).mono ?_
      rintro e w5 ⟨rfl, hb5⟩
      have HB5 := hide (bstep (unhide HB) hb5)
      clear hb5 H
      cases b1
      all_goals
        go_wp2_with fail
        go_roundw
        case rel => exact ⟨k + 1, by omega, by go_num, by rw [unhide HT1]; rfl, unhide HB5⟩
        case measure => simp [intOf]; omega
    · have et : ys.take k = ys := List.take_of_length_le (by omega)
      rw [et, unhide HA]
      clear et
      go_wp2_with fail
      go_ret
      exact ⟨rfl, unhide HB⟩

set_option maxHeartbeats 3200000 in
set_option maxRecDepth 100000 in
theorem walkBack (n : Int) (v : Value) (ys : List Int) (w : World) (hT : Tb w) (hI : Ints w v ys) (hn : 1 ≤ n ∧ n ≤ 7) (hl : ys.length ≤ 3000) (hs : ys.all M.sclr = true) (ha : ys.all (M.hasE n) = true) (hz0 : (strOfNums (M.encB n ys)).size ≤ 3000) : Calls Tryd.prog 4 #[.int .i64 n, v] w fun e w' => e = .returned (.bool true) ∧ Below w.heap.size w w' := by
  have G := hide (encoderBegun_any w hT)
  have G2 := hide (fun w => begunT_any w)
  have HN := hide hn
  have HS := hide hs
  have HA := hide ha
  have E := hide (fun (w' : World) (hb : Below w.heap.size w w') => Enc_all n 0 w' (hT.below hb) hn (.inl rfl) (hI.below hb))
  have HI := hide hI
  rw [encP_0 hl hs ha] at E
  have O := hide (fun w => Output_yes n w hn)
  have hon : 1 ≤ M.outE n ∧ M.outE n ≤ 7 := by have := M.outE_bd hn; omega
  have DD := hide (fun w => sdecode_any (M.outE n) (strOfNums (M.encB n ys)) w hon hz0)
  rw [back_is hn hs ha] at DD
  clear hon
  simp only at E
  obtain ⟨ao, cap, rfl, -, -, hc⟩ := hI
  have HC := hide hc
  clear hT hc
  generalize strOfNums (M.encB n ys) = bs at *
  generalize M.outE n = o at *
  clear hn hs ha
  go_enter Tryd.func4, Tryd.ntmps4
  go_wp2_with fail
  refine (unhide G ).mono ?_
  rintro e w1 ⟨rfl, hb⟩
  have HB1 := hide (hb)
  clear hb
  go_wp2_with fail
  refine (unhide G2 _).mono ?_
  rintro e w2 ⟨rfl, hb⟩
  have HB2 := hide (bstep (unhide HB1) hb)
  clear hb
  go_wp2_with fail
  refine (unhide E _ (unhide HB2)).mono ?_
  rintro e w3 ⟨rfl, hb⟩
  have HB3 := hide (bstep (unhide HB2) hb)
  clear hb
  go_wp2_with fail
  go_loopw [7, 8] (fun a i wr => ∃ k : Nat, k ≤ ys.length ∧ i = .int .i64 k ∧ a = .bool ((ys.take k).all (M.hasE n)) ∧ Below w.heap.size w wr) (fun _ i _ => ys.length - (intOf i).toNat)
  case atStart => exact ⟨0, by omega, rfl, by simp, unhide HB3⟩
  case round =>
    obtain ⟨k, hk, rfl, rfl, hB⟩ := hrel
    have hz := hB.size
    have HB := hide hB
    clear hB
    by_cases hlt : k < ys.length
    · obtain ⟨b, off, rfl, hc⟩ : ∃ b off, ao = some ⟨b, off, none⟩ ∧ ∀ i, i < ys.length → w.cell? ⟨b, off + i, none⟩ = some (.int .i64 (ys.getD i 0)) := by
        rcases unhide HC with h | h
        · subst h; simp at hlt
        · exact h
      have hcell : wr.cell? ⟨b, off + k, none⟩ = some (.int .i64 (ys.getD k 0)) := ((unhide HB).cell (p := ⟨b, off + k, none⟩) (World.block_lt_of_cell? w _ (hc k hlt))).trans (hc k hlt)
      have hbr : b < wr.heap.size := World.block_lt_of_cell? wr _ hcell
      have HSp : Hid (M.sclr (ys.getD k 0) = true) := hide (sclr_all (unhide HS) _ (by simp [hlt]))
      obtain ⟨p, HP⟩ : ∃ p, Hid (ys.getD k 0 = p) := ⟨_, hide rfl⟩
      rw [unhide HP] at hcell HSp
      have HT1 : Hid ((ys.take (k + 1)).all (M.hasE n) = ((ys.take k).all (M.hasE n) && M.hasE n p)) := hide (by rw [take_getD hlt (unhide HP), List.all_append]; simp)
      have H := hide (fun w => Has_yes n p w (unhide HN) (unhide HSp))
      clear hc
      generalize (ys.take k).all (M.hasE n) = b1 at *
      generalize M.hasE n p = b2 at *
      go_wp2_with fail
      refine (unhide H _).mono ?_
      rintro e w5 ⟨rfl, hb5⟩
      have HB5 := hide (bstep (unhide HB) hb5)
      clear hb5 H
      cases b1
      all_goals
        go_wp2_with fail
        go_roundw
        case rel => exact ⟨k + 1, by omega, by go_num, by rw [unhide HT1]; rfl, unhide HB5⟩
        case measure => simp [intOf]; omega
    · have et : ys.take k = ys := List.take_of_length_le (by omega)
      rw [et, unhide HA]
      clear et
      go_wp2_with fail
      refine (unhide O _).mono ?_
      rintro e w6 ⟨rfl, hb⟩
      have HB6 := hide (bstep (unhide HB) hb)
      clear hb
      go_wp2_with fail
      refine (unhide DD _).mono ?_
      rintro e w7 ⟨vd, rfl, hId, hb7⟩
      have HB7 := hide (bstep (unhide HB6) hb7)
      have HID := hide hId
      obtain ⟨ad, cd, rfl, -, -, -⟩ := hId
      clear hb7
      go_wp2_with fail
      refine (same_any _ (unhide HID) ((unhide HI).below (unhide HB7))).mono ?_
      rintro e w8 ⟨rfl, hb8⟩
      rw [show (ys == ys) = true from by simp]
      have HB8 := hide (bstep (unhide HB7) hb8)
      clear hb8
      go_wp2_with fail
      go_ret
      exact ⟨rfl, unhide HB8⟩

theorem walk (n : Int) (v : Value) (ys : List Int) (w : World) (hT : Tb w) (h1 : (Lit.int .i64 n).wf = true) (hI : Ints w v ys) : Calls Tryd.prog 4 #[.int .i64 n, v] w fun e w' => e = .returned (.bool true) ∧ Below w.heap.size w w' := by
  by_cases hn : 1 ≤ n ∧ n ≤ 7
  · by_cases hl : ys.length ≤ 3000
    · cases hs : ys.all M.sclr
      · exact walkRange n v ys w hT hI hn hl hs
      · cases ha : ys.all (M.hasE n)
        · exact walkNone n v ys w hT hI hn hl hs ha
        · by_cases hz : (strOfNums (M.encB n ys)).size ≤ 3000
          · exact walkBack n v ys w hT hI hn hl hs ha hz
          · exact walkLong n v ys w hT hI hn hl hs ha (by omega)
    · exact walkMany n v ys w hT hI hn (by omega)
  · exact walkKind n v ys w hT hI hn

set_option maxRecDepth 100000 in
theorem lifted (os : Os) (started : os.Started) (H : Type) (enc : TypeId × Value → H) :
    ReturnsInHanded {} Tryd.checked os 4 .any (fun w args => (Rows.encoderStrictSpec.pre enc Tryd.prog Tryd.f4 [] false w args ∧ laidMetH Tryd.prog Rows.encoderStrictRow.laid w) ∧ sizedMet enc Tryd.prog Tryd.f4 (OpenSpec.ofChange Rows.encoderStrictSpec) false w args)
      (Rows.encoderStrictSpec.post enc Tryd.prog Tryd.f4 false true false false) := by
  refine returnsInHanded_of_change_and (C := Tryd.checked) (X := fun w _ => laidMetH Tryd.prog Rows.encoderStrictRow.laid w) (fun _ _ _ hh h => h.of_heap hh) own started (by kernel_rfl) Tryd.func4
    (ChangeSpec.witness_shaped (enc := enc) (C := Tryd.checked) (os := os) (X := fun w _ => laidMetH Tryd.prog Rows.encoderStrictRow.laid w) false (World.laidAll Tryd.prog os Rows.encoderStrictRow.laid) #[.int .i64 0, .slice none 0 0] 8 (World.laidAll_os _ _ _)
      (World.shaped_of_ZipB (by kernel_rfl) (by kernel_rfl)) (by kernel_rfl) (by kernel_rfl) (by kernel_rfl)
      (by rw [MakeChecks.laidMetH_plain _ _ _ (by kernel_rfl)]; exact laidMet_laidAll _ (by kernel_rfl) (by kernel_rfl))) ?_
  intro W base args ds gs before hval0 hW _ hsz0 hL _
  have hval : ∀ (j : Nat) t v, Tryd.f4.params[j]? = some t → args[j]? = some v → Value.okWide Tryd.prog W .any base t v := hval0
  have hW' := hW
  have hT : Tb W := tb_laid hL
  obtain ⟨p, q, hA0, hV, rfl, hfz, hnd⟩ := hW
  have hA : DataW.TrodAll enc Tryd.prog W 0 (fun _ => true) true Tryd.f4.params.toList args.toList ds p := hA0
  rw [Tryd.params4] at hA hval
  obtain ⟨v0, vs0, d0, ds0, p0, q0, hargs, rfl, rfl, h0, r0⟩ := trodAll_cons hA
  obtain ⟨v1, vs1, d1, ds1, p1, q1, rfl, rfl, rfl, h1, r1⟩ := trodAll_cons r0
  obtain ⟨rfl, rfl, rfl⟩ := trodAll_nil r1
  obtain rfl : args = #[v0, v1] := by cases args; simp_all
  obtain ⟨rfl, rfl⟩ := trodVars_none hV
  obtain ⟨a0, rfl, rfl, rfl, w0⟩ := open_int Tryd.underlying3 (hval 0 3 v0 rfl rfl) h0
  obtain ⟨a1, len1, cap1, rfl⟩ := okWide_slice Tryd.underlying22 (hval 1 22 v1 rfl rfl)
  have k1 := h1
  have lt1 : ∀ x ∈ p1, x.block < W.heap.size := by obtain ⟨m, hm⟩ := k1; exact DataW.trod_lt m _ _ _ hm
  obtain ⟨z1, w1⟩ : ∃ zs, IsRow .i64 W a1 len1 cap1 zs := by
    obtain ⟨fuel, hf⟩ := h1
    rcases open_ints Tryd.underlying22 Tryd.underlying3 (by kernel_rfl) hf with ⟨hcs, _⟩ | ⟨x, l, c, zs, hcs, _, hl, hm, hz, _, hcell, hwz⟩
    · simp [Value.cells] at hcs
      obtain ⟨rfl, rfl, rfl⟩ := hcs
      exact ⟨[], .inl ⟨rfl, rfl, rfl, rfl⟩⟩
    · simp [Value.cells] at hcs
      obtain ⟨rfl, rfl, rfl⟩ := hcs
      exact ⟨zs, .inr ⟨_, rfl, hl, hm, by simpa using hz, hcell, hwz⟩⟩
  clear hA0 hval0 hL hsz0
  refine (walk a0 (.slice a1 len1 cap1) (z1.take len1) W hT w0 (Ints.of_row w1)).mono fun e W' ⟨he, bel⟩ => ?_
  subst he
  exact ⟨_, rfl, _, _, _, [], _, [], hW', trodAll_mk1 (shut_bool Tryd.underlying4 _), (trodAll_cons_mk (shut_int Tryd.underlying3 w0) (trodAll_cons_mk (Below.trod laidOut (by kernel_rfl) (of_decide_eq_true (by kernel_rfl)) k1 bel lt1) trodAll_mk0)), rfl, bel.frame _, fun h => by cases h⟩

theorem said : Rows.EncoderStrictSaid :=
  OpenClaim.holds_of_wide 4 Tryd.f4 rfl rfl rfl rfl rfl rfl rfl ⟨rfl, rfl, rfl, rfl, rfl⟩ rfl rfl rfl rfl rfl (by kernel_rfl) Tryd.func4 (by kernel_rfl)
    (of_decide_eq_true (by kernel_rfl)) (by unfold Func.isWrapper; first | (rw [if_pos (by decide +kernel)]; kernel_rfl) | (rw [if_neg (by decide +kernel)]; exact ⟨rfl, rfl⟩))
    (fun os started H enc _ => lifted os started H enc)

theorem plain (f : FuncId) (fn : Func) (hf : Tryd.pinned.checked.prog.funcNamed Rows.encoderStrictRow.func = some f) (hfn : Tryd.pinned.checked.prog.funcs[f]? = some fn) :
    false = Tryd.pinned.checked.prog.looks [] ∧ ∀ (j : Nat) t, fn.params[j]? = some t → Tryd.pinned.checked.prog.wantsStandIn t = false := by
  obtain rfl : f = 4 := Option.some.inj ((show Tryd.prog.funcNamed Rows.encoderStrictRow.func = some 4 by kernel_rfl).symm.trans hf) |>.symm
  obtain rfl : fn = Tryd.f4 := (Option.some.inj (Tryd.func4.symm.trans hfn)).symm
  refine ⟨by kernel_rfl, fun j t ht => ?_⟩
  rw [Tryd.params4] at ht
  have hm : t = 3 ∨ t = 22 := by
    have := Array.mem_of_getElem? ht
    simp at this
    omega
  rcases hm with rfl | rfl
  · exact (show Tryd.prog.wantsStandIn 3 = false by kernel_rfl)
  · exact (show Tryd.prog.wantsStandIn 22 = false by kernel_rfl)

theorem card : Rows.EncoderStrictCardSaid :=
  Claim7.holds_tied_plain_at .later [] _ _ _ _ said (fun _ h => by cases h) (by kernel_rfl) (fun _ h => by cases h) encoderStrict_row_tie rfl ⟨rfl, rfl⟩ (by kernel_rfl) rfl plain (by kernel_rfl)
end Go.Proofs.YthhjfedegbldfadDoor.encoderStrict

namespace Go.Proofs.YthhjfedegbldfadDoor
theorem encoderStrict_holds : Rows.EncoderStrictCardSaid := encoderStrict.card
end Go.Proofs.YthhjfedegbldfadDoor
