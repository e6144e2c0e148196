/- The contracts of the reference's IsEncoding, HasOf and EncodeOf: each returns what the plain function of its name computes, errors too; nothing that was there is written. -/
import Derived.Test.YthhjfedegbldfadDoorRD
import Derived.Test.YthhjfedegbldfadDoorLawC
import Derived.Test.YthhjfedegbldfadDoorRU
import Derived.Test.YthhjfedegbldfadDoorRL
import Derived.Test.YthhjfedegbldfadDoorSD
import Derived.Test.YthhjfedegbldfadDoorEW
namespace Go.Proofs.YthhjfedegbldfadDoor
open Go.RowKit
set_option linter.unusedVariables false

set_option maxHeartbeats 400000 in
set_option maxRecDepth 100000 in
theorem isEncoding_any (n : Int) (w : World) : Calls Tryd.prog 10 #[.int .i64 n] w fun e w' => e = .returned (.bool (decide (1 ≤ n ∧ n ≤ 7))) ∧ w' = w := by
  rw [Bool.decide_and]
  go_enter Tryd.func10, Tryd.ntmps10
  go_wp2_with (go_at_call 23; refine (between_any _ _ _ _).mono ?_; rintro e w1 ⟨rfl, hw⟩; replace hw := hw.symm; subst hw)
  go_ret
  exact ⟨rfl, rfl⟩

theorem bOf_pos (user : Bool) (n : Int) : decide (0 ≤ bOf user n) = M.hasB user n := by
  cases h : M.hasB user n
  · rw [bOf_no h]; rfl
  · rw [bOf_yes h]; simp; exact (M.bof_bd user h).1
set_option maxHeartbeats 800000 in
set_option maxRecDepth 100000 in
theorem hasOf_any (n p : Int) (w : World) (hn : 1 ≤ n ∧ n ≤ 7) : Calls Tryd.prog 15 #[.int .i64 n, .int .i64 p] w fun e w' => e = .returned (.bool (M.hasE n p)) ∧ Below w.heap.size w w' := by
  have B0 := hide (fun w => byteRef_any false p w)
  have B1 := hide (fun w => byteRef_any true p w)
  have D0 := hide (bOf_pos false p)
  have D1 := hide (bOf_pos true p)
  have K := hide (fun w => hasKana_any p w)
  generalize bOf false p = b0 at *
  generalize bOf true p = b1 at *
  rcases (show n = 1 ∨ n = 2 ∨ n = 3 ∨ n = 7 ∨ n = 4 ∨ n = 5 ∨ n = 6 from by omega) with rfl | rfl | rfl | rfl | rfl | rfl | rfl
  · go_enter Tryd.func15, Tryd.ntmps15
    go_wp2_with fail
    go_ret
    exact ⟨rfl, Below.refl _ _⟩
  · go_enter Tryd.func15, Tryd.ntmps15
    go_wp2_with fail
    go_ret
    exact ⟨rfl, Below.refl _ _⟩
  · go_enter Tryd.func15, Tryd.ntmps15
    go_wp2_with fail
    go_ret
    exact ⟨rfl, Below.refl _ _⟩
  · go_enter Tryd.func15, Tryd.ntmps15
    go_wp2_with fail
    go_ret
    exact ⟨rfl, Below.refl _ _⟩
  · rw [M.hasE_four, ← unhide D0]
    go_enter Tryd.func15, Tryd.ntmps15
    go_wp2_with fail
    refine (unhide B0 _).mono ?_
    rintro e w1 ⟨rfl, hb⟩
    have HB := hide hb
    clear hb
    go_wp2_with fail
    go_ret
    exact ⟨rfl, unhide HB⟩
  · rw [M.hasE_five, ← unhide D1]
    go_enter Tryd.func15, Tryd.ntmps15
    go_wp2_with fail
    refine (unhide B1 _).mono ?_
    rintro e w1 ⟨rfl, hb⟩
    have HB := hide hb
    clear hb
    go_wp2_with fail
    go_ret
    exact ⟨rfl, unhide HB⟩
  · rw [M.hasE_six]
    go_enter Tryd.func15, Tryd.ntmps15
    go_wp2_with fail
    refine (unhide K _).mono ?_
    rintro e w1 ⟨rfl, hw⟩
    replace hw := hw.symm
    subst hw
    go_wp2_with fail
    go_ret
    exact ⟨rfl, Below.refl _ _⟩

set_option maxHeartbeats 400000 in
set_option maxRecDepth 100000 in
theorem encOf_kind (n mode : Int) (ao : Option Addr) (len cap : Nat) (w : World) (hn : ¬ (1 ≤ n ∧ n ≤ 7)) : Calls Tryd.prog 13 #[.int .i64 n, .int .i64 mode, .slice ao len cap] w fun e w' => e = .returned (.tuple #[.string ⟨#[]⟩, .int .i64 6]) ∧ w' = w := by
  have I := hide (fun w => isEncoding_any n w)
  rw [show decide (1 ≤ n ∧ n ≤ 7) = false from decide_eq_false hn] at I
  clear hn
  go_enter Tryd.func13, Tryd.ntmps13
  go_wp2_with fail
  refine (unhide I _).mono ?_
  rintro e w1 ⟨rfl, hw⟩
  replace hw := hw.symm
  subst hw
  go_wp2_with fail
  go_ret2
  exact ⟨rfl, rfl⟩
set_option maxHeartbeats 400000 in
set_option maxRecDepth 100000 in
theorem encOf_mode (n mode : Int) (ao : Option Addr) (len cap : Nat) (w : World) (hn : 1 ≤ n ∧ n ≤ 7) (hm : ¬ (mode = 0 ∨ mode = 1)) : Calls Tryd.prog 13 #[.int .i64 n, .int .i64 mode, .slice ao len cap] w fun e w' => e = .returned (.tuple #[.string ⟨#[]⟩, .int .i64 4]) ∧ w' = w := by
  have I := hide (fun w => isEncoding_any n w)
  rw [show decide (1 ≤ n ∧ n ≤ 7) = true from decide_eq_true hn] at I
  have m0 : (mode != 0) = true := by simp; omega
  have m1 : (mode != 1) = true := by simp; omega
  clear hn hm
  go_enter Tryd.func13, Tryd.ntmps13
  go_wp2_with fail
  refine (unhide I _).mono ?_
  rintro e w1 ⟨rfl, hw⟩
  replace hw := hw.symm
  subst hw
  go_wp2_with fail
  go_ret2
  exact ⟨rfl, rfl⟩
set_option maxHeartbeats 400000 in
set_option maxRecDepth 100000 in
theorem encOf_many (n mode : Int) (ao : Option Addr) (len cap : Nat) (w : World) (hn : 1 ≤ n ∧ n ≤ 7) (hm : mode = 0 ∨ mode = 1) (hl : 3000 < len) (hx : len ≤ maxLen) : Calls Tryd.prog 13 #[.int .i64 n, .int .i64 mode, .slice ao len cap] w fun e w' => e = .returned (.tuple #[.string ⟨#[]⟩, .int .i64 2]) ∧ w' = w := by
  have I := hide (fun w => isEncoding_any n w)
  rw [show decide (1 ≤ n ∧ n ≤ 7) = true from decide_eq_true hn] at I
  have C := hide (fun w => check_many ao len cap w hl hx)
  clear hn hl hx
  rcases hm with rfl | rfl
  all_goals
    go_enter Tryd.func13, Tryd.ntmps13
    go_wp2_with fail
    refine (unhide I _).mono ?_
    rintro e w1 ⟨rfl, hw⟩
    replace hw := hw.symm
    subst hw
    go_wp2_with fail
    refine (unhide C _).mono ?_
    rintro e w1 ⟨rfl, hw⟩
    replace hw := hw.symm
    subst hw
    go_wp2_with fail
    go_ret2
    exact ⟨rfl, rfl⟩
set_option maxHeartbeats 400000 in
set_option maxRecDepth 100000 in
theorem encOf_range (n mode : Int) {v : Value} {xs : List Int} (w : World) (hn : 1 ≤ n ∧ n ≤ 7) (hm : mode = 0 ∨ mode = 1) (hI : Ints w v xs) (hl : xs.length ≤ 3000) (hs : xs.all M.sclr = false) : Calls Tryd.prog 13 #[.int .i64 n, .int .i64 mode, v] w fun e w' => e = .returned (.tuple #[.string ⟨#[]⟩, .int .i64 3]) ∧ w' = w := by
  have I := hide (fun w => isEncoding_any n w)
  rw [show decide (1 ≤ n ∧ n ≤ 7) = true from decide_eq_true hn] at I
  have C := hide (check_any w hI hl)
  rw [chkRes_no hs] at C
  obtain ⟨ao, cap, rfl, -, -, -⟩ := hI
  clear hn hs
  rcases hm with rfl | rfl
  all_goals
    go_enter Tryd.func13, Tryd.ntmps13
    go_wp2_with fail
    refine (unhide I _).mono ?_
    rintro e w1 ⟨rfl, hw⟩
    replace hw := hw.symm
    subst hw
    go_wp2_with fail
    refine (unhide C).mono ?_
    rintro e w1 ⟨rfl, hw⟩
    replace hw := hw.symm
    subst hw
    go_wp2_with fail
    go_ret2
    exact ⟨rfl, rfl⟩

/-- What a round of EncodeOf's loop knows. -/
def InG (L : List Int) (w wr : World) (v : Value) : Prop := wr.ownsRow w.heap.size 3 1 v L.length (L.map (Value.int .i64)) ∧ Below w.heap.size w wr

set_option maxHeartbeats 3200000 in
set_option maxRecDepth 100000 in
theorem encOf_0 (n : Int) {v : Value} {xs : List Int} (w : World) (hn : 1 ≤ n ∧ n ≤ 7) (hI : Ints w v xs) (hlen : xs.length ≤ 3000) (hs : xs.all M.sclr = true) : Calls Tryd.prog 13 #[.int .i64 n, .int .i64 0, v] w fun e w' => e = .returned (resW n 0 xs) ∧ Below w.heap.size w w' := by
  have I := hide (fun w => isEncoding_any n w)
  rw [show decide (1 ≤ n ∧ n ≤ 7) = true from decide_eq_true hn] at I
  have C := hide (check_any w hI hlen)
  rw [chkRes_yes hs] at C
  obtain ⟨ao, cap, rfl, -, -, hc⟩ := hI
  have HC := hide hc
  have HS := hide hs
  have HN := hide hn
  have HI : Hid (InG (xs.take 0) w w (.slice none 0 0)) := hide ⟨World.ownsRow_nil _ _ _ _, Below.refl _ _⟩
  clear hn hs hc
  go_enter Tryd.func13, Tryd.ntmps13
  go_wp2_with fail
  refine (unhide I _).mono ?_
  rintro e w1 ⟨rfl, hw⟩
  replace hw := hw.symm
  subst hw
  clear I
  go_wp2_with fail
  refine (unhide C).mono ?_
  rintro e w1 ⟨rfl, hw⟩
  replace hw := hw.symm
  subst hw
  clear C
  go_wp2_with fail
  go_loopw [9, 10] (fun v i wr => ∃ k : Nat, k ≤ xs.length ∧ i = .int .i64 k ∧ InG (xs.take k) w wr v) (fun _ i _ => xs.length - (intOf i).toNat)
  case atStart => exact ⟨0, by omega, rfl, by simpa using unhide HI⟩
  case round =>
    obtain ⟨k, hk, rfl, hI⟩ := hrel
    clear HI
    have hz := hI.2.size
    have HO := hide hI.1
    have HB := hide hI.2
    have HLn : Hid ((xs.take k).length ≤ 30000) := hide (by rw [List.length_take]; omega)
    clear hI
    by_cases hlt : k < xs.length
    · obtain ⟨b, off, rfl, hc⟩ : ∃ b off, ao = some ⟨b, off, none⟩ ∧ ∀ i, i < xs.length → w.cell? ⟨b, off + i, none⟩ = some (.int .i64 (xs.getD i 0)) := by
        rcases unhide HC with h | h
        · subst h; simp at hlt
        · exact h
      have hcell : wr.cell? ⟨b, off + k, none⟩ = some (.int .i64 (xs.getD k 0)) := ((unhide HB).cell (p := ⟨b, off + k, none⟩) (World.block_lt_of_cell? w _ (hc k hlt))).trans (hc k hlt)
      have hbr : b < wr.heap.size := World.block_lt_of_cell? wr _ hcell
      have HSp : Hid (M.sclr (xs.getD k 0) = true) := hide (sclr_all (unhide HS) _ (by simp [hlt]))
      obtain ⟨p, HP⟩ : ∃ p, Hid (xs.getD k 0 = p) := ⟨_, hide rfl⟩
      rw [unhide HP] at hcell HSp
      clear hc
      have HT := hide (take_getD hlt (unhide HP))
      have HL1 : Hid (xs.take (k + 1) = xs.take k ++ [p]) := HT
      generalize xs.take k = L at *
      have hln := unhide HLn
      obtain ⟨av, capv, hsh⟩ := owns_shape (unhide HO)
      subst hsh
      go_wp2_with (at_builtin; refine append_ints rfl (.tmp 45) (.tmp 50) rfl w.heap.size _ L rfl (owns_a (unhide HO) _) _ [p] rfl (one_int _ _) (by simp; omega) (by simp; omega) ?_)
      intro v2 w2 ho2 hb2
      obtain ⟨ao2, cap2, hsh2⟩ := owns_shape ho2
      subst hsh2
      have HJ : Hid (InG (xs.take (k + 1)) w w2 (.slice ao2 (L ++ [p]).length cap2)) := hide ⟨by rw [unhide HL1]; simpa using ho2, (unhide HB).trans (((Below.refl _ _).alloc (by omega) _).trans hb2)⟩
      clear ho2 hb2
      go_wp2_with fail
      go_roundw
      case rel => exact ⟨k + 1, by omega, by go_num, by simpa using unhide HJ⟩
      case measure => simp [intOf]; omega
    · have et : xs.take k = xs := List.take_of_length_le (by omega)
      rw [et] at HO
      clear et HLn
      rcases (show (n = 1 ∨ n = 2 ∨ n = 3 ∨ n = 7) ∨ n = 4 ∨ n = 5 ∨ n = 6 from by have := unhide HN; omega) with hu | rfl | rfl | rfl
      · have ho : M.outE n = 1 := by unfold M.outE; split <;> omega
        have HR : Hid (resW n 0 xs = .tuple #[.string (strOfNums (M.enc xs)), .int .i64 0]) := hide (by rw [resW_yes (.inr (List.all_eq_true.2 fun x _ => M.hasE_one ho x)), M.ptsE_one ho, ← M.encB_out, ho, M.encB_1])
        have OO := hide (fun w => outputOf_any n w)
        rw [ho] at OO
        have HI := hide (Ints.of_owns (unhide HO))
        have HE := hide (encRef_any wr (unhide HI) hlen (unhide HS))
        generalize strOfNums (M.enc xs) = es at *
        obtain ⟨av, capv, hsh⟩ := owns_shape (unhide HO)
        subst hsh
        clear hu ho
        go_wp2_with fail
        refine (unhide OO _).mono ?_
        rintro e w5 ⟨rfl, hw⟩
        replace hw := hw.symm
        subst hw
        go_wp2_with fail
        refine (unhide HE).mono ?_
        rintro e w6 ⟨rfl, hb6⟩
        have HB6 := hide (bstep (unhide HB) hb6)
        clear hb6
        go_wp2_with fail
        go_ret2
        refine ⟨?_, unhide HB6⟩
        rw [unhide HR]; rfl
      · cases hq : xs.all (M.hasB false)
        · have HR : Hid (resW 4 0 xs = .tuple #[.string ⟨#[]⟩, .int .i64 5]) := hide (resW_no rfl hq)
          have OO := hide (fun w => outputOf_any 4 w)
          rw [show M.outE 4 = 4 from rfl] at OO
          have HI := hide (Ints.of_owns (unhide HO))
          have HE := hide (encRefS_any false wr (unhide HI) (by omega))
          rw [refResS_no hq] at HE
          obtain ⟨av, capv, hsh⟩ := owns_shape (unhide HO)
          subst hsh
          clear hq
          go_wp2_with fail
          refine (unhide OO _).mono ?_
          rintro e w5 ⟨rfl, hw⟩
          replace hw := hw.symm
          subst hw
          go_wp2_with fail
          refine (unhide HE).mono ?_
          rintro e w6 ⟨rfl, hb6⟩
          have HB6 := hide (bstep (unhide HB) hb6)
          clear hb6
          go_wp2_with fail
          go_ret2
          refine ⟨?_, unhide HB6⟩
          rw [unhide HR]; rfl
        · have HR : Hid (resW 4 0 xs = .tuple #[.string (strOfNums (M.encS false xs)), .int .i64 0]) := hide (by rw [resW_yes (.inr hq), M.ptsE_all 4 xs hq]; rfl)
          have OO := hide (fun w => outputOf_any 4 w)
          rw [show M.outE 4 = 4 from rfl] at OO
          have HI := hide (Ints.of_owns (unhide HO))
          have HE := hide (encRefS_any false wr (unhide HI) (by omega))
          rw [refResS_yes hq] at HE
          generalize strOfNums (M.encS false (xs)) = es at *
          obtain ⟨av, capv, hsh⟩ := owns_shape (unhide HO)
          subst hsh
          clear hq
          go_wp2_with fail
          refine (unhide OO _).mono ?_
          rintro e w5 ⟨rfl, hw⟩
          replace hw := hw.symm
          subst hw
          go_wp2_with fail
          refine (unhide HE).mono ?_
          rintro e w6 ⟨rfl, hb6⟩
          have HB6 := hide (bstep (unhide HB) hb6)
          clear hb6
          go_wp2_with fail
          go_ret2
          refine ⟨?_, unhide HB6⟩
          rw [unhide HR]; rfl
      · cases hq : xs.all (M.hasB true)
        · have HR : Hid (resW 5 0 xs = .tuple #[.string ⟨#[]⟩, .int .i64 5]) := hide (resW_no rfl hq)
          have OO := hide (fun w => outputOf_any 5 w)
          rw [show M.outE 5 = 5 from rfl] at OO
          have HI := hide (Ints.of_owns (unhide HO))
          have HE := hide (encRefS_any true wr (unhide HI) (by omega))
          rw [refResS_no hq] at HE
          obtain ⟨av, capv, hsh⟩ := owns_shape (unhide HO)
          subst hsh
          clear hq
          go_wp2_with fail
          refine (unhide OO _).mono ?_
          rintro e w5 ⟨rfl, hw⟩
          replace hw := hw.symm
          subst hw
          go_wp2_with fail
          refine (unhide HE).mono ?_
          rintro e w6 ⟨rfl, hb6⟩
          have HB6 := hide (bstep (unhide HB) hb6)
          clear hb6
          go_wp2_with fail
          go_ret2
          refine ⟨?_, unhide HB6⟩
          rw [unhide HR]; rfl
        · have HR : Hid (resW 5 0 xs = .tuple #[.string (strOfNums (M.encS true xs)), .int .i64 0]) := hide (by rw [resW_yes (.inr hq), M.ptsE_all 5 xs hq]; rfl)
          have OO := hide (fun w => outputOf_any 5 w)
          rw [show M.outE 5 = 5 from rfl] at OO
          have HI := hide (Ints.of_owns (unhide HO))
          have HE := hide (encRefS_any true wr (unhide HI) (by omega))
          rw [refResS_yes hq] at HE
          generalize strOfNums (M.encS true (xs)) = es at *
          obtain ⟨av, capv, hsh⟩ := owns_shape (unhide HO)
          subst hsh
          clear hq
          go_wp2_with fail
          refine (unhide OO _).mono ?_
          rintro e w5 ⟨rfl, hw⟩
          replace hw := hw.symm
          subst hw
          go_wp2_with fail
          refine (unhide HE).mono ?_
          rintro e w6 ⟨rfl, hb6⟩
          have HB6 := hide (bstep (unhide HB) hb6)
          clear hb6
          go_wp2_with fail
          go_ret2
          refine ⟨?_, unhide HB6⟩
          rw [unhide HR]; rfl
      · cases hq : xs.all (M.anyK)
        · have HR : Hid (resW 6 0 xs = .tuple #[.string ⟨#[]⟩, .int .i64 5]) := hide (resW_no rfl hq)
          have OO := hide (fun w => outputOf_any 6 w)
          rw [show M.outE 6 = 6 from rfl] at OO
          have HI := hide (Ints.of_owns (unhide HO))
          have HE := hide (encodeKana_any _ _ wr (unhide HI) (by omega))
          rw [wrote_no hq] at HE
          obtain ⟨av, capv, hsh⟩ := owns_shape (unhide HO)
          subst hsh
          clear hq
          go_wp2_with fail
          refine (unhide OO _).mono ?_
          rintro e w5 ⟨rfl, hw⟩
          replace hw := hw.symm
          subst hw
          go_wp2_with fail
          refine (unhide HE).mono ?_
          rintro e w6 ⟨rfl, hb6⟩
          have HB6 := hide (bstep (unhide HB) hb6)
          clear hb6
          go_wp2_with fail
          go_ret2
          refine ⟨?_, unhide HB6⟩
          rw [unhide HR]; rfl
        · have HR : Hid (resW 6 0 xs = .tuple #[.string (strOfNums (M.kenc xs)), .int .i64 0]) := hide (by rw [resW_yes (.inr hq), M.ptsE_all 6 xs hq]; rfl)
          have OO := hide (fun w => outputOf_any 6 w)
          rw [show M.outE 6 = 6 from rfl] at OO
          have HI := hide (Ints.of_owns (unhide HO))
          have HE := hide (encodeKana_any _ _ wr (unhide HI) (by omega))
          rw [wrote_yes hq] at HE
          generalize strOfNums (M.kenc (xs)) = es at *
          obtain ⟨av, capv, hsh⟩ := owns_shape (unhide HO)
          subst hsh
          clear hq
          go_wp2_with fail
          refine (unhide OO _).mono ?_
          rintro e w5 ⟨rfl, hw⟩
          replace hw := hw.symm
          subst hw
          go_wp2_with fail
          refine (unhide HE).mono ?_
          rintro e w6 ⟨rfl, hb6⟩
          have HB6 := hide (bstep (unhide HB) hb6)
          clear hb6
          go_wp2_with fail
          go_ret2
          refine ⟨?_, unhide HB6⟩
          rw [unhide HR]; rfl

set_option maxHeartbeats 3200000 in
set_option maxRecDepth 100000 in
theorem encOf_1 (n : Int) {v : Value} {xs : List Int} (w : World) (hn : 1 ≤ n ∧ n ≤ 7) (hI : Ints w v xs) (hlen : xs.length ≤ 3000) (hs : xs.all M.sclr = true) : Calls Tryd.prog 13 #[.int .i64 n, .int .i64 1, v] w fun e w' => e = .returned (resW n 1 xs) ∧ Below w.heap.size w w' := by
  have I := hide (fun w => isEncoding_any n w)
  rw [show decide (1 ≤ n ∧ n ≤ 7) = true from decide_eq_true hn] at I
  have C := hide (check_any w hI hlen)
  rw [chkRes_yes hs] at C
  obtain ⟨ao, cap, rfl, -, -, hc⟩ := hI
  have HC := hide hc
  have HS := hide hs
  have HN := hide hn
  have HI : Hid (InG (M.ptsE n (xs.take 0)) w w (.slice none 0 0)) := hide ⟨World.ownsRow_nil _ _ _ _, Below.refl _ _⟩
  clear hn hs hc
  go_enter Tryd.func13, Tryd.ntmps13
  go_wp2_with fail
  refine (unhide I _).mono ?_
  rintro e w1 ⟨rfl, hw⟩
  replace hw := hw.symm
  subst hw
  clear I
  go_wp2_with fail
  refine (unhide C).mono ?_
  rintro e w1 ⟨rfl, hw⟩
  replace hw := hw.symm
  subst hw
  clear C
  go_wp2_with fail
  go_loopw [9, 10] (fun v i wr => ∃ k : Nat, k ≤ xs.length ∧ i = .int .i64 k ∧ InG (M.ptsE n (xs.take k)) w wr v) (fun _ i _ => xs.length - (intOf i).toNat)
  case atStart => exact ⟨0, by omega, rfl, by simpa using unhide HI⟩
  case round =>
    obtain ⟨k, hk, rfl, hI⟩ := hrel
    clear HI
    have hz := hI.2.size
    have HO := hide hI.1
    have HB := hide hI.2
    have HLn : Hid ((M.ptsE n (xs.take k)).length ≤ 30000) := hide (pts_few (all_take (unhide HS) k) (by rw [List.length_take]; omega))
    clear hI
    by_cases hlt : k < xs.length
    · obtain ⟨b, off, rfl, hc⟩ : ∃ b off, ao = some ⟨b, off, none⟩ ∧ ∀ i, i < xs.length → w.cell? ⟨b, off + i, none⟩ = some (.int .i64 (xs.getD i 0)) := by
        rcases unhide HC with h | h
        · subst h; simp at hlt
        · exact h
      have hcell : wr.cell? ⟨b, off + k, none⟩ = some (.int .i64 (xs.getD k 0)) := ((unhide HB).cell (p := ⟨b, off + k, none⟩) (World.block_lt_of_cell? w _ (hc k hlt))).trans (hc k hlt)
      have hbr : b < wr.heap.size := World.block_lt_of_cell? wr _ hcell
      have HSp : Hid (M.sclr (xs.getD k 0) = true) := hide (sclr_all (unhide HS) _ (by simp [hlt]))
      obtain ⟨p, HP⟩ : ∃ p, Hid (xs.getD k 0 = p) := ⟨_, hide rfl⟩
      rw [unhide HP] at hcell HSp
      clear hc
      have HT := hide (take_getD hlt (unhide HP))
      have HH := hide (fun w => hasOf_any n p w (unhide HN))
      cases hq : M.hasE n p
      · have HL1 : Hid (M.ptsE n (xs.take (k + 1)) = M.ptsE n (xs.take k) ++ M.tld p) := hide (by rw [unhide HT, M.ptsE_snoc, M.ptE_no hq])
        have HD := hide (fun w => digits_pt (unhide HSp) w)
        have HBy : Hid (bl ((⟨#[38, 35]⟩ : ByteArray) ++ strOfNums (M.digs p.toNat) ++ (⟨#[59]⟩ : ByteArray)) = M.tld p) := hide (by
          rw [bl_app, bl_app, bl_str _ (fun x hx => by have := M.digs_bd _ x hx; omega)]
          unfold M.tld
          rw [show bl ⟨#[38, 35]⟩ = [38, 35] from by decide, show bl ⟨#[59]⟩ = [59] from by decide])
        have hdz : (strOfNums (M.digs p.toNat)).size ≤ 7 := by rw [strOfNums_size]; exact M.digs_seven (unhide HSp)
        rw [hq] at HH
        clear hq
        generalize M.ptsE n (xs.take k) = L at *
        generalize strOfNums (M.digs p.toNat) = d at *
        have hln := unhide HLn
        obtain ⟨av, capv, hsh⟩ := owns_shape (unhide HO)
        subst hsh
        go_wp2_with fail
        refine (unhide HH _).mono ?_
        rintro e w1 ⟨rfl, hb1⟩
        have hz1 := hb1.size
        have HB1 := hide hb1
        have HO1 := hide (owns_below (unhide HO) hb1)
        have hcell1 : w1.cell? ⟨b, off + k, none⟩ = some (.int .i64 p) := (hb1.cell (p := ⟨b, off + k, none⟩) hbr).trans hcell
        have hbr1 : b < w1.heap.size := by omega
        clear hb1 HH
        go_wp2_with fail
        refine (unhide HD _).mono ?_
        rintro e w2 ⟨rfl, hb2⟩
        have hz2 := hb2.size
        have HB2 := hide (bstep (unhide HB1) hb2)
        have HO2 := hide (owns_below (unhide HO1) hb2)
        clear hb2 HD HB1 HO1 hcell1 hbr1
        have z2 : (⟨#[38, 35]⟩ : ByteArray).size = 2 := rfl
        have z1 : (⟨#[59]⟩ : ByteArray).size = 1 := rfl
        go_wp2_with fail
        have hsz : ((⟨#[38, 35]⟩ : ByteArray) ++ d ++ (⟨#[59]⟩ : ByteArray)).size ≤ 10 := by rw [ByteArray.size_append, ByteArray.size_append, z1, z2]; omega
        clear z1 z2
        generalize ((⟨#[38, 35]⟩ : ByteArray) ++ d ++ (⟨#[59]⟩ : ByteArray)) = s at *
        have HI2 : Hid (InG (L ++ (bl s).take 0) w w2 (.slice av L.length capv)) := hide ⟨by simpa using unhide HO2, bstep (unhide HB) (unhide HB2)⟩
        clear HO2 HB2
        go_loopw [9, 12] (fun v i wq => ∃ j : Nat, j ≤ s.size ∧ i = .int .i64 j ∧ InG (L ++ (bl s).take j) w wq v) (fun _ i _ => s.size - (intOf i).toNat)
        case atStart => exact ⟨0, by omega, rfl, unhide HI2⟩
        case round =>
          obtain ⟨j, hj, rfl, hI2⟩ := hrel
          clear HI2
          have hzj := hI2.2.size
          have HOj := hide hI2.1
          have HBj := hide hI2.2
          clear hI2
          by_cases hjl : j < s.size
          · have HTj : Hid ((bl s).take (j + 1) = (bl s).take j ++ [(bl s).getD j 0]) := hide (take_snoc _ j (by rw [bl_len]; exact hjl))
            have hgc : (bl s).getD j 0 = (s[j].toNat : Int) := by rw [List.getD_eq_getElem?_getD, bl_get s j hjl]; rfl
            have hbd : s[j].toNat < 256 := by have := s[j].toNat_lt; omega
            rw [hgc] at HTj
            have HL2 : Hid ((L ++ (bl s).take j).length ≤ 30010) := hide (by rw [List.length_append, List.length_take]; omega)
            obtain ⟨c, hcc⟩ : ∃ c : Int, (s[j].toNat : Int) = c := ⟨_, rfl⟩
            rw [hcc] at HTj
            have hc0 : 0 ≤ c := by omega
            have hc1 : c ≤ 255 := by omega
            have HN2 : Hid (L ++ (bl s).take (j + 1) = (L ++ (bl s).take j) ++ [c]) := hide (by rw [unhide HTj, List.append_assoc])
            clear hgc hbd
            generalize L ++ (bl s).take j = L2 at *
            have hln2 := unhide HL2
            obtain ⟨av2, capv2, hsh2⟩ := owns_shape (unhide HOj)
            subst hsh2
            go_wp2_with (at_builtin; refine append_ints rfl (.tmp 65) (.tmp 70) rfl w.heap.size _ L2 rfl (owns_a (unhide HOj) _) _ [c] rfl (one_int _ _) (by simp; omega) (by simp; omega) ?_)
            intro v3 w3 ho3 hb3
            obtain ⟨ao3, cap3, hsh3⟩ := owns_shape ho3
            subst hsh3
            have HJ : Hid (InG (L ++ (bl s).take (j + 1)) w w3 (.slice ao3 (L2 ++ [c]).length cap3)) := hide ⟨by rw [unhide HN2]; simpa using ho3, (unhide HBj).trans (((Below.refl _ _).alloc (by omega) _).trans hb3)⟩
            clear ho3 hb3
            go_wp2_with fail
            go_roundw
            case rel => exact ⟨j + 1, by omega, by go_num, by simpa using unhide HJ⟩
            case measure => simp [intOf]; omega
          · have HE : Hid (L ++ (bl s).take j = M.ptsE n (xs.take (k + 1))) := hide (by rw [unhide HL1, List.take_of_length_le (by rw [bl_len]; omega), unhide HBy])
            rw [unhide HE] at HOj
            go_wp2_with fail
            go_roundw
            case rel => exact ⟨k + 1, by omega, by go_num, unhide HOj, unhide HBj⟩
            case measure => simp [intOf]; omega
      · have HL1 : Hid (M.ptsE n (xs.take (k + 1)) = M.ptsE n (xs.take k) ++ [p]) := hide (by rw [unhide HT, M.ptsE_snoc, M.ptE_yes hq])
        rw [hq] at HH
        clear hq
        generalize M.ptsE n (xs.take k) = L at *
        have hln := unhide HLn
        obtain ⟨av, capv, hsh⟩ := owns_shape (unhide HO)
        subst hsh
        go_wp2_with fail
        refine (unhide HH _).mono ?_
        rintro e w1 ⟨rfl, hb1⟩
        have hz1 := hb1.size
        have HB1 := hide hb1
        have HO1 := hide (owns_below (unhide HO) hb1)
        have hcell1 : w1.cell? ⟨b, off + k, none⟩ = some (.int .i64 p) := (hb1.cell (p := ⟨b, off + k, none⟩) hbr).trans hcell
        have hbr1 : b < w1.heap.size := by omega
        clear hb1 HH
        go_wp2_with (at_builtin; refine append_ints rfl (.tmp 45) (.tmp 50) rfl w.heap.size _ L rfl (owns_a (unhide HO1) _) _ [p] rfl (one_int _ _) (by simp; omega) (by simp; omega) ?_)
        intro v2 w2 ho2 hb2
        obtain ⟨ao2, cap2, hsh2⟩ := owns_shape ho2
        subst hsh2
        have HJ : Hid (InG (M.ptsE n (xs.take (k + 1))) w w2 (.slice ao2 (L ++ [p]).length cap2)) := hide ⟨by rw [unhide HL1]; simpa using ho2, (bstep (unhide HB) (unhide HB1)).trans (((Below.refl _ _).alloc (by omega) _).trans hb2)⟩
        clear ho2 hb2
        go_wp2_with fail
        go_roundw
        case rel => exact ⟨k + 1, by omega, by go_num, by simpa using unhide HJ⟩
        case measure => simp [intOf]; omega
    · have et : xs.take k = xs := List.take_of_length_le (by omega)
      rw [et] at HO
      clear et HLn
      rcases (show (n = 1 ∨ n = 2 ∨ n = 3 ∨ n = 7) ∨ n = 4 ∨ n = 5 ∨ n = 6 from by have := unhide HN; omega) with hu | rfl | rfl | rfl
      · have ho : M.outE n = 1 := by unfold M.outE; split <;> omega
        have HR : Hid (resW n 1 xs = .tuple #[.string (strOfNums (M.enc xs)), .int .i64 0]) := hide (by rw [resW_yes (.inr (List.all_eq_true.2 fun x _ => M.hasE_one ho x)), M.ptsE_one ho, ← M.encB_out, ho, M.encB_1])
        have OO := hide (fun w => outputOf_any n w)
        rw [ho] at OO
        rw [M.ptsE_one ho] at HO
        have HI := hide (Ints.of_owns (unhide HO))
        have HE := hide (encRef_any wr (unhide HI) hlen (unhide HS))
        generalize strOfNums (M.enc xs) = es at *
        obtain ⟨av, capv, hsh⟩ := owns_shape (unhide HO)
        subst hsh
        clear hu ho
        go_wp2_with fail
        refine (unhide OO _).mono ?_
        rintro e w5 ⟨rfl, hw⟩
        replace hw := hw.symm
        subst hw
        go_wp2_with fail
        refine (unhide HE).mono ?_
        rintro e w6 ⟨rfl, hb6⟩
        have HB6 := hide (bstep (unhide HB) hb6)
        clear hb6
        go_wp2_with fail
        go_ret2
        refine ⟨?_, unhide HB6⟩
        rw [unhide HR]; rfl
      · have HAl : Hid ((M.ptsE 4 xs).all (M.hasB false) = true) := hide (M.ptsE_has 4 xs)
        have HR : Hid (resW 4 1 xs = .tuple #[.string (strOfNums (M.encS false (M.ptsE 4 xs))), .int .i64 0]) := hide (resW_yes (.inl rfl))
        have OO := hide (fun w => outputOf_any 4 w)
        rw [show M.outE 4 = 4 from rfl] at OO
        have HI := hide (Ints.of_owns (unhide HO))
        have HE := hide (encRefS_any false wr (unhide HI) (pts_few (unhide HS) hlen))
        rw [refResS_yes (unhide HAl)] at HE
        generalize strOfNums (M.encS false (M.ptsE 4 xs)) = es at *
        obtain ⟨av, capv, hsh⟩ := owns_shape (unhide HO)
        subst hsh
        go_wp2_with fail
        refine (unhide OO _).mono ?_
        rintro e w5 ⟨rfl, hw⟩
        replace hw := hw.symm
        subst hw
        go_wp2_with fail
        refine (unhide HE).mono ?_
        rintro e w6 ⟨rfl, hb6⟩
        have HB6 := hide (bstep (unhide HB) hb6)
        clear hb6
        go_wp2_with fail
        go_ret2
        refine ⟨?_, unhide HB6⟩
        rw [unhide HR]; rfl
      · have HAl : Hid ((M.ptsE 5 xs).all (M.hasB true) = true) := hide (M.ptsE_has 5 xs)
        have HR : Hid (resW 5 1 xs = .tuple #[.string (strOfNums (M.encS true (M.ptsE 5 xs))), .int .i64 0]) := hide (resW_yes (.inl rfl))
        have OO := hide (fun w => outputOf_any 5 w)
        rw [show M.outE 5 = 5 from rfl] at OO
        have HI := hide (Ints.of_owns (unhide HO))
        have HE := hide (encRefS_any true wr (unhide HI) (pts_few (unhide HS) hlen))
        rw [refResS_yes (unhide HAl)] at HE
        generalize strOfNums (M.encS true (M.ptsE 5 xs)) = es at *
        obtain ⟨av, capv, hsh⟩ := owns_shape (unhide HO)
        subst hsh
        go_wp2_with fail
        refine (unhide OO _).mono ?_
        rintro e w5 ⟨rfl, hw⟩
        replace hw := hw.symm
        subst hw
        go_wp2_with fail
        refine (unhide HE).mono ?_
        rintro e w6 ⟨rfl, hb6⟩
        have HB6 := hide (bstep (unhide HB) hb6)
        clear hb6
        go_wp2_with fail
        go_ret2
        refine ⟨?_, unhide HB6⟩
        rw [unhide HR]; rfl
      · have HAl : Hid ((M.ptsE 6 xs).all (M.anyK) = true) := hide (M.ptsE_has 6 xs)
        have HR : Hid (resW 6 1 xs = .tuple #[.string (strOfNums (M.kenc (M.ptsE 6 xs))), .int .i64 0]) := hide (resW_yes (.inl rfl))
        have OO := hide (fun w => outputOf_any 6 w)
        rw [show M.outE 6 = 6 from rfl] at OO
        have HI := hide (Ints.of_owns (unhide HO))
        have HE := hide (encodeKana_any _ _ wr (unhide HI) (pts_few (unhide HS) hlen))
        rw [wrote_yes (unhide HAl)] at HE
        generalize strOfNums (M.kenc (M.ptsE 6 xs)) = es at *
        obtain ⟨av, capv, hsh⟩ := owns_shape (unhide HO)
        subst hsh
        go_wp2_with fail
        refine (unhide OO _).mono ?_
        rintro e w5 ⟨rfl, hw⟩
        replace hw := hw.symm
        subst hw
        go_wp2_with fail
        refine (unhide HE).mono ?_
        rintro e w6 ⟨rfl, hb6⟩
        have HB6 := hide (bstep (unhide HB) hb6)
        clear hb6
        go_wp2_with fail
        go_ret2
        refine ⟨?_, unhide HB6⟩
        rw [unhide HR]; rfl
end Go.Proofs.YthhjfedegbldfadDoor
