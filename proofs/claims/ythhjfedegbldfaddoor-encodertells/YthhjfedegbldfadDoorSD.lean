/- The contracts of cartoucheref.PointOf, ByteOf, DecodeSingle and EncodeSingle: each returns what the plain function of its name computes; nothing that was there is written. Condition: at most 3000 bytes or integers. -/
import Derived.Test.YthhjfedegbldfadDoorSC
namespace Go.Proofs.YthhjfedegbldfadDoor
open Go.RowKit Go.Maps
set_option linter.unusedVariables false

set_option maxHeartbeats 400000 in
set_option maxRecDepth 100000 in
theorem pointRef_any (user : Bool) (k : Nat) (w : World) (hk : k < 256) : Calls Tryd.prog 56 #[.bool user, .int .i64 (k : Int)] w fun e w' => e = .returned (.int .i64 (M.pt user (k : Int))) ∧ Below w.heap.size w w' := by
  by_cases h1 : k < 128
  · have HP := hide (pt_lo user h1)
    go_enter Tryd.func56, Tryd.ntmps56
    go_wp2
    go_ret
    exact ⟨ret_int (unhide HP).symm, Below.refl _ _⟩
  · cases user
    · by_cases h2 : k < 160
      · have HP := hide (pt_mid (k := k) (by omega) h2)
        have hsub : (k : Int) - 128 = ((k - 128 : Nat) : Int) := by omega
        have hb32 : k - 128 < 32 := by omega
        obtain ⟨j, HJ⟩ : ∃ j, Hid (k - 128 = j) := ⟨_, rfl⟩
        rw [unhide HJ] at hsub hb32 HP
        go_enter Tryd.func56, Tryd.ntmps56
        go_wp2_with fail
        refine (high_any _).mono ?_
        rintro e w1 ⟨rfl, hI1, hz1, hb1⟩
        have hcell := hI1 j hb32
        have hbw : w.heap.size < w1.heap.size := by omega
        obtain ⟨p, HQ⟩ : ∃ p, Hid (M.high.getD j 0 = p) := ⟨_, rfl⟩
        rw [unhide HQ] at hcell HP
        clear hI1
        go_wp2_with fail
        go_ret
        exact ⟨ret_int (unhide HP).symm, hb1⟩
      · have HP := hide (pt_hi (k := k) (by omega))
        go_enter Tryd.func56, Tryd.ntmps56
        go_wp2
        go_ret
        exact ⟨ret_int (unhide HP).symm, Below.refl _ _⟩
    · have HP := hide (pt_user (k := k) (by omega))
      go_enter Tryd.func56, Tryd.ntmps56
      go_wp2
      go_ret
      exact ⟨ret_int (unhide HP).symm, Below.refl _ _⟩

/-- What ByteOf answers. -/
def bOf (user : Bool) (n : Int) : Int := if M.hasB user n then M.bof user n else -1
theorem bOf_yes {user : Bool} {n : Int} (h : M.hasB user n = true) : bOf user n = M.bof user n := by unfold bOf; rw [if_pos h]
theorem bOf_no {user : Bool} {n : Int} (h : M.hasB user n = false) : bOf user n = -1 := by unfold bOf; rw [if_neg (by simp [h])]

set_option maxHeartbeats 400000 in
set_option maxRecDepth 100000 in
theorem byteRef_any (user : Bool) (n : Int) (w : World) : Calls Tryd.prog 29 #[.bool user, .int .i64 n] w fun e w' => e = .returned (.int .i64 (bOf user n)) ∧ Below w.heap.size w w' := by
  go_enter Tryd.func29, Tryd.ntmps29
  go_wp2_with fail
  go_loopw [5] (fun i wr => ∃ k : Nat, k ≤ 256 ∧ i = .int .i64 k ∧ Hid (∀ j : Nat, j < k → M.pt user (j : Int) ≠ n) ∧ Hid (Below w.heap.size w wr)) (fun i _ => 256 - (intOf i).toNat)
  case atStart => exact ⟨0, by omega, rfl, hide (fun j hj => by omega), hide (Below.refl _ _)⟩
  case round =>
    obtain ⟨k, hk, rfl, HN, HB⟩ := hrel
    by_cases hlt : k < 256
    · have HR := hide (fun w => pointRef_any user k w hlt)
      obtain ⟨p, HP⟩ : ∃ p, Hid (M.pt user (k : Int) = p) := ⟨_, rfl⟩
      rw [unhide HP] at HR
      by_cases he : p = n
      · have heq : (p == n) = true := by simp [he]
        have HE : Hid (bOf user n = (k : Int)) := by
          refine hide ?_
          rw [← he, ← unhide HP, bOf_yes (M.hasB_pt user hlt), M.bof_pt user hlt]
        clear he
        go_wp2_with fail
        refine (unhide HR _).mono ?_
        rintro e w1 ⟨rfl, hb1⟩
        go_wp2_with fail
        go_ret
        exact ⟨ret_int (unhide HE).symm, bstep (unhide HB) hb1⟩
      · have heq : (p == n) = false := by simp [he]
        have HN' : Hid (∀ j : Nat, j < k + 1 → M.pt user (j : Int) ≠ n) := by
          refine hide fun j hj => ?_
          by_cases e : j = k
          · subst e; rw [unhide HP]; exact he
          · exact unhide HN j (by omega)
        clear he
        go_wp2_with fail
        refine (unhide HR _).mono ?_
        rintro e w1 ⟨rfl, hb1⟩
        have HB' := hide (bstep (unhide HB) hb1)
        clear hb1
        go_wp2_with fail
        go_roundw
        case rel => exact ⟨k + 1, by omega, by go_num, HN', HB'⟩
        case measure => simp [intOf]; omega
    · have HE : Hid (bOf user n = -1) := hide (bOf_no (M.hasB_no user n (fun j hj => unhide HN j (by omega))))
      go_wp2_with fail
      go_ret
      exact ⟨ret_int (unhide HE).symm, unhide HB⟩

/-- What EncodeSingle answers. -/
def refResS (user : Bool) (xs : List Int) : Value := if xs.all (M.hasB user) then .tuple #[.string (strOfNums (M.encS user xs)), .bool true] else .tuple #[.string ⟨#[]⟩, .bool false]
theorem refResS_yes {user : Bool} {xs : List Int} (h : xs.all (M.hasB user) = true) : refResS user xs = .tuple #[.string (strOfNums (M.encS user xs)), .bool true] := by unfold refResS; rw [if_pos h]
theorem refResS_no {user : Bool} {xs : List Int} (h : xs.all (M.hasB user) = false) : refResS user xs = .tuple #[.string ⟨#[]⟩, .bool false] := by unfold refResS; rw [if_neg (by simp [h])]

set_option maxHeartbeats 400000 in
set_option maxRecDepth 100000 in
theorem encRefS_any (user : Bool) {v : Value} {xs : List Int} (w : World) (hx : Ints w v xs) (h : xs.length ≤ 30000) :
    Calls Tryd.prog 27 #[.bool user, v] w fun e w' => e = .returned (refResS user xs) ∧ Below w.heap.size w w' := by
  obtain ⟨ao, cap, rfl, hm, -, hc⟩ := id hx
  obtain ⟨i0, hi, hz0, hz1, hz2⟩ := info_parts info5
  clear hx
  have HC := hide hc
  clear hc
  have HI : Hid (InTS user xs w w 0 (.slice none 0 0)) := hide ⟨World.ownsRow_nil _ _ _ _, Below.refl _ _, by simp⟩
  go_enter Tryd.func27, Tryd.ntmps27
  go_wp2_with fail
  go_loopw [6, 7] (fun v i wr => ∃ k : Nat, k ≤ xs.length ∧ i = .int .i64 k ∧ InTS user xs w wr k v) (fun _ i _ => xs.length - (intOf i).toNat)
  case atStart => exact ⟨0, by omega, rfl, unhide HI⟩
  case round =>
    obtain ⟨k, hk, rfl, hI⟩ := hrel
    clear HI
    have hz := hI.2.1.size
    have hl : Hid ((M.encS user (xs.take k)).length = k) := hide (by rw [M.encS_len, List.length_take]; omega)
    by_cases hlt : k < xs.length
    · obtain ⟨b, off, rfl, hc⟩ : ∃ b off, ao = some ⟨b, off, none⟩ ∧ ∀ i, i < xs.length → w.cell? ⟨b, off + i, none⟩ = some (.int .i64 (xs.getD i 0)) := by
        rcases unhide HC with h | h
        · subst h; simp at hlt
        · exact h
      have hcell : wr.cell? ⟨b, off + k, none⟩ = some (.int .i64 (xs.getD k 0)) := (hI.2.1.cell (p := ⟨b, off + k, none⟩) (World.block_lt_of_cell? w _ (hc k hlt))).trans (hc k hlt)
      have hbr : b < wr.heap.size := World.block_lt_of_cell? wr _ hcell
      obtain ⟨p, HP⟩ : ∃ p, Hid (xs.getD k 0 = p) := ⟨_, rfl⟩
      rw [unhide HP] at hcell
      obtain ⟨q, HQ⟩ : ∃ q, Hid (M.hasB user p = q) := ⟨_, rfl⟩
      obtain ⟨ao2, cap2, hsh⟩ := owns_shape hI.1
      subst hsh
      clear hc
      have HR := hide (fun w => byteRef_any user p w)
      cases q
      · rw [bOf_no (unhide HQ)] at HR
        go_wp2_with fail
        refine (unhide HR _).mono ?_
        rintro e w1 ⟨rfl, hb1⟩
        go_wp2_with fail
        go_ret2
        refine ⟨?_, bstep hI.2.1 hb1⟩
        have : xs.all (M.hasB user) = false := by
          rw [List.all_eq_false]
          refine ⟨xs.getD k 0, by simp [hlt], by rw [unhide HP, unhide HQ]; simp⟩
        rw [refResS_no this]; rfl
      · have hbd := M.bof_bd user (unhide HQ)
        rw [bOf_yes (unhide HQ)] at HR
        obtain ⟨B, HB⟩ : ∃ B, Hid (M.bof user p = B) := ⟨_, rfl⟩
        rw [unhide HB] at hbd HR
        go_wp2_with fail
        refine (unhide HR _).mono ?_
        rintro e w1 ⟨rfl, hb1⟩
        have hzz := hb1.size
        have hI' := owns_below hI.1 hb1
        go_wp2_with (at_builtin; refine wpList_append_own _ rfl (.tmp 23) (.tmp 26) 68 rfl w.heap.size 5 i0 (.int .u8 0) 1 1 Tryd.underlying68 hi hz0 hz1 hz2 rfl (by decide) _ _ _ rfl (hI'.alloc _) ⟨w1.heap.size, 0, none⟩ 1 1 [.int .u8 B] rfl rfl ?c1 ?c2 ?c3 ?c4 ?c5 ?_)
        case c1 =>
          intro j u hj
          match j, hj with
          | 0, hj => simp at hj; subst hj; simp [Addr.add]
        case c2 => intro u hu; simp at hu; subst hu; rfl
        case c3 => have := unhide hl; unfold maxLen; omega
        case c4 => have := unhide hl; omega
        case c5 => simp; omega
        intro v' w2 hown' hgrow _
        obtain ⟨ao', cap', rfl⟩ := owns_shape hown'
        have HJ : Hid (InTS user xs w w2 (k + 1) (.slice ao' ((M.encS user (xs.take k)).length + 1) cap')) := hide (hI.step hlt (unhide HP) (unhide HQ) (unhide HB) (by simpa using hown') ((hb1.mono hz).trans (((Below.refl _ _).alloc (by omega) _).grown hgrow (by simp; omega) (fun j hj => by have := hI'.lt j hj; omega))))
        clear hI hI' hown' hgrow hb1
        go_wp2_with fail
        go_roundw
        case rel => exact ⟨k + 1, by omega, by go_num, by simpa using unhide HJ⟩
        case measure => simp [intOf]; omega
    · have hcv := conv_owned hI.1
      obtain ⟨o1, o2, o3⟩ := hI
      have hb := hide o2
      have et : xs.take k = xs := List.take_of_length_le (by omega)
      rw [et] at hcv o1 o3
      obtain ⟨ao2, cap2, hsh⟩ := owns_shape o1
      subst hsh
      have HA := hide o3
      clear o1 o2 o3 et hl
      go_wp2_with fail
      go_ret2
      refine ⟨?_, unhide hb⟩
      rw [refResS_yes (unhide HA)]; rfl
end Go.Proofs.YthhjfedegbldfadDoor
