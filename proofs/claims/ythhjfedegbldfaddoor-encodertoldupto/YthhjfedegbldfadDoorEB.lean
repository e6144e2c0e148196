/- The contracts of encoder.eachByte, known and the functions that it returns: whether a code point can be written; nothing that was there is written. -/
import Derived.Test.YthhjfedegbldfadDoorEA
import Derived.Test.YthhjfedegbldfadDoorKF
import Derived.Test.YthhjfedegbldfadDoorMathG
namespace Go.Proofs.YthhjfedegbldfadDoor
open Go.RowKit
set_option linter.unusedVariables false

/-- The first k bytes. -/
def bts (k : Nat) : List Int := (List.range k).map (fun j : Nat => (j : Int))
theorem bts_snoc (k : Nat) : bts (k + 1) = bts k ++ [(k : Int)] := by simp [bts, List.range_succ]
theorem bts_len (k : Nat) : (bts k).length = k := by simp [bts]
theorem bts_byt : ∀ x ∈ bts 256, 0 ≤ x ∧ x ≤ 255 := by
  intro x hx
  simp only [bts, List.mem_map, List.mem_range] at hx
  obtain ⟨j, hj, rfl⟩ := hx
  omega
theorem map_tbl (g : Int → Int) (k : Nat) : ((List.range k).map (fun j : Nat => (j : Int))).map g = (List.range k).map (fun j : Nat => g (j : Int)) := by
  rw [List.map_map]; rfl
theorem bts_dec (user : Bool) : M.decS user (bts 256) = M.tblOf user 256 := map_tbl _ 256
theorem any_tbl (f : Nat → Int) (n : Int) (k : Nat) : ((List.range k).map f).any (· == n) = (List.range k).any (fun c => f c == n) := by
  rw [List.any_map]; rfl
theorem tbl_has (user : Bool) (n : Int) : (M.tblOf user 256).any (· == n) = M.hasB user n := any_tbl _ n 256
/-- What a round of eachByte's loop knows. -/
def InB (w wr : World) (k : Nat) (v : Value) : Prop := wr.ownsRow w.heap.size 5 1 v (bts k).length ((bts k).map (Value.int .u8)) ∧ Below w.heap.size w wr

set_option maxHeartbeats 800000 in
set_option maxRecDepth 100000 in
theorem eachByte_any (w : World) : Calls Tryd.prog 45 #[] w fun e w' => e = .returned (.string (strOfNums (bts 256))) ∧ Below w.heap.size w w' := by
  have HI : Hid (InB w w 0 (.slice none 0 0)) := hide ⟨World.ownsRow_nil _ _ _ _, Below.refl _ _⟩
  go_enter Tryd.func45, Tryd.ntmps45
  go_wp2_with fail
  go_loopw [1, 3] (fun v i wr => ∃ k : Nat, k ≤ 256 ∧ i = .int .i64 k ∧ InB w wr k v) (fun _ i _ => 256 - (intOf i).toNat)
  case atStart => exact ⟨0, by omega, rfl, unhide HI⟩
  case round =>
    obtain ⟨k, hk, rfl, hI⟩ := hrel
    clear HI
    have hz := hI.2.size
    have hl := hide (bts_len k)
    obtain ⟨av, capv, hsh⟩ := owns_shape hI.1
    subst hsh
    by_cases hlt : k < 256
    · have HO := hide hI.1
      have HB := hide hI.2
      have HS := hide (bts_snoc k)
      clear hI
      generalize bts k = ns at *
      have hln := unhide hl
      go_wp2_with (at_builtin; refine append_byte rfl (.tmp 6) (.tmp 9) rfl w.heap.size _ ns rfl (unhide HO) (k : Int) rfl (by omega) (by omega) ?_)
      intro ao2 cap2 w2 ho2 hb2
      have HJ : Hid (w2.ownsRow w.heap.size 5 1 (.slice ao2 (k + 1) cap2) (bts (k + 1)).length ((bts (k + 1)).map (Value.int .u8))) := hide (by rw [unhide HS]; simpa [hln] using ho2)
      have HB2 := hide ((unhide HB).trans hb2)
      clear ho2 hb2
      go_wp2_with fail
      go_roundw
      case rel => exact ⟨k + 1, by omega, by go_num, unhide HJ, unhide HB2⟩
      case measure => simp [intOf]; omega
    · obtain rfl : k = 256 := by omega
      have hcv := conv_owned hI.1
      have hb := hide hI.2
      clear hI hl
      go_wp2_with fail
      go_ret
      exact ⟨rfl, unhide hb⟩

theorem Gi_of {p : Int} (h : M.sclr p = true) : Gi p := by have := M.sclr_bd h; unfold Gi; omega
/-- The points that known's function of a byte a sign looks through lie at block B. -/
def Pts (user : Bool) (B : Nat) (w : World) : Prop := ∃ v, w.cell? ⟨B, 0, none⟩ = some v ∧ Ints w v (M.tblOf user 256)
theorem Pts.below {user : Bool} {B : Nat} {w w' : World} (h : Pts user B w) (hb : Below w.heap.size w w') : Pts user B w' := by
  obtain ⟨v, h1, h2⟩ := h
  exact ⟨v, (hb.cell (p := ⟨B, 0, none⟩) (World.block_lt_of_cell? w _ h1)).trans h1, h2.below hb⟩

set_option maxHeartbeats 400000 in
set_option maxRecDepth 100000 in
theorem hasS_any (user : Bool) (B : Nat) (p : Int) (w : World) (h : Pts user B w) :
    Calls Tryd.prog 46 #[.int .i64 p, .pointer (some ⟨B, 0, none⟩)] w fun e w' => e = .returned (.bool (M.hasB user p)) ∧ w' = w := by
  obtain ⟨v, hc, hI⟩ := h
  have hl := World.block_lt_of_cell? w _ hc
  simp only at hl
  have H := hide (contains_ints p w hI)
  rw [tbl_has] at H
  obtain ⟨ao, cap, rfl, -, -, -⟩ := hI
  go_enter Tryd.func46, Tryd.ntmps46
  go_wp2_with fail
  refine (unhide H).mono ?_
  rintro e w1 ⟨rfl, hw⟩
  replace hw := hw.symm
  subst hw
  go_wp2_with fail
  go_ret
  exact ⟨rfl, rfl⟩

set_option maxHeartbeats 400000 in
set_option maxRecDepth 100000 in
theorem hasK_any (p : Int) (w : World) (h : Gi p) :
    Calls Tryd.prog 48 #[.int .i64 p] w fun e w' => e = .returned (.bool (M.anyK p)) ∧ Below w.heap.size w w' := by
  have H := hide (kencode_any _ [p] _ (one_int w p) (by simp) (by intro n hn; simp at hn; rw [hn]; exact h))
  have HB := hide (balloc w (.cells #[.int .i64 p] 3))
  cases hq : M.anyK p
  · rw [encodedK_no (by simp [hq])] at H
    go_enter Tryd.func48, Tryd.ntmps48
    go_wp2_with fail
    refine (unhide H).mono ?_
    rintro e w1 ⟨rfl, hb⟩
    have HB1 := hide (bstep (unhide HB) hb)
    clear hb
    go_wp2_with fail
    go_ret
    exact ⟨rfl, unhide HB1⟩
  · rw [encodedK_yes (by simp [hq])] at H
    go_enter Tryd.func48, Tryd.ntmps48
    go_wp2_with fail
    refine (unhide H).mono ?_
    rintro e w1 ⟨rfl, hb⟩
    have HB1 := hide (bstep (unhide HB) hb)
    clear hb
    go_wp2_with fail
    go_ret
    exact ⟨rfl, unhide HB1⟩

set_option maxHeartbeats 400000 in
set_option maxRecDepth 100000 in
theorem hasU_any (p : Int) (w : World) : Calls Tryd.prog 50 #[.int .i64 p] w fun e w' => e = .returned (.bool true) ∧ w' = w := by
  go_enter Tryd.func50, Tryd.ntmps50
  go_wp2
  go_ret
  exact ⟨rfl, rfl⟩

set_option maxHeartbeats 800000 in
set_option maxRecDepth 100000 in
theorem knownS_any (user : Bool) (n : Int) (hn : n = if user then 5 else 4) (w : World) :
    Calls Tryd.prog 21 #[.int .i64 n] w fun e w' => ∃ B, e = .returned (.func (Fn.func 46) #[] #[.pointer (some ⟨B, 0, none⟩)]) ∧ Pts user B w' ∧ Below w.heap.size w w' := by
  have H1 := hide (fun w => eachByte_any w)
  have H2 := hide (fun w => decodeS_any user (strOfNums (bts 256)) w (by rw [strOfNums_size, bts_len]; omega))
  rw [bl_str _ bts_byt, bts_dec] at H2
  generalize strOfNums (bts 256) = s at *
  cases user
  all_goals
    simp only [Bool.false_eq_true, if_false, if_true] at hn
    subst hn
    go_enter Tryd.func21, Tryd.ntmps21
    go_wp2_with fail
    refine (unhide H1 _).mono ?_
    rintro e w1 ⟨rfl, hb1⟩
    have HB1 := hide hb1
    clear hb1 H1
    go_wp2_with fail
    refine (unhide H2 _).mono ?_
    rintro e w2 ⟨v, rfl, hI, hb2⟩
    have HB2 := hide (bstep (unhide HB1) hb2)
    have HI := hide hI
    obtain ⟨ao, cap, rfl, -, -, -⟩ := hI
    clear hb2 H2
    go_wp2_with fail
    go_ret
    refine ⟨_, rfl, ⟨_, ?_, (unhide HI).below (balloc _ _)⟩, bstep (unhide HB2) (balloc _ _)⟩
    simp

set_option maxHeartbeats 400000 in
set_option maxRecDepth 100000 in
theorem knownK_any (w : World) : Calls Tryd.prog 21 #[.int .i64 6] w fun e w' => e = .returned (.func (Fn.func 48) #[] #[]) ∧ w' = w := by
  go_enter Tryd.func21, Tryd.ntmps21
  go_wp2
  go_ret
  exact ⟨rfl, rfl⟩
set_option maxHeartbeats 400000 in
set_option maxRecDepth 100000 in
theorem knownU_any (w : World) : Calls Tryd.prog 21 #[.int .i64 1] w fun e w' => e = .returned (.func (Fn.func 50) #[] #[]) ∧ w' = w := by
  go_enter Tryd.func21, Tryd.ntmps21
  go_wp2
  go_ret
  exact ⟨rfl, rfl⟩
end Go.Proofs.YthhjfedegbldfadDoor
