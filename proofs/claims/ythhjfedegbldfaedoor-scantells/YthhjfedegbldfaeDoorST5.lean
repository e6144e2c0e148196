/- The walk of ScanTells over what scan's calls have to answer: true; nothing that was there is written. -/
import Derived.Test.YthhjfedegbldfaeDoorSF
import Derived.Test.YthhjfedegbldfaeDoorTL
import Derived.Test.YthhjfedegbldfaeDoorRL5
namespace Go.Proofs.YthhjfedegbldfaeDoor
open Go.RowKit
set_option linter.unusedVariables false

def okx (x : ByteArray × ByteArray) : Bool := decide (x.1.size ≤ 3000) && decide (x.2.size ≤ 3000)
/-- The error of a row of attributes as far as k of them have been looked at. -/
def mxE (L : List (ByteArray × ByteArray)) (k : Nat) : Int := if (decide (L.length ≤ 3000) && (L.take k).all okx) = true then 0 else 2
theorem mxE_0 {L : List (ByteArray × ByteArray)} (h : L.length ≤ 3000) : mxE L 0 = 0 := by unfold mxE; rw [decide_eq_true h]; rfl
theorem mxE_n {L : List (ByteArray × ByteArray)} (h : ¬ L.length ≤ 3000) (k : Nat) : mxE L k = 2 := by unfold mxE; rw [decide_eq_false h]; rfl
theorem mxE_ok {L : List (ByteArray × ByteArray)} {k : Nat} (hk : k < L.length) (h : okx L[k] = true) : mxE L (k + 1) = mxE L k := by
  have e : (L.take (k + 1)).all okx = (L.take k).all okx := by rw [List.take_succ_eq_append_getElem hk, List.all_append, List.all_cons, List.all_nil, h]; simp
  unfold mxE; rw [e]
theorem mxE_no {L : List (ByteArray × ByteArray)} {k : Nat} (hk : k < L.length) (h : okx L[k] = false) : mxE L (k + 1) = 2 := by
  have e : (L.take (k + 1)).all okx = false := by rw [List.take_succ_eq_append_getElem hk, List.all_append, List.all_cons, List.all_nil, h]; simp
  unfold mxE; rw [e]; simp
theorem mxE_end {L : List (ByteArray × ByteArray)} (k : Nat) (hk : L.length ≤ k) : mxE L k = mxE L L.length := by
  unfold mxE; rw [List.take_of_length_le hk, List.take_of_length_le (Nat.le_refl _)]
theorem mxE_good {L : List (ByteArray × ByteArray)} (h : mxE L L.length = 0) : L.length ≤ 3000 ∧ ∀ x ∈ L, x.1.size ≤ 3000 ∧ x.2.size ≤ 3000 := by
  unfold mxE at h
  split at h
  · rename_i c
    rw [List.take_of_length_le (Nat.le_refl _), Bool.and_eq_true, decide_eq_true_eq, List.all_eq_true] at c
    refine ⟨c.1, fun x hx => ?_⟩
    have := c.2 x hx
    unfold okx at this
    simpa using this
  · cases h
theorem mxE_two (L : List (ByteArray × ByteArray)) (k : Nat) : mxE L k = 0 ∨ mxE L k = 2 := by
  unfold mxE; split
  · exact .inl rfl
  · exact .inr rfl
def MetaErrs : Prop := ∀ (v : Value) (L : List (ByteArray × ByteArray)) (w : World), Ats w v L → (∀ x ∈ L, x.1.size ≤ maxLen ∧ x.2.size ≤ maxLen) → mxE L L.length = 2 → Mx w → Calls Tryd.prog 20 #[v] w fun e w' => e = .returned (.tuple #[.int .i64 0, .int .i64 2]) ∧ Below w.heap.size w w'
set_option maxHeartbeats 6400000 in
set_option maxRecDepth 100000 in
theorem st_gg (hM : MetaSays) (hS : ScanSays) (v : Value) (L : List (ByteArray × ByteArray)) (s : ByteArray) (w : World) (hMx : Mx w) (hv : Ats w v L) (hz : ∀ x ∈ L, x.1.size ≤ maxLen ∧ x.2.size ≤ maxLen) (hs : s.size ≤ maxLen) (hg : mxE L L.length = 0) (ht : s.size ≤ 3000) :
    Calls Tryd.prog 7 #[v, .string s] w fun e w' => e = .returned (.bool true) ∧ Below w.heap.size w w' := by
  have HMx := hide hMx
  clear hMx
  have HB := hide (scanBegun_any hM hS)
  have r1 := fun w h => hM v L w h (mxE_good hg).1 (mxE_good hg).2
  have q1 := fun w h => metaOf_any (v := v) (L := L) w h (fun x hx => ((mxE_good hg).2 x hx).2)
  generalize metaI L = MM at r1 q1
  have HQ1 := hide q1
  clear q1
  have r2 := fun w => hS s w ht
  have q2 := fun w => scanOf_any s w ht
  generalize scnI (bl s) = SS at r2 q2
  have HQ2 := hide q2
  clear q2
  have HR1 := hide r1
  have HR2 := hide r2
  have HTL := hide (fun w => tooLong_no s w ht)
  have HG := hide hg
  have HZ := hide hz
  have HV := hide hv
  obtain ⟨ao, cap, rfl, hm, hc⟩ := hv
  have HC := hide hc
  unfold maxLen at hm
  clear hM hS r1 r2 hg hz hc 
  by_cases hlen : L.length ≤ 3000
  all_goals
    first
      | (have hlb : decide ((3000 : Int) < (L.length : Int)) = false := decide_eq_false (by omega))
      | (have hlb : decide ((3000 : Int) < (L.length : Int)) = true := decide_eq_true (by omega))
    go_enter Tryd.func7, Tryd.ntmps7
    go_wp2_with fail
    refine (unhide HR1 _ (unhide HV) (by first | exact unhide HMx | exact (unhide HMx).below (unhide (by assumption)) | exact (unhide HMx).below (bstep (unhide (by assumption)) (balloc _ _)))).mono ?_
    rintro e w1 ⟨rfl, hb1⟩
    have HB1 := hide hb1
    clear hb1
    go_wp2_with fail
    refine (unhide HR2 _ (by first | exact unhide HMx | exact (unhide HMx).below (unhide (by assumption)) | exact (unhide HMx).below (bstep (unhide (by assumption)) (balloc _ _)))).mono ?_
    rintro e w2 ⟨rfl, hb2⟩
    have HB2 := hide (bstep (unhide HB1) hb2)
    clear hb2 HB1
    go_wp2_with fail
    refine (unhide HTL _).mono ?_
    rintro e w3 ⟨rfl, hw⟩
    replace hw := hw.symm
    subst hw
    go_wp2_with fail
    go_loopw [9, 11] (fun wv iv wr => ∃ k : Nat, k ≤ L.length ∧ iv = .int .i64 k ∧ wv = .int .i64 (mxE L k) ∧ Below w.heap.size w wr) (fun wv iv _ => L.length - (intOf iv).toNat)
    case atStart => exact ⟨0, by omega, rfl, by first | rw [mxE_0 hlen] | rw [mxE_n hlen], unhide HB2⟩
    case round =>
      obtain ⟨k, hk, rfl, rfl, hbr⟩ := hrel
      have HBr := hide hbr
      clear hbr
      by_cases hlt : k < L.length
      · obtain ⟨b, off, rfl, hcc⟩ : ∃ b off, ao = some ⟨b, off, none⟩ ∧ ∀ i (h : i < L.length), w.cell? ⟨b, off + i * 2, none⟩ = some (.string L[i].1) ∧ w.cell? ⟨b, off + i * 2 + 1, none⟩ = some (.string L[i].2) := by
          rcases unhide HC with h | h
          · subst h; simp at hlt
          · exact h
        obtain ⟨c1, c2⟩ := hcc k hlt
        replace c1 := ((unhide HBr).cell (p := ⟨b, off + k * 2, none⟩) (World.block_lt_of_cell? w _ c1)).trans c1
        replace c2 := ((unhide HBr).cell (p := ⟨b, off + k * 2 + 1, none⟩) (World.block_lt_of_cell? w _ c2)).trans c2
        obtain ⟨z1, z2⟩ := unhide HZ L[k] (List.getElem_mem hlt)
        have HO := hide (fun h => mxE_ok (L := L) hlt h)
        have HNO := hide (fun h => mxE_no (L := L) hlt h)
        unfold okx at HO HNO
        have hltI : (k : Int) < (L.length : Int) := by omega
        clear hcc
        generalize L[k].1 = X at c1 z1 HO HNO
        generalize L[k].2 = Y at c2 z2 HO HNO
        go_wp2_with fail
        by_cases hX : X.size ≤ 3000
        · refine (tooLong_no X _ hX).mono ?_
          rintro e w' ⟨rfl, hw⟩
          replace hw := hw.symm
          subst hw
          go_wp2_with fail
          by_cases hY : Y.size ≤ 3000
          · have hO := unhide HO (by rw [decide_eq_true hX, decide_eq_true hY]; rfl)
            refine (tooLong_no Y _ hY).mono ?_
            rintro e w' ⟨rfl, hw⟩
            replace hw := hw.symm
            subst hw
            clear HO HNO
            go_wp2_with fail
            go_roundw
            case rel => exact ⟨k + 1, by omega, by go_num, by rw [hO], unhide HBr⟩
            case measure => simp [intOf]; omega
          · have hO := unhide HNO (by rw [decide_eq_true hX, decide_eq_false hY]; rfl)
            refine (tooLong_yes Y _ (by omega) z2).mono ?_
            rintro e w' ⟨rfl, hw⟩
            replace hw := hw.symm
            subst hw
            clear HO HNO
            go_wp2_with fail
            go_roundw
            case rel => exact ⟨k + 1, by omega, by go_num, by rw [hO], unhide HBr⟩
            case measure => simp [intOf]; omega
        · have hO := unhide HNO (by rw [decide_eq_false hX]; rfl)
          refine (tooLong_yes X _ (by omega) z1).mono ?_
          rintro e w' ⟨rfl, hw⟩
          replace hw := hw.symm
          subst hw
          clear HO HNO
          go_wp2_with fail
          go_roundw
          case rel => exact ⟨k + 1, by omega, by go_num, by rw [hO], unhide HBr⟩
          case measure => simp [intOf]; omega
      · have hE : mxE L k = 0 := by rw [mxE_end k (by omega)]; exact unhide HG
        rw [hE]
        have hltI : ¬ (k : Int) < (L.length : Int) := by omega
        go_wp2_with fail
        refine (unhide HQ1 _ ((unhide HV).below (unhide HBr))).mono ?_
        rintro e w4 ⟨rfl, hb4⟩
        have HB4 := hide (bstep (unhide HBr) hb4)
        clear hb4
        go_wp2_with fail
        refine (unhide HQ2 _).mono ?_
        rintro e w5 ⟨rfl, hb5⟩
        have HB5 := hide (bstep (unhide HB4) hb5)
        clear hb5
        go_wp2_with fail
        refine (unhide HB _ (by first | exact unhide HMx | exact (unhide HMx).below (unhide (by assumption)) | exact (unhide HMx).below (bstep (unhide (by assumption)) (balloc _ _)))).mono ?_
        rintro e w6 ⟨rfl, hb6⟩
        have HB6 := hide (bstep (unhide HB5) hb6)
        clear hb6
        go_wp2_with fail
        go_ret
        exact ⟨ret_bool (by simp), unhide HB6⟩
set_option maxHeartbeats 6400000 in
set_option maxRecDepth 100000 in
theorem st_gb (hM : MetaSays) (hS : ScanSays) (hS2 : ScanErrs) (v : Value) (L : List (ByteArray × ByteArray)) (s : ByteArray) (w : World) (hMx : Mx w) (hv : Ats w v L) (hz : ∀ x ∈ L, x.1.size ≤ maxLen ∧ x.2.size ≤ maxLen) (hs : s.size ≤ maxLen) (hg : mxE L L.length = 0) (ht : 3000 < s.size) :
    Calls Tryd.prog 7 #[v, .string s] w fun e w' => e = .returned (.bool true) ∧ Below w.heap.size w w' := by
  have HMx := hide hMx
  clear hMx
  have HB := hide (scanBegun_any hM hS)
  have r1 := fun w h => hM v L w h (mxE_good hg).1 (mxE_good hg).2
  have q1 := fun w h => metaOf_any (v := v) (L := L) w h (fun x hx => ((mxE_good hg).2 x hx).2)
  generalize metaI L = MM at r1 q1
  have HQ1 := hide q1
  clear q1
  have r2 := fun w => hS2 s w hs ht
  have HR1 := hide r1
  have HR2 := hide r2
  have HTL := hide (fun w => tooLong_yes s w ht hs)
  have HG := hide hg
  have HZ := hide hz
  have HV := hide hv
  obtain ⟨ao, cap, rfl, hm, hc⟩ := hv
  have HC := hide hc
  unfold maxLen at hm
  clear hM hS hS2 r1 r2 hg hz hc 
  by_cases hlen : L.length ≤ 3000
  all_goals
    first
      | (have hlb : decide ((3000 : Int) < (L.length : Int)) = false := decide_eq_false (by omega))
      | (have hlb : decide ((3000 : Int) < (L.length : Int)) = true := decide_eq_true (by omega))
    go_enter Tryd.func7, Tryd.ntmps7
    go_wp2_with fail
    refine (unhide HR1 _ (unhide HV) (by first | exact unhide HMx | exact (unhide HMx).below (unhide (by assumption)) | exact (unhide HMx).below (bstep (unhide (by assumption)) (balloc _ _)))).mono ?_
    rintro e w1 ⟨rfl, hb1⟩
    have HB1 := hide hb1
    clear hb1
    go_wp2_with fail
    refine (unhide HR2 _ (by first | exact unhide HMx | exact (unhide HMx).below (unhide (by assumption)) | exact (unhide HMx).below (bstep (unhide (by assumption)) (balloc _ _)))).mono ?_
    rintro e w2 ⟨rfl, hb2⟩
    have HB2 := hide (bstep (unhide HB1) hb2)
    clear hb2 HB1
    go_wp2_with fail
    refine (unhide HTL _).mono ?_
    rintro e w3 ⟨rfl, hw⟩
    replace hw := hw.symm
    subst hw
    go_wp2_with fail
    go_loopw [9, 11] (fun wv iv wr => ∃ k : Nat, k ≤ L.length ∧ iv = .int .i64 k ∧ wv = .int .i64 (mxE L k) ∧ Below w.heap.size w wr) (fun wv iv _ => L.length - (intOf iv).toNat)
    case atStart => exact ⟨0, by omega, rfl, by first | rw [mxE_0 hlen] | rw [mxE_n hlen], unhide HB2⟩
    case round =>
      obtain ⟨k, hk, rfl, rfl, hbr⟩ := hrel
      have HBr := hide hbr
      clear hbr
      by_cases hlt : k < L.length
      · obtain ⟨b, off, rfl, hcc⟩ : ∃ b off, ao = some ⟨b, off, none⟩ ∧ ∀ i (h : i < L.length), w.cell? ⟨b, off + i * 2, none⟩ = some (.string L[i].1) ∧ w.cell? ⟨b, off + i * 2 + 1, none⟩ = some (.string L[i].2) := by
          rcases unhide HC with h | h
          · subst h; simp at hlt
          · exact h
        obtain ⟨c1, c2⟩ := hcc k hlt
        replace c1 := ((unhide HBr).cell (p := ⟨b, off + k * 2, none⟩) (World.block_lt_of_cell? w _ c1)).trans c1
        replace c2 := ((unhide HBr).cell (p := ⟨b, off + k * 2 + 1, none⟩) (World.block_lt_of_cell? w _ c2)).trans c2
        obtain ⟨z1, z2⟩ := unhide HZ L[k] (List.getElem_mem hlt)
        have HO := hide (fun h => mxE_ok (L := L) hlt h)
        have HNO := hide (fun h => mxE_no (L := L) hlt h)
        unfold okx at HO HNO
        have hltI : (k : Int) < (L.length : Int) := by omega
        clear hcc
        generalize L[k].1 = X at c1 z1 HO HNO
        generalize L[k].2 = Y at c2 z2 HO HNO
        go_wp2_with fail
        by_cases hX : X.size ≤ 3000
        · refine (tooLong_no X _ hX).mono ?_
          rintro e w' ⟨rfl, hw⟩
          replace hw := hw.symm
          subst hw
          go_wp2_with fail
          by_cases hY : Y.size ≤ 3000
          · have hO := unhide HO (by rw [decide_eq_true hX, decide_eq_true hY]; rfl)
            refine (tooLong_no Y _ hY).mono ?_
            rintro e w' ⟨rfl, hw⟩
            replace hw := hw.symm
            subst hw
            clear HO HNO
            go_wp2_with fail
            go_roundw
            case rel => exact ⟨k + 1, by omega, by go_num, by rw [hO], unhide HBr⟩
            case measure => simp [intOf]; omega
          · have hO := unhide HNO (by rw [decide_eq_true hX, decide_eq_false hY]; rfl)
            refine (tooLong_yes Y _ (by omega) z2).mono ?_
            rintro e w' ⟨rfl, hw⟩
            replace hw := hw.symm
            subst hw
            clear HO HNO
            go_wp2_with fail
            go_roundw
            case rel => exact ⟨k + 1, by omega, by go_num, by rw [hO], unhide HBr⟩
            case measure => simp [intOf]; omega
        · have hO := unhide HNO (by rw [decide_eq_false hX]; rfl)
          refine (tooLong_yes X _ (by omega) z1).mono ?_
          rintro e w' ⟨rfl, hw⟩
          replace hw := hw.symm
          subst hw
          clear HO HNO
          go_wp2_with fail
          go_roundw
          case rel => exact ⟨k + 1, by omega, by go_num, by rw [hO], unhide HBr⟩
          case measure => simp [intOf]; omega
      · have hE : mxE L k = 0 := by rw [mxE_end k (by omega)]; exact unhide HG
        rw [hE]
        have hltI : ¬ (k : Int) < (L.length : Int) := by omega
        go_wp2_with fail
        refine (unhide HQ1 _ ((unhide HV).below (unhide HBr))).mono ?_
        rintro e w4 ⟨rfl, hb4⟩
        have HB4 := hide (bstep (unhide HBr) hb4)
        clear hb4
        go_wp2_with fail
        refine (unhide HB _ (by first | exact unhide HMx | exact (unhide HMx).below (unhide (by assumption)) | exact (unhide HMx).below (bstep (unhide (by assumption)) (balloc _ _)))).mono ?_
        rintro e w6 ⟨rfl, hb6⟩
        have HB6 := hide (bstep (unhide HB4) hb6)
        clear hb6
        go_wp2_with fail
        go_ret
        exact ⟨ret_bool (by simp), unhide HB6⟩
set_option maxHeartbeats 6400000 in
set_option maxRecDepth 100000 in
theorem st_bg (hM : MetaSays) (hS : ScanSays) (hM2 : MetaErrs) (v : Value) (L : List (ByteArray × ByteArray)) (s : ByteArray) (w : World) (hMx : Mx w) (hv : Ats w v L) (hz : ∀ x ∈ L, x.1.size ≤ maxLen ∧ x.2.size ≤ maxLen) (hs : s.size ≤ maxLen) (hg : mxE L L.length = 2) (ht : s.size ≤ 3000) :
    Calls Tryd.prog 7 #[v, .string s] w fun e w' => e = .returned (.bool true) ∧ Below w.heap.size w w' := by
  have HMx := hide hMx
  clear hMx
  have HB := hide (scanBegun_any hM hS)
  have r1 := fun w h => hM2 v L w h hz hg
  have r2 := fun w => hS s w ht
  have q2 := fun w => scanOf_any s w ht
  generalize scnI (bl s) = SS at r2 q2
  have HQ2 := hide q2
  clear q2
  have HR1 := hide r1
  have HR2 := hide r2
  have HTL := hide (fun w => tooLong_no s w ht)
  have HG := hide hg
  have HZ := hide hz
  have HV := hide hv
  obtain ⟨ao, cap, rfl, hm, hc⟩ := hv
  have HC := hide hc
  unfold maxLen at hm
  clear hM hS r1 r2 hg hz hc hM2 
  by_cases hlen : L.length ≤ 3000
  all_goals
    first
      | (have hlb : decide ((3000 : Int) < (L.length : Int)) = false := decide_eq_false (by omega))
      | (have hlb : decide ((3000 : Int) < (L.length : Int)) = true := decide_eq_true (by omega))
    go_enter Tryd.func7, Tryd.ntmps7
    go_wp2_with fail
    refine (unhide HR1 _ (unhide HV) (by first | exact unhide HMx | exact (unhide HMx).below (unhide (by assumption)) | exact (unhide HMx).below (bstep (unhide (by assumption)) (balloc _ _)))).mono ?_
    rintro e w1 ⟨rfl, hb1⟩
    have HB1 := hide hb1
    clear hb1
    go_wp2_with fail
    refine (unhide HR2 _ (by first | exact unhide HMx | exact (unhide HMx).below (unhide (by assumption)) | exact (unhide HMx).below (bstep (unhide (by assumption)) (balloc _ _)))).mono ?_
    rintro e w2 ⟨rfl, hb2⟩
    have HB2 := hide (bstep (unhide HB1) hb2)
    clear hb2 HB1
    go_wp2_with fail
    refine (unhide HTL _).mono ?_
    rintro e w3 ⟨rfl, hw⟩
    replace hw := hw.symm
    subst hw
    go_wp2_with fail
    go_loopw [9, 11] (fun wv iv wr => ∃ k : Nat, k ≤ L.length ∧ iv = .int .i64 k ∧ wv = .int .i64 (mxE L k) ∧ Below w.heap.size w wr) (fun wv iv _ => L.length - (intOf iv).toNat)
    case atStart => exact ⟨0, by omega, rfl, by first | rw [mxE_0 hlen] | rw [mxE_n hlen], unhide HB2⟩
    case round =>
      obtain ⟨k, hk, rfl, rfl, hbr⟩ := hrel
      have HBr := hide hbr
      clear hbr
      by_cases hlt : k < L.length
      · obtain ⟨b, off, rfl, hcc⟩ : ∃ b off, ao = some ⟨b, off, none⟩ ∧ ∀ i (h : i < L.length), w.cell? ⟨b, off + i * 2, none⟩ = some (.string L[i].1) ∧ w.cell? ⟨b, off + i * 2 + 1, none⟩ = some (.string L[i].2) := by
          rcases unhide HC with h | h
          · subst h; simp at hlt
          · exact h
        obtain ⟨c1, c2⟩ := hcc k hlt
        replace c1 := ((unhide HBr).cell (p := ⟨b, off + k * 2, none⟩) (World.block_lt_of_cell? w _ c1)).trans c1
        replace c2 := ((unhide HBr).cell (p := ⟨b, off + k * 2 + 1, none⟩) (World.block_lt_of_cell? w _ c2)).trans c2
        obtain ⟨z1, z2⟩ := unhide HZ L[k] (List.getElem_mem hlt)
        have HO := hide (fun h => mxE_ok (L := L) hlt h)
        have HNO := hide (fun h => mxE_no (L := L) hlt h)
        unfold okx at HO HNO
        have hltI : (k : Int) < (L.length : Int) := by omega
        clear hcc
        generalize L[k].1 = X at c1 z1 HO HNO
        generalize L[k].2 = Y at c2 z2 HO HNO
        go_wp2_with fail
        by_cases hX : X.size ≤ 3000
        · refine (tooLong_no X _ hX).mono ?_
          rintro e w' ⟨rfl, hw⟩
          replace hw := hw.symm
          subst hw
          go_wp2_with fail
          by_cases hY : Y.size ≤ 3000
          · have hO := unhide HO (by rw [decide_eq_true hX, decide_eq_true hY]; rfl)
            refine (tooLong_no Y _ hY).mono ?_
            rintro e w' ⟨rfl, hw⟩
            replace hw := hw.symm
            subst hw
            clear HO HNO
            go_wp2_with fail
            go_roundw
            case rel => exact ⟨k + 1, by omega, by go_num, by rw [hO], unhide HBr⟩
            case measure => simp [intOf]; omega
          · have hO := unhide HNO (by rw [decide_eq_true hX, decide_eq_false hY]; rfl)
            refine (tooLong_yes Y _ (by omega) z2).mono ?_
            rintro e w' ⟨rfl, hw⟩
            replace hw := hw.symm
            subst hw
            clear HO HNO
            go_wp2_with fail
            go_roundw
            case rel => exact ⟨k + 1, by omega, by go_num, by rw [hO], unhide HBr⟩
            case measure => simp [intOf]; omega
        · have hO := unhide HNO (by rw [decide_eq_false hX]; rfl)
          refine (tooLong_yes X _ (by omega) z1).mono ?_
          rintro e w' ⟨rfl, hw⟩
          replace hw := hw.symm
          subst hw
          clear HO HNO
          go_wp2_with fail
          go_roundw
          case rel => exact ⟨k + 1, by omega, by go_num, by rw [hO], unhide HBr⟩
          case measure => simp [intOf]; omega
      · have hE : mxE L k = 2 := by rw [mxE_end k (by omega)]; exact unhide HG
        rw [hE]
        have hltI : ¬ (k : Int) < (L.length : Int) := by omega
        go_wp2_with fail
        refine (unhide HQ2 _).mono ?_
        rintro e w5 ⟨rfl, hb5⟩
        have HB5 := hide (bstep (unhide HBr) hb5)
        clear hb5
        go_wp2_with fail
        refine (unhide HB _ (by first | exact unhide HMx | exact (unhide HMx).below (unhide (by assumption)) | exact (unhide HMx).below (bstep (unhide (by assumption)) (balloc _ _)))).mono ?_
        rintro e w6 ⟨rfl, hb6⟩
        have HB6 := hide (bstep (unhide HB5) hb6)
        clear hb6
        go_wp2_with fail
        go_ret
        exact ⟨ret_bool (by simp), unhide HB6⟩
set_option maxHeartbeats 6400000 in
set_option maxRecDepth 100000 in
theorem st_bb (hM : MetaSays) (hS : ScanSays) (hM2 : MetaErrs) (hS2 : ScanErrs) (v : Value) (L : List (ByteArray × ByteArray)) (s : ByteArray) (w : World) (hMx : Mx w) (hv : Ats w v L) (hz : ∀ x ∈ L, x.1.size ≤ maxLen ∧ x.2.size ≤ maxLen) (hs : s.size ≤ maxLen) (hg : mxE L L.length = 2) (ht : 3000 < s.size) :
    Calls Tryd.prog 7 #[v, .string s] w fun e w' => e = .returned (.bool true) ∧ Below w.heap.size w w' := by
  have HMx := hide hMx
  clear hMx
  have HB := hide (scanBegun_any hM hS)
  have r1 := fun w h => hM2 v L w h hz hg
  have r2 := fun w => hS2 s w hs ht
  have HR1 := hide r1
  have HR2 := hide r2
  have HTL := hide (fun w => tooLong_yes s w ht hs)
  have HG := hide hg
  have HZ := hide hz
  have HV := hide hv
  obtain ⟨ao, cap, rfl, hm, hc⟩ := hv
  have HC := hide hc
  unfold maxLen at hm
  clear hM hS hS2 r1 r2 hg hz hc hM2 
  by_cases hlen : L.length ≤ 3000
  all_goals
    first
      | (have hlb : decide ((3000 : Int) < (L.length : Int)) = false := decide_eq_false (by omega))
      | (have hlb : decide ((3000 : Int) < (L.length : Int)) = true := decide_eq_true (by omega))
    go_enter Tryd.func7, Tryd.ntmps7
    go_wp2_with fail
    refine (unhide HR1 _ (unhide HV) (by first | exact unhide HMx | exact (unhide HMx).below (unhide (by assumption)) | exact (unhide HMx).below (bstep (unhide (by assumption)) (balloc _ _)))).mono ?_
    rintro e w1 ⟨rfl, hb1⟩
    have HB1 := hide hb1
    clear hb1
    go_wp2_with fail
    refine (unhide HR2 _ (by first | exact unhide HMx | exact (unhide HMx).below (unhide (by assumption)) | exact (unhide HMx).below (bstep (unhide (by assumption)) (balloc _ _)))).mono ?_
    rintro e w2 ⟨rfl, hb2⟩
    have HB2 := hide (bstep (unhide HB1) hb2)
    clear hb2 HB1
    go_wp2_with fail
    refine (unhide HTL _).mono ?_
    rintro e w3 ⟨rfl, hw⟩
    replace hw := hw.symm
    subst hw
    go_wp2_with fail
    go_loopw [9, 11] (fun wv iv wr => ∃ k : Nat, k ≤ L.length ∧ iv = .int .i64 k ∧ wv = .int .i64 (mxE L k) ∧ Below w.heap.size w wr) (fun wv iv _ => L.length - (intOf iv).toNat)
    case atStart => exact ⟨0, by omega, rfl, by first | rw [mxE_0 hlen] | rw [mxE_n hlen], unhide HB2⟩
    case round =>
      obtain ⟨k, hk, rfl, rfl, hbr⟩ := hrel
      have HBr := hide hbr
      clear hbr
      by_cases hlt : k < L.length
      · obtain ⟨b, off, rfl, hcc⟩ : ∃ b off, ao = some ⟨b, off, none⟩ ∧ ∀ i (h : i < L.length), w.cell? ⟨b, off + i * 2, none⟩ = some (.string L[i].1) ∧ w.cell? ⟨b, off + i * 2 + 1, none⟩ = some (.string L[i].2) := by
          rcases unhide HC with h | h
          · subst h; simp at hlt
          · exact h
        obtain ⟨c1, c2⟩ := hcc k hlt
        replace c1 := ((unhide HBr).cell (p := ⟨b, off + k * 2, none⟩) (World.block_lt_of_cell? w _ c1)).trans c1
        replace c2 := ((unhide HBr).cell (p := ⟨b, off + k * 2 + 1, none⟩) (World.block_lt_of_cell? w _ c2)).trans c2
        obtain ⟨z1, z2⟩ := unhide HZ L[k] (List.getElem_mem hlt)
        have HO := hide (fun h => mxE_ok (L := L) hlt h)
        have HNO := hide (fun h => mxE_no (L := L) hlt h)
        unfold okx at HO HNO
        have hltI : (k : Int) < (L.length : Int) := by omega
        clear hcc
        generalize L[k].1 = X at c1 z1 HO HNO
        generalize L[k].2 = Y at c2 z2 HO HNO
        go_wp2_with fail
        by_cases hX : X.size ≤ 3000
        · refine (tooLong_no X _ hX).mono ?_
          rintro e w' ⟨rfl, hw⟩
          replace hw := hw.symm
          subst hw
          go_wp2_with fail
          by_cases hY : Y.size ≤ 3000
          · have hO := unhide HO (by rw [decide_eq_true hX, decide_eq_true hY]; rfl)
            refine (tooLong_no Y _ hY).mono ?_
            rintro e w' ⟨rfl, hw⟩
            replace hw := hw.symm
            subst hw
            clear HO HNO
            go_wp2_with fail
            go_roundw
            case rel => exact ⟨k + 1, by omega, by go_num, by rw [hO], unhide HBr⟩
            case measure => simp [intOf]; omega
          · have hO := unhide HNO (by rw [decide_eq_true hX, decide_eq_false hY]; rfl)
            refine (tooLong_yes Y _ (by omega) z2).mono ?_
            rintro e w' ⟨rfl, hw⟩
            replace hw := hw.symm
            subst hw
            clear HO HNO
            go_wp2_with fail
            go_roundw
            case rel => exact ⟨k + 1, by omega, by go_num, by rw [hO], unhide HBr⟩
            case measure => simp [intOf]; omega
        · have hO := unhide HNO (by rw [decide_eq_false hX]; rfl)
          refine (tooLong_yes X _ (by omega) z1).mono ?_
          rintro e w' ⟨rfl, hw⟩
          replace hw := hw.symm
          subst hw
          clear HO HNO
          go_wp2_with fail
          go_roundw
          case rel => exact ⟨k + 1, by omega, by go_num, by rw [hO], unhide HBr⟩
          case measure => simp [intOf]; omega
      · have hE : mxE L k = 2 := by rw [mxE_end k (by omega)]; exact unhide HG
        rw [hE]
        have hltI : ¬ (k : Int) < (L.length : Int) := by omega
        go_wp2_with fail
        refine (unhide HB _ (by first | exact unhide HMx | exact (unhide HMx).below (unhide (by assumption)) | exact (unhide HMx).below (bstep (unhide (by assumption)) (balloc _ _)))).mono ?_
        rintro e w6 ⟨rfl, hb6⟩
        have HB6 := hide (bstep (unhide HBr) hb6)
        clear hb6
        go_wp2_with fail
        go_ret
        exact ⟨ret_bool (by simp), unhide HB6⟩
theorem st_walk (hM : MetaSays) (hS : ScanSays) (hM2 : MetaErrs) (hS2 : ScanErrs) (v : Value) (L : List (ByteArray × ByteArray)) (s : ByteArray) (w : World) (hMx : Mx w) (hv : Ats w v L) (hz : ∀ x ∈ L, x.1.size ≤ maxLen ∧ x.2.size ≤ maxLen) (hs : s.size ≤ maxLen) :
    Calls Tryd.prog 7 #[v, .string s] w fun e w' => e = .returned (.bool true) ∧ Below w.heap.size w w' := by
  have HMx := hide hMx
  clear hMx
  by_cases ht : s.size ≤ 3000
  · rcases mxE_two L L.length with hg | hg
    · exact st_gg hM hS v L s w (unhide HMx) hv hz hs hg ht
    · exact st_bg hM hS hM2 v L s w (unhide HMx) hv hz hs hg ht
  · rcases mxE_two L L.length with hg | hg
    · exact st_gb hM hS hS2 v L s w (unhide HMx) hv hz hs hg (by omega)
    · exact st_bb hM hS hM2 hS2 v L s w (unhide HMx) hv hz hs hg (by omega)
end Go.Proofs.YthhjfedegbldfaeDoor
