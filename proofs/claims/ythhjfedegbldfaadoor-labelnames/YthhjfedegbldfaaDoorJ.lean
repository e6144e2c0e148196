/- The walks of the law LabelNames. -/
import Derived.Test.YthhjfedegbldfaaDoorF
import Derived.Test.YthhjfedegbldfaaDoorG
namespace Go.Proofs.YthhjfedegbldfaaDoor.labelNames
open Go.RowKit
open Go.Proofs.YthhjfedegbldfaaDoor
set_option linter.unusedVariables false

/-- Every second letter is great. -/
def upAt (i : Nat) (c : Int) : Int := if (i : Int) % 2 = 0 ∧ 97 ≤ c ∧ c ≤ 122 then c - 32 else c
def upk (t : ByteArray) (k : Nat) : List Int := (List.range k).map fun i => upAt i ((bl t).getD i 0)
theorem upk_succ (t : ByteArray) (k : Nat) : upk t (k + 1) = upk t k ++ [upAt k ((bl t).getD k 0)] := by
  simp [upk, List.range_succ]
theorem upk_len (t : ByteArray) (k : Nat) : (upk t k).length = k := by simp [upk]

theorem found (n : Int) (h : 1 ≤ n ∧ n ≤ 7) : findI (⟨#[10, 32]⟩ ++ strOfNums (upk (nameI n) (nameI n).size) ++ ⟨#[9]⟩) = n := by
  rcases (show n = 1 ∨ n = 2 ∨ n = 3 ∨ n = 4 ∨ n = 5 ∨ n = 6 ∨ n = 7 from by omega) with rfl | rfl | rfl | rfl | rfl | rfl | rfl <;> decide +kernel
theorem name_size (n : Int) (h : 1 ≤ n ∧ n ≤ 7) : (nameI n).size ≤ 14 := by
  rcases (show n = 1 ∨ n = 2 ∨ n = 3 ∨ n = 4 ∨ n = 5 ∨ n = 6 ∨ n = 7 from by omega) with rfl | rfl | rfl | rfl | rfl | rfl | rfl <;> decide +kernel

theorem conv_one (W : World) (c : Int) : (convert 34 9 (.slice (some ⟨W.heap.size, 0, none⟩) 1 1)).run Tryd.prog (W.alloc (.cells #[.int .u8 c] 5)) = .ok (.string (strOfNums [c])) (W.alloc (.cells #[.int .u8 c] 5)) := by
  refine run_convert_bytes_arg _ 34 5 Tryd.underlying34 Tryd.underlying5 W.heap.size 0 1 1 [c] rfl (fun i hi => ?_) 9 Tryd.underlying9
  obtain rfl : i = 0 := by omega
  simp

theorem find_again (s : ByteArray) : findI (strOfNums (fdI (trI (bl s)))) = findI s := by
  unfold findI
  rw [bl_str _ (fd_byt (tr_byt (bl_byt s))), fd_tr, tr_tr, fd_fd]
theorem trim_again (s : ByteArray) : strOfNums (trI (bl (strOfNums (fdI (trI (bl s)))))) = strOfNums (fdI (trI (bl s))) := by
  rw [bl_str _ (fd_byt (tr_byt (bl_byt s))), fd_tr, tr_tr]
theorem fold_trim (s : ByteArray) : strOfNums (fdI (bl (strOfNums (trI (bl s))))) = strOfNums (fdI (trI (bl s))) := by
  rw [bl_str _ (tr_byt (bl_byt s))]

set_option maxHeartbeats 1000000 in
set_option maxRecDepth 100000 in
theorem no_long (n : Int) (s : ByteArray) (w : World) (hn : ¬ (1 ≤ n ∧ n ≤ 7)) (hs : 3000 < s.size) (hsm : s.size ≤ maxLen) :
    Calls Tryd.prog 4 #[.int .i64 n, .string s] w fun e w' => e = .returned (.bool true) ∧ Below w.heap.size w w' := by
  go_enter Tryd.func4, Tryd.ntmps4
  go_wp2_with fail
  refine (Name_no n _ hn).mono ?_
  rintro e w1 ⟨rfl, hb⟩
  have HB := hide hb
  clear hb
  go_wp2_with fail
  refine (begun_any _).mono ?_
  rintro e w2 ⟨rfl, hb⟩
  replace HB := hide (bstep (unhide HB) hb)
  clear hb
  go_wp2_with fail
  refine (Trim_long s _ hs hsm).mono ?_
  rintro e w5 ⟨rfl, hw⟩
  replace hw := hw.symm
  subst hw
  go_wp2_with fail
  refine (Fold_ok _ _ (by decide)).mono ?_
  rintro e w6 ⟨rfl, hb⟩
  replace HB := hide (bstep (unhide HB) hb)
  clear hb
  go_wp2_with fail
  refine (Find_long s _ hs hsm).mono ?_
  rintro e w7 ⟨rfl, hw⟩
  replace hw := hw.symm
  subst hw
  go_wp2_with fail
  go_ret
  exact ⟨ret_bool (by simp), unhide HB⟩

set_option maxHeartbeats 2000000 in
set_option maxRecDepth 100000 in
theorem yes_long (n : Int) (s : ByteArray) (w : World) (hn : 1 ≤ n ∧ n ≤ 7) (hs : 3000 < s.size) (hsm : s.size ≤ maxLen) :
    Calls Tryd.prog 4 #[.int .i64 n, .string s] w fun e w' => e = .returned (.bool true) ∧ Below w.heap.size w w' := by
  have hsz := name_size n hn
  have HF := hide (found n hn)
  have HN := hide (fun w => Name_yes n w hn)
  have hnn : (n != n) = false := by simp
  generalize nameI n = t at *
  clear hn
  go_enter Tryd.func4, Tryd.ntmps4
  go_wp2_with fail
  refine (unhide HN _).mono ?_
  rintro e w1 ⟨rfl, hb⟩
  have HB := hide hb
  clear hb HN
  go_wp2_with fail
  refine (begun_any _).mono ?_
  rintro e w2 ⟨rfl, hb⟩
  replace HB := hide (bstep (unhide HB) hb)
  clear hb
  go_wp2_with fail
  go_loopw [7, 8] (fun u i wr => ∃ k : Nat, k ≤ t.size ∧ i = .int .i64 k ∧ u = .string (strOfNums (upk t k)) ∧ Below w2.heap.size w2 wr) (fun _ i _ => t.size - (intOf i).toNat)
  case atStart => exact ⟨0, by omega, rfl, rfl, Below.refl _ _⟩
  case round =>
    obtain ⟨k, hk, rfl, rfl, hbr⟩ := hrel
    by_cases hlt : k < t.size
    · obtain ⟨c, hc⟩ : ∃ c : Int, (t[k].toNat : Int) = c := ⟨_, rfl⟩
      have hbd : 0 ≤ c ∧ c < 256 := by have := t[k].toNat_lt; omega
      have hgd : (bl t).getD k 0 = c := by rw [List.getD_eq_getElem?_getD, bl_get t k hlt, ← hc]; rfl
      have hs1 : (strOfNums (upk t k)).size ≤ 14 := by rw [strOfNums_size, upk_len]; omega
      have HS := hide (fun d (h : upAt k c = d) => show strOfNums (upk t k) ++ strOfNums [d] = strOfNums (upk t (k + 1)) from by rw [str_app, upk_succ, hgd, h])
      clear hgd
      generalize strOfNums (upk t k) = u at *
      by_cases hp : (k : Int) % 2 = 0 ∧ 97 ≤ c ∧ c ≤ 122
      · have e : upAt k c = c - 32 := by unfold upAt; rw [if_pos hp]
        have HS' := hide (unhide HS _ e)
        have hcv := conv_one wr (c - 32)
        have hsd : (strOfNums [c - 32]).size = 1 := by rw [strOfNums_size]; rfl
        obtain ⟨hp0, hp1, hp2⟩ := hp
        have hpp : ((k : Int) % 2 == 0) = true := by simp [hp0]
        replace hp0 := hide hp0
        generalize strOfNums [c - 32] = d at *
        clear HS e
        go_wp2_with fail
        go_roundw
        case rel => exact ⟨k + 1, by omega, by go_num, by rw [← unhide HS'], hbr.alloc hbr.size _⟩
        case measure => simp [intOf]; omega
      · have e : upAt k c = c := by unfold upAt; rw [if_neg hp]
        have HS' := hide (unhide HS _ e)
        have hcv := conv_one wr c
        have hsd : (strOfNums [c]).size = 1 := by rw [strOfNums_size]; rfl
        generalize strOfNums [c] = d at *
        clear HS e
        rcases (show (k : Int) % 2 = 1 ∨ ((k : Int) % 2 = 0 ∧ c < 97) ∨ ((k : Int) % 2 = 0 ∧ 97 ≤ c ∧ 122 < c) from by omega) with g | ⟨g, g'⟩ | ⟨g, g', g''⟩
        · have hpp : ((k : Int) % 2 == 0) = false := by rw [g]; rfl
          clear hp g
          go_wp2_with fail
          go_roundw
          case rel => exact ⟨k + 1, by omega, by go_num, by rw [← unhide HS'], hbr.alloc hbr.size _⟩
          case measure => simp [intOf]; omega
        · have hpp : ((k : Int) % 2 == 0) = true := by rw [g]; rfl
          clear hp g
          go_wp2_with fail
          go_roundw
          case rel => exact ⟨k + 1, by omega, by go_num, by rw [← unhide HS'], hbr.alloc hbr.size _⟩
          case measure => simp [intOf]; omega
        · have hpp : ((k : Int) % 2 == 0) = true := by rw [g]; rfl
          clear hp g
          go_wp2_with fail
          go_roundw
          case rel => exact ⟨k + 1, by omega, by go_num, by rw [← unhide HS'], hbr.alloc hbr.size _⟩
          case measure => simp [intOf]; omega
    · have ek : k = t.size := by omega
      subst ek
      have hs1 : (strOfNums (upk t t.size)).size ≤ 14 := by rw [strOfNums_size, upk_len]; omega
      generalize strOfNums (upk t t.size) = u at *
      replace HB := hide (bstep (unhide HB) hbr)
      clear hbr
      go_wp2_with fail
      refine (Find_ok _ _ (by have h1 : (⟨#[10, 32]⟩ : ByteArray).size = 2 := rfl; have h2 : (⟨#[9]⟩ : ByteArray).size = 1 := rfl; simp only [ByteArray.size_append]; omega)).mono ?_
      rintro e w4 ⟨rfl, hb⟩
      rw [unhide HF]
      replace HB := hide (bstep (unhide HB) hb)
      clear hb
      go_wp2_with fail
      refine (Trim_long s _ hs hsm).mono ?_
      rintro e w5 ⟨rfl, hw⟩
      replace hw := hw.symm
      subst hw
      go_wp2_with fail
      refine (Fold_ok _ _ (by decide)).mono ?_
      rintro e w6 ⟨rfl, hb⟩
      replace HB := hide (bstep (unhide HB) hb)
      clear hb
      go_wp2_with fail
      refine (Find_long s _ hs hsm).mono ?_
      rintro e w7 ⟨rfl, hw⟩
      replace hw := hw.symm
      subst hw
      go_wp2_with fail
      go_ret
      exact ⟨ret_bool (by simp), unhide HB⟩

set_option maxHeartbeats 1000000 in
set_option maxRecDepth 100000 in
theorem no_short (n : Int) (s : ByteArray) (w : World) (hn : ¬ (1 ≤ n ∧ n ≤ 7)) (hs : s.size ≤ 3000) :
    Calls Tryd.prog 4 #[.int .i64 n, .string s] w fun e w' => e = .returned (.bool true) ∧ Below w.heap.size w w' := by
  go_enter Tryd.func4, Tryd.ntmps4
  go_wp2_with fail
  refine (Name_no n _ hn).mono ?_
  rintro e w1 ⟨rfl, hb⟩
  have HB := hide hb
  clear hb
  go_wp2_with fail
  refine (begun_any _).mono ?_
  rintro e w2 ⟨rfl, hb⟩
  replace HB := hide (bstep (unhide HB) hb)
  clear hb
  go_wp2_with fail
  refine (Trim_ok s _ hs).mono ?_
  rintro e w5 ⟨rfl, hb⟩
  replace HB := hide (bstep (unhide HB) hb)
  clear hb
  go_wp2_with fail
  refine (Fold_ok _ _ (tr_size s hs)).mono ?_
  rintro e w6 ⟨rfl, hb⟩
  rw [fold_trim]
  replace HB := hide (bstep (unhide HB) hb)
  clear hb
  go_wp2_with fail
  refine (Find_ok s _ hs).mono ?_
  rintro e w7 ⟨rfl, hb⟩
  replace HB := hide (bstep (unhide HB) hb)
  clear hb
  go_wp2_with fail
  refine (Find_ok _ _ (fd_size s hs)).mono ?_
  rintro e w8 ⟨rfl, hb⟩
  rw [find_again]
  replace HB := hide (bstep (unhide HB) hb)
  clear hb
  go_wp2_with fail
  refine (Trim_ok _ _ (fd_size s hs)).mono ?_
  rintro e w9 ⟨rfl, hb⟩
  rw [trim_again]
  replace HB := hide (bstep (unhide HB) hb)
  clear hb
  go_wp2_with fail
  go_ret
  exact ⟨ret_bool (by simp), unhide HB⟩

set_option maxHeartbeats 2000000 in
set_option maxRecDepth 100000 in
theorem yes_short (n : Int) (s : ByteArray) (w : World) (hn : 1 ≤ n ∧ n ≤ 7) (hs : s.size ≤ 3000) :
    Calls Tryd.prog 4 #[.int .i64 n, .string s] w fun e w' => e = .returned (.bool true) ∧ Below w.heap.size w w' := by
  have hsz := name_size n hn
  have HF := hide (found n hn)
  have HN := hide (fun w => Name_yes n w hn)
  have hnn : (n != n) = false := by simp
  generalize nameI n = t at *
  clear hn
  go_enter Tryd.func4, Tryd.ntmps4
  go_wp2_with fail
  refine (unhide HN _).mono ?_
  rintro e w1 ⟨rfl, hb⟩
  have HB := hide hb
  clear hb HN
  go_wp2_with fail
  refine (begun_any _).mono ?_
  rintro e w2 ⟨rfl, hb⟩
  replace HB := hide (bstep (unhide HB) hb)
  clear hb
  go_wp2_with fail
  go_loopw [7, 8] (fun u i wr => ∃ k : Nat, k ≤ t.size ∧ i = .int .i64 k ∧ u = .string (strOfNums (upk t k)) ∧ Below w2.heap.size w2 wr) (fun _ i _ => t.size - (intOf i).toNat)
  case atStart => exact ⟨0, by omega, rfl, rfl, Below.refl _ _⟩
  case round =>
    obtain ⟨k, hk, rfl, rfl, hbr⟩ := hrel
    by_cases hlt : k < t.size
    · obtain ⟨c, hc⟩ : ∃ c : Int, (t[k].toNat : Int) = c := ⟨_, rfl⟩
      have hbd : 0 ≤ c ∧ c < 256 := by have := t[k].toNat_lt; omega
      have hgd : (bl t).getD k 0 = c := by rw [List.getD_eq_getElem?_getD, bl_get t k hlt, ← hc]; rfl
      have hs1 : (strOfNums (upk t k)).size ≤ 14 := by rw [strOfNums_size, upk_len]; omega
      have HS := hide (fun d (h : upAt k c = d) => show strOfNums (upk t k) ++ strOfNums [d] = strOfNums (upk t (k + 1)) from by rw [str_app, upk_succ, hgd, h])
      clear hgd
      generalize strOfNums (upk t k) = u at *
      by_cases hp : (k : Int) % 2 = 0 ∧ 97 ≤ c ∧ c ≤ 122
      · have e : upAt k c = c - 32 := by unfold upAt; rw [if_pos hp]
        have HS' := hide (unhide HS _ e)
        have hcv := conv_one wr (c - 32)
        have hsd : (strOfNums [c - 32]).size = 1 := by rw [strOfNums_size]; rfl
        obtain ⟨hp0, hp1, hp2⟩ := hp
        have hpp : ((k : Int) % 2 == 0) = true := by simp [hp0]
        replace hp0 := hide hp0
        generalize strOfNums [c - 32] = d at *
        clear HS e
        go_wp2_with fail
        go_roundw
        case rel => exact ⟨k + 1, by omega, by go_num, by rw [← unhide HS'], hbr.alloc hbr.size _⟩
        case measure => simp [intOf]; omega
      · have e : upAt k c = c := by unfold upAt; rw [if_neg hp]
        have HS' := hide (unhide HS _ e)
        have hcv := conv_one wr c
        have hsd : (strOfNums [c]).size = 1 := by rw [strOfNums_size]; rfl
        generalize strOfNums [c] = d at *
        clear HS e
        rcases (show (k : Int) % 2 = 1 ∨ ((k : Int) % 2 = 0 ∧ c < 97) ∨ ((k : Int) % 2 = 0 ∧ 97 ≤ c ∧ 122 < c) from by omega) with g | ⟨g, g'⟩ | ⟨g, g', g''⟩
        · have hpp : ((k : Int) % 2 == 0) = false := by rw [g]; rfl
          clear hp g
          go_wp2_with fail
          go_roundw
          case rel => exact ⟨k + 1, by omega, by go_num, by rw [← unhide HS'], hbr.alloc hbr.size _⟩
          case measure => simp [intOf]; omega
        · have hpp : ((k : Int) % 2 == 0) = true := by rw [g]; rfl
          clear hp g
          go_wp2_with fail
          go_roundw
          case rel => exact ⟨k + 1, by omega, by go_num, by rw [← unhide HS'], hbr.alloc hbr.size _⟩
          case measure => simp [intOf]; omega
        · have hpp : ((k : Int) % 2 == 0) = true := by rw [g]; rfl
          clear hp g
          go_wp2_with fail
          go_roundw
          case rel => exact ⟨k + 1, by omega, by go_num, by rw [← unhide HS'], hbr.alloc hbr.size _⟩
          case measure => simp [intOf]; omega
    · have ek : k = t.size := by omega
      subst ek
      have hs1 : (strOfNums (upk t t.size)).size ≤ 14 := by rw [strOfNums_size, upk_len]; omega
      generalize strOfNums (upk t t.size) = u at *
      replace HB := hide (bstep (unhide HB) hbr)
      clear hbr
      go_wp2_with fail
      refine (Find_ok _ _ (by have h1 : (⟨#[10, 32]⟩ : ByteArray).size = 2 := rfl; have h2 : (⟨#[9]⟩ : ByteArray).size = 1 := rfl; simp only [ByteArray.size_append]; omega)).mono ?_
      rintro e w4 ⟨rfl, hb⟩
      rw [unhide HF]
      replace HB := hide (bstep (unhide HB) hb)
      clear hb
      go_wp2_with fail
      refine (Trim_ok s _ hs).mono ?_
      rintro e w5 ⟨rfl, hb⟩
      replace HB := hide (bstep (unhide HB) hb)
      clear hb
      go_wp2_with fail
      refine (Fold_ok _ _ (tr_size s hs)).mono ?_
      rintro e w6 ⟨rfl, hb⟩
      rw [fold_trim]
      replace HB := hide (bstep (unhide HB) hb)
      clear hb
      go_wp2_with fail
      refine (Find_ok s _ hs).mono ?_
      rintro e w7 ⟨rfl, hb⟩
      replace HB := hide (bstep (unhide HB) hb)
      clear hb
      go_wp2_with fail
      refine (Find_ok _ _ (fd_size s hs)).mono ?_
      rintro e w8 ⟨rfl, hb⟩
      rw [find_again]
      replace HB := hide (bstep (unhide HB) hb)
      clear hb
      go_wp2_with fail
      refine (Trim_ok _ _ (fd_size s hs)).mono ?_
      rintro e w9 ⟨rfl, hb⟩
      rw [trim_again]
      replace HB := hide (bstep (unhide HB) hb)
      clear hb
      go_wp2_with fail
      go_ret
      exact ⟨ret_bool (by simp), unhide HB⟩

theorem walk (n : Int) (s : ByteArray) (w : World) (hs : s.size ≤ maxLen) :
    Calls Tryd.prog 4 #[.int .i64 n, .string s] w fun e w' => e = .returned (.bool true) ∧ Below w.heap.size w w' := by
  by_cases hn : 1 ≤ n ∧ n ≤ 7
  · by_cases h : 3000 < s.size
    · exact yes_long n s w hn h hs
    · exact yes_short n s w hn (by omega)
  · by_cases h : 3000 < s.size
    · exact no_long n s w hn h hs
    · exact no_short n s w hn (by omega)
end Go.Proofs.YthhjfedegbldfaaDoor.labelNames
