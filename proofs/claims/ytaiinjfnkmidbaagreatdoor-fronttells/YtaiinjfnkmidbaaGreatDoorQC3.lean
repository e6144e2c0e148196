/- Laws that the statements of this seat lean on, part 3 (SX U8 UA UB LN SY LC DA KG DB DC): each a contract of a function, or a plain fact; conditions stand at each. -/
import Derived.BigQuiet
import Derived.Deep.QuietTactic
import Derived.Deep.RegionLaw
import Derived.Laws.BitsLemmas
import Derived.Laws.IdiomStrings
import Derived.Maps.AppendAt
import Derived.ProofKit
import Derived.Shelf.Strconv.Clone
import Derived.WalkKit
import Derived.WalkSmall
import Derived.Test.YtaiinjfnkmidbaaGreatDoorQC2
namespace Go.Proofs.YtaiinjfnkmidbaaGreatDoor
open Go.RowKit
set_option linter.unusedVariables false

theorem beq_nums (u : ByteArray) (ms : List Int) (cs : List UInt8) (hc : (strOfNums ms).toList = cs) (hb : bl (strOfNums ms) = ms) : (u.toList == cs) = decide (bl u = ms) := by
  rw [Bool.eq_iff_iff]
  simp only [beq_iff_eq, decide_eq_true_eq]
  constructor
  · intro h
    have : u = strOfNums ms := by
      apply ByteArray.ext
      apply Array.ext'
      rw [← Lib.toList_data, ← Lib.toList_data, h, hc]
    rw [this, hb]
  · intro h
    have : u = strOfNums ms := by rw [← h, str_bl]
    rw [this, hc]
theorem suffix_dec (s : ByteArray) (ms : List Int) (h : ms.length ≤ s.size) : decide (bl (s.extract (s.size - ms.length) s.size) = ms) = decide (ms <:+ bl s) := by
  rw [bl_extract, Bool.eq_iff_iff]
  simp only [decide_eq_true_eq]
  rw [List.suffix_iff_eq_drop, bl_len]
  exact eq_comm
theorem suffix_short (s : ByteArray) (ms : List Int) (h : s.size < ms.length) : decide (ms <:+ bl s) = false := by
  simp only [decide_eq_false_iff_not]
  intro hs
  have := hs.length_le
  rw [bl_len] at this
  omega
set_option maxHeartbeats 400000 in
set_option maxRecDepth 100000 in
theorem suffix2_any (s : ByteArray) (w : World) (hm : s.size ≤ maxLen) : Calls Tryz.prog 213 #[.string s, .string ⟨#[27, 40]⟩] w fun e w' => e = .returned (.bool (decide ([27, 40] <:+ bl s))) ∧ w' = w := by
  unfold maxLen at hm
  have hz : (⟨#[27, 40]⟩ : ByteArray).size = 2 := rfl
  by_cases h : 2 ≤ s.size
  · have HE : Hid (((s.extract (s.size - 2) s.size).toList == ([27, 40] : List UInt8)) = decide ([27, 40] <:+ bl s)) := hide (by
      rw [beq_nums _ [27, 40] _ (by rw [Lib.toList_data]; rfl) (by decide)]
      exact suffix_dec s [27, 40] h)
    go_enter Tryz.func213, Tryz.ntmps213
    go_wp2
    go_ret
    refine ⟨?_, rfl⟩
    rw [← unhide HE]; rfl
  · have HE : Hid (decide ([27, 40] <:+ bl s) = false) := hide (suffix_short s [27, 40] (show s.size < 2 by omega))
    go_enter Tryz.func213, Tryz.ntmps213
    go_wp2
    go_ret
    refine ⟨?_, rfl⟩
    rw [unhide HE]; rfl
set_option maxHeartbeats 400000 in
set_option maxRecDepth 100000 in
theorem suffix1_any (s : ByteArray) (w : World) (hm : s.size ≤ maxLen) : Calls Tryz.prog 213 #[.string s, .string ⟨#[27]⟩] w fun e w' => e = .returned (.bool (decide ([27] <:+ bl s))) ∧ w' = w := by
  unfold maxLen at hm
  have hz : (⟨#[27]⟩ : ByteArray).size = 1 := rfl
  by_cases h : 1 ≤ s.size
  · have HE : Hid (((s.extract (s.size - 1) s.size).toList == ([27] : List UInt8)) = decide ([27] <:+ bl s)) := hide (by
      rw [beq_nums _ [27] _ (by rw [Lib.toList_data]; rfl) (by decide)]
      exact suffix_dec s [27] h)
    go_enter Tryz.func213, Tryz.ntmps213
    go_wp2
    go_ret
    refine ⟨?_, rfl⟩
    rw [← unhide HE]; rfl
  · have HE : Hid (decide ([27] <:+ bl s) = false) := hide (suffix_short s [27] (show s.size < 1 by omega))
    go_enter Tryz.func213, Tryz.ntmps213
    go_wp2
    go_ret
    refine ⟨?_, rfl⟩
    rw [unhide HE]; rfl

set_option maxHeartbeats 800000 in
set_option maxRecDepth 100000 in
theorem waitsK_any (s : ByteArray) (w : World) (hm : s.size ≤ maxLen) : Calls Tryz.prog 177 #[.string s] w fun e w' => e = .returned (.int .i64 (M.wk (bl s) : Nat)) ∧ w' = w := by
  have s2 := fun w => suffix2_any s w hm
  have s1 := fun w => suffix1_any s w hm
  have hx : (⟨#[27, 40]⟩ : ByteArray).extract 0 1 = ⟨#[27]⟩ := by decide
  have hx2 : (⟨#[27, 40]⟩ : ByteArray).extract 0 2 = ⟨#[27, 40]⟩ := by decide
  have hz : (⟨#[27, 40]⟩ : ByteArray).size = 2 := rfl
  cases h2 : decide (([27, 40] : List Int) <:+ bl s)
  · rw [h2] at s2
    cases h1 : decide (([27] : List Int) <:+ bl s)
    · rw [h1] at s1
      have HW : Hid (M.wk (bl s) = 0) := hide (by unfold M.wk; rw [if_neg (of_decide_eq_false h2), if_neg (of_decide_eq_false h1)])
      clear h1 h2
      go_enter Tryz.func177, Tryz.ntmps177
      go_wp2_with fail
      refine wp_loop_rounds 3 ?_
      rw [rounds_succ]
      go_wp2_with fail
      refine (s2 _).mono ?_
      rintro e w1 ⟨rfl, hw⟩
      replace hw := hw.symm
      subst hw
      go_wp2_with fail
      rw [rounds_succ]
      go_wp2_with fail
      refine (s1 _).mono ?_
      rintro e w1 ⟨rfl, hw⟩
      replace hw := hw.symm
      subst hw
      go_wp2_with fail
      rw [rounds_succ]
      go_wp2_with fail
      go_ret
      refine ⟨?_, rfl⟩
      rw [unhide HW]; rfl
    · rw [h1] at s1
      have HW : Hid (M.wk (bl s) = 1) := hide (by unfold M.wk; rw [if_neg (of_decide_eq_false h2), if_pos (of_decide_eq_true h1)])
      clear h1 h2
      go_enter Tryz.func177, Tryz.ntmps177
      go_wp2_with fail
      refine wp_loop_rounds 3 ?_
      rw [rounds_succ]
      go_wp2_with fail
      refine (s2 _).mono ?_
      rintro e w1 ⟨rfl, hw⟩
      replace hw := hw.symm
      subst hw
      go_wp2_with fail
      rw [rounds_succ]
      go_wp2_with fail
      refine (s1 _).mono ?_
      rintro e w1 ⟨rfl, hw⟩
      replace hw := hw.symm
      subst hw
      go_wp2_with fail
      go_ret
      refine ⟨?_, rfl⟩
      rw [unhide HW]; rfl
  · rw [h2] at s2
    have HW : Hid (M.wk (bl s) = 2) := hide (by unfold M.wk; rw [if_pos (of_decide_eq_true h2)])
    clear h2
    go_enter Tryz.func177, Tryz.ntmps177
    go_wp2_with fail
    refine wp_loop_rounds 3 ?_
    rw [rounds_succ]
    go_wp2_with fail
    refine (s2 _).mono ?_
    rintro e w1 ⟨rfl, hw⟩
    replace hw := hw.symm
    subst hw
    go_wp2_with fail
    go_ret
    refine ⟨?_, rfl⟩
    rw [unhide HW]; rfl

namespace M
theorem lastW_at (big : Bool) : ∀ (n : Nat) (l : List Int), l.length ≤ n → 2 ≤ l.length → lastW big l = ut big (l.getD (l.length - l.length % 2 - 2) 0) (l.getD (l.length - l.length % 2 - 1) 0)
  | 0, l, h, h2 => by omega
  | n + 1, l, h, h2 => by
    match l, h2 with
    | [a, b], _ => simp [lastW]
    | [a, b, c], _ => simp [lastW]
    | a :: b :: c :: d :: t, _ =>
      rw [lastW_drop big a b (by simp), lastW_at big n (c :: d :: t) (by simp at h; simp; omega) (by simp)]
      have e1 : (a :: b :: c :: d :: t).length - (a :: b :: c :: d :: t).length % 2 - 2 = ((c :: d :: t).length - (c :: d :: t).length % 2 - 2) + 2 := by simp; omega
      have e2 : (a :: b :: c :: d :: t).length - (a :: b :: c :: d :: t).length % 2 - 1 = ((c :: d :: t).length - (c :: d :: t).length % 2 - 1) + 2 := by simp; omega
      rw [e1, e2]
      rfl
theorem fst_ut (big : Bool) {a b : Int} (ha : 0 ≤ a ∧ a ≤ 255) (hb : 0 ≤ b ∧ b ≤ 255) : fst16 (ut big a b) = decide (216 ≤ (if big then a else b) ∧ (if big then a else b) ≤ 219) := by
  unfold fst16 ut
  rw [Bool.eq_iff_iff]
  simp only [decide_eq_true_eq]
  cases big
  · simp only [Bool.false_eq_true, if_false]; omega
  · simp only [if_true]; omega
end M
theorem bl_getD (s : ByteArray) (k : Nat) (h : k < s.size) : (bl s).getD k 0 = (s[k].toNat : Int) := by
  simp [List.getD_eq_getElem?_getD, bl_get s k h]
/-- How many bytes of UTF-16 wait, by the bytes themselves. -/
theorem wu_at (big : Bool) (s : ByteArray) (m : Nat) (h : Nat) (hm : 2 ≤ m) (hh : h < 2) (he : s.size = m + h) (hev : m % 2 = 0) :
    M.wu big (bl s) = h + (if 216 ≤ (if big then ((s[m - 2]'(by omega)).toNat : Int) else ((s[m - 1]'(by omega)).toNat : Int)) ∧ (if big then ((s[m - 2]'(by omega)).toNat : Int) else ((s[m - 1]'(by omega)).toNat : Int)) ≤ 219 then 2 else 0) := by
  have hmod : s.size % 2 = h := by omega
  have h1 := (s[m - 2]'(by omega)).toNat_lt
  have h2 := (s[m - 1]'(by omega)).toNat_lt
  unfold M.wu
  rw [bl_len, hmod, M.lastW_at big _ (bl s) (Nat.le_refl _) (by rw [bl_len]; omega), bl_len, hmod, show s.size - h - 2 = m - 2 from by omega, show s.size - h - 1 = m - 1 from by omega, bl_getD s (m - 2) (by omega), bl_getD s (m - 1) (by omega), M.fst_ut big (by omega) (by omega)]
  simp only [decide_eq_true_eq]
theorem wu_few (big : Bool) (s : ByteArray) (h : s.size < 2) : M.wu big (bl s) = s.size := by
  unfold M.wu
  rw [bl_len]
  have : M.lastW big (bl s) = 0 := by
    have hl := bl_len s
    match hb : bl s, hl with
    | [], _ => rfl
    | [a], _ => rfl
    | a :: b :: t, hl => simp at hl; omega
  rw [this, M.fst16_0]
  simp; omega

theorem owns_one (w : World) (x : Int) : (w.alloc (.cells #[.int .i64 x] 3)).ownsRow w.heap.size 3 1 (.slice (some ⟨w.heap.size, 0, none⟩) 1 1) 1 [.int .i64 x] :=
  ⟨rfl, .inr ⟨w.heap.size, 1, #[.int .i64 x], rfl, Nat.le_refl _, heap_alloc_new w _, Nat.le_refl _, by decide, rfl, rfl⟩⟩
set_option maxHeartbeats 800000 in
set_option maxRecDepth 100000 in
theorem units_few (big : Bool) (s : ByteArray) (w : World) (h : s.size < 2) : Calls Tryz.prog 176 #[.bool big, .string s] w fun e w' => e = .returned (.int .i64 (M.wu big (bl s) : Nat)) ∧ w' = w := by
  have HW := hide (wu_few big s h)
  have hmod : (s.size : Int) % 2 = (s.size : Int) := by omega
  have hx : (s.extract 0 0).toList.isEmpty = true := by rw [isEmpty_size]; simp
  go_enter Tryz.func176, Tryz.ntmps176
  go_wp2_with fail
  go_ret
  refine ⟨?_, rfl⟩
  rw [unhide HW]; exact ret_int hmod
set_option maxHeartbeats 800000 in
set_option maxRecDepth 100000 in
theorem units_big0 (s : ByteArray) (w : World) (c : Int) (h : 2 ≤ s.size) (hm : s.size ≤ maxLen) (hev : s.size % 2 = 0) (hc : ((s[s.size - 2]'(by omega)).toNat : Int) = c) (r : Int) (hr : r = 0 + if 216 ≤ c ∧ c ≤ 219 then 2 else 0) :
    Calls Tryz.prog 176 #[.bool true, .string s] w fun e w' => e = .returned (.int .i64 r) ∧ w' = w := by
  unfold maxLen at hm
  have hc0 : 0 ≤ c := by omega
  have hc1 : c < 256 := by have := (s[s.size - 2]'(by omega)).toNat_lt; omega
  have hmod : (s.size : Int) % 2 = 0 := by omega
  have hx : s.toList.isEmpty = false := by rw [isEmpty_size]; exact decide_eq_false (by omega)
  have hi : (s.size : Int) - 2 = ((s.size - 2 : Nat) : Int) := by omega
  have hi1 : (s.size : Int) - 1 = ((s.size - 1 : Nat) : Int) := by omega
  by_cases h1 : 216 ≤ c
  · by_cases h2 : c ≤ 219
    · rw [if_pos ⟨h1, h2⟩] at hr
      subst hr
      go_enter Tryz.func176, Tryz.ntmps176
      go_wp2_with fail
      go_ret
      exact ⟨rfl, rfl⟩
    · rw [if_neg (by omega)] at hr
      subst hr
      go_enter Tryz.func176, Tryz.ntmps176
      go_wp2_with fail
      go_ret
      exact ⟨rfl, rfl⟩
  · rw [if_neg (by omega)] at hr
    subst hr
    go_enter Tryz.func176, Tryz.ntmps176
    go_wp2_with fail
    go_ret
    exact ⟨rfl, rfl⟩
set_option maxHeartbeats 800000 in
set_option maxRecDepth 100000 in
theorem units_lit0 (s : ByteArray) (w : World) (c : Int) (h : 2 ≤ s.size) (hm : s.size ≤ maxLen) (hev : s.size % 2 = 0) (hc : ((s[s.size - 1]'(by omega)).toNat : Int) = c) (r : Int) (hr : r = 0 + if 216 ≤ c ∧ c ≤ 219 then 2 else 0) :
    Calls Tryz.prog 176 #[.bool false, .string s] w fun e w' => e = .returned (.int .i64 r) ∧ w' = w := by
  unfold maxLen at hm
  have hc0 : 0 ≤ c := by omega
  have hc1 : c < 256 := by have := (s[s.size - 1]'(by omega)).toNat_lt; omega
  have hmod : (s.size : Int) % 2 = 0 := by omega
  have hx : s.toList.isEmpty = false := by rw [isEmpty_size]; exact decide_eq_false (by omega)
  have hi : (s.size : Int) - 2 = ((s.size - 2 : Nat) : Int) := by omega
  have hi1 : (s.size : Int) - 1 = ((s.size - 1 : Nat) : Int) := by omega
  by_cases h1 : 216 ≤ c
  · by_cases h2 : c ≤ 219
    · rw [if_pos ⟨h1, h2⟩] at hr
      subst hr
      go_enter Tryz.func176, Tryz.ntmps176
      go_wp2_with fail
      go_ret
      exact ⟨rfl, rfl⟩
    · rw [if_neg (by omega)] at hr
      subst hr
      go_enter Tryz.func176, Tryz.ntmps176
      go_wp2_with fail
      go_ret
      exact ⟨rfl, rfl⟩
  · rw [if_neg (by omega)] at hr
    subst hr
    go_enter Tryz.func176, Tryz.ntmps176
    go_wp2_with fail
    go_ret
    exact ⟨rfl, rfl⟩
set_option maxHeartbeats 800000 in
set_option maxRecDepth 100000 in
theorem units_big1 (s : ByteArray) (w : World) (c : Int) (h : 3 ≤ s.size) (hm : s.size ≤ maxLen) (hev : s.size % 2 = 1) (hc : ((s[s.size - 3]'(by omega)).toNat : Int) = c) (r : Int) (hr : r = 1 + if 216 ≤ c ∧ c ≤ 219 then 2 else 0) :
    Calls Tryz.prog 176 #[.bool true, .string s] w fun e w' => e = .returned (.int .i64 r) ∧ w' = w := by
  unfold maxLen at hm
  have hc0 : 0 ≤ c := by omega
  have hc1 : c < 256 := by have := (s[s.size - 3]'(by omega)).toNat_lt; omega
  have hmod : (s.size : Int) % 2 = 1 := by omega
  have hx : (s.extract 0 (s.size - 1)).toList.isEmpty = false := by rw [isEmpty_size]; simp; omega
  have hsz : (s.extract 0 (s.size - 1)).size = s.size - 1 := by simp
  have hi : (s.size : Int) - 1 = ((s.size - 1 : Nat) : Int) := by omega
  have hi1 : ((s.size - 1 : Nat) : Int) - 1 = ((s.size - 2 : Nat) : Int) := by omega
  have hi2 : ((s.size - 1 : Nat) : Int) - 2 = ((s.size - 3 : Nat) : Int) := by omega
  have hg : (((s.extract 0 (s.size - 1))[s.size - 3]'(by simp; omega)).toNat : Int) = c := by rw [← hc]; simp [ByteArray.getElem_extract]
  by_cases h1 : 216 ≤ c
  · by_cases h2 : c ≤ 219
    · rw [if_pos ⟨h1, h2⟩] at hr
      subst hr
      go_enter Tryz.func176, Tryz.ntmps176
      go_wp2_with fail
      go_ret
      exact ⟨rfl, rfl⟩
    · rw [if_neg (by omega)] at hr
      subst hr
      go_enter Tryz.func176, Tryz.ntmps176
      go_wp2_with fail
      go_ret
      exact ⟨rfl, rfl⟩
  · rw [if_neg (by omega)] at hr
    subst hr
    go_enter Tryz.func176, Tryz.ntmps176
    go_wp2_with fail
    go_ret
    exact ⟨rfl, rfl⟩
set_option maxHeartbeats 800000 in
set_option maxRecDepth 100000 in
theorem units_lit1 (s : ByteArray) (w : World) (c : Int) (h : 3 ≤ s.size) (hm : s.size ≤ maxLen) (hev : s.size % 2 = 1) (hc : ((s[s.size - 2]'(by omega)).toNat : Int) = c) (r : Int) (hr : r = 1 + if 216 ≤ c ∧ c ≤ 219 then 2 else 0) :
    Calls Tryz.prog 176 #[.bool false, .string s] w fun e w' => e = .returned (.int .i64 r) ∧ w' = w := by
  unfold maxLen at hm
  have hc0 : 0 ≤ c := by omega
  have hc1 : c < 256 := by have := (s[s.size - 2]'(by omega)).toNat_lt; omega
  have hmod : (s.size : Int) % 2 = 1 := by omega
  have hx : (s.extract 0 (s.size - 1)).toList.isEmpty = false := by rw [isEmpty_size]; simp; omega
  have hsz : (s.extract 0 (s.size - 1)).size = s.size - 1 := by simp
  have hi : (s.size : Int) - 1 = ((s.size - 1 : Nat) : Int) := by omega
  have hi1 : ((s.size - 1 : Nat) : Int) - 1 = ((s.size - 2 : Nat) : Int) := by omega
  have hi2 : ((s.size - 1 : Nat) : Int) - 2 = ((s.size - 3 : Nat) : Int) := by omega
  have hg : (((s.extract 0 (s.size - 1))[s.size - 2]'(by simp; omega)).toNat : Int) = c := by rw [← hc]; simp [ByteArray.getElem_extract]
  by_cases h1 : 216 ≤ c
  · by_cases h2 : c ≤ 219
    · rw [if_pos ⟨h1, h2⟩] at hr
      subst hr
      go_enter Tryz.func176, Tryz.ntmps176
      go_wp2_with fail
      go_ret
      exact ⟨rfl, rfl⟩
    · rw [if_neg (by omega)] at hr
      subst hr
      go_enter Tryz.func176, Tryz.ntmps176
      go_wp2_with fail
      go_ret
      exact ⟨rfl, rfl⟩
  · rw [if_neg (by omega)] at hr
    subst hr
    go_enter Tryz.func176, Tryz.ntmps176
    go_wp2_with fail
    go_ret
    exact ⟨rfl, rfl⟩
theorem units_any (big : Bool) (s : ByteArray) (w : World) (hm : s.size ≤ maxLen) : Calls Tryz.prog 176 #[.bool big, .string s] w fun e w' => e = .returned (.int .i64 (M.wu big (bl s) : Nat)) ∧ w' = w := by
  by_cases h : s.size < 2
  · exact units_few big s w h
  · by_cases hev : s.size % 2 = 0
    · have e := wu_at big s s.size 0 (by omega) (by omega) rfl hev
      cases big
      · refine units_lit0 s w _ (by omega) hm hev rfl _ ?_
        rw [e]; simp only [Bool.false_eq_true, if_false]; split <;> simp
      · refine units_big0 s w _ (by omega) hm hev rfl _ ?_
        rw [e]; simp only [if_true]; split <;> simp
    · have e := wu_at big s (s.size - 1) 1 (by omega) (by omega) (by omega) (by omega)
      cases big
      · refine units_lit1 s w _ (by omega) hm (by omega) rfl _ ?_
        rw [e]
        simp only [Bool.false_eq_true, if_false, show s.size - 1 - 1 = s.size - 2 from by omega]; split <;> simp
      · refine units_big1 s w _ (by omega) hm (by omega) rfl _ ?_
        rw [e]
        simp only [if_true, show s.size - 1 - 2 = s.size - 3 from by omega]; split <;> simp
set_option maxHeartbeats 800000 in
set_option maxRecDepth 100000 in
theorem stop_any (s : ByteArray) (w : World) : Calls Tryz.prog 94 #[.string s] w fun e w' => ∃ v, e = .returned v ∧ w'.ownsRow w.heap.size 3 1 v (if s.size = 0 then [] else [(65533 : Int)]).length ((if s.size = 0 then [] else [(65533 : Int)]).map (Value.int .i64)) ∧ Below w.heap.size w w' := by
  have HE := hide (isEmpty_size s)
  by_cases h : s.size = 0
  · have he : s.toList.isEmpty = true := by rw [unhide HE]; simpa using h
    have hs : s = ⟨#[]⟩ := by
      apply ByteArray.ext; apply Array.ext'
      exact List.eq_nil_of_length_eq_zero (by simpa using h)
    subst hs
    go_enter Tryz.func94, Tryz.ntmps94
    go_wp2_with fail
    go_ret
    exact ⟨_, rfl, World.ownsRow_nil _ _ _ _, Below.refl _ _⟩
  · have he : s.toList.isEmpty = false := by rw [unhide HE]; simpa using h
    rw [if_neg h]
    go_enter Tryz.func94, Tryz.ntmps94
    go_wp2_with fail
    go_ret
    exact ⟨_, rfl, owns_one w 65533, balloc _ _⟩
end Go.Proofs.YtaiinjfnkmidbaaGreatDoor

namespace Go.Proofs.YtaiinjfnkmidbaaGreatDoor
open Go.RowKit
set_option linter.unusedVariables false


theorem ret_start {a b c d a' b' c' d' : Int} (h1 : a = a') (h2 : b = b') (h3 : c = c') (h4 : d = d') :
    Ending.returned (.agg #[.int .i64 a, .int .i64 b, .int .u8 c, .int .u8 d]) = .returned (.agg #[.int .i64 a', .int .i64 b', .int .u8 c', .int .u8 d']) := by
  rw [h1, h2, h3, h4]

set_option maxHeartbeats 1000000 in
theorem begin_any (c : Int) (h0 : 0 ≤ c) (h1 : c ≤ 255) (w : World) :
    Calls Tryz.prog 222 #[.int .u8 c] w fun e w' => e = .returned (.agg #[.int .i64 (M.bSize c), .int .i64 (M.bBits c), .int .u8 (M.bLow c), .int .u8 (M.bHigh c)]) ∧ Below w.heap.size w w' := by
  rcases (show (c < 128) ∨ (128 ≤ c ∧ c < 194) ∨ (194 ≤ c ∧ c < 224) ∨ c = 224 ∨ c = 237 ∨ (224 < c ∧ c < 237) ∨ (237 < c ∧ c < 240) ∨ c = 240 ∨ (240 < c ∧ c < 244) ∨ c = 244 ∨ 244 < c from by omega) with h | ⟨h, h'⟩ | ⟨h, h'⟩ | h | h | ⟨h, h'⟩ | ⟨h, h'⟩ | h | ⟨h, h'⟩ | h | h
  all_goals (try subst h)
  all_goals
    go_enter Tryz.func222, Tryz.ntmps222
    go_wp2
    refine bodyPost_ret (by simp [results, Tryz.results222, go_sem]; exact ⟨rfl, rfl, rfl, rfl⟩) rfl ⟨ret_start ?_ ?_ ?_ ?_, (Below.refl _ _).alloc (Nat.le_refl _) _⟩
  all_goals simp only [M.bSize, M.bBits, M.bLow, M.bHigh]
  all_goals (repeat (first | rfl | omega | (rw [if_pos (by omega)]) | (rw [if_neg (by omega)])))


theorem nxt_zero (s : ByteArray) (h : 0 < s.size) (hz : M.bSize s[0].toNat = 0) : M.nxt (bl s) = (65533, 1, false) := by
  rw [bl_0 s h]; simp [M.nxt, hz]
theorem nxt_start (s : ByteArray) (h : 0 < s.size) (hz : ¬ M.bSize s[0].toNat = 0) :
    M.go (M.bSize s[0].toNat - 1).toNat 1 (M.bBits s[0].toNat) (M.bLow s[0].toNat) (M.bHigh s[0].toNat) ((bl s).drop 1) = M.nxt (bl s) := by
  conv => rhs; rw [bl_0 s h]
  simp [M.nxt, hz]
theorem go_step {s : ByteArray} {k : Nat} (hk : k < s.size) {sz P L H : Int} (h : (k : Int) < sz) (h1 : L ≤ s[k].toNat) (h2 : (s[k].toNat : Int) ≤ H) {r : Int × Int × Bool}
    (hg : M.go (sz - k).toNat k P L H ((bl s).drop k) = r) : M.go (sz - ((k + 1 : Nat) : Int)).toNat ((k + 1 : Nat) : Int) (P * 64 + s[k].toNat % 64) 128 191 ((bl s).drop (k + 1)) = r := by
  rw [← hg, bl_drop s k hk]
  obtain ⟨m, hm⟩ : ∃ m : Nat, (sz - k).toNat = m + 1 := ⟨(sz - k).toNat - 1, by omega⟩
  rw [hm, show (sz - ((k + 1 : Nat) : Int)).toNat = m from by omega]
  simp only [M.go]
  rw [if_neg (by omega)]
  simp
theorem go_bad {s : ByteArray} {k : Nat} (hk : k < s.size) {sz P L H : Int} (h : (k : Int) < sz) (h1 : (s[k].toNat : Int) < L ∨ H < (s[k].toNat : Int)) {r : Int × Int × Bool}
    (hg : M.go (sz - k).toNat k P L H ((bl s).drop k) = r) : r = (65533, (k : Int), false) := by
  rw [← hg, bl_drop s k hk]
  obtain ⟨m, hm⟩ : ∃ m : Nat, (sz - k).toNat = m + 1 := ⟨(sz - k).toNat - 1, by omega⟩
  rw [hm]; simp only [M.go]; rw [if_pos h1]
theorem go_end {s : ByteArray} {k : Nat} (hk : k = s.size) {sz P L H : Int} (h : (k : Int) < sz) {r : Int × Int × Bool}
    (hg : M.go (sz - k).toNat k P L H ((bl s).drop k) = r) : r = (65533, (k : Int), true) := by
  rw [← hg, List.drop_of_length_le (by rw [bl_len]; omega)]
  obtain ⟨m, hm⟩ : ∃ m : Nat, (sz - k).toNat = m + 1 := ⟨(sz - k).toNat - 1, by omega⟩
  rw [hm]; simp only [M.go]
theorem go_done {s : ByteArray} {k : Nat} {sz P L H : Int} (h : (k : Int) = sz) {r : Int × Int × Bool}
    (hg : M.go (sz - k).toNat k P L H ((bl s).drop k) = r) : r = (P, sz, false) := by
  rw [← hg, show (sz - k).toNat = 0 from by omega]; simp only [M.go]; rw [h]

theorem or64 (P c : Int) (h1 : 0 ≤ P) (h2 : P < 1125899906842624) (h3 : 0 ≤ c) : bits .or .i64 (P * 64) (c % 64) = P * 64 + c % 64 :=
  bits_join .i64 62 (by decide) (fun n h h' => by rw [IntKind.wrap_i64]; omega) 6 (P * 64) (c % 64) (by omega) (by omega) (by omega) (by omega) (by omega) (by omega)
theorem b_next {w w1 : World} {o o' : Obj} {nq : Nat} (x y z : Value) (hb : Below (w.alloc o).heap.size (w.alloc o) w1) :
    Below w.heap.size w (((((w1.alloc o').drewN nq).setCell ⟨w.heap.size, 0, none⟩ x).setCell ⟨w.heap.size, 1, none⟩ y).setCell ⟨w.heap.size, 2, none⟩ z) := by
  have h1 := ((Below.refl w.heap.size w).alloc (Nat.le_refl _) o).trans (hb.mono (by simp))
  exact (((below_drewN (h1.alloc h1.size o') nq).setCell (Nat.le_refl _) x).setCell (Nat.le_refl _) y).setCell (Nat.le_refl _) z

theorem b_next' {w w1 : World} {o o' : Obj} (x y z : Value) (hb : Below (w.alloc o).heap.size (w.alloc o) w1) :
    Below w.heap.size w ((((w1.setCell ⟨w.heap.size, 0, none⟩ x).setCell ⟨w.heap.size, 1, none⟩ y).setCell ⟨w.heap.size, 2, none⟩ z).alloc o') := by
  have h1 := ((Below.refl w.heap.size w).alloc (Nat.le_refl _) o).trans (hb.mono (by simp))
  have h2 := ((h1.setCell (p := ⟨w.heap.size, 0, none⟩) (Nat.le_refl _) x).setCell (p := ⟨w.heap.size, 1, none⟩) (Nat.le_refl _) y).setCell (p := ⟨w.heap.size, 2, none⟩) (Nat.le_refl _) z
  exact h2.alloc h2.size o'

/-- What a loop's round of next knows. -/
def InN8 (s : ByteArray) (sz : Int) (k : Nat) (P L H : Int) : Prop := M.go (sz - k).toNat k P L H ((bl s).drop k) = M.nxt (bl s)

set_option maxHeartbeats 400000 in
set_option maxRecDepth 100000 in
theorem next_none (s : ByteArray) (w : World) (h0 : 0 < s.size) (hs : s.size ≤ 3000) (hz0 : M.bSize s[0].toNat = 0) :
    Calls Tryz.prog 196 #[.string s] w fun e w' => e = .returned (.agg #[.int .i64 (M.nxt (bl s)).1, .int .i64 (M.nxt (bl s)).2.1, .bool (M.nxt (bl s)).2.2]) ∧ Below w.heap.size w w' := by
  have hc : (s[0].toNat : Int) < 256 := by have := s[0].toNat_lt; omega
  have HR := hide (nxt_zero s h0 hz0)
  have hsz : (M.bSize s[0].toNat == 0) = true := by simp [hz0]
  clear hz0
  go_enter Tryz.func196, Tryz.ntmps196
  go_wp2_with fail
  refine (begin_any _ (by omega) (by omega) _).mono ?_
  rintro e w1 ⟨rfl, hb⟩
  obtain ⟨hcl, hfz⟩ := bcell hb
  have hz : w.heap.size + 1 ≤ w1.heap.size := by have := hb.size; simp at this; omega
  have c0 : w1.cell? ⟨w.heap.size, 0, none⟩ = some (.int .i64 0) := by rw [hcl _ _ (by simp)]; simp
  have c1 : w1.cell? ⟨w.heap.size, 1, none⟩ = some (.int .i64 0) := by rw [hcl _ _ (by simp)]; simp
  have c2 : w1.cell? ⟨w.heap.size, 2, none⟩ = some (.bool false) := by rw [hcl _ _ (by simp)]; simp
  have f0 : w1.frozen? ⟨w.heap.size, 0, none⟩ = false := by rw [hfz _ _ (by simp)]; simp
  have f1 : w1.frozen? ⟨w.heap.size, 1, none⟩ = false := by rw [hfz _ _ (by simp)]; simp
  have f2 : w1.frozen? ⟨w.heap.size, 2, none⟩ = false := by rw [hfz _ _ (by simp)]; simp
  have hzz : w.heap.size < w1.heap.size := by omega
  clear hcl hfz
  clear hc
  go_wp2
  refine bodyPost_ret (v := .agg #[.int .i64 65533, .int .i64 1, .bool false]) (by simp [results, Tryz.results196, go_sem, c0, c1, c2, hzz]) rfl ⟨?_, ?_⟩
  · rw [unhide HR]
  · exact b_next' _ _ _ hb

set_option maxHeartbeats 400000 in
set_option maxRecDepth 100000 in
theorem next_any8 (s : ByteArray) (w : World) (h0 : 0 < s.size) (hs : s.size ≤ 3000) :
    Calls Tryz.prog 196 #[.string s] w fun e w' => e = .returned (.agg #[.int .i64 (M.nxt (bl s)).1, .int .i64 (M.nxt (bl s)).2.1, .bool (M.nxt (bl s)).2.2]) ∧ Below w.heap.size w w' := by
  have hc : (s[0].toNat : Int) < 256 := by have := s[0].toNat_lt; omega
  by_cases hz0 : M.bSize s[0].toNat = 0
  · exact next_none s w h0 hs hz0
  have hbd := M.bSize_bd s[0].toNat
  have HS : InN8 s (M.bSize s[0].toNat) 1 (M.bBits s[0].toNat) (M.bLow s[0].toNat) (M.bHigh s[0].toNat) := nxt_start s h0 hz0
  have hbits : 0 ≤ M.bBits s[0].toNat ∧ M.bBits s[0].toNat < 128 := by unfold M.bBits; omega
  go_enter Tryz.func196, Tryz.ntmps196
  go_wp2_with fail
  refine (begin_any _ (by omega) (by omega) _).mono ?_
  rintro e w1 ⟨rfl, hb⟩
  obtain ⟨hcl, hfz⟩ := bcell hb
  have hz : w.heap.size + 1 ≤ w1.heap.size := by have := hb.size; simp at this; omega
  have c0 : w1.cell? ⟨w.heap.size, 0, none⟩ = some (.int .i64 0) := by rw [hcl _ _ (by simp)]; simp
  have c1 : w1.cell? ⟨w.heap.size, 1, none⟩ = some (.int .i64 0) := by rw [hcl _ _ (by simp)]; simp
  have c2 : w1.cell? ⟨w.heap.size, 2, none⟩ = some (.bool false) := by rw [hcl _ _ (by simp)]; simp
  have f0 : w1.frozen? ⟨w.heap.size, 0, none⟩ = false := by rw [hfz _ _ (by simp)]; simp
  have f1 : w1.frozen? ⟨w.heap.size, 1, none⟩ = false := by rw [hfz _ _ (by simp)]; simp
  have f2 : w1.frozen? ⟨w.heap.size, 2, none⟩ = false := by rw [hfz _ _ (by simp)]; simp
  have hzz : w.heap.size < w1.heap.size := by omega
  clear hcl hfz
  clear hc
  generalize M.bSize s[0].toNat = sz at *
  generalize M.bBits s[0].toNat = bits at *
  generalize M.bLow s[0].toNat = low at *
  generalize M.bHigh s[0].toNat = high at *
  have hsz : (sz == 0) = false := by simp; omega
  have hsz' : 1 ≤ sz := by omega
  go_wp2_with fail
  go_quiet (fail)
  go_wp2_with fail
  clear hsz hz0 
  go_loop [4, 5, 6, 7] (fun p lo hi i => ∃ (k : Nat) (P L H : Int), 1 ≤ k ∧ (k : Int) ≤ sz ∧ k ≤ s.size ∧ i = .int .i64 k ∧ p = .int .i64 P ∧ lo = .int .u8 L ∧ hi = .int .u8 H ∧ 0 ≤ P ∧ ((k = 1 ∧ P < 128) ∨ (k = 2 ∧ P < 8192) ∨ (k = 3 ∧ P < 524288) ∨ (k = 4 ∧ P < 33554432)) ∧ InN8 s sz k P L H) (fun _ _ _ i => 5 - (intOf i).toNat)
  case atStart => exact ⟨1, bits, low, high, by omega, by omega, by omega, rfl, rfl, rfl, rfl, by omega, by omega, HS⟩
  case round =>
    obtain ⟨k, P, L, H, hk1, hk2, hk3, rfl, rfl, rfl, rfl, hP, hP2, HN⟩ := hrel
    clear HS
    by_cases hlt : (k : Int) < sz
    · by_cases he : k = s.size
      · have he' : ((k : Int) == (s.size : Int)) = true := by simp [he]
        have HR : M.nxt (bl s) = (65533, (k : Int), true) := go_end he hlt HN
        have HR' := hide HR
        clear HR
        go_wp2
        refine bodyPost_ret (v := .agg #[.int .i64 65533, .int .i64 (s.size : Int), .bool true]) (by simp [results, Tryz.results196, go_sem, c0, c1, c2, hzz]) rfl ⟨?_, ?_⟩
        · rw [unhide HR', he]
        · exact b_next _ _ _ hb
      · have he' : ((k : Int) == (s.size : Int)) = false := by simp; omega
        have hks : k < s.size := by omega
        have hby : (s[k].toNat : Int) < 256 := by have := s[k].toNat_lt; omega
        by_cases hl : (s[k].toNat : Int) < L ∨ H < (s[k].toNat : Int)
        · have HR := hide (go_bad hks hlt hl HN)
          rcases hl with hl | hl
          · go_wp2
            refine bodyPost_ret (v := .agg #[.int .i64 65533, .int .i64 (k : Int), .bool false]) (by simp [results, Tryz.results196, go_sem, c0, c1, c2, hzz]) rfl ⟨?_, ?_⟩
            · rw [unhide HR]
            · exact b_next _ _ _ hb
          · by_cases hl3 : (s[k].toNat : Int) < L
            all_goals
              go_wp2
              refine bodyPost_ret (v := .agg #[.int .i64 65533, .int .i64 (k : Int), .bool false]) (by simp [results, Tryz.results196, go_sem, c0, c1, c2, hzz]) rfl ⟨?_, ?_⟩
              · rw [unhide HR]
              · exact b_next _ _ _ hb
        · have hl1 : ¬ (s[k].toNat : Int) < L := by omega
          have hl2 : ¬ H < (s[k].toNat : Int) := by omega
          have hPs : P < 524288 := by omega
          clear hl
          have HO := or64 P (s[k].toNat) hP (by omega) (by omega)
          have HN' : InN8 s sz (k + 1) (P * 64 + s[k].toNat % 64) 128 191 := go_step hks hlt (by omega) (by omega) HN
          go_wp2
          go_round
          case rel => exact ⟨k + 1, P * 64 + s[k].toNat % 64, 128, 191, by omega, by omega, by omega, by go_num, rfl, rfl, rfl, by omega, by omega, HN'⟩
          case measure => simp [intOf]; omega
    · have HR := hide (go_done (by omega) HN)
      go_wp2
      refine bodyPost_ret (v := .agg #[.int .i64 P, .int .i64 sz, .bool false]) (by simp [results, Tryz.results196, go_sem, c0, c1, c2, hzz]) rfl ⟨?_, ?_⟩
      · rw [unhide HR]
      · exact b_next _ _ _ hb


set_option maxHeartbeats 400000 in
set_option maxRecDepth 100000 in
theorem push8_any (B base : Nat) (pt sz : Int) (op : Bool) (v : Value) (xs : List Int) (w : World) (hB : B < base) (hbase : base ≤ w.heap.size)
    (hv : w.heap[B]? = some (.cells #[v] 31 (0, 0))) (hown : w.ownsRow base 3 1 v xs.length (xs.map (Value.int .i64))) (hn : xs.length ≤ 3000) :
    Calls Tryz.prog 150 #[.agg #[.int .i64 pt, .int .i64 sz, .bool op], .pointer (some ⟨B, 0, none⟩)] w fun e w' => e = .returned (.tuple #[]) ∧
      ∃ v', w'.heap[B]? = some (.cells #[v'] 31 (0, 0)) ∧ w'.ownsRow base 3 1 v' (xs ++ [pt]).length ((xs ++ [pt]).map (Value.int .i64)) ∧ Below B w w' ∧ (∀ b, b < w.heap.size → b ≠ B → some b ≠ v.ownBlock → w'.heap[b]? = w.heap[b]?) := by
  have hc := cell_of_one hv
  have hf := free_of_one hv
  obtain ⟨i0, hi, hz0, hz1, hz2⟩ := info_parts info3
  have hlt : B < w.heap.size := by omega
  have HV := hide hv
  clear hv
  go_enter Tryz.func150, Tryz.ntmps150
  go_wp2_with (at_builtin; refine wpList_append_own _ rfl (.tmp 3) (.tmp 6) 31 rfl base 3 i0 (.int .i64 0) 1 8 Tryz.underlying31 hi hz0 hz1 hz2 rfl (by decide) _ _ _ rfl ((hown.alloc _).alloc _) ⟨w.heap.size + 1, 0, none⟩ 1 1 [.int .i64 pt] rfl rfl ?c1 ?c2 ?c3 ?c4 ?c5 ?_)
  case c1 =>
    intro j u hj
    match j, hj with
    | 0, hj => simp at hj; subst hj; simp [Addr.add]
  case c2 => intro u hu; simp at hu; subst hu; rfl
  case c3 => unfold maxLen; omega
  case c4 => omega
  case c5 => simp; omega
  intro v' w1 hown' hgrow _
  obtain ⟨ao', cap', rfl⟩ := owns_shape hown'
  have hne : some B ≠ v.ownBlock := fun e => by have := hown.lt B e.symm; omega
  have hv1 : w1.heap[B]? = some (.cells #[v] 31 (0, 0)) := by
    rw [hgrow.block B (by simp; omega) hne, Below.heap_alloc _ _ _ (by simp; omega), Below.heap_alloc _ _ _ hlt]
    exact unhide HV
  have hc1 := cell_of_one hv1
  have hf1 := free_of_one hv1
  have R1 := hide (one_setCell (u := .slice ao' (xs.length + 1) cap') hv1)
  have R2 := hide (ownsRow_setCell_below hown' (a := ⟨B, 0, none⟩) hB (.slice ao' (xs.length + 1) cap'))
  have R3 : Below B w (w1.setCell ⟨B, 0, none⟩ (.slice ao' (xs.length + 1) cap')) := by
    have h1 := (((Below.refl B w).alloc (by omega) (.cells #[.int .i64 pt, .int .i64 sz, .bool op] 161)).alloc (by simp; omega) (.cells #[.int .i64 pt] 3)).grown hgrow (by simp; omega) (fun k hk => by have := hown.lt k hk; omega)
    exact h1.setCell (Nat.le_refl _) _
  have R4 := hide (fun b (h1 : b < w.heap.size) (h2 : b ≠ B) (h3 : some b ≠ v.ownBlock) => show (w1.setCell ⟨B, 0, none⟩ (.slice ao' (xs.length + 1) cap')).heap[b]? = w.heap[b]? from by
    rw [Below.heap_setCell _ _ _ _ h2, hgrow.block b (by simp; omega) h3, Below.heap_alloc _ _ _ (by simp; omega), Below.heap_alloc _ _ _ h1])
  clear hc hf hv1 HV hown hown' hgrow
  go_wp2_with fail
  go_end0
  exact ⟨rfl, _, unhide R1, by simpa using unhide R2, R3, unhide R4⟩

/-- What a round of walk knows, the closure gathering code points in block B. -/
def InW8 (s : ByteArray) (B : Nat) (w wr : World) (k : Nat) (xs : List Int) (v : Value) : Prop :=
  wr.heap[B]? = some (.cells #[v] 31 (0, 0)) ∧ wr.ownsRow (B + 1) 3 1 v xs.length (xs.map (Value.int .i64)) ∧ Below B w wr ∧ B + 1 ≤ wr.heap.size ∧ xs.length ≤ k ∧ xs ++ M.dec ((bl s).drop k) = M.dec (bl s)

set_option maxHeartbeats 400000 in
set_option maxRecDepth 100000 in
theorem walk_dec (s : ByteArray) (B : Nat) (w : World) (hs : s.size ≤ 3000) (hv : w.heap[B]? = some (.cells #[.slice none 0 0] 31 (0, 0))) :
    Calls Tryz.prog 149 #[.string s, .func (Fn.func 150) #[] #[.pointer (some ⟨B, 0, none⟩)]] w fun e w' => e = .returned (.tuple #[]) ∧
      ∃ v', w'.heap[B]? = some (.cells #[v'] 31 (0, 0)) ∧ w'.ownsRow (B + 1) 3 1 v' (M.dec (bl s)).length ((M.dec (bl s)).map (Value.int .i64)) ∧ Below B w w' := by
  have hlt := lt_of_block hv
  have HI : InW8 s B w w 0 [] (.slice none 0 0) := ⟨hv, World.ownsRow_nil _ _ _ _, Below.refl _ _, by omega, Nat.le_refl _, by simp⟩
  clear hv
  go_enter Tryz.func149, Tryz.ntmps149
  go_wp2_with fail
  go_loopw [4] (fun i wr => ∃ (k : Nat) (xs : List Int) (v : Value), k ≤ s.size ∧ i = .int .i64 k ∧ InW8 s B w wr k xs v) (fun i _ => s.size - (intOf i).toNat)
  case atStart => exact ⟨0, [], _, by omega, rfl, HI⟩
  case round =>
    obtain ⟨k, xs, v, hk, rfl, hI⟩ := hrel
    clear HI
    by_cases hks : k < s.size
    · obtain ⟨hv, hown, hbel, hsz, hlen, heq⟩ := hI
      have HV := hide hv
      have HE := hide heq
      have HS := M.nxt_size' ((bl s).drop k) (by simp [bl_len]; omega)
      clear hv heq
      go_wp2_with fail
      refine (next_any8 (s.extract k s.size) _ (by simp; omega) (by simp; omega)).mono ?_
      rintro e w1 ⟨rfl, hb1⟩
      rw [bl_extract]
      obtain ⟨pt, sz, op, HN⟩ : ∃ pt sz op, Hid (M.nxt ((bl s).drop k) = (pt, sz, op)) := ⟨_, _, _, rfl⟩
      have hnn := hide (show (bl s).drop k ≠ [] from fun e => by have := congrArg List.length e; simp [bl_len] at this; omega)
      rw [unhide HN] at HS ⊢
      simp only [List.length_drop, bl_len] at HS
      go_wp2_with fail
      have hw1 := hb1.size
      have hv1 : w1.heap[B]? = some (.cells #[v] 31 (0, 0)) := (hb1.block B (by omega)).trans (unhide HV)
      have hown1 := owns_below hown hb1
      refine (push8_any B (B + 1) pt sz op v xs _ (by omega) (by simp; omega) (by rw [Below.heap_alloc _ _ _ (by omega)]; exact hv1) (hown1.alloc _) (by omega)).mono ?_
      rintro e w2 ⟨rfl, v2, hv2, hown2, hbel2, hkeep⟩
      have hp : w2.heap[w1.heap.size]? = some (.cells #[.int .i64 pt, .int .i64 sz, .bool op] 161) := by
        rw [hkeep w1.heap.size (by simp) (by omega) (fun e => by have := hown.lt _ e.symm; omega)]
        exact heap_alloc_new _ _
      have hcp : w2.cell? ⟨w1.heap.size, 1, none⟩ = some (.int .i64 sz) := by simp [World.cell?, hp]
      have hz2 := hbel2.size
      simp at hz2
      have HI : InW8 s B w w2 (k + sz.toNat) (xs ++ [pt]) v2 := by
        refine ⟨hv2, hown2, ?_, by omega, by simp; omega, ?_⟩
        · exact (hbel.trans (hb1.mono (by omega))).trans (((Below.refl _ _).alloc (by omega) _).trans hbel2)
        · rw [← unhide HE, List.append_assoc]
          congr 1
          rw [← List.drop_drop]
          exact (M.dec_step _ HN hnn).symm
      clear hp hkeep hown1 hv1 hown2 hv2 hbel2
      go_wp2_with fail
      go_roundw
      case rel => exact ⟨k + sz.toNat, xs ++ [pt], v2, by omega, by go_num, HI⟩
      case measure => simp [intOf]; omega
    · go_wp2_with fail
      go_end0
      obtain ⟨h1, h2, h3, h4, h5, h6⟩ := hI
      rw [List.drop_of_length_le (by rw [bl_len]; omega)] at h6
      have e : xs = M.dec (bl s) := by rw [← h6]; simp [M.dec, M.pieces_nil]
      subst e
      exact ⟨rfl, v, h1, h2, h3⟩


set_option maxHeartbeats 400000 in
set_option maxRecDepth 100000 in
theorem dec1_any (s : ByteArray) (w : World) (hs : s.size ≤ 3000) :
    Calls Tryz.prog 148 #[.string s] w fun e w' => ∃ v, e = .returned v ∧ Ints w' v (M.dec (bl s)) ∧ Below w.heap.size w w' := by
  go_enter Tryz.func148, Tryz.ntmps148
  go_wp2_with fail
  refine (walk_dec s w.heap.size _ hs (heap_alloc_new _ _)).mono ?_
  rintro e w1 ⟨rfl, v', hv, hown, hbel⟩
  have hI := Ints.of_owns hown
  have hc := cell_of_one hv
  obtain ⟨ao, cap, hsh⟩ := owns_shape hown
  subst hsh
  have hb := hide (((Below.refl w.heap.size w).alloc (Nat.le_refl _) (.cells #[.slice none 0 0] 31)).trans hbel)
  clear hv hown hbel
  go_wp2_with fail
  go_ret
  exact ⟨_, rfl, hI, unhide hb⟩

set_option maxHeartbeats 400000 in
set_option maxRecDepth 100000 in
theorem decode_any (s : ByteArray) (w : World) (hs : s.size ≤ 3000) :
    Calls Tryz.prog 89 #[.string s] w fun e w' => ∃ v, e = .returned (.tuple #[v, .int .i64 0]) ∧ Ints w' v (M.dec (bl s)) ∧ Below w.heap.size w w' := by
  go_enter Tryz.func89, Tryz.ntmps89
  go_wp2_with (first | (go_at_call 148; refine (dec1_any _ _ hs).mono ?_; rintro e w1 ⟨v, rfl, hI, hb⟩; have HI := hide hI; have HB := hide hb; obtain ⟨ao, cap, rfl, _⟩ := hI; clear hb) | go_in)
  go_ret2
  exact ⟨_, rfl, unhide HI, unhide HB⟩

namespace M
def pick (a : Int) (p : Int × Int × Bool) : Int := if p.2.2 then p.2.1 else a
theorem lft_step {pt sz : Int} {op : Bool} (n : Int) (l : List Int) (h : nxt l = (pt, sz, op)) (hn : l ≠ []) :
    (pieces l).foldl pick n = (pieces (l.drop sz.toNat)).foldl pick (if op then sz else n) := by
  rw [pieces_ne hn, h]
  rfl
theorem spl_eq (l : List Int) : spl l = (pieces l).foldl pick 0 := rfl
end M

set_option maxHeartbeats 400000 in
set_option maxRecDepth 100000 in
theorem set_any (B : Nat) (pt sz n : Int) (op : Bool) (w : World) (hv : w.heap[B]? = some (.cells #[.int .i64 n] 3 (0, 0))) :
    Calls Tryz.prog 212 #[.agg #[.int .i64 pt, .int .i64 sz, .bool op], .pointer (some ⟨B, 0, none⟩)] w fun e w' => e = .returned (.tuple #[]) ∧
      w'.heap[B]? = some (.cells #[.int .i64 (if op then sz else n)] 3 (0, 0)) ∧ Below B w w' ∧ (∀ b, b < w.heap.size → b ≠ B → w'.heap[b]? = w.heap[b]?) := by
  have hc := cell_of_one hv
  have hf := free_of_one hv
  have hlt := lt_of_block hv
  have HV := hide hv
  have hv1 : (w.alloc (.cells #[.int .i64 pt, .int .i64 sz, .bool op] 161)).heap[B]? = some (.cells #[.int .i64 n] 3 (0, 0)) := by rw [Below.heap_alloc _ _ _ hlt]; exact hv
  have HA := hide hv1
  clear hv hv1
  cases op
  · go_enter Tryz.func212, Tryz.ntmps212
    go_wp2
    go_end0
    exact ⟨rfl, unhide HA, (Below.refl _ _).alloc (by omega) _, fun b h1 h2 => Below.heap_alloc _ _ _ h1⟩
  · go_enter Tryz.func212, Tryz.ntmps212
    go_wp2
    go_end0
    have hz : (w.setCell ⟨B, 0, none⟩ (.int .i64 sz)).heap.size = w.heap.size := by simp [World.setCell]
    exact ⟨rfl, (Below.heap_alloc _ _ _ (by omega)).trans (one_setCell (unhide HV)), ((Below.refl B w).setCell (p := ⟨B, 0, none⟩) (Nat.le_refl _) (.int .i64 sz)).alloc (by omega) _, fun b h1 h2 => (Below.heap_alloc _ _ _ (by omega)).trans (Below.heap_setCell _ _ _ _ h2)⟩

/-- What a round of walk knows, the closure keeping a number in block B. -/
def InS8 (s : ByteArray) (B : Nat) (w wr : World) (k : Nat) (n : Int) : Prop :=
  wr.heap[B]? = some (.cells #[.int .i64 n] 3 (0, 0)) ∧ Below B w wr ∧ B + 1 ≤ wr.heap.size ∧ (M.pieces ((bl s).drop k)).foldl M.pick n = M.spl (bl s)

set_option maxHeartbeats 400000 in
set_option maxRecDepth 100000 in
theorem walk_spl (s : ByteArray) (B : Nat) (w : World) (hs : s.size ≤ 3000) (hv : w.heap[B]? = some (.cells #[.int .i64 0] 3 (0, 0))) :
    Calls Tryz.prog 149 #[.string s, .func (Fn.func 212) #[] #[.pointer (some ⟨B, 0, none⟩)]] w fun e w' => e = .returned (.tuple #[]) ∧
      w'.heap[B]? = some (.cells #[.int .i64 (M.spl (bl s))] 3 (0, 0)) ∧ Below B w w' := by
  have hlt := lt_of_block hv
  have HI : InS8 s B w w 0 0 := ⟨hv, Below.refl _ _, by omega, by simp [M.spl_eq]⟩
  clear hv
  go_enter Tryz.func149, Tryz.ntmps149
  go_wp2_with fail
  go_loopw [4] (fun i wr => ∃ (k : Nat) (n : Int), k ≤ s.size ∧ i = .int .i64 k ∧ InS8 s B w wr k n) (fun i _ => s.size - (intOf i).toNat)
  case atStart => exact ⟨0, _, by omega, rfl, HI⟩
  case round =>
    obtain ⟨k, n, hk, rfl, hI⟩ := hrel
    clear HI
    by_cases hks : k < s.size
    · obtain ⟨hv, hbel, hsz, heq⟩ := hI
      have HV := hide hv
      have HE := hide heq
      have HS := M.nxt_size' ((bl s).drop k) (by simp [bl_len]; omega)
      clear hv heq
      go_wp2_with fail
      refine (next_any8 (s.extract k s.size) _ (by simp; omega) (by simp; omega)).mono ?_
      rintro e w1 ⟨rfl, hb1⟩
      rw [bl_extract]
      obtain ⟨pt, sz, op, HN⟩ : ∃ pt sz op, Hid (M.nxt ((bl s).drop k) = (pt, sz, op)) := ⟨_, _, _, rfl⟩
      have hnn := hide (show (bl s).drop k ≠ [] from fun e => by have := congrArg List.length e; simp [bl_len] at this; omega)
      rw [unhide HN] at HS ⊢
      simp only [List.length_drop, bl_len] at HS
      go_wp2_with fail
      have hw1 := hb1.size
      have hv1 : w1.heap[B]? = some (.cells #[.int .i64 n] 3 (0, 0)) := (hb1.block B (by omega)).trans (unhide HV)
      refine (set_any B pt sz n op _ (by rw [Below.heap_alloc _ _ _ (by omega)]; exact hv1)).mono ?_
      rintro e w2 ⟨rfl, hv2, hbel2, hkeep⟩
      have hp : w2.heap[w1.heap.size]? = some (.cells #[.int .i64 pt, .int .i64 sz, .bool op] 161) := by
        rw [hkeep w1.heap.size (by simp) (by omega)]
        exact heap_alloc_new _ _
      have hcp : w2.cell? ⟨w1.heap.size, 1, none⟩ = some (.int .i64 sz) := by simp [World.cell?, hp]
      have hz2 := hbel2.size
      simp at hz2
      have HI : InS8 s B w w2 (k + sz.toNat) (if op then sz else n) := by
        refine ⟨hv2, ?_, by omega, ?_⟩
        · exact (hbel.trans (hb1.mono (by omega))).trans (((Below.refl _ _).alloc (by omega) _).trans hbel2)
        · rw [← unhide HE, ← List.drop_drop]
          exact (M.lft_step n _ (unhide HN) (unhide hnn)).symm
      clear hp hkeep hv1 hv2 hbel2
      go_wp2_with fail
      go_roundw
      case rel => exact ⟨k + sz.toNat, _, by omega, by go_num, HI⟩
      case measure => simp [intOf]; omega
    · go_wp2_with fail
      go_end0
      obtain ⟨h1, h3, h4, h6⟩ := hI
      rw [List.drop_of_length_le (by rw [bl_len]; omega)] at h6
      have e : n = M.spl (bl s) := by rw [← h6]; simp [M.pieces_nil]
      subst e
      exact ⟨rfl, h1, h3⟩

set_option maxHeartbeats 400000 in
set_option maxRecDepth 100000 in
theorem spl1_any (s : ByteArray) (w : World) (hs : s.size ≤ 3000) :
    Calls Tryz.prog 211 #[.string s] w fun e w' => e = .returned (.int .i64 (M.spl (bl s))) ∧ Below w.heap.size w w' := by
  go_enter Tryz.func211, Tryz.ntmps211
  go_wp2_with fail
  refine (walk_spl s w.heap.size _ hs (heap_alloc_new _ _)).mono ?_
  rintro e w1 ⟨rfl, hv, hbel⟩
  have hc := cell_of_one hv
  have hb := hide (((Below.refl w.heap.size w).alloc (Nat.le_refl _) (.cells #[.int .i64 0] 3)).trans hbel)
  clear hv hbel
  go_wp2_with fail
  go_ret
  exact ⟨rfl, unhide hb⟩

set_option maxHeartbeats 400000 in
set_option maxRecDepth 100000 in
theorem split_any (s : ByteArray) (w : World) (hs : s.size ≤ 3000) :
    Calls Tryz.prog 175 #[.string s] w fun e w' => e = .returned (.tuple #[.int .i64 (M.spl (bl s)), .int .i64 0]) ∧ Below w.heap.size w w' := by
  go_enter Tryz.func175, Tryz.ntmps175
  go_wp2_with (first | (go_at_call 211; refine (spl1_any _ _ hs).mono ?_; rintro e w1 ⟨rfl, hb⟩) | go_in)
  go_ret2
  exact ⟨rfl, by assumption⟩

set_option maxHeartbeats 400000 in
set_option maxRecDepth 100000 in
theorem split_long (s : ByteArray) (w : World) (hs : 3000 < s.size) (hm : s.size ≤ maxLen) :
    Calls Tryz.prog 175 #[.string s] w fun e w' => e = .returned (.tuple #[.int .i64 0, .int .i64 2]) ∧ w' = w := by
  unfold maxLen at hm
  go_enter Tryz.func175, Tryz.ntmps175
  go_wp2
  go_ret2
  exact ⟨rfl, rfl⟩

end Go.Proofs.YtaiinjfnkmidbaaGreatDoor

namespace Go.Proofs.YtaiinjfnkmidbaaGreatDoor
open Go.RowKit
set_option linter.unusedVariables false

set_option maxHeartbeats 400000 in
set_option maxRecDepth 100000 in
theorem readUnit_any (big : Bool) (s : ByteArray) (a b : Int) (w : World) (hs : 2 ≤ s.size) (ha : ((s[0]'(by omega)).toNat : Int) = a) (hb : ((s[1]'(by omega)).toNat : Int) = b) :
    Calls Tryz.prog 197 #[.bool big, .string s] w fun e w' => e = .returned (.int .i64 (M.ut big a b)) ∧ ∃ m, w' = w.drewN m := by
  have ha0 : 0 ≤ a ∧ a < 256 := by have := (s[0]'(by omega)).toNat_lt; omega
  have hb0 : 0 ≤ b ∧ b < 256 := by have := (s[1]'(by omega)).toNat_lt; omega
  have H1 := or_at 8 (a * 256) b (by omega) (by omega) (by omega) (by omega) (by omega) (by omega)
  have H2 := or_at 8 (b * 256) a (by omega) (by omega) (by omega) (by omega) (by omega) (by omega)
  cases big
  · go_enter Tryz.func197, Tryz.ntmps197
    go_wp2_with fail
    go_quiet (fail)
    go_wp2_with fail
    go_ret
    exact ⟨rfl, _, rfl⟩
  · go_enter Tryz.func197, Tryz.ntmps197
    go_wp2_with fail
    go_quiet (fail)
    go_wp2_with fail
    go_ret
    exact ⟨rfl, _, rfl⟩

set_option maxHeartbeats 400000 in
set_option maxRecDepth 100000 in
theorem isFirst_any (u : Int) (w : World) : Calls Tryz.prog 198 #[.int .i64 u] w fun e w' => e = .returned (.bool (M.fst16 u)) ∧ w' = w := by
  by_cases h : 55296 ≤ u
  · go_enter Tryz.func198, Tryz.ntmps198
    go_wp2
    go_ret
    exact ⟨ret_bool (by simp [M.fst16, h]), rfl⟩
  · go_enter Tryz.func198, Tryz.ntmps198
    go_wp2
    go_ret
    exact ⟨ret_bool (by simp [M.fst16]; omega), rfl⟩
set_option maxHeartbeats 400000 in
set_option maxRecDepth 100000 in
theorem isSecond_any (u : Int) (w : World) : Calls Tryz.prog 200 #[.int .i64 u] w fun e w' => e = .returned (.bool (M.snd16 u)) ∧ w' = w := by
  by_cases h : 56320 ≤ u
  · go_enter Tryz.func200, Tryz.ntmps200
    go_wp2
    go_ret
    exact ⟨ret_bool (by simp [M.snd16, h]), rfl⟩
  · go_enter Tryz.func200, Tryz.ntmps200
    go_wp2
    go_ret
    exact ⟨ret_bool (by simp [M.snd16]; omega), rfl⟩
set_option maxHeartbeats 400000 in
set_option maxRecDepth 100000 in
theorem alone_any (u : Int) (w : World) : Calls Tryz.prog 199 #[.int .i64 u] w fun e w' => e = .returned (.int .i64 (M.aln u)) ∧ w' = w := by
  obtain ⟨q, HQ⟩ : ∃ q, Hid (M.snd16 u = q) := ⟨_, rfl⟩
  have HA : Hid (M.aln u = if q then 65533 else u) := by show M.aln u = _; unfold M.aln; rw [unhide HQ]
  cases q
  all_goals
    go_enter Tryz.func199, Tryz.ntmps199
    go_wp2_with fail
    refine (isSecond_any _ _).mono ?_
    rintro e w1 ⟨rfl, hw⟩
    replace hw := hw.symm
    subst hw
    rw [unhide HQ]
    go_wp2_with fail
    go_ret
    exact ⟨ret_int (by rw [unhide HA]; rfl), rfl⟩

theorem nx_eq {big : Bool} {s : ByteArray} {p : Int} {k : Nat} (h : M.nx16 big (bl s) = (p, k)) : Ending.returned (.tuple #[.int .i64 p, .int .i64 (k : Int)]) = .returned (.tuple #[.int .i64 (M.nx16 big (bl s)).1, .int .i64 ((M.nx16 big (bl s)).2 : Int)]) := by rw [h]
theorem bl_1 (s : ByteArray) (h : s.size = 1) : ∃ a, bl s = [a] := by
  have := bl_len s
  match hb : bl s with
  | [] => rw [hb] at this; simp at this; omega
  | [a] => exact ⟨a, rfl⟩
  | _ :: _ :: _ => rw [hb] at this; simp at this; omega
theorem bl_2 (s : ByteArray) (h : 2 ≤ s.size) : bl s = ((s[0]'(by omega)).toNat : Int) :: ((s[1]'(by omega)).toNat : Int) :: (bl s).drop 2 := by
  have h0 := bl_drop s 0 (by omega)
  have h1 := bl_drop s 1 (by omega)
  rw [List.drop_zero] at h0
  conv => lhs; rw [h0, h1]

set_option maxHeartbeats 400000 in
set_option maxRecDepth 100000 in
theorem next_any (big : Bool) (s : ByteArray) (w : World) (h0 : 0 < s.size) (hs : s.size ≤ 3000) :
    Calls Tryz.prog 152 #[.bool big, .string s] w fun e w' => e = .returned (.tuple #[.int .i64 (M.nx16 big (bl s)).1, .int .i64 ((M.nx16 big (bl s)).2 : Int)]) ∧ ∃ m, w' = w.drewN m := by
  by_cases h1 : s.size = 1
  · obtain ⟨a, e⟩ := bl_1 s h1
    have HR := hide (nx_eq (big := big) (s := s) (p := 65533) (k := 1) (by rw [e]; rfl))
    have h1' : ((s.size : Int) == 1) = true := by simp; omega
    clear e
    go_enter Tryz.func152, Tryz.ntmps152
    go_wp2_with fail
    go_ret2
    exact ⟨unhide HR, 0, rfl⟩
  have h1' : ((s.size : Int) == 1) = false := by simp; omega
  have h2 : 2 ≤ s.size := by omega
  have E2 := hide (bl_2 s h2)
  have R1 := hide (fun a b (ha : ((s[0]'(by omega)).toNat : Int) = a) (hb : ((s[1]'(by omega)).toNat : Int) = b) (w : World) => readUnit_any big s a b w h2 ha hb)
  obtain ⟨a, HA⟩ : ∃ a, Hid (((s[0]'(by omega)).toNat : Int) = a) := ⟨_, hide rfl⟩
  obtain ⟨b, HB⟩ : ∃ b, Hid (((s[1]'(by omega)).toNat : Int) = b) := ⟨_, hide rfl⟩
  replace R1 := hide (unhide R1 a b HA HB)
  replace E2 : Hid (bl s = a :: b :: (bl s).drop 2) := by have := unhide E2; rw [unhide HA, unhide HB] at this; exact this
  have ha0 : 0 ≤ a ∧ a < 256 := by have := unhide HA; have := (s[0]'(by omega)).toNat_lt; omega
  have hb0 : 0 ≤ b ∧ b < 256 := by have := unhide HB; have := (s[1]'(by omega)).toNat_lt; omega
  obtain ⟨u, HU⟩ : ∃ u, Hid (M.ut big a b = u) := ⟨_, rfl⟩
  have hu : 0 ≤ u ∧ u < 65536 := by have := unhide HU; unfold M.ut at this; split at this <;> omega
  obtain ⟨q, HQ⟩ : ∃ q, Hid (M.fst16 u = q) := ⟨_, rfl⟩
  have HN : Hid (∃ t, bl s = a :: b :: t ∧ t.length = s.size - 2) := ⟨_, unhide E2, by simp [bl_len]⟩
  cases q
  · have HR := hide (nx_eq (big := big) (s := s) (p := M.aln u) (k := 2) (by
      obtain ⟨t, e, _⟩ := unhide HN
      rw [e]
      have h1 := unhide HU
      have h2 := unhide HQ
      match t with
      | [] => simp [M.nx16, h1, h2]
      | [_] => simp [M.nx16, h1, h2]
      | _ :: _ :: _ => simp [M.nx16, h1, h2]))
    go_enter Tryz.func152, Tryz.ntmps152
    go_wp2_with fail
    refine (unhide R1 _).mono ?_
    rintro e w1 ⟨rfl, m1, rfl⟩
    rw [unhide HU]
    go_wp2_with fail
    refine (isFirst_any _ _).mono ?_
    rintro e w2 ⟨rfl, hw⟩
    replace hw := hw.symm
    subst hw
    rw [unhide HQ]
    go_wp2_with fail
    refine (alone_any _ _).mono ?_
    rintro e w2 ⟨rfl, hw⟩
    replace hw := hw.symm
    subst hw
    go_wp2_with fail
    go_ret2
    exact ⟨unhide HR, _, rfl⟩
  · by_cases h4 : s.size < 4
    · have HR := hide (nx_eq (big := big) (s := s) (p := 65533) (k := s.size) (by
        obtain ⟨t, e, hl⟩ := unhide HN
        rw [e]
        have h1 := unhide HU
        have h2 := unhide HQ
        match t, hl with
        | [], hl => simp at hl; simp [M.nx16, h1, h2]; omega
        | [_], hl => simp at hl; simp [M.nx16, h1, h2]; omega
        | _ :: _ :: _, hl => simp at hl; omega))
      go_enter Tryz.func152, Tryz.ntmps152
      go_wp2_with fail
      refine (unhide R1 _).mono ?_
      rintro e w1 ⟨rfl, m1, rfl⟩
      rw [unhide HU]
      go_wp2_with fail
      refine (isFirst_any _ _).mono ?_
      rintro e w2 ⟨rfl, hw⟩
      replace hw := hw.symm
      subst hw
      rw [unhide HQ]
      go_wp2_with fail
      go_ret2
      exact ⟨unhide HR, _, rfl⟩
    · have h4' : 4 ≤ s.size := by omega
      have z2 : 2 ≤ (s.extract 2 s.size).size := by simp; omega
      obtain ⟨c, HC⟩ : ∃ c, Hid ((((s.extract 2 s.size)[0]'(by omega)).toNat : Int) = c) := ⟨_, hide rfl⟩
      obtain ⟨d, HD⟩ : ∃ d, Hid ((((s.extract 2 s.size)[1]'(by omega)).toNat : Int) = d) := ⟨_, hide rfl⟩
      have hc0 : 0 ≤ c ∧ c < 256 := by have := unhide HC; have := ((s.extract 2 s.size)[0]'(by omega)).toNat_lt; omega
      have hd0 : 0 ≤ d ∧ d < 256 := by have := unhide HD; have := ((s.extract 2 s.size)[1]'(by omega)).toNat_lt; omega
      have R2 := hide (fun (w : World) => readUnit_any big (s.extract 2 s.size) c d w z2 HC HD)
      have HE : Hid (∃ t, bl s = a :: b :: c :: d :: t) := by
        have e1 := unhide E2
        have e2 := bl_2 (s.extract 2 s.size) z2
        rw [unhide HC, unhide HD, bl_extract] at e2
        rw [e2] at e1
        exact ⟨_, e1⟩
      obtain ⟨v, HV⟩ : ∃ v, Hid (M.ut big c d = v) := ⟨_, rfl⟩
      have hv : 0 ≤ v ∧ v < 65536 := by have := unhide HV; unfold M.ut at this; split at this <;> omega
      obtain ⟨r, HW⟩ : ∃ r, Hid (M.snd16 v = r) := ⟨_, rfl⟩
      have HF : Hid (55296 ≤ u ∧ u < 56320) := by have := unhide HQ; exact hide (by simpa [M.fst16] using this)
      have hu1 := (unhide HF).1
      have hu2 := (unhide HF).2
      cases r
      · have HR := hide (nx_eq (big := big) (s := s) (p := 65533) (k := 2) (by
          obtain ⟨t, e⟩ := unhide HE
          rw [e]
          have h1 := unhide HU
          have h2 := unhide HQ
          have h3 := unhide HV
          have h4 := unhide HW
          simp [M.nx16, h1, h2, h3, h4]))
        go_enter Tryz.func152, Tryz.ntmps152
        go_wp2_with fail
        refine (unhide R1 _).mono ?_
        rintro e w1 ⟨rfl, m1, rfl⟩
        rw [unhide HU]
        go_wp2_with fail
        refine (isFirst_any _ _).mono ?_
        rintro e w2 ⟨rfl, hw⟩
        replace hw := hw.symm
        subst hw
        rw [unhide HQ]
        go_wp2_with fail
        refine (unhide R2 _).mono ?_
        rintro e w2 ⟨rfl, m2, rfl⟩
        rw [unhide HV]
        go_wp2_with fail
        refine (isSecond_any _ _).mono ?_
        rintro e w3 ⟨rfl, hw⟩
        replace hw := hw.symm
        subst hw
        rw [unhide HW]
        go_wp2_with fail
        go_ret2
        exact ⟨unhide HR, _, rfl⟩
      · have HS : Hid (56320 ≤ v ∧ v < 57344) := by have := unhide HW; exact hide (by simpa [M.snd16] using this)
        have hv1 := (unhide HS).1
        have hv2 := (unhide HS).2
        have HR := hide (nx_eq (big := big) (s := s) (p := 65536 + (u - 55296) * 1024 + (v - 56320)) (k := 4) (by
          obtain ⟨t, e⟩ := unhide HE
          rw [e]
          have h1 := unhide HU
          have h2 := unhide HQ
          have h3 := unhide HV
          have h4 := unhide HW
          simp [M.nx16, h1, h2, h3, h4]))
        go_enter Tryz.func152, Tryz.ntmps152
        go_wp2_with fail
        refine (unhide R1 _).mono ?_
        rintro e w1 ⟨rfl, m1, rfl⟩
        rw [unhide HU]
        go_wp2_with fail
        refine (isFirst_any _ _).mono ?_
        rintro e w2 ⟨rfl, hw⟩
        replace hw := hw.symm
        subst hw
        rw [unhide HQ]
        go_wp2_with fail
        refine (unhide R2 _).mono ?_
        rintro e w2 ⟨rfl, m2, rfl⟩
        rw [unhide HV]
        go_wp2_with fail
        refine (isSecond_any _ _).mono ?_
        rintro e w3 ⟨rfl, hw⟩
        replace hw := hw.symm
        subst hw
        rw [unhide HW]
        go_wp2_with fail
        go_ret2
        exact ⟨unhide HR, _, rfl⟩
end Go.Proofs.YtaiinjfnkmidbaaGreatDoor

namespace Go.Proofs.YtaiinjfnkmidbaaGreatDoor
open Go.RowKit
set_option linter.unusedVariables false

/-- What a round of utf16.Decode's loop knows. -/
def InU (big : Bool) (s : ByteArray) (w wr : World) (k : Nat) (xs : List Int) (v : Value) : Prop :=
  wr.ownsRow w.heap.size 3 1 v xs.length (xs.map (Value.int .i64)) ∧ Below w.heap.size w wr ∧ xs.length ≤ k ∧ xs ++ M.dec16 big ((bl s).drop k) = M.dec16 big (bl s)

theorem InU.step {big : Bool} {s : ByteArray} {w wr w2 : World} {k : Nat} {xs : List Int} {v v2 : Value} {p : Int} {z : Nat} (h : InU big s w wr k xs v) (hk : k < s.size) (hn : M.nx16 big ((bl s).drop k) = (p, z)) (hz : 1 ≤ z)
    (ho : w2.ownsRow w.heap.size 3 1 v2 (xs ++ [p]).length ((xs ++ [p]).map (Value.int .i64))) (hb : Below w.heap.size wr w2) : InU big s w w2 (k + z) (xs ++ [p]) v2 := by
  obtain ⟨h1, h2, h3, h4⟩ := h
  refine ⟨ho, h2.trans hb, by simp; omega, ?_⟩
  have hne : (bl s).drop k ≠ [] := fun e => by have := congrArg List.length e; simp [bl_len] at this; omega
  rw [← h4, M.dec16_step big hne, hn]
  simp

set_option maxHeartbeats 400000 in
set_option maxRecDepth 100000 in
theorem dec16_in (big : Bool) (s : ByteArray) (B : Nat) (w : World) (hs : s.size ≤ 3000) (hB : w.cell? ⟨B, 0, none⟩ = some (.bool big)) :
    Calls Tryz.prog 151 #[.string s, .pointer (some ⟨B, 0, none⟩)] w fun e w' => ∃ v, e = .returned v ∧ Ints w' v (M.dec16 big (bl s)) ∧ Below w.heap.size w w' := by
  have hlt := World.block_lt_of_cell? w _ hB
  have HB := hide hB
  have HI : InU big s w w 0 [] (.slice none 0 0) := ⟨World.ownsRow_nil _ _ _ _, Below.refl _ _, Nat.le_refl _, by simp⟩
  clear hB
  go_enter Tryz.func151, Tryz.ntmps151
  go_wp2_with fail
  go_loopw [4, 5] (fun v i wr => ∃ (k : Nat) (xs : List Int), k ≤ s.size ∧ i = .int .i64 k ∧ InU big s w wr k xs v) (fun _ i _ => s.size - (intOf i).toNat)
  case atStart => exact ⟨0, [], by omega, rfl, HI⟩
  case round =>
    obtain ⟨k, xs, hk, rfl, hI⟩ := hrel
    clear HI
    have hsz := hI.2.1.size
    have hxs := hI.2.2.1
    by_cases hks : k < s.size
    · have hcb : wr.cell? ⟨B, 0, none⟩ = some (.bool big) := (hI.2.1.cell (p := ⟨B, 0, none⟩) hlt).trans (unhide HB)
      obtain ⟨p, z, HN⟩ : ∃ p z, Hid (M.nx16 big ((bl s).drop k) = (p, z)) := ⟨_, _, rfl⟩
      have hz := M.nx16_size big ((bl s).drop k) (fun e => by have := congrArg List.length e; simp [bl_len] at this; omega)
      rw [unhide HN] at hz
      simp only [List.length_drop, bl_len] at hz
      have HR : Hid (∀ w : World, Calls Tryz.prog 152 #[.bool big, .string (s.extract k s.size)] w fun e w' => e = .returned (.tuple #[.int .i64 p, .int .i64 (z : Int)]) ∧ ∃ m, w' = w.drewN m) := by
        refine hide fun w => ?_
        have := next_any big (s.extract k s.size) w (by simp; omega) (by simp; omega)
        rw [bl_extract, unhide HN] at this
        exact this
      obtain ⟨ao, cap, hsh⟩ := owns_shape hI.1
      subst hsh
      go_wp2_with fail
      go_quiet ((go_at_call 152; exact Calls.quiet_of (unhide HR _)))
      go_wp2_with (at_builtin; refine append_ints rfl (.tmp 20) (.tmp 22) rfl w.heap.size _ xs rfl (owns_da hI.1 _ _) _ [p] rfl (one_int _ _) (by simp; omega) (by simp; omega) ?_)
      intro v2 w2 ho2 hb2
      have HI := hI.step (v2 := v2) hks HN hz.1 (by simpa using ho2) (((below_drewN (Below.refl _ _) _).alloc hsz _).trans hb2)
      obtain ⟨ao2, cap2, hsh2⟩ := owns_shape ho2
      subst hsh2
      clear hI ho2 hb2
      go_wp2_with fail
      go_roundw
      case rel => exact ⟨k + z, xs ++ [p], by omega, by go_num, HI⟩
      case measure => simp [intOf]; omega
    · obtain ⟨h1, h2, h3, h4⟩ := hI
      rw [List.drop_of_length_le (by rw [bl_len]; omega), M.dec16_nil, List.append_nil] at h4
      have HV := hide (Ints.of_owns h1)
      rw [h4] at HV
      obtain ⟨ao, cap, hsh⟩ := owns_shape h1
      subst hsh
      have hl := congrArg List.length h4
      clear h1 h4
      go_wp2_with fail
      go_ret
      exact ⟨_, rfl, unhide HV, h2⟩

set_option maxHeartbeats 400000 in
set_option maxRecDepth 100000 in
theorem decode16_any (big : Bool) (s : ByteArray) (w : World) (hs : s.size ≤ 3000) :
    Calls Tryz.prog 90 #[.bool big, .string s] w fun e w' => ∃ v, e = .returned (.tuple #[v, .int .i64 0]) ∧ Ints w' v (M.dec16 big (bl s)) ∧ Below w.heap.size w w' := by
  go_enter Tryz.func90, Tryz.ntmps90
  go_wp2_with (first | (go_at_call 151; refine (dec16_in big _ _ _ hs (by simp)).mono ?_; rintro e w1 ⟨v, rfl, hI, hb⟩; have HI := hide hI; have HB := hide (bstep (balloc _ _) hb); obtain ⟨ao, cap, rfl, _⟩ := hI; clear hb) | go_in)
  go_ret2
  exact ⟨_, rfl, unhide HI, unhide HB⟩

end Go.Proofs.YtaiinjfnkmidbaaGreatDoor

namespace Go.Proofs.YtaiinjfnkmidbaaGreatDoor
open Go.RowKit
set_option linter.unusedVariables false

/-- The first of a list whose number is m: its name, or nothing. -/
def nm : List (ByteArray × Int) → Int → ByteArray
  | [], _ => ⟨#[]⟩
  | x :: t, m => if x.2 == m then x.1 else nm t m
/-- The label that is told of each encoding. -/
def tolds : List (ByteArray × Int) := [(⟨#[117, 116, 102, 45, 56]⟩, 1), (⟨#[117, 116, 102, 45, 49, 54, 108, 101]⟩, 2), (⟨#[117, 116, 102, 45, 49, 54, 98, 101]⟩, 3), (⟨#[119, 105, 110, 100, 111, 119, 115, 45, 49, 50, 53, 50]⟩, 4), (⟨#[120, 45, 117, 115, 101, 114, 45, 100, 101, 102, 105, 110, 101, 100]⟩, 5), (⟨#[105, 115, 111, 45, 50, 48, 50, 50, 45, 106, 112]⟩, 6), (⟨#[114, 101, 112, 108, 97, 99, 101, 109, 101, 110, 116]⟩, 7)]

set_option maxHeartbeats 1000000 in
set_option maxRecDepth 100000 in
theorem told_any (w : World) : Calls Tryz.prog 128 #[] w fun e w' => e = .returned (.slice (some ⟨w.heap.size, 0, none⟩) 7 7) ∧ w' = w.alloc (.cells (tabCells tolds) 103) := by
  go_enter Tryz.func128, Tryz.ntmps128
  go_wp2
  go_ret
  exact ⟨rfl, rfl⟩
set_option maxHeartbeats 400000 in
set_option maxRecDepth 100000 in
theorem isNumber_any (a : ByteArray) (m n : Int) (B : Nat) (w : World) (hc : w.cell? ⟨B, 0, none⟩ = some (.int .i64 n)) :
    Calls Tryz.prog 129 #[.agg #[.string a, .int .i64 m], .pointer (some ⟨B, 0, none⟩)] w fun e w' => e = .returned (.bool (m == n)) ∧ Below w.heap.size w w' := by
  have hl := World.block_lt_of_cell? w _ hc
  simp only at hl
  go_enter Tryz.func129, Tryz.ntmps129
  go_wp2
  go_ret
  exact ⟨rfl, balloc _ _⟩

set_option maxHeartbeats 1000000 in
set_option maxRecDepth 100000 in
theorem first_number (l : List (ByteArray × Int)) (n : Int) (b B cap : Nat) (w : World) (hl : l.length ≤ 100) (ht : Tab w b l) (hbw : b < w.heap.size) (hc : w.cell? ⟨B, 0, none⟩ = some (.int .i64 n)) :
    Calls Tryz.prog 74 #[.slice (some ⟨b, 0, none⟩) l.length cap, .func (Fn.func 129) #[] #[.pointer (some ⟨B, 0, none⟩)]] w fun e w' =>
      ∃ x, e = .returned (.agg #[.string (nm l n), .int .i64 x]) ∧ Below w.heap.size w w' := by
  have hB := World.block_lt_of_cell? w _ hc
  simp only at hB
  have HT := hide ht
  clear ht
  go_enter Tryz.func74, Tryz.ntmps74
  go_wp2_with fail
  go_loopw [9] (fun i wr => ∃ k : Nat, k ≤ l.length ∧ i = .int .i64 k ∧ Below (w.heap.size + 1) (w.alloc (.cells #[.string ⟨#[]⟩, .int .i64 0] 103)) wr ∧ Hid (nm l n = nm (l.drop k) n)) (fun i _ => l.length - (intOf i).toNat)
  case atStart => exact ⟨0, by omega, rfl, Below.refl _ _, rfl⟩
  case round =>
    obtain ⟨k, hk, rfl, hbr, HL⟩ := hrel
    have hsz := hbr.size
    simp at hsz
    have r0 : wr.cell? ⟨w.heap.size, 0, none⟩ = some (.string ⟨#[]⟩) := by rw [hbr.cell (p := ⟨w.heap.size, 0, none⟩) (by simp)]; simp
    have r1 : wr.cell? ⟨w.heap.size, 1, none⟩ = some (.int .i64 0) := by rw [hbr.cell (p := ⟨w.heap.size, 1, none⟩) (by simp)]; simp
    have q0 : wr.frozen? ⟨w.heap.size, 0, none⟩ = false := by rw [hbr.frozen (p := ⟨w.heap.size, 0, none⟩) (by simp)]; simp
    have q1 : wr.frozen? ⟨w.heap.size, 1, none⟩ = false := by rw [hbr.frozen (p := ⟨w.heap.size, 1, none⟩) (by simp)]; simp
    by_cases hlt : k < l.length
    · have ht := (unhide HT) k hlt
      have c1 : wr.cell? ⟨b, k * 2, none⟩ = some (.string l[k].1) := ((hbr.cell (p := ⟨b, k * 2, none⟩) (by simp; omega)).trans (World.cell?_alloc_lt _ _ _ hbw)).trans ht.1
      have c2 : wr.cell? ⟨b, k * 2 + 1, none⟩ = some (.int .i64 l[k].2) := ((hbr.cell (p := ⟨b, k * 2 + 1, none⟩) (by simp; omega)).trans (World.cell?_alloc_lt _ _ _ hbw)).trans ht.2
      have c3 : wr.cell? ⟨B, 0, none⟩ = some (.int .i64 n) := ((hbr.cell (p := ⟨B, 0, none⟩) (by simp; omega)).trans (World.cell?_alloc_lt _ _ _ hB)).trans hc
      have HD : Hid (nm (l.drop k) n = if (l[k].2 == n) then l[k].1 else nm (l.drop (k + 1)) n) := by
        show _ = _
        rw [List.drop_eq_getElem_cons hlt]; rfl
      obtain ⟨la, HA⟩ : ∃ la, Hid (l[k].1 = la) := ⟨l[k].1, rfl⟩
      obtain ⟨lb, HB⟩ : ∃ lb, Hid (l[k].2 = lb) := ⟨l[k].2, rfl⟩
      rw [unhide HA] at c1 HD
      rw [unhide HB] at c2 HD
      clear ht
      go_wp2_with fail
      refine (isNumber_any _ _ _ B _ (by rw [World.cell?_alloc_lt _ _ _ (by simp; omega)]; exact c3)).mono ?_
      rintro e w2 ⟨rfl, hb2⟩
      have hs2 := hb2.size
      simp at hs2
      have d0 : w2.cell? ⟨wr.heap.size, 0, none⟩ = some (.string la) := by rw [hb2.cell (p := ⟨wr.heap.size, 0, none⟩) (by simp)]; simp
      have d1 : w2.cell? ⟨wr.heap.size, 1, none⟩ = some (.int .i64 lb) := by rw [hb2.cell (p := ⟨wr.heap.size, 1, none⟩) (by simp)]; simp
      have s0 : w2.cell? ⟨w.heap.size, 0, none⟩ = some (.string ⟨#[]⟩) := by rw [hb2.cell (p := ⟨w.heap.size, 0, none⟩) (by simp; omega), World.cell?_alloc_lt _ _ _ (by simp; omega)]; exact r0
      have s1 : w2.cell? ⟨w.heap.size, 1, none⟩ = some (.int .i64 0) := by rw [hb2.cell (p := ⟨w.heap.size, 1, none⟩) (by simp; omega), World.cell?_alloc_lt _ _ _ (by simp; omega)]; exact r1
      have t0 : w2.frozen? ⟨w.heap.size, 0, none⟩ = false := by exact ((hb2.frozen (p := ⟨w.heap.size, 0, none⟩) (by simp; omega)).trans ((balloc wr _).frozen (p := ⟨w.heap.size, 0, none⟩) (by simp; omega))).trans q0
      have t1 : w2.frozen? ⟨w.heap.size, 1, none⟩ = false := by exact ((hb2.frozen (p := ⟨w.heap.size, 1, none⟩) (by simp; omega)).trans ((balloc wr _).frozen (p := ⟨w.heap.size, 1, none⟩) (by simp; omega))).trans q1
      have HR : Below (w.heap.size + 1) (w.alloc (.cells #[.string ⟨#[]⟩, .int .i64 0] 103)) w2 := (hbr.alloc (by omega) _).trans (hb2.mono (by simp; omega))
      obtain ⟨q, HQ⟩ : ∃ q, Hid ((lb == n) = q) := ⟨_, rfl⟩
      rw [unhide HQ] at HD ⊢
      clear c1 c2 c3 r0 r1 q0 q1 hbr hb2
      cases q
      · have HL' : Hid (nm l n = nm (l.drop (k + 1)) n) := by
          show _ = _
          rw [unhide HL, unhide HD]; simp
        go_wp2_with fail
        go_roundw
        case rel => exact ⟨k + 1, by omega, by go_num, HR, HL'⟩
        case measure => simp [intOf]; omega
      · have HL' : Hid (nm l n = la) := by
          show _ = _
          rw [unhide HL, unhide HD]; simp
        have hzz : w.heap.size < w2.heap.size := by omega
        go_wp2_with fail
        refine bodyPost_ret (v := .agg #[.string la, .int .i64 lb]) (by simp [results, Tryz.results74, go_sem, s0, s1]) rfl ⟨lb, by rw [unhide HL'], ?_⟩
        exact ((((Below.refl w.heap.size w).alloc (Nat.le_refl _) _).trans (HR.mono (by omega))).setCell (Nat.le_refl _) _).setCell (Nat.le_refl _) _
    · have ek : k = l.length := by omega
      have HL' : Hid (nm l n = ⟨#[]⟩) := by
        show _ = _
        rw [unhide HL, ek, List.drop_length]; rfl
      have hzz : w.heap.size < wr.heap.size := by omega
      go_wp2_with fail
      refine bodyPost_ret (v := .agg #[.string ⟨#[]⟩, .int .i64 0]) (by simp [results, Tryz.results74, go_sem, r0, r1]) rfl ⟨0, by rw [unhide HL'], ?_⟩
      exact ((((Below.refl w.heap.size w).alloc (Nat.le_refl _) _).trans (hbr.mono (by omega))).setCell (Nat.le_refl _) _).setCell (Nat.le_refl _) _

theorem field_1 (x : ByteArray) (r : Int) (w : World) : Sem.run Tryz.prog (Instr.field 103 (.agg #[.string x, .int .i64 r]) 1) w = .ok (.int .i64 r) w := by
  kernel_rfl
theorem field_0 (x : ByteArray) (r : Int) (w : World) : Sem.run Tryz.prog (Instr.field 103 (.agg #[.string x, .int .i64 r]) 0) w = .ok (.string x) w := by
  kernel_rfl

/-- The name that is told of an encoding. -/
def nameI (n : Int) : ByteArray := nm tolds n
theorem nameI_yes (n : Int) (h : 1 ≤ n ∧ n ≤ 7) : (nameI n).toList.isEmpty = false := by
  rcases (show n = 1 ∨ n = 2 ∨ n = 3 ∨ n = 4 ∨ n = 5 ∨ n = 6 ∨ n = 7 from by omega) with rfl | rfl | rfl | rfl | rfl | rfl | rfl <;> (rw [ByteArray.toList_eq]; decide +kernel)
theorem nameI_no (n : Int) (h : ¬ (1 ≤ n ∧ n ≤ 7)) : nameI n = ⟨#[]⟩ := by
  have h1 : ((1 : Int) == n) = false := by simp; omega
  have h2 : ((2 : Int) == n) = false := by simp; omega
  have h3 : ((3 : Int) == n) = false := by simp; omega
  have h4 : ((4 : Int) == n) = false := by simp; omega
  have h5 : ((5 : Int) == n) = false := by simp; omega
  have h6 : ((6 : Int) == n) = false := by simp; omega
  have h7 : ((7 : Int) == n) = false := by simp; omega
  unfold nameI tolds
  simp only [nm, h1, h2, h3, h4, h5, h6, h7]
  rfl

set_option maxHeartbeats 1000000 in
set_option maxRecDepth 100000 in
theorem Name_yes (n : Int) (w : World) (h : 1 ≤ n ∧ n ≤ 7) :
    Calls Tryz.prog 65 #[.int .i64 n] w fun e w' => e = .returned (.tuple #[.string (nameI n), .int .i64 0]) ∧ Below w.heap.size w w' := by
  have he := nameI_yes n h
  have HI : Hid (nameI n = nm tolds n) := rfl
  go_enter Tryz.func65, Tryz.ntmps65
  go_wp2_with fail
  refine (told_any _).mono ?_
  rintro e w3 ⟨rfl, hw⟩
  replace hw := hw.symm
  subst hw
  have hT : Tab ((w.alloc (.cells #[.int .i64 n] 3)).alloc (.cells (tabCells tolds) 103)) (w.heap.size + 1) tolds := by
    have e : (w.alloc (.cells #[.int .i64 n] 3)).heap.size = w.heap.size + 1 := by simp
    rw [← e]; exact Tab.new _ _ _
  have hC : ((w.alloc (.cells #[.int .i64 n] 3)).alloc (.cells (tabCells tolds) 103)).cell? ⟨w.heap.size, 0, none⟩ = some (.int .i64 n) := by
    rw [World.cell?_alloc_lt _ _ _ (by simp)]; simp
  have HP := hide (first_number tolds n (w.heap.size + 1) w.heap.size 7 _ (by decide) hT (by simp) hC)
  have HB := hide (bstep (balloc w (.cells #[.int .i64 n] 3)) (balloc _ (.cells (tabCells tolds) 103)))
  rw [show tolds.length = 7 from rfl, ← unhide HI] at HP
  generalize tabCells tolds = tc at *
  clear hT hC HI
  go_wp2_with fail
  refine (unhide HP).mono ?_
  rintro e w4 ⟨x, rfl, hb4⟩
  have hf0 := @field_0
  have hf1 := @field_1
  go_wp2_with fail
  go_ret2
  exact ⟨rfl, bstep (unhide HB) hb4⟩

set_option maxHeartbeats 1000000 in
set_option maxRecDepth 100000 in
theorem Name_no (n : Int) (w : World) (h : ¬ (1 ≤ n ∧ n ≤ 7)) :
    Calls Tryz.prog 65 #[.int .i64 n] w fun e w' => e = .returned (.tuple #[.string ⟨#[]⟩, .int .i64 6]) ∧ Below w.heap.size w w' := by
  have HI : Hid (nm tolds n = ⟨#[]⟩) := nameI_no n h
  go_enter Tryz.func65, Tryz.ntmps65
  go_wp2_with fail
  refine (told_any _).mono ?_
  rintro e w3 ⟨rfl, hw⟩
  replace hw := hw.symm
  subst hw
  have hT : Tab ((w.alloc (.cells #[.int .i64 n] 3)).alloc (.cells (tabCells tolds) 103)) (w.heap.size + 1) tolds := by
    have e : (w.alloc (.cells #[.int .i64 n] 3)).heap.size = w.heap.size + 1 := by simp
    rw [← e]; exact Tab.new _ _ _
  have hC : ((w.alloc (.cells #[.int .i64 n] 3)).alloc (.cells (tabCells tolds) 103)).cell? ⟨w.heap.size, 0, none⟩ = some (.int .i64 n) := by
    rw [World.cell?_alloc_lt _ _ _ (by simp)]; simp
  have HP := hide (first_number tolds n (w.heap.size + 1) w.heap.size 7 _ (by decide) hT (by simp) hC)
  have HB := hide (bstep (balloc w (.cells #[.int .i64 n] 3)) (balloc _ (.cells (tabCells tolds) 103)))
  rw [show tolds.length = 7 from rfl, unhide HI] at HP
  generalize tabCells tolds = tc at *
  clear hT hC HI
  go_wp2_with fail
  refine (unhide HP).mono ?_
  rintro e w4 ⟨x, rfl, hb4⟩
  have hf0 := @field_0
  have hf1 := @field_1
  go_wp2_with fail
  go_ret2
  exact ⟨rfl, bstep (unhide HB) hb4⟩
set_option maxHeartbeats 400000 in
set_option maxRecDepth 100000 in
theorem kind_yes (n : Int) (w : World) (h : 1 ≤ n ∧ n ≤ 7) : Calls Tryz.prog 99 #[.int .i64 n] w fun e w' => e = .returned (.int .i64 0) ∧ Below w.heap.size w w' := by
  go_enter Tryz.func99, Tryz.ntmps99
  go_wp2_with fail
  refine (Name_yes n _ h).mono ?_
  rintro e w1 ⟨rfl, hb⟩
  have HB := hide hb
  clear hb
  go_wp2_with fail
  go_ret
  exact ⟨rfl, unhide HB⟩
set_option maxHeartbeats 400000 in
set_option maxRecDepth 100000 in
theorem kind_no (n : Int) (w : World) (h : ¬ (1 ≤ n ∧ n ≤ 7)) : Calls Tryz.prog 99 #[.int .i64 n] w fun e w' => e = .returned (.int .i64 6) ∧ Below w.heap.size w w' := by
  go_enter Tryz.func99, Tryz.ntmps99
  go_wp2_with fail
  refine (Name_no n _ h).mono ?_
  rintro e w1 ⟨rfl, hb⟩
  have HB := hide hb
  clear hb
  go_wp2_with fail
  go_ret
  exact ⟨rfl, unhide HB⟩
end Go.Proofs.YtaiinjfnkmidbaaGreatDoor

namespace Go.Proofs.YtaiinjfnkmidbaaGreatDoor
open Go.RowKit
set_option linter.unusedVariables false

theorem decE_1 (l : List Int) : M.decE 1 l = M.dec l := by unfold M.decE; rw [M.TE_8]
theorem decE_2 (l : List Int) : M.decE 2 l = M.dec16 false l := by unfold M.decE; rw [show (2 : Int) = (if false then 3 else 2) from rfl, M.TE_16]
theorem decE_3 (l : List Int) : M.decE 3 l = M.dec16 true l := by unfold M.decE; rw [show (3 : Int) = (if true then 3 else 2) from rfl, M.TE_16]
theorem decE_4 (l : List Int) : M.decE 4 l = M.decS false l := by unfold M.decE; rw [show (4 : Int) = (if false then 5 else 4) from rfl, M.TE_S]
theorem decE_5 (l : List Int) : M.decE 5 l = M.decS true l := by unfold M.decE; rw [show (5 : Int) = (if true then 5 else 4) from rfl, M.TE_S]
theorem decE_6 (l : List Int) : M.decE 6 l = M.kdec l := by unfold M.decE; rw [M.TE_K]; exact M.gk_dec l
theorem decE_7 (s : ByteArray) : M.decE 7 (bl s) = if s.size = 0 then [] else [65533] := by
  unfold M.decE; rw [M.TE_X]
  show (if (false || (bl s).isEmpty) = true then [] else [65533]) = _
  have : (bl s).isEmpty = decide (s.size = 0) := by rw [← bl_len, Bool.eq_iff_iff]; simp [List.isEmpty_iff]
  rw [Bool.false_or, this]; simp only [decide_eq_true_eq]

set_option maxHeartbeats 800000 in
set_option maxRecDepth 100000 in
theorem waits_any (e : Int) (s : ByteArray) (w : World) (he : 1 ≤ e ∧ e ≤ 7) (hm : s.size ≤ maxLen) (h8 : e = 1 → s.size ≤ 3000) : Calls Tryz.prog 121 #[.int .i64 e, .string s] w fun e' w' => e' = .returned (.int .i64 (M.wE e (bl s))) ∧ Below w.heap.size w w' := by
  obtain rfl | rfl | rfl | rfl | rfl | rfl | rfl : e = 1 ∨ e = 2 ∨ e = 3 ∨ e = 4 ∨ e = 5 ∨ e = 6 ∨ e = 7 := by omega
  · have H := fun w => split_any s w (h8 rfl)
    have HW : Hid (M.wE 1 (bl s) = M.spl (bl s)) := hide rfl
    go_enter Tryz.func121, Tryz.ntmps121
    go_wp2_with fail
    refine (H _).mono ?_
    rintro e w1 ⟨rfl, hb⟩
    have HB := hide hb
    clear hb H
    go_wp2_with fail
    go_ret
    exact ⟨by rw [unhide HW]; rfl, unhide HB⟩
  · have H := fun w => units_any false s w hm
    have HW : Hid (M.wE 2 (bl s) = (M.wu false (bl s) : Nat)) := hide rfl
    go_enter Tryz.func121, Tryz.ntmps121
    go_wp2_with fail
    refine (H _).mono ?_
    rintro e w1 ⟨rfl, hw⟩
    replace hw := hw.symm
    subst hw
    clear H
    go_wp2_with fail
    go_ret
    exact ⟨by rw [unhide HW]; rfl, Below.refl _ _⟩
  · have H := fun w => units_any true s w hm
    have HW : Hid (M.wE 3 (bl s) = (M.wu true (bl s) : Nat)) := hide rfl
    go_enter Tryz.func121, Tryz.ntmps121
    go_wp2_with fail
    refine (H _).mono ?_
    rintro e w1 ⟨rfl, hw⟩
    replace hw := hw.symm
    subst hw
    clear H
    go_wp2_with fail
    go_ret
    exact ⟨by rw [unhide HW]; rfl, Below.refl _ _⟩
  · go_enter Tryz.func121, Tryz.ntmps121
    go_wp2_with fail
    go_ret
    exact ⟨rfl, Below.refl _ _⟩
  · go_enter Tryz.func121, Tryz.ntmps121
    go_wp2_with fail
    go_ret
    exact ⟨rfl, Below.refl _ _⟩
  · have H := fun w => waitsK_any s w hm
    have HW : Hid (M.wE 6 (bl s) = (M.wk (bl s) : Nat)) := hide rfl
    go_enter Tryz.func121, Tryz.ntmps121
    go_wp2_with fail
    refine (H _).mono ?_
    rintro e w1 ⟨rfl, hw⟩
    replace hw := hw.symm
    subst hw
    clear H
    go_wp2_with fail
    go_ret
    exact ⟨by rw [unhide HW]; rfl, Below.refl _ _⟩
  · go_enter Tryz.func121, Tryz.ntmps121
    go_wp2_with fail
    go_ret
    exact ⟨rfl, Below.refl _ _⟩
set_option maxHeartbeats 800000 in
set_option maxRecDepth 100000 in
theorem waits_long (s : ByteArray) (w : World) (hm : s.size ≤ maxLen) (h8 : 3000 < s.size) : Calls Tryz.prog 121 #[.int .i64 1, .string s] w fun e' w' => e' = .returned (.int .i64 0) ∧ Below w.heap.size w w' := by
  have H := fun w => split_long s w h8 hm
  go_enter Tryz.func121, Tryz.ntmps121
  go_wp2_with fail
  refine (H _).mono ?_
  rintro e w1 ⟨rfl, hw⟩
  replace hw := hw.symm
  subst hw
  clear H
  go_wp2_with fail
  go_ret
  exact ⟨rfl, Below.refl _ _⟩

set_option maxHeartbeats 800000 in
set_option maxRecDepth 100000 in
theorem stop_text (s : ByteArray) (w : World) (hs : s.size ≤ 3000) : Calls Tryz.prog 93 #[.string s, .func (Fn.func 94) #[] #[]] w fun e w' => ∃ v, e = .returned (.tuple #[v, .int .i64 0]) ∧ Ints w' v (M.decE 7 (bl s)) ∧ Below w.heap.size w w' := by
  have HD := hide (decE_7 s)
  go_enter Tryz.func93, Tryz.ntmps93
  go_wp2_with fail
  refine (stop_any s _).mono ?_
  rintro e w1 ⟨v, rfl, hI, hb⟩
  obtain ⟨ao, cap, rfl⟩ := owns_shape hI
  have HI := hide (Ints.of_owns hI)
  have HB := hide hb
  clear hI hb
  generalize (if s.size = 0 then [] else [(65533 : Int)]) = L at *
  go_wp2_with fail
  go_ret2
  exact ⟨_, rfl, by rw [unhide HD]; exact unhide HI, unhide HB⟩

set_option maxHeartbeats 1600000 in
set_option maxRecDepth 100000 in
theorem sdecode_any (e : Int) (s : ByteArray) (w : World) (he : 1 ≤ e ∧ e ≤ 7) (hs : s.size ≤ 3000) : Calls Tryz.prog 42 #[.int .i64 e, .string s] w fun e' w' => ∃ v, e' = .returned (.tuple #[v, .int .i64 0]) ∧ Ints w' v (M.decE e (bl s)) ∧ Below w.heap.size w w' := by
  obtain rfl | rfl | rfl | rfl | rfl | rfl | rfl : e = 1 ∨ e = 2 ∨ e = 3 ∨ e = 4 ∨ e = 5 ∨ e = 6 ∨ e = 7 := by omega
  · have H := fun w => decode_any s w hs
    have HD := hide (decE_1 (bl s))
    go_enter Tryz.func42, Tryz.ntmps42
    go_wp2_with fail
    refine (H _).mono ?_
    rintro e w1 ⟨v, rfl, hI, hb⟩
    rw [← unhide HD] at hI
    have HI := hide hI
    have HB := hide hb
    obtain ⟨ao, cap, rfl, -⟩ := hI
    clear hb H
    go_wp2_with fail
    go_ret2
    exact ⟨_, rfl, unhide HI, unhide HB⟩
  · have H := fun w => decode16_any false s w hs
    have HD := hide (decE_2 (bl s))
    go_enter Tryz.func42, Tryz.ntmps42
    go_wp2_with fail
    refine (H _).mono ?_
    rintro e w1 ⟨v, rfl, hI, hb⟩
    rw [← unhide HD] at hI
    have HI := hide hI
    have HB := hide hb
    obtain ⟨ao, cap, rfl, -⟩ := hI
    clear hb H
    go_wp2_with fail
    go_ret2
    exact ⟨_, rfl, unhide HI, unhide HB⟩
  · have H := fun w => decode16_any true s w hs
    have HD := hide (decE_3 (bl s))
    go_enter Tryz.func42, Tryz.ntmps42
    go_wp2_with fail
    refine (H _).mono ?_
    rintro e w1 ⟨v, rfl, hI, hb⟩
    rw [← unhide HD] at hI
    have HI := hide hI
    have HB := hide hb
    obtain ⟨ao, cap, rfl, -⟩ := hI
    clear hb H
    go_wp2_with fail
    go_ret2
    exact ⟨_, rfl, unhide HI, unhide HB⟩
  · have H := fun w => decodeS_any false s w hs
    have HD := hide (decE_4 (bl s))
    go_enter Tryz.func42, Tryz.ntmps42
    go_wp2_with fail
    refine (H _).mono ?_
    rintro e w1 ⟨v, rfl, hI, hb⟩
    rw [← unhide HD] at hI
    have HI := hide hI
    have HB := hide hb
    obtain ⟨ao, cap, rfl, -⟩ := hI
    clear hb H
    go_wp2_with fail
    go_ret2
    exact ⟨_, rfl, unhide HI, unhide HB⟩
  · have H := fun w => decodeS_any true s w hs
    have HD := hide (decE_5 (bl s))
    go_enter Tryz.func42, Tryz.ntmps42
    go_wp2_with fail
    refine (H _).mono ?_
    rintro e w1 ⟨v, rfl, hI, hb⟩
    rw [← unhide HD] at hI
    have HI := hide hI
    have HB := hide hb
    obtain ⟨ao, cap, rfl, -⟩ := hI
    clear hb H
    go_wp2_with fail
    go_ret2
    exact ⟨_, rfl, unhide HI, unhide HB⟩
  · have H := fun w => kdecode_any s w hs
    have HD := hide (decE_6 (bl s))
    go_enter Tryz.func42, Tryz.ntmps42
    go_wp2_with fail
    refine (H _).mono ?_
    rintro e w1 ⟨v, rfl, hI, hb⟩
    rw [← unhide HD] at hI
    have HI := hide hI
    have HB := hide hb
    obtain ⟨ao, cap, rfl, -⟩ := hI
    clear hb H
    go_wp2_with fail
    go_ret2
    exact ⟨_, rfl, unhide HI, unhide HB⟩
  · have H := fun w => stop_text s w hs
    go_enter Tryz.func42, Tryz.ntmps42
    go_wp2_with fail
    refine (H _).mono ?_
    rintro e w1 ⟨v, rfl, hI, hb⟩
    have HI := hide hI
    have HB := hide hb
    obtain ⟨ao, cap, rfl, -⟩ := hI
    clear hb H
    go_wp2_with fail
    go_ret2
    exact ⟨_, rfl, unhide HI, unhide HB⟩
end Go.Proofs.YtaiinjfnkmidbaaGreatDoor

namespace Go.Proofs
open Go.Shelf
def Tryz.lays316_ren : Go.Shelf.Ren := ⟨fun | 316 => 104 | n => n, fun | 9 => 9 | 3 => 3 | 4 => 4 | 37 => 151 | 0 => 0 | 127 => 175 | 5 => 5 | n => n, fun | n => n⟩
theorem Tryz.lays316 : Go.Proofs.LaysM.n316 Tryz.prog Tryz.lays316_ren := {
  mixed := by kernel_rfl
  f316 := Tryz.func104.trans (congrArg some (by kernel_rfl))
  t0 := Tryz.underlying0
  a0 := Tryz.isAgg0
  z0 := Tryz.sizeOf0
  v0 := Tryz.zeroValue0
  t3 := Tryz.underlying3
  a3 := Tryz.isAgg3
  z3 := Tryz.sizeOf3
  v3 := Tryz.zeroValue3
  t4 := Tryz.underlying4
  a4 := Tryz.isAgg4
  z4 := Tryz.sizeOf4
  v4 := Tryz.zeroValue4
  t9 := Tryz.underlying9
  a9 := Tryz.isAgg9
  z9 := Tryz.sizeOf9
  v9 := Tryz.zeroValue9
  t37 := Tryz.underlying151
  a37 := Tryz.isAgg151
  z37 := Tryz.sizeOf151
  v37 := Tryz.zeroValue151
  t127 := Tryz.underlying175
  a127 := Tryz.isAgg175
  z127 := Tryz.sizeOf175
  v127 := Tryz.zeroValue175
  t5 := Tryz.underlying5
  a5 := Tryz.isAgg5
  z5 := Tryz.sizeOf5
  v5 := Tryz.zeroValue5
  i0 := by kernel_rfl
  i3 := by kernel_rfl
  i4 := by kernel_rfl
  i5 := by kernel_rfl
  i9 := by kernel_rfl
  i37 := by kernel_rfl
  i127 := by kernel_rfl }
end Go.Proofs
namespace Go.Proofs.YtaiinjfnkmidbaaGreatDoor
open Go.RowKit
set_option linter.unusedVariables false

theorem cloneLib (s : ByteArray) (w : World) (hs : s.size ≤ 4000) : Calls Tryz.prog 104 #[.string s] w fun e w' => e = .returned (.string s) ∧ Below w.heap.size w w' :=
  Any.stringslite_Clone Tryz.lays316 s w (by omega)
set_option maxHeartbeats 400000 in
set_option maxRecDepth 100000 in
theorem clone_any (s : ByteArray) (w : World) (hs : s.size ≤ 4000) : Calls Tryz.prog 49 #[.string s] w fun e w' => e = .returned (.string s) ∧ Below w.heap.size w w' := by
  go_enter Tryz.func49, Tryz.ntmps49
  go_wp2_with fail
  refine (cloneLib s _ hs).mono ?_
  rintro e w1 ⟨rfl, hb⟩
  have HB := hide hb
  clear hb
  go_wp2_with fail
  go_ret
  exact ⟨rfl, unhide HB⟩
end Go.Proofs.YtaiinjfnkmidbaaGreatDoor

namespace Go.Proofs.YtaiinjfnkmidbaaGreatDoor
open Go.RowKit
set_option linter.unusedVariables false

/-- A decoder's cells: its encoding, what waits, signs, whether an escape stood just ahead, whether it has stopped, the slice of what it has told. -/
structure Dc (D : Nat) (e : Int) (r : ByteArray) (g : Int) (fr st : Bool) (v : Value) (w : World) : Prop where
  c0 : w.cell? ⟨D, 0, none⟩ = some (.int .i64 e)
  c1 : w.cell? ⟨D, 1, none⟩ = some (.string r)
  c2 : w.cell? ⟨D, 2, none⟩ = some (.int .i64 g)
  c3 : w.cell? ⟨D, 3, none⟩ = some (.bool fr)
  c4 : w.cell? ⟨D, 4, none⟩ = some (.bool st)
  c5 : w.cell? ⟨D, 5, none⟩ = some v
  f0 : w.frozen? ⟨D, 0, none⟩ = false
  f1 : w.frozen? ⟨D, 1, none⟩ = false
  f2 : w.frozen? ⟨D, 2, none⟩ = false
  f3 : w.frozen? ⟨D, 3, none⟩ = false
  f4 : w.frozen? ⟨D, 4, none⟩ = false
  f5 : w.frozen? ⟨D, 5, none⟩ = false
theorem Dc.lt {D : Nat} {e : Int} {r : ByteArray} {g : Int} {fr st : Bool} {v : Value} {w : World} (h : Dc D e r g fr st v w) : D < w.heap.size := World.block_lt_of_cell? w _ h.c0
theorem Dc.below {D : Nat} {e : Int} {r : ByteArray} {g : Int} {fr st : Bool} {v : Value} {w : World} {w2 : World} (h : Dc D e r g fr st v w) (hb : Below (D + 1) w w2) : Dc D e r g fr st v w2 where
  c0 := (hb.cell (p := ⟨D, 0, none⟩) (Nat.lt_succ_self _)).trans h.c0
  c1 := (hb.cell (p := ⟨D, 1, none⟩) (Nat.lt_succ_self _)).trans h.c1
  c2 := (hb.cell (p := ⟨D, 2, none⟩) (Nat.lt_succ_self _)).trans h.c2
  c3 := (hb.cell (p := ⟨D, 3, none⟩) (Nat.lt_succ_self _)).trans h.c3
  c4 := (hb.cell (p := ⟨D, 4, none⟩) (Nat.lt_succ_self _)).trans h.c4
  c5 := (hb.cell (p := ⟨D, 5, none⟩) (Nat.lt_succ_self _)).trans h.c5
  f0 := (hb.frozen (p := ⟨D, 0, none⟩) (Nat.lt_succ_self _)).trans h.f0
  f1 := (hb.frozen (p := ⟨D, 1, none⟩) (Nat.lt_succ_self _)).trans h.f1
  f2 := (hb.frozen (p := ⟨D, 2, none⟩) (Nat.lt_succ_self _)).trans h.f2
  f3 := (hb.frozen (p := ⟨D, 3, none⟩) (Nat.lt_succ_self _)).trans h.f3
  f4 := (hb.frozen (p := ⟨D, 4, none⟩) (Nat.lt_succ_self _)).trans h.f4
  f5 := (hb.frozen (p := ⟨D, 5, none⟩) (Nat.lt_succ_self _)).trans h.f5
theorem Dc.set0 {D : Nat} {e : Int} {r : ByteArray} {g : Int} {fr st : Bool} {v : Value} {w : World} (h : Dc D e r g fr st v w) (x : Int) : Dc D x r g fr st v (w.setCell ⟨D, 0, none⟩ (.int .i64 x)) where
  c0 := World.cell?_setCell_same _ _ _ h.c0
  c1 := (World.cell?_setCell_other _ _ _ _ (by simp)).trans h.c1
  c2 := (World.cell?_setCell_other _ _ _ _ (by simp)).trans h.c2
  c3 := (World.cell?_setCell_other _ _ _ _ (by simp)).trans h.c3
  c4 := (World.cell?_setCell_other _ _ _ _ (by simp)).trans h.c4
  c5 := (World.cell?_setCell_other _ _ _ _ (by simp)).trans h.c5
  f0 := by rw [World.frozen?_setCell]; exact h.f0
  f1 := by rw [World.frozen?_setCell]; exact h.f1
  f2 := by rw [World.frozen?_setCell]; exact h.f2
  f3 := by rw [World.frozen?_setCell]; exact h.f3
  f4 := by rw [World.frozen?_setCell]; exact h.f4
  f5 := by rw [World.frozen?_setCell]; exact h.f5
theorem Dc.set1 {D : Nat} {e : Int} {r : ByteArray} {g : Int} {fr st : Bool} {v : Value} {w : World} (h : Dc D e r g fr st v w) (x : ByteArray) : Dc D e x g fr st v (w.setCell ⟨D, 1, none⟩ (.string x)) where
  c0 := (World.cell?_setCell_other _ _ _ _ (by simp)).trans h.c0
  c1 := World.cell?_setCell_same _ _ _ h.c1
  c2 := (World.cell?_setCell_other _ _ _ _ (by simp)).trans h.c2
  c3 := (World.cell?_setCell_other _ _ _ _ (by simp)).trans h.c3
  c4 := (World.cell?_setCell_other _ _ _ _ (by simp)).trans h.c4
  c5 := (World.cell?_setCell_other _ _ _ _ (by simp)).trans h.c5
  f0 := by rw [World.frozen?_setCell]; exact h.f0
  f1 := by rw [World.frozen?_setCell]; exact h.f1
  f2 := by rw [World.frozen?_setCell]; exact h.f2
  f3 := by rw [World.frozen?_setCell]; exact h.f3
  f4 := by rw [World.frozen?_setCell]; exact h.f4
  f5 := by rw [World.frozen?_setCell]; exact h.f5
theorem Dc.set2 {D : Nat} {e : Int} {r : ByteArray} {g : Int} {fr st : Bool} {v : Value} {w : World} (h : Dc D e r g fr st v w) (x : Int) : Dc D e r x fr st v (w.setCell ⟨D, 2, none⟩ (.int .i64 x)) where
  c0 := (World.cell?_setCell_other _ _ _ _ (by simp)).trans h.c0
  c1 := (World.cell?_setCell_other _ _ _ _ (by simp)).trans h.c1
  c2 := World.cell?_setCell_same _ _ _ h.c2
  c3 := (World.cell?_setCell_other _ _ _ _ (by simp)).trans h.c3
  c4 := (World.cell?_setCell_other _ _ _ _ (by simp)).trans h.c4
  c5 := (World.cell?_setCell_other _ _ _ _ (by simp)).trans h.c5
  f0 := by rw [World.frozen?_setCell]; exact h.f0
  f1 := by rw [World.frozen?_setCell]; exact h.f1
  f2 := by rw [World.frozen?_setCell]; exact h.f2
  f3 := by rw [World.frozen?_setCell]; exact h.f3
  f4 := by rw [World.frozen?_setCell]; exact h.f4
  f5 := by rw [World.frozen?_setCell]; exact h.f5
theorem Dc.set3 {D : Nat} {e : Int} {r : ByteArray} {g : Int} {fr st : Bool} {v : Value} {w : World} (h : Dc D e r g fr st v w) (x : Bool) : Dc D e r g x st v (w.setCell ⟨D, 3, none⟩ (.bool x)) where
  c0 := (World.cell?_setCell_other _ _ _ _ (by simp)).trans h.c0
  c1 := (World.cell?_setCell_other _ _ _ _ (by simp)).trans h.c1
  c2 := (World.cell?_setCell_other _ _ _ _ (by simp)).trans h.c2
  c3 := World.cell?_setCell_same _ _ _ h.c3
  c4 := (World.cell?_setCell_other _ _ _ _ (by simp)).trans h.c4
  c5 := (World.cell?_setCell_other _ _ _ _ (by simp)).trans h.c5
  f0 := by rw [World.frozen?_setCell]; exact h.f0
  f1 := by rw [World.frozen?_setCell]; exact h.f1
  f2 := by rw [World.frozen?_setCell]; exact h.f2
  f3 := by rw [World.frozen?_setCell]; exact h.f3
  f4 := by rw [World.frozen?_setCell]; exact h.f4
  f5 := by rw [World.frozen?_setCell]; exact h.f5
theorem Dc.set4 {D : Nat} {e : Int} {r : ByteArray} {g : Int} {fr st : Bool} {v : Value} {w : World} (h : Dc D e r g fr st v w) (x : Bool) : Dc D e r g fr x v (w.setCell ⟨D, 4, none⟩ (.bool x)) where
  c0 := (World.cell?_setCell_other _ _ _ _ (by simp)).trans h.c0
  c1 := (World.cell?_setCell_other _ _ _ _ (by simp)).trans h.c1
  c2 := (World.cell?_setCell_other _ _ _ _ (by simp)).trans h.c2
  c3 := (World.cell?_setCell_other _ _ _ _ (by simp)).trans h.c3
  c4 := World.cell?_setCell_same _ _ _ h.c4
  c5 := (World.cell?_setCell_other _ _ _ _ (by simp)).trans h.c5
  f0 := by rw [World.frozen?_setCell]; exact h.f0
  f1 := by rw [World.frozen?_setCell]; exact h.f1
  f2 := by rw [World.frozen?_setCell]; exact h.f2
  f3 := by rw [World.frozen?_setCell]; exact h.f3
  f4 := by rw [World.frozen?_setCell]; exact h.f4
  f5 := by rw [World.frozen?_setCell]; exact h.f5
theorem Dc.set5 {D : Nat} {e : Int} {r : ByteArray} {g : Int} {fr st : Bool} {v : Value} {w : World} (h : Dc D e r g fr st v w) (x : Value) : Dc D e r g fr st x (w.setCell ⟨D, 5, none⟩ (x)) where
  c0 := (World.cell?_setCell_other _ _ _ _ (by simp)).trans h.c0
  c1 := (World.cell?_setCell_other _ _ _ _ (by simp)).trans h.c1
  c2 := (World.cell?_setCell_other _ _ _ _ (by simp)).trans h.c2
  c3 := (World.cell?_setCell_other _ _ _ _ (by simp)).trans h.c3
  c4 := (World.cell?_setCell_other _ _ _ _ (by simp)).trans h.c4
  c5 := World.cell?_setCell_same _ _ _ h.c5
  f0 := by rw [World.frozen?_setCell]; exact h.f0
  f1 := by rw [World.frozen?_setCell]; exact h.f1
  f2 := by rw [World.frozen?_setCell]; exact h.f2
  f3 := by rw [World.frozen?_setCell]; exact h.f3
  f4 := by rw [World.frozen?_setCell]; exact h.f4
  f5 := by rw [World.frozen?_setCell]; exact h.f5
/-- A decoder in memory: its cells, and the row of what it has told, all of it behind its own block. -/
def Dl (D : Nat) (e : Int) (r : ByteArray) (t : M.St) (xs : List Int) (w : World) : Prop := ∃ v, Dc D e r t.1 t.2.1 t.2.2 v w ∧ w.ownsRow (D + 1) 3 1 v xs.length (xs.map (Value.int .i64))
/-- What tell answers: nothing. -/
def ToldD (D : Nat) (e : Int) (r : ByteArray) (t : M.St) (xs : List Int) (l : List Int) (w w' : World) : Prop := Dl D e r (M.TE e t l).2 (xs ++ (M.TE e t l).1) w' ∧ Below D w w'

set_option maxHeartbeats 800000 in
set_option maxRecDepth 100000 in
theorem tell_plain (D : Nat) (e : Int) (r : ByteArray) (t : M.St) (xs : List Int) (s : ByteArray) (w : World) (he : 1 ≤ e ∧ e ≤ 5) (hs : s.size ≤ 3000) (hx : xs.length ≤ 20000) (hE : (M.TE e t (bl s)) = (M.decE e (bl s), t)) (hl : (M.decE e (bl s)).length ≤ 3000) (hD : Dl D e r t xs w) :
    Calls Tryz.prog 162 #[.pointer (some ⟨D, 0, none⟩), .string s] w fun e' w' => e' = .returned (.tuple #[]) ∧ ToldD D e r t xs (bl s) w w' := by
  obtain ⟨v, hC, ho⟩ := hD
  have HC := hide hC
  obtain ⟨c0, c1, c2, c3, c4, c5, f0, f1, f2, f3, f4, f5⟩ := hC
  have hDs : D < w.heap.size := World.block_lt_of_cell? w _ c0
  obtain ⟨ao, cap, hsh⟩ := owns_shape ho
  subst hsh
  have HO := hide ho
  have HE := hide hE
  have e6 : (e == 6) = false := by simp; omega
  have e7 : (e == 7) = false := by simp; omega
  have H := fun w => sdecode_any e s w (by omega) hs
  generalize M.decE e (bl s) = L at *
  clear ho hE
  go_enter Tryz.func162, Tryz.ntmps162
  go_wp2_with fail
  refine (H _).mono ?_
  rintro e' w1 ⟨u, rfl, hI, hb⟩
  obtain ⟨au, cu, hsu, -⟩ := id hI
  subst hsu
  have HI := hide hI
  have HB := hide hb
  have HC1 := hide ((unhide HC).below (hb.mono hDs))
  have HO1 := hide (owns_below (unhide HO) hb)
  have hz := hb.size
  obtain ⟨d0, d1, d2, d3, d4, d5, k0, k1, k2, k3, k4, k5⟩ := unhide HC1
  clear hI hb H
  go_wp2_with (at_builtin; refine append_ints rfl (.tmp 27) (.tmp 28) rfl (D + 1) _ xs rfl (unhide HO1) _ L rfl (unhide HI) (by omega) (by omega) ?_)
  intro v2 w2 ho2 hb2
  obtain ⟨ao2, cap2, hsh2⟩ := owns_shape ho2
  subst hsh2
  have HC2 := hide ((unhide HC1).below hb2)
  have HO2 := hide ho2
  have HB2 := hide (((unhide HB).mono (Nat.le_of_lt hDs)).trans (hb2.mono (Nat.le_succ D)))
  obtain ⟨i0, i1, i2, i3, i4, i5, j0, j1, j2, j3, j4, j5⟩ := unhide HC2
  have hD2 : D < w2.heap.size := World.block_lt_of_cell? w2 _ i0
  clear ho2 hb2
  go_wp2_with fail
  go_end0
  refine ⟨rfl, ⟨_, by rw [unhide HE]; exact (unhide HC2).set5 _, ?_⟩, bset (unhide HB2) ⟨D, 5, none⟩ _ (Nat.le_refl _)⟩
  rw [unhide HE]
  exact owns_set (by simpa using unhide HO2) ⟨D, 5, none⟩ (Nat.lt_succ_self _) _

set_option maxHeartbeats 1600000 in
set_option maxRecDepth 100000 in
theorem tell_stopped (D : Nat) (r : ByteArray) (t : M.St) (xs : List Int) (s : ByteArray) (w : World) (ht : t.2.2 = true) (hD : Dl D 7 r t xs w) :
    Calls Tryz.prog 162 #[.pointer (some ⟨D, 0, none⟩), .string s] w fun e' w' => e' = .returned (.tuple #[]) ∧ ToldD D 7 r t xs (bl s) w w' := by
  have HT : Hid (ToldD D 7 r t xs (bl s) w w) := hide (by
    unfold ToldD
    rw [M.TE_X, ht]
    refine ⟨?_, Below.refl _ _⟩
    have e1 : (t.1, t.2.1, true || !(bl s).isEmpty) = t := by rw [Bool.true_or, ← ht]
    rw [e1, Bool.true_or, if_pos rfl, List.append_nil]
    exact hD)
  obtain ⟨v, hC, ho⟩ := hD
  obtain ⟨c0, c1, c2, c3, c4, c5, f0, f1, f2, f3, f4, f5⟩ := hC
  rw [ht] at c4
  have hDs : D < w.heap.size := World.block_lt_of_cell? w _ c0
  clear ho
  go_enter Tryz.func162, Tryz.ntmps162
  go_wp2_with fail
  go_end0
  exact ⟨rfl, unhide HT⟩

set_option maxHeartbeats 1600000 in
set_option maxRecDepth 100000 in
theorem tell_stop (D : Nat) (r : ByteArray) (t : M.St) (xs : List Int) (s : ByteArray) (w : World) (hx : xs.length ≤ 20000) (ht : t.2.2 = false) (hD : Dl D 7 r t xs w) :
    Calls Tryz.prog 162 #[.pointer (some ⟨D, 0, none⟩), .string s] w fun e' w' => e' = .returned (.tuple #[]) ∧ ToldD D 7 r t xs (bl s) w w' := by
  have hie : (bl s).isEmpty = decide (s.size = 0) := by rw [← bl_len, Bool.eq_iff_iff]; simp [List.isEmpty_iff]
  obtain ⟨L, hL⟩ : ∃ L, (if s.size = 0 then [] else [(65533 : Int)]) = L := ⟨_, rfl⟩
  have H := fun w => stop_any s w
  have hll : L.length ≤ 1 := by rw [← hL]; split <;> simp
  obtain ⟨q, hq⟩ : ∃ q, s.toList.isEmpty = q := ⟨_, rfl⟩
  have hq2 : q = decide (s.size = 0) := by rw [← hq, isEmpty_size]
  have HE : Hid (M.TE 7 t (bl s) = (L, (t.1, t.2.1, !q))) := hide (by
    rw [M.TE_X, ht, hie, hq2, ← hL, Bool.false_or, Bool.false_or]
    simp only [decide_eq_true_eq])
  rw [hL] at H
  clear hL hie hq2
  obtain ⟨v, hC, ho⟩ := hD
  have HC := hide hC
  obtain ⟨c0, c1, c2, c3, c4, c5, f0, f1, f2, f3, f4, f5⟩ := hC
  rw [ht] at c4
  have hDs : D < w.heap.size := World.block_lt_of_cell? w _ c0
  obtain ⟨ao, cap, hsh⟩ := owns_shape ho
  subst hsh
  have HO := hide ho
  clear ho
  go_enter Tryz.func162, Tryz.ntmps162
  go_wp2_with fail
  go_region_law ((first
      | (refine step_append_ints (by rfl) _ _ (by rfl) (D + 1) _ xs (by rfl) (unhide HO1) _ L (by rfl) (unhide HI) (by omega) (by omega) ?_; intro ao2 cap2 w2 ho2 hb2; have HC2 := hide ((unhide HC1).below hb2); have HO2 := hide ho2; have HB2 := hide ((unhide HB).trans (hb2.mono (Nat.le_succ D))); obtain ⟨i0, i1, i2, i3, i4, i5, j0, j1, j2, j3, j4, j5⟩ := unhide HC2; have hD2 : D < w2.heap.size := World.block_lt_of_cell? w2 _ i0; clear ho2 hb2)
      | (go_simp; go_at_call 94; refine (H _).mono ?_; rintro e' w1 ⟨u, rfl, hI, hb⟩; obtain ⟨au, cu, hsu⟩ := owns_shape hI; subst hsu; have HI := hide (Ints.of_owns hI); have HB : Hid (Below D w w1) := hide ((below_drewN (Below.refl D w) 1).trans (hb.mono (Nat.le_of_lt hDs))); have HC1 := hide ((unhide HC).below ((below_drewN (Below.refl _ w) 1).trans (hb.mono hDs))); have HO1 := hide (owns_below (owns_below (unhide HO) (below_drewN (Below.refl _ w) 1)) hb); have hz : w.heap.size ≤ w1.heap.size := hb.size; obtain ⟨d0, d1, d2, d3, d4, d5, k0, k1, k2, k3, k4, k5⟩ := unhide HC1; clear hI hb)))
  all_goals
    clear H
    go_wp2_with fail
    go_end0
    refine ⟨rfl, ⟨_, by rw [unhide HE]; exact ((unhide HC2).set5 _).set4 _, ?_⟩, bset (bset (unhide HB2) ⟨D, 5, none⟩ _ (Nat.le_refl _)) ⟨D, 4, none⟩ _ (Nat.le_refl _)⟩
    rw [unhide HE]
    exact owns_set (owns_set (by simpa using unhide HO2) ⟨D, 5, none⟩ (Nat.lt_succ_self _) _) ⟨D, 4, none⟩ (Nat.lt_succ_self _) _
end Go.Proofs.YtaiinjfnkmidbaaGreatDoor

namespace Go.Proofs.YtaiinjfnkmidbaaGreatDoor
open Go.RowKit
set_option linter.unusedVariables false

/-- A slice that holds something lies in another block than a row. -/
def Apart (u v : Value) : Prop := ∀ b off n c, u = .slice (some ⟨b, off, none⟩) n c → 0 < n → v.ownBlock ≠ some b
theorem Apart.of_owns {w : World} {B e size n : Nat} {u v : Value} {xs : List Value} (h : w.ownsRow B e size u n xs) (hv : ∀ g, v.ownBlock = some g → g < B) : Apart u v := by
  intro b off n' c hu hn hb
  have := hv b hb
  rcases h.2 with ⟨rfl, _⟩ | ⟨g, cap, cur, rfl, hg, _⟩
  · cases hu
  · injection hu with e _ _
    injection e with e
    injection e with e _ _
    omega
theorem owns_lt {w : World} {B e size n : Nat} {v : Value} {xs : List Value} (h : w.ownsRow B e size v n xs) : ∀ g, v.ownBlock = some g → g < w.heap.size := fun g hg => (h.lt g hg).2
end Go.Proofs.YtaiinjfnkmidbaaGreatDoor

namespace Go.Proofs.YtaiinjfnkmidbaaGreatDoor
open Go.RowKit
set_option linter.unusedVariables false

theorem append_keep {w : World} {ops : Array Oper} {rest : List Oper} {o : Oper} {a : Act} {Q : Exit → Act → World → Prop} (hw : Region.wanted o (yielded ops a.tmps) = true) (s x : Operand)
    (ho : o.op = .call { callee := .builtin .append, args := #[s, x], argTypes := #[31, 31] }) (base : Nat) (v : Value) (xs : List Int) (hs : a.eval s = v)
    (hown : w.ownsRow base 3 1 v xs.length (xs.map (Value.int .i64))) (u : Value) (ys : List Int) (hx : a.eval x = u) (hI : Ints w u ys) (hlen : xs.length + ys.length ≤ 100000) (hbase : base ≤ w.heap.size)
    (h : ∀ ao cap w', w'.ownsRow base 3 1 (.slice ao (xs ++ ys).length cap) (xs ++ ys).length ((xs ++ ys).map (Value.int .i64)) → Below base w w' → (∀ b k, b < w.heap.size → v.ownBlock ≠ some b → w'.cell? ⟨b, k, none⟩ = w.cell? ⟨b, k, none⟩) →
      wpList Tryz.prog ops Q rest (a.put o.dst (.slice ao (xs ++ ys).length cap)) w') : wpList Tryz.prog ops Q (o :: rest) a w := by
  obtain ⟨i0, hi, hz0, hz1, hz2⟩ := info_parts info3
  obtain ⟨ao, cap, rfl, hm, hn, hc⟩ := hI
  refine BigFrame.wpList_want hw fun K hK => ?_
  cases ao with
  | none =>
    have hy : ys = [] := by
      rcases hc with hc | ⟨b, off, e, _⟩
      · exact hc
      · cases e
    subst hy
    have hcap := hn rfl
    subst hcap
    have hrun := run_append_owned_none (P := Tryz.prog) (w := w) base 31 o.type 3 i0 1 Tryz.underlying31 hi v _ _ hown
    obtain ⟨ao, cap, hsh⟩ := owns_shape hown
    have hK' := hK _ _ (h ao cap w (by rw [List.append_nil, ← hsh]; exact hown) (Below.refl _ _) (fun _ _ _ _ => rfl))
    rw [List.append_nil, ← hsh] at hK'
    unfold Oper.wp
    simp only [List.length_nil] at hx
    simp [execOp, ho, resolve, invoke, builtin, hs, hx, hrun, Result.andThen]
    exact hK'
  | some ad =>
    refine wp_append_own w s x 31 ho base 3 i0 (.int .i64 0) 1 8 Tryz.underlying31 hi hz0 hz1 hz2 rfl (by decide) v _ _ hs hown ad ys.length cap (ys.map (Value.int .i64)) hx (by simp) ?_ ?_ (by unfold maxLen; omega) (by omega) hbase ?_
    · intro j u hj
      have hjl : j < ys.length := by
        rcases Nat.lt_or_ge j ys.length with h | h
        · exact h
        · simp [List.getElem?_eq_none (show (ys.map (Value.int .i64)).length ≤ j by simpa using h)] at hj
      rcases hc with hc | ⟨b, off, e, hc⟩
      · subst hc; simp at hjl
      · cases e
        have := hc j hjl
        simp [hjl] at hj
        subst hj
        by_cases hj0 : j = 0
        · subst hj0; simpa [Addr.add, hjl] using this
        · simpa [Addr.add, hj0, hjl] using this
    · intro u hu
      simp at hu
      obtain ⟨y, _, rfl⟩ := hu
      rfl
    · intro v' w' h1 h2 _
      have h1' : w'.ownsRow base 3 1 v' (xs ++ ys).length ((xs ++ ys).map (Value.int .i64)) := by simpa using h1
      obtain ⟨ao', cap', hsh⟩ := owns_shape h1'
      subst hsh
      exact hK _ _ (h ao' cap' w' h1' ((Below.refl _ _).grown h2 hbase (fun k hk => (hown.lt k hk).1)) (fun b k hb hne => h2.cell_far ⟨b, k, none⟩ hb (fun e => hne e.symm)))
theorem tot_few : ∀ (n : Nat) (l : List Int) (h : Int × Bool), l.length ≤ n → (M.Tot M.gk h l).1.length ≤ l.length
  | 0, l, h, hl => by
    have : l = [] := List.eq_nil_of_length_eq_zero (by omega)
    subst this; simp [M.Tot_nil]
  | n + 1, l, h, hl => by
    by_cases h0 : l = []
    · subst h0; simp [M.Tot_nil]
    · have hs := M.gk_size h l h0
      have hf := gk_few h l
      rw [M.Tot_step M.gk_size (s' := (M.gk h l).2.2) (o := (M.gk h l).1) (k := (M.gk h l).2.1) h0 rfl]
      have := tot_few n (l.drop (M.gk h l).2.1) (M.gk h l).2.2 (by simp; omega)
      simp only [List.length_append]
      rw [List.length_drop] at this
      omega
set_option maxHeartbeats 3000000 in
set_option maxRecDepth 100000 in
theorem tell_kana (D : Nat) (r : ByteArray) (t : M.St) (xs : List Int) (s : ByteArray) (w : World) (hg : M.Sg t.1) (hs : s.size ≤ 3003) (hx : xs.length ≤ 20000) (hD : Dl D 6 r t xs w) :
    Calls Tryz.prog 162 #[.pointer (some ⟨D, 0, none⟩), .string s] w fun e' w' => e' = .returned (.tuple #[]) ∧ ToldD D 6 r t xs (bl s) w w' := by
  obtain ⟨g, fr, st⟩ := t
  have H := fun w => tell_own g fr s w hg hs
  obtain ⟨L, g2, fr2, hT⟩ : ∃ L g2 fr2, M.Tot M.gk (g, fr) (bl s) = (L, (g2, fr2)) := ⟨_, _, _, rfl⟩
  have hll : L.length ≤ 3003 := by
    have := tot_few s.size (bl s) (g, fr) (by rw [bl_len]; exact Nat.le_refl _)
    rw [hT, bl_len] at this
    exact Nat.le_trans this hs
  have HE : Hid (M.TE 6 (g, fr, st) (bl s) = (L, (g2, fr2, st))) := hide (by rw [M.TE_K]; show ((M.Tot M.gk (g, fr) (bl s)).1, _, _, st) = _; rw [hT])
  rw [hT] at H
  obtain ⟨v, hC, ho⟩ := hD
  have HC := hide hC
  obtain ⟨c0, c1, c2, c3, c4, c5, f0, f1, f2, f3, f4, f5⟩ := hC
  have hDs : D < w.heap.size := World.block_lt_of_cell? w _ c0
  obtain ⟨ao, cap, hsh⟩ := owns_shape ho
  subst hsh
  have HO := hide ho
  clear ho hT hg
  go_enter Tryz.func162, Tryz.ntmps162
  go_wp2_with fail
  go_region_law ((go_simp; go_at_call 156; refine (H _).mono ?_; rintro e' w1 ⟨u, rfl, hI, hb⟩; obtain ⟨au, cu, hsu⟩ := owns_shape hI; subst hsu; (first
      | (have HW : Hid (Below w.heap.size w w1) := hide ((below_drewN (Below.refl _ w) 1).trans hb); have HI : Hid (w1.ownsRow w.heap.size 3 1 (.slice au L.length cu) L.length (L.map (Value.int .i64))) := hide hI)
      | (have HW : Hid (Below w.heap.size w w1) := hide ((below_drewN ((Below.refl _ w).alloc (Nat.le_refl _) _) 1).trans (hb.mono (by simp))); have HI : Hid (w1.ownsRow (w.heap.size + 1) 3 1 (.slice au L.length cu) L.length (L.map (Value.int .i64))) := hide (by simpa using hI); have q0 : w1.cell? ⟨w.heap.size, 0, none⟩ = some (.int .i64 0) := (hb.cell (p := ⟨w.heap.size, 0, none⟩) (by simp)).trans (by simp [go_sem]); have q1 : w1.cell? ⟨w.heap.size, 1, none⟩ = some (.bool false) := (hb.cell (p := ⟨w.heap.size, 1, none⟩) (by simp)).trans (by simp [go_sem]); have r0 : w1.frozen? ⟨w.heap.size, 0, none⟩ = false := (hb.frozen (p := ⟨w.heap.size, 0, none⟩) (by simp)).trans (by simp [go_sem]); have r1 : w1.frozen? ⟨w.heap.size, 1, none⟩ = false := (hb.frozen (p := ⟨w.heap.size, 1, none⟩) (by simp)).trans (by simp [go_sem]); have hq : w.heap.size < w1.heap.size := World.block_lt_of_cell? w1 _ q0)); clear hI hb))
  all_goals first
    | (skip
       have y0 : ((w1.setCell { block := w.heap.size, off := 0 } (Value.int IntKind.i64 g2)).setCell { block := w.heap.size, off := 1 } (Value.bool fr2)).cell? ⟨w.heap.size, 0, none⟩ = some (.int .i64 g2) := (World.cell?_setCell_other _ _ _ _ (by simp)).trans (World.cell?_setCell_same _ _ _ q0)
       have y1 : ((w1.setCell { block := w.heap.size, off := 0 } (Value.int IntKind.i64 g2)).setCell { block := w.heap.size, off := 1 } (Value.bool fr2)).cell? ⟨w.heap.size, 1, none⟩ = some (.bool fr2) := World.cell?_setCell_same _ _ _ ((World.cell?_setCell_other _ _ _ _ (by simp)).trans q1)
       have HX : Hid (Below w.heap.size w ((w1.setCell { block := w.heap.size, off := 0 } (Value.int IntKind.i64 g2)).setCell { block := w.heap.size, off := 1 } (Value.bool fr2))) := hide (bset (bset (unhide HW) ⟨w.heap.size, 0, none⟩ _ (Nat.le_refl _)) ⟨w.heap.size, 1, none⟩ _ (Nat.le_refl _))
       have HIX : Hid (Ints ((w1.setCell { block := w.heap.size, off := 0 } (Value.int IntKind.i64 g2)).setCell { block := w.heap.size, off := 1 } (Value.bool fr2)) (.slice au L.length cu) L) := hide (Ints.of_owns (owns_set (owns_set (unhide HI) ⟨w.heap.size, 0, none⟩ (Nat.lt_succ_self _) _) ⟨w.heap.size, 1, none⟩ (Nat.lt_succ_self _) _))
       have hBX : w.heap.size < ((w1.setCell { block := w.heap.size, off := 0 } (Value.int IntKind.i64 g2)).setCell { block := w.heap.size, off := 1 } (Value.bool fr2)).heap.size := World.block_lt_of_cell? _ _ y0
       generalize ((w1.setCell { block := w.heap.size, off := 0 } (Value.int IntKind.i64 g2)).setCell { block := w.heap.size, off := 1 } (Value.bool fr2)) = X at *
       have HCX := hide ((unhide HC).below ((unhide HX).mono hDs))
       have HOX := hide (owns_below (unhide HO) (unhide HX))
       have hne : (Value.slice ao xs.length cap).ownBlock ≠ some w.heap.size := fun h => by have h1 := owns_lt (unhide HO) _ h; have h2 := (unhide HW).size; omega
       have hzX := (unhide HX).size
       obtain ⟨d0, d1, d2, d3, d4, d5, k0, k1, k2, k3, k4, k5⟩ := unhide HCX
       go_wp2_with (at_builtin; refine append_keep rfl (.tmp 54) (.tmp 55) rfl (D + 1) _ xs rfl (unhide HOX) _ L rfl (unhide HIX) (by omega) (by omega) ?_)
       intro ao2 cap2 w2 ho2 hb2 hk2
       have HC2 := hide ((unhide HCX).below hb2)
       have HO2 : Hid (w2.ownsRow (D + 1) 3 1 (.slice ao2 (xs.length + L.length) cap2) (xs ++ L).length ((xs ++ L).map (Value.int .i64))) := hide (by simpa using ho2)
       have HB2 := hide (((unhide HX).mono (Nat.le_of_lt hDs)).trans (hb2.mono (Nat.le_succ D)))
       have z0 : w2.cell? ⟨w.heap.size, 0, none⟩ = some (.int .i64 g2) := (hk2 w.heap.size 0 hBX hne).trans y0
       have z1 : w2.cell? ⟨w.heap.size, 1, none⟩ = some (.bool fr2) := (hk2 w.heap.size 1 hBX hne).trans y1
       have hDB : D ≠ w.heap.size := by have h2 := (unhide HW).size; omega
       have hDB' : ¬ w.heap.size = D := fun h => hDB h.symm
       obtain ⟨i0, i1, i2, i3, i4, i5, j0, j1, j2, j3, j4, j5⟩ := unhide HC2
       have hD2 : D < w2.heap.size := World.block_lt_of_cell? w2 _ i0
       have hB2 : w.heap.size < w2.heap.size := World.block_lt_of_cell? w2 _ z0
       clear ho2 hb2 hk2 y0 y1 hne
       go_wp2_with fail
       go_region
       all_goals
         go_wp2_with fail
         go_end0
         refine ⟨rfl, ⟨_, by rw [unhide HE]; exact (((((unhide HC2).set5 _).set2 _).set3 _).below (below_drewN (Below.refl _ _) 1)), ?_⟩, below_drewN (bset (bset (bset (unhide HB2) ⟨D, 5, none⟩ _ (Nat.le_refl _)) ⟨D, 2, none⟩ _ (Nat.le_refl _)) ⟨D, 3, none⟩ _ (Nat.le_refl _)) 1⟩
         rw [unhide HE]
         exact owns_below (owns_set (owns_set (owns_set (unhide HO2) ⟨D, 5, none⟩ (Nat.lt_succ_self _) _) ⟨D, 2, none⟩ (Nat.lt_succ_self _) _) ⟨D, 3, none⟩ (Nat.lt_succ_self _) _) (below_drewN (Below.refl _ _) 1))
    | (skip
       have y0 : (w1.alloc (Obj.cells #[Value.int IntKind.i64 g2, Value.bool fr2] 165)).cell? ⟨w1.heap.size, 0, none⟩ = some (.int .i64 g2) := by simp [go_sem]
       have y1 : (w1.alloc (Obj.cells #[Value.int IntKind.i64 g2, Value.bool fr2] 165)).cell? ⟨w1.heap.size, 1, none⟩ = some (.bool fr2) := by simp [go_sem]
       have HX : Hid (Below w.heap.size w (w1.alloc (Obj.cells #[Value.int IntKind.i64 g2, Value.bool fr2] 165))) := hide (bstep (unhide HW) (balloc _ _))
       have HIX : Hid (Ints (w1.alloc (Obj.cells #[Value.int IntKind.i64 g2, Value.bool fr2] 165)) (.slice au L.length cu) L) := hide ((Ints.of_owns (unhide HI)).below (balloc _ _))
       have hBX : w1.heap.size < (w1.alloc (Obj.cells #[Value.int IntKind.i64 g2, Value.bool fr2] 165)).heap.size := by simp
       generalize w1.alloc (Obj.cells #[Value.int IntKind.i64 g2, Value.bool fr2] 165) = X at *
       have HCX := hide ((unhide HC).below ((unhide HX).mono hDs))
       have HOX := hide (owns_below (unhide HO) (unhide HX))
       have hne : (Value.slice ao xs.length cap).ownBlock ≠ some w1.heap.size := fun h => by have h1 := owns_lt (unhide HO) _ h; have h2 := (unhide HW).size; omega
       have hzX := (unhide HX).size
       obtain ⟨d0, d1, d2, d3, d4, d5, k0, k1, k2, k3, k4, k5⟩ := unhide HCX
       go_wp2_with (at_builtin; refine append_keep rfl (.tmp 54) (.tmp 55) rfl (D + 1) _ xs rfl (unhide HOX) _ L rfl (unhide HIX) (by omega) (by omega) ?_)
       intro ao2 cap2 w2 ho2 hb2 hk2
       have HC2 := hide ((unhide HCX).below hb2)
       have HO2 : Hid (w2.ownsRow (D + 1) 3 1 (.slice ao2 (xs.length + L.length) cap2) (xs ++ L).length ((xs ++ L).map (Value.int .i64))) := hide (by simpa using ho2)
       have HB2 := hide (((unhide HX).mono (Nat.le_of_lt hDs)).trans (hb2.mono (Nat.le_succ D)))
       have z0 : w2.cell? ⟨w1.heap.size, 0, none⟩ = some (.int .i64 g2) := (hk2 w1.heap.size 0 hBX hne).trans y0
       have z1 : w2.cell? ⟨w1.heap.size, 1, none⟩ = some (.bool fr2) := (hk2 w1.heap.size 1 hBX hne).trans y1
       have hDB : D ≠ w1.heap.size := by have h2 := (unhide HW).size; omega
       have hDB' : ¬ w1.heap.size = D := fun h => hDB h.symm
       obtain ⟨i0, i1, i2, i3, i4, i5, j0, j1, j2, j3, j4, j5⟩ := unhide HC2
       have hD2 : D < w2.heap.size := World.block_lt_of_cell? w2 _ i0
       have hB2 : w1.heap.size < w2.heap.size := World.block_lt_of_cell? w2 _ z0
       clear ho2 hb2 hk2 y0 y1 hne
       go_wp2_with fail
       go_region
       all_goals
         go_wp2_with fail
         go_end0
         refine ⟨rfl, ⟨_, by rw [unhide HE]; exact (((((unhide HC2).set5 _).set2 _).set3 _).below (below_drewN (Below.refl _ _) 1)), ?_⟩, below_drewN (bset (bset (bset (unhide HB2) ⟨D, 5, none⟩ _ (Nat.le_refl _)) ⟨D, 2, none⟩ _ (Nat.le_refl _)) ⟨D, 3, none⟩ _ (Nat.le_refl _)) 1⟩
         rw [unhide HE]
         exact owns_below (owns_set (owns_set (owns_set (unhide HO2) ⟨D, 5, none⟩ (Nat.lt_succ_self _) _) ⟨D, 2, none⟩ (Nat.lt_succ_self _) _) ⟨D, 3, none⟩ (Nat.lt_succ_self _) _) (below_drewN (Below.refl _ _) 1))
end Go.Proofs.YtaiinjfnkmidbaaGreatDoor

namespace Go.Proofs.YtaiinjfnkmidbaaGreatDoor
open Go.RowKit
set_option linter.unusedVariables false

theorem Dl.lt {D : Nat} {e : Int} {r : ByteArray} {t : M.St} {xs : List Int} {w : World} (h : Dl D e r t xs w) : D < w.heap.size := by
  obtain ⟨v, hC, _⟩ := h
  exact hC.lt
theorem Dl.below {D : Nat} {e : Int} {r : ByteArray} {t : M.St} {xs : List Int} {w w2 : World} (h : Dl D e r t xs w) (hb : Below w.heap.size w w2) : Dl D e r t xs w2 := by
  have hl := h.lt
  obtain ⟨v, hC, ho⟩ := h
  exact ⟨v, hC.below (hb.mono hl), owns_below ho hb⟩
theorem TE_5 {e : Int} (he : 1 ≤ e ∧ e ≤ 5) (t : M.St) (l : List Int) : M.TE e t l = (M.decE e l, t) := by
  obtain rfl | rfl | rfl | rfl | rfl : e = 1 ∨ e = 2 ∨ e = 3 ∨ e = 4 ∨ e = 5 := by omega
  · rw [M.TE_8, decE_1]
  · rw [decE_2, show (2 : Int) = (if false then 3 else 2) from rfl, M.TE_16]
  · rw [decE_3, show (3 : Int) = (if true then 3 else 2) from rfl, M.TE_16]
  · rw [decE_4, show (4 : Int) = (if false then 5 else 4) from rfl, M.TE_S]
  · rw [decE_5, show (5 : Int) = (if true then 5 else 4) from rfl, M.TE_S]
theorem dtell_any (D : Nat) (e : Int) (r : ByteArray) (t : M.St) (xs : List Int) (s : ByteArray) (w : World) (he : 1 ≤ e ∧ e ≤ 7) (hk : M.Sg t.1) (hs : s.size ≤ 3000) (hx : xs.length ≤ 20000) (hD : Dl D e r t xs w) :
    Calls Tryz.prog 162 #[.pointer (some ⟨D, 0, none⟩), .string s] w fun e' w' => e' = .returned (.tuple #[]) ∧ ToldD D e r t xs (bl s) w w' := by
  by_cases h5 : e ≤ 5
  · have hl := M.TE_few e _ t (bl s) (Nat.le_refl _)
    rw [TE_5 ⟨he.1, h5⟩, bl_len] at hl
    exact tell_plain D e r t xs s w ⟨he.1, h5⟩ hs hx (TE_5 ⟨he.1, h5⟩ t (bl s)) (Nat.le_trans hl hs) hD
  · obtain rfl | rfl : e = 6 ∨ e = 7 := by omega
    · exact tell_kana D r t xs s w hk (by omega) hx hD
    · cases ht : t.2.2
      · exact tell_stop D r t xs s w hx ht hD
      · exact tell_stopped D r t xs s w ht hD

/-- What take leaves: all is told but what waits. -/
def Taken (D : Nat) (e : Int) (t : M.St) (xs l : List Int) (w w' : World) : Prop :=
  ∃ r', bl r' = (M.RE e t l).2.2 ∧ Dl D e r' (M.RE e t l).2.1 (xs ++ (M.RE e t l).1) w' ∧ Below D w w'

set_option maxHeartbeats 1600000 in
set_option maxRecDepth 100000 in
theorem take_any (D : Nat) (e : Int) (r : ByteArray) (t : M.St) (xs : List Int) (p : ByteArray) (w : World) (he : 1 ≤ e ∧ e ≤ 7) (hk : M.Sg t.1) (hs : r.size + p.size ≤ 3000) (hx : xs.length ≤ 20000) (hD : Dl D e r t xs w) :
    Calls Tryz.prog 161 #[.pointer (some ⟨D, 0, none⟩), .string p] w fun e' w' => e' = .returned (.tuple #[]) ∧ Taken D e t xs (bl r ++ bl p) w w' := by
  have hsz : (r ++ p).size = r.size + p.size := by rw [← bl_len, bl_app, List.length_append, bl_len, bl_len]
  have hwb := M.wE_bd he (bl (r ++ p))
  rw [bl_len, hsz] at hwb
  have H := fun w => waits_any e (r ++ p) w he (by rw [hsz]; unfold maxLen; omega) (fun _ => by rw [hsz]; exact hs)
  have HT := M.TE_take he t (bl (r ++ p))
  have HR := M.RE_rest he t (bl (r ++ p))
  rw [bl_len, hsz] at HT HR
  rw [← bl_app]
  obtain ⟨n, hn⟩ : ∃ n : Nat, M.wE e (bl (r ++ p)) = n := ⟨(M.wE e (bl (r ++ p))).toNat, by omega⟩
  rw [hn] at H hwb HT HR
  rw [Int.toNat_natCast] at HT HR
  obtain ⟨k, hkk⟩ : ∃ k : Nat, r.size + p.size = k + n := ⟨r.size + p.size - n, by omega⟩
  rw [hkk, Nat.add_sub_cancel] at HT HR
  have hk3 : k ≤ 3000 := by omega
  have hn3 : n ≤ 3 := by omega
  obtain ⟨q, HQ⟩ : ∃ q, Hid (r ++ p = q) := ⟨_, hide rfl⟩
  have hqs : q.size = k + n := by rw [← unhide HQ, hsz, hkk]
  have HT1 : Hid (M.TE e t (bl (q.extract 0 k)) = ((M.RE e t (bl q)).1, (M.RE e t (bl q)).2.1)) := hide (by rw [bl_take, ← unhide HQ]; exact HT)
  have HR1 : Hid (bl (q.extract k q.size) = (M.RE e t (bl q)).2.2) := hide (by rw [bl_extract, ← unhide HQ]; exact HR.symm)
  rw [unhide HQ] at H
  rw [unhide HQ]
  have hrp : r.size + p.size ≤ 3000 := hs
  have HD := hide hD
  have hDs := hD.lt
  obtain ⟨v, hC, ho⟩ := hD
  obtain ⟨c0, c1, c2, c3, c4, c5, f0, f1, f2, f3, f4, f5⟩ := hC
  have hqk : (q.size : Int) - (n : Int) = (k : Int) := by omega
  have HQS := hide hqs
  have hr0 : r.size ≤ 3000 := by omega
  have hp0 : p.size ≤ 3000 := by omega
  have hcat := unhide HQ
  clear hsz hwb HT HR hn hkk hqs ho hs
  go_enter Tryz.func161, Tryz.ntmps161
  go_wp2_with fail
  refine (H _).mono ?_
  rintro e' w1 ⟨rfl, hb1⟩
  have HD1 := hide ((unhide HD).below hb1)
  have HB1 := hide hb1
  have hkq : k ≤ q.size := by have := unhide HQS; omega
  clear hb1 H hcat
  go_wp2_with fail
  refine (dtell_any D e r t xs (q.extract 0 k) _ he hk (by have := unhide HQS; simp; omega) hx (unhide HD1)).mono ?_
  rintro e' w2 ⟨rfl, hD2, hb2⟩
  rw [unhide HT1] at hD2
  have HD2 := hide hD2
  have HB2 := hide (((unhide HB1).mono (Nat.le_of_lt hDs)).trans hb2)
  clear hD2 hb2
  have hcl : (q.extract k q.size).size ≤ 3000 := by have := unhide HQS; simp; omega
  go_wp2_with fail
  refine (clone_any (q.extract k q.size) _ (Nat.le_trans hcl (by decide))).mono ?_
  rintro e' w3 ⟨rfl, hb3⟩
  have HD3 := hide ((unhide HD2).below hb3)
  have HB3 := hide ((unhide HB2).trans (hb3.mono (Nat.le_of_lt (unhide HD2).lt)))
  obtain ⟨v3, hC3, ho3⟩ := unhide HD3
  have HC3 := hide hC3
  have HO3 := hide ho3
  obtain ⟨d0, d1, d2, d3, d4, d5, k0, k1, k2, k3, k4, k5⟩ := hC3
  have hD3 : D < w3.heap.size := World.block_lt_of_cell? w3 _ d0
  clear hb3 ho3
  generalize q.extract k q.size = z at *
  go_wp2_with fail
  go_end0
  exact ⟨rfl, z, unhide HR1, ⟨v3, (unhide HC3).set1 z, owns_set (unhide HO3) ⟨D, 1, none⟩ (Nat.lt_succ_self _) _⟩, bset (unhide HB3) ⟨D, 1, none⟩ _ (Nat.le_refl _)⟩

theorem Taken.app {D : Nat} {e : Int} {t : M.St} {xs l m : List Int} {w w1 w2 : World} (h1 : Below D w w1) (h2 : Taken D e (M.RE e t l).2.1 (xs ++ (M.RE e t l).1) ((M.RE e t l).2.2 ++ m) w1 w2) : Taken D e t xs (l ++ m) w w2 := by
  obtain ⟨r', e1, e2, e3⟩ := h2
  refine ⟨r', ?_, ?_, h1.trans e3⟩
  · rw [M.RE_app]; exact e1
  · rw [M.RE_app]; rw [List.append_assoc] at e2; exact e2

set_option maxHeartbeats 1600000 in
set_option maxRecDepth 100000 in
theorem feed_short (D : Nat) (e : Int) (r : ByteArray) (t : M.St) (xs : List Int) (p : ByteArray) (w : World) (he : 1 ≤ e ∧ e ≤ 7) (hk : M.Sg t.1) (hr : r.size ≤ 3) (hs : p.size ≤ 2997) (hx : xs.length ≤ 10000) (hD : Dl D e r t xs w) :
    Calls Tryz.prog 100 #[.pointer (some ⟨D, 0, none⟩), .string p] w fun e' w' => e' = .returned (.tuple #[]) ∧ Taken D e t xs (bl r ++ bl p) w w' := by
  have H := take_any D e r t xs p w he hk (by omega) (by omega) hD
  go_enter Tryz.func100, Tryz.ntmps100
  go_wp2_with fail
  refine wp_loop_rounds 1 ?_
  rw [rounds_succ]
  go_wp2_with fail
  refine H.mono ?_
  rintro e' w1 ⟨rfl, hT⟩
  have HT := hide hT
  clear hT H
  go_wp2_with fail
  go_end0
  exact ⟨rfl, unhide HT⟩
set_option maxHeartbeats 1600000 in
set_option maxRecDepth 100000 in
theorem feed_great (D : Nat) (e : Int) (r : ByteArray) (t : M.St) (xs : List Int) (p : ByteArray) (w : World) (he : 1 ≤ e ∧ e ≤ 7) (hk : M.Ok e t) (hr : r.size ≤ 3) (hs : 2997 < p.size) (hs2 : p.size ≤ 3000) (hx : xs.length ≤ 10000) (hD : Dl D e r t xs w) :
    Calls Tryz.prog 100 #[.pointer (some ⟨D, 0, none⟩), .string p] w fun e' w' => e' = .returned (.tuple #[]) ∧ Taken D e t xs (bl r ++ bl p) w w' := by
  have H1 := take_any D e r t xs (p.extract 0 2997) w he hk.1 (by simp; omega) (by omega) hD
  have hO := M.Ok_run he hk (bl r ++ bl (p.extract 0 2997))
  have hF := M.RE_few he t (bl r ++ bl (p.extract 0 2997))
  have hL := M.RE_out he t (bl r ++ bl (p.extract 0 2997))
  rw [List.length_append, bl_len, bl_len] at hL
  have hz1 : (p.extract 0 2997).size = 2997 := by simp; omega
  have hz2 : (p.extract 2997 p.size).size ≤ 3 := by simp; omega
  rw [hz1] at hL
  have HS : Hid (bl r ++ bl p = (bl r ++ bl (p.extract 0 2997)) ++ bl (p.extract 2997 p.size)) := hide (by rw [bl_take, bl_extract, List.append_assoc, List.take_append_drop])
  have HG : Hid (∀ w1 w2, Below D w w1 → Taken D e (M.RE e t (bl r ++ bl (p.extract 0 2997))).2.1 (xs ++ (M.RE e t (bl r ++ bl (p.extract 0 2997))).1) ((M.RE e t (bl r ++ bl (p.extract 0 2997))).2.2 ++ bl (p.extract 2997 p.size)) w1 w2 → Taken D e t xs (bl r ++ bl p) w w2) := hide (fun w1 w2 h1 h2 => by
    rw [unhide HS]; exact Taken.app h1 h2)
  generalize hRE : M.RE e t (bl r ++ bl (p.extract 0 2997)) = R at *
  have hz3 : (p.extract 2997 p.size).size ≤ 2997 := by omega
  obtain ⟨b, HBq⟩ : ∃ b, Hid (p.extract 2997 p.size = b) := ⟨_, hide rfl⟩
  rw [unhide HBq] at hz2 hz3 HG
  have hbq := unhide HBq
  have hb0 : b.size ≤ 3 := hz2
  go_enter Tryz.func100, Tryz.ntmps100
  go_wp2_with fail
  refine wp_loop_rounds 2 ?_
  rw [rounds_succ]
  go_wp2_with fail
  refine H1.mono ?_
  rintro e' w1 ⟨rfl, r', hr', hD1, hB1⟩
  rw [hRE] at hr' hD1
  have hr3 : r'.size ≤ 3 := by rw [← bl_len, hr']; exact hF
  have H2 := take_any D e r' R.2.1 (xs ++ R.1) b w1 he hO.1 (by omega) (by simp; omega) hD1
  rw [hr'] at H2
  have HB1 := hide hB1
  clear H1 hD1 hB1
  go_wp2_with fail
  rw [rounds_succ]
  go_wp2_with fail
  refine H2.mono ?_
  rintro e' w2 ⟨rfl, hT⟩
  have HT := hide (unhide HG w1 w2 (unhide HB1) hT)
  clear hT H2
  go_wp2_with fail
  go_end0
  exact ⟨rfl, unhide HT⟩

set_option maxHeartbeats 1600000 in
set_option maxRecDepth 100000 in
theorem end_any (D : Nat) (e : Int) (r : ByteArray) (t : M.St) (xs : List Int) (w : World) (he : 1 ≤ e ∧ e ≤ 7) (hk : M.Sg t.1) (hr : r.size ≤ 3) (hx : xs.length ≤ 20000) (hD : Dl D e r t xs w) :
    Calls Tryz.prog 101 #[.pointer (some ⟨D, 0, none⟩)] w fun e' w' => e' = .returned (.tuple #[]) ∧ Dl D e ⟨#[]⟩ M.st0 (xs ++ (M.TE e t (bl r)).1) w' ∧ Below D w w' := by
  have H := dtell_any D e r t xs r w he hk (by omega) hx hD
  have hDs := hD.lt
  obtain ⟨v, hC, ho⟩ := hD
  obtain ⟨c0, c1, c2, c3, c4, c5, f0, f1, f2, f3, f4, f5⟩ := hC
  clear ho
  go_enter Tryz.func101, Tryz.ntmps101
  go_wp2_with fail
  refine H.mono ?_
  rintro e' w1 ⟨rfl, hD1, hB1⟩
  have HB1 := hide hB1
  obtain ⟨v1, hC1, ho1⟩ := hD1
  have HC1 := hide hC1
  have HO1 := hide ho1
  generalize (M.TE e t (bl r)).2 = t1 at *
  obtain ⟨d0, d1, d2, d3, d4, d5, k0, k1, k2, k3, k4, k5⟩ := hC1
  have hD1 : D < w1.heap.size := World.block_lt_of_cell? w1 _ d0
  clear H hB1 ho1
  go_wp2_with fail
  go_end0
  refine ⟨rfl, ⟨v1, ?_, ?_⟩, ?_⟩
  · exact (((((unhide HC1).set0 e).set1 ⟨#[]⟩).set2 0).set3 false).set4 false
  · exact owns_set (owns_set (owns_set (owns_set (owns_set (unhide HO1) ⟨D, 0, none⟩ (Nat.lt_succ_self _) _) ⟨D, 1, none⟩ (Nat.lt_succ_self _) _) ⟨D, 2, none⟩ (Nat.lt_succ_self _) _) ⟨D, 3, none⟩ (Nat.lt_succ_self _) _) ⟨D, 4, none⟩ (Nat.lt_succ_self _) _
  · exact bset (bset (bset (bset (bset (unhide HB1) ⟨D, 0, none⟩ _ (Nat.le_refl _)) ⟨D, 1, none⟩ _ (Nat.le_refl _)) ⟨D, 2, none⟩ _ (Nat.le_refl _)) ⟨D, 3, none⟩ _ (Nat.le_refl _)) ⟨D, 4, none⟩ _ (Nat.le_refl _)
end Go.Proofs.YtaiinjfnkmidbaaGreatDoor
