/- The contracts of strings.HasSuffix (at what it is handed here), shift.Waits, stream.waitingUnits, stream.stop: each returns what the plain function of its name computes; nothing that was there is written. -/
import Derived.Test.YtpjhcecfcjbgoaaKC
import Derived.Test.YtpjhcecfcjbgoaaSA
import Derived.Test.YtpjhcecfcjbgoaaSame
import Derived.Test.YtpjhcecfcjbgoaaMathX
namespace Go.Proofs.Ytpjhcecfcjbgoaa
open Go.RowKit
set_option linter.unusedVariables false

theorem beq_nums (u : ByteArray) (ms : List Int) (cs : List UInt8) (hc : (strOfNums ms).toList = cs) (hb : bl (strOfNums ms) = ms) : (u.toList == cs) = decide (bl u = ms) := by
  rw [Bool.eq_iff_iff]
  simp only [beq_iff_eq, decide_eq_true_eq]
  constructor
  · intro h
    have : u = strOfNums ms := by
      apply ByteArray.ext
      apply Array.ext'
      rw [← Lib.toList_data, ← Lib.toList_data, h, hc]
    rw [this, hb]
  · intro h
    have : u = strOfNums ms := by rw [← h, str_bl]
    rw [this, hc]
theorem suffix_dec (s : ByteArray) (ms : List Int) (h : ms.length ≤ s.size) : decide (bl (s.extract (s.size - ms.length) s.size) = ms) = decide (ms <:+ bl s) := by
  rw [bl_extract, Bool.eq_iff_iff]
  simp only [decide_eq_true_eq]
  rw [List.suffix_iff_eq_drop, bl_len]
  exact eq_comm
theorem suffix_short (s : ByteArray) (ms : List Int) (h : s.size < ms.length) : decide (ms <:+ bl s) = false := by
  simp only [decide_eq_false_iff_not]
  intro hs
  have := hs.length_le
  rw [bl_len] at this
  omega
set_option maxHeartbeats 400000 in
set_option maxRecDepth 100000 in
theorem suffix2_any (s : ByteArray) (w : World) (hm : s.size ≤ maxLen) : Calls Try.prog 49 #[.string s, .string ⟨#[27, 40]⟩] w fun e w' => e = .returned (.bool (decide ([27, 40] <:+ bl s))) ∧ w' = w := by
  unfold maxLen at hm
  have hz : (⟨#[27, 40]⟩ : ByteArray).size = 2 := rfl
  by_cases h : 2 ≤ s.size
  · have HE : Hid (((s.extract (s.size - 2) s.size).toList == ([27, 40] : List UInt8)) = decide ([27, 40] <:+ bl s)) := hide (by
      rw [beq_nums _ [27, 40] _ (by rw [Lib.toList_data]; rfl) (by decide)]
      exact suffix_dec s [27, 40] h)
    go_enter Try.func49, Try.ntmps49
    go_wp2
    go_ret
    refine ⟨?_, rfl⟩
    rw [← unhide HE]; rfl
  · have HE : Hid (decide ([27, 40] <:+ bl s) = false) := hide (suffix_short s [27, 40] (show s.size < 2 by omega))
    go_enter Try.func49, Try.ntmps49
    go_wp2
    go_ret
    refine ⟨?_, rfl⟩
    rw [unhide HE]; rfl
set_option maxHeartbeats 400000 in
set_option maxRecDepth 100000 in
theorem suffix1_any (s : ByteArray) (w : World) (hm : s.size ≤ maxLen) : Calls Try.prog 49 #[.string s, .string ⟨#[27]⟩] w fun e w' => e = .returned (.bool (decide ([27] <:+ bl s))) ∧ w' = w := by
  unfold maxLen at hm
  have hz : (⟨#[27]⟩ : ByteArray).size = 1 := rfl
  by_cases h : 1 ≤ s.size
  · have HE : Hid (((s.extract (s.size - 1) s.size).toList == ([27] : List UInt8)) = decide ([27] <:+ bl s)) := hide (by
      rw [beq_nums _ [27] _ (by rw [Lib.toList_data]; rfl) (by decide)]
      exact suffix_dec s [27] h)
    go_enter Try.func49, Try.ntmps49
    go_wp2
    go_ret
    refine ⟨?_, rfl⟩
    rw [← unhide HE]; rfl
  · have HE : Hid (decide ([27] <:+ bl s) = false) := hide (suffix_short s [27] (show s.size < 1 by omega))
    go_enter Try.func49, Try.ntmps49
    go_wp2
    go_ret
    refine ⟨?_, rfl⟩
    rw [unhide HE]; rfl

set_option maxHeartbeats 800000 in
set_option maxRecDepth 100000 in
theorem waitsK_any (s : ByteArray) (w : World) (hm : s.size ≤ maxLen) : Calls Try.prog 37 #[.string s] w fun e w' => e = .returned (.int .i64 (M.wk (bl s) : Nat)) ∧ w' = w := by
  have s2 := fun w => suffix2_any s w hm
  have s1 := fun w => suffix1_any s w hm
  have hx : (⟨#[27, 40]⟩ : ByteArray).extract 0 1 = ⟨#[27]⟩ := by decide
  have hx2 : (⟨#[27, 40]⟩ : ByteArray).extract 0 2 = ⟨#[27, 40]⟩ := by decide
  have hz : (⟨#[27, 40]⟩ : ByteArray).size = 2 := rfl
  cases h2 : decide (([27, 40] : List Int) <:+ bl s)
  · rw [h2] at s2
    cases h1 : decide (([27] : List Int) <:+ bl s)
    · rw [h1] at s1
      have HW : Hid (M.wk (bl s) = 0) := hide (by unfold M.wk; rw [if_neg (of_decide_eq_false h2), if_neg (of_decide_eq_false h1)])
      clear h1 h2
      go_enter Try.func37, Try.ntmps37
      go_wp2_with fail
      refine wp_loop_rounds 3 ?_
      rw [rounds_succ]
      go_wp2_with fail
      refine (s2 _).mono ?_
      rintro e w1 ⟨rfl, hw⟩
      replace hw := hw.symm
      subst hw
      go_wp2_with fail
      rw [rounds_succ]
      go_wp2_with fail
      refine (s1 _).mono ?_
      rintro e w1 ⟨rfl, hw⟩
      replace hw := hw.symm
      subst hw
      go_wp2_with fail
      rw [rounds_succ]
      go_wp2_with fail
      go_ret
      refine ⟨?_, rfl⟩
      rw [unhide HW]; rfl
    · rw [h1] at s1
      have HW : Hid (M.wk (bl s) = 1) := hide (by unfold M.wk; rw [if_neg (of_decide_eq_false h2), if_pos (of_decide_eq_true h1)])
      clear h1 h2
      go_enter Try.func37, Try.ntmps37
      go_wp2_with fail
      refine wp_loop_rounds 3 ?_
      rw [rounds_succ]
      go_wp2_with fail
      refine (s2 _).mono ?_
      rintro e w1 ⟨rfl, hw⟩
      replace hw := hw.symm
      subst hw
      go_wp2_with fail
      rw [rounds_succ]
      go_wp2_with fail
      refine (s1 _).mono ?_
      rintro e w1 ⟨rfl, hw⟩
      replace hw := hw.symm
      subst hw
      go_wp2_with fail
      go_ret
      refine ⟨?_, rfl⟩
      rw [unhide HW]; rfl
  · rw [h2] at s2
    have HW : Hid (M.wk (bl s) = 2) := hide (by unfold M.wk; rw [if_pos (of_decide_eq_true h2)])
    clear h2
    go_enter Try.func37, Try.ntmps37
    go_wp2_with fail
    refine wp_loop_rounds 3 ?_
    rw [rounds_succ]
    go_wp2_with fail
    refine (s2 _).mono ?_
    rintro e w1 ⟨rfl, hw⟩
    replace hw := hw.symm
    subst hw
    go_wp2_with fail
    go_ret
    refine ⟨?_, rfl⟩
    rw [unhide HW]; rfl

namespace M
theorem lastW_at (big : Bool) : ∀ (n : Nat) (l : List Int), l.length ≤ n → 2 ≤ l.length → lastW big l = ut big (l.getD (l.length - l.length % 2 - 2) 0) (l.getD (l.length - l.length % 2 - 1) 0)
  | 0, l, h, h2 => by omega
  | n + 1, l, h, h2 => by
    match l, h2 with
    | [a, b], _ => simp [lastW]
    | [a, b, c], _ => simp [lastW]
    | a :: b :: c :: d :: t, _ =>
      rw [lastW_drop big a b (by simp), lastW_at big n (c :: d :: t) (by simp at h; simp; omega) (by simp)]
      have e1 : (a :: b :: c :: d :: t).length - (a :: b :: c :: d :: t).length % 2 - 2 = ((c :: d :: t).length - (c :: d :: t).length % 2 - 2) + 2 := by simp; omega
      have e2 : (a :: b :: c :: d :: t).length - (a :: b :: c :: d :: t).length % 2 - 1 = ((c :: d :: t).length - (c :: d :: t).length % 2 - 1) + 2 := by simp; omega
      rw [e1, e2]
      rfl
theorem fst_ut (big : Bool) {a b : Int} (ha : 0 ≤ a ∧ a ≤ 255) (hb : 0 ≤ b ∧ b ≤ 255) : fst16 (ut big a b) = decide (216 ≤ (if big then a else b) ∧ (if big then a else b) ≤ 219) := by
  unfold fst16 ut
  rw [Bool.eq_iff_iff]
  simp only [decide_eq_true_eq]
  cases big
  · simp only [Bool.false_eq_true, if_false]; omega
  · simp only [if_true]; omega
end M
theorem bl_getD (s : ByteArray) (k : Nat) (h : k < s.size) : (bl s).getD k 0 = (s[k].toNat : Int) := by
  simp [List.getD_eq_getElem?_getD, bl_get s k h]
/-- How many bytes of UTF-16 wait, by the bytes themselves. -/
theorem wu_at (big : Bool) (s : ByteArray) (m : Nat) (h : Nat) (hm : 2 ≤ m) (hh : h < 2) (he : s.size = m + h) (hev : m % 2 = 0) :
    M.wu big (bl s) = h + (if 216 ≤ (if big then ((s[m - 2]'(by omega)).toNat : Int) else ((s[m - 1]'(by omega)).toNat : Int)) ∧ (if big then ((s[m - 2]'(by omega)).toNat : Int) else ((s[m - 1]'(by omega)).toNat : Int)) ≤ 219 then 2 else 0) := by
  have hmod : s.size % 2 = h := by omega
  have h1 := (s[m - 2]'(by omega)).toNat_lt
  have h2 := (s[m - 1]'(by omega)).toNat_lt
  unfold M.wu
  rw [bl_len, hmod, M.lastW_at big _ (bl s) (Nat.le_refl _) (by rw [bl_len]; omega), bl_len, hmod, show s.size - h - 2 = m - 2 from by omega, show s.size - h - 1 = m - 1 from by omega, bl_getD s (m - 2) (by omega), bl_getD s (m - 1) (by omega), M.fst_ut big (by omega) (by omega)]
  simp only [decide_eq_true_eq]
theorem wu_few (big : Bool) (s : ByteArray) (h : s.size < 2) : M.wu big (bl s) = s.size := by
  unfold M.wu
  rw [bl_len]
  have : M.lastW big (bl s) = 0 := by
    have hl := bl_len s
    match hb : bl s, hl with
    | [], _ => rfl
    | [a], _ => rfl
    | a :: b :: t, hl => simp at hl; omega
  rw [this, M.fst16_0]
  simp; omega

theorem owns_one (w : World) (x : Int) : (w.alloc (.cells #[.int .i64 x] 3)).ownsRow w.heap.size 3 1 (.slice (some ⟨w.heap.size, 0, none⟩) 1 1) 1 [.int .i64 x] :=
  ⟨rfl, .inr ⟨w.heap.size, 1, #[.int .i64 x], rfl, Nat.le_refl _, heap_alloc_new w _, Nat.le_refl _, by decide, rfl, rfl⟩⟩
set_option maxHeartbeats 800000 in
set_option maxRecDepth 100000 in
theorem units_few (big : Bool) (s : ByteArray) (w : World) (h : s.size < 2) : Calls Try.prog 36 #[.bool big, .string s] w fun e w' => e = .returned (.int .i64 (M.wu big (bl s) : Nat)) ∧ w' = w := by
  have HW := hide (wu_few big s h)
  have hmod : (s.size : Int) % 2 = (s.size : Int) := by omega
  have hx : (s.extract 0 0).toList.isEmpty = true := by rw [isEmpty_size]; simp
  go_enter Try.func36, Try.ntmps36
  go_wp2_with fail
  go_ret
  refine ⟨?_, rfl⟩
  rw [unhide HW]; exact ret_int hmod
set_option maxHeartbeats 800000 in
set_option maxRecDepth 100000 in
theorem units_big0 (s : ByteArray) (w : World) (c : Int) (h : 2 ≤ s.size) (hm : s.size ≤ maxLen) (hev : s.size % 2 = 0) (hc : ((s[s.size - 2]'(by omega)).toNat : Int) = c) (r : Int) (hr : r = 0 + if 216 ≤ c ∧ c ≤ 219 then 2 else 0) :
    Calls Try.prog 36 #[.bool true, .string s] w fun e w' => e = .returned (.int .i64 r) ∧ w' = w := by
  unfold maxLen at hm
  have hc0 : 0 ≤ c := by omega
  have hc1 : c < 256 := by have := (s[s.size - 2]'(by omega)).toNat_lt; omega
  have hmod : (s.size : Int) % 2 = 0 := by omega
  have hx : s.toList.isEmpty = false := by rw [isEmpty_size]; exact decide_eq_false (by omega)
  have hi : (s.size : Int) - 2 = ((s.size - 2 : Nat) : Int) := by omega
  have hi1 : (s.size : Int) - 1 = ((s.size - 1 : Nat) : Int) := by omega
  by_cases h1 : 216 ≤ c
  · by_cases h2 : c ≤ 219
    · rw [if_pos ⟨h1, h2⟩] at hr
      subst hr
      go_enter Try.func36, Try.ntmps36
      go_wp2_with fail
      go_ret
      exact ⟨rfl, rfl⟩
    · rw [if_neg (by omega)] at hr
      subst hr
      go_enter Try.func36, Try.ntmps36
      go_wp2_with fail
      go_ret
      exact ⟨rfl, rfl⟩
  · rw [if_neg (by omega)] at hr
    subst hr
    go_enter Try.func36, Try.ntmps36
    go_wp2_with fail
    go_ret
    exact ⟨rfl, rfl⟩
set_option maxHeartbeats 800000 in
set_option maxRecDepth 100000 in
theorem units_lit0 (s : ByteArray) (w : World) (c : Int) (h : 2 ≤ s.size) (hm : s.size ≤ maxLen) (hev : s.size % 2 = 0) (hc : ((s[s.size - 1]'(by omega)).toNat : Int) = c) (r : Int) (hr : r = 0 + if 216 ≤ c ∧ c ≤ 219 then 2 else 0) :
    Calls Try.prog 36 #[.bool false, .string s] w fun e w' => e = .returned (.int .i64 r) ∧ w' = w := by
  unfold maxLen at hm
  have hc0 : 0 ≤ c := by omega
  have hc1 : c < 256 := by have := (s[s.size - 1]'(by omega)).toNat_lt; omega
  have hmod : (s.size : Int) % 2 = 0 := by omega
  have hx : s.toList.isEmpty = false := by rw [isEmpty_size]; exact decide_eq_false (by omega)
  have hi : (s.size : Int) - 2 = ((s.size - 2 : Nat) : Int) := by omega
  have hi1 : (s.size : Int) - 1 = ((s.size - 1 : Nat) : Int) := by omega
  by_cases h1 : 216 ≤ c
  · by_cases h2 : c ≤ 219
    · rw [if_pos ⟨h1, h2⟩] at hr
      subst hr
      go_enter Try.func36, Try.ntmps36
      go_wp2_with fail
      go_ret
      exact ⟨rfl, rfl⟩
    · rw [if_neg (by omega)] at hr
      subst hr
      go_enter Try.func36, Try.ntmps36
      go_wp2_with fail
      go_ret
      exact ⟨rfl, rfl⟩
  · rw [if_neg (by omega)] at hr
    subst hr
    go_enter Try.func36, Try.ntmps36
    go_wp2_with fail
    go_ret
    exact ⟨rfl, rfl⟩
set_option maxHeartbeats 800000 in
set_option maxRecDepth 100000 in
theorem units_big1 (s : ByteArray) (w : World) (c : Int) (h : 3 ≤ s.size) (hm : s.size ≤ maxLen) (hev : s.size % 2 = 1) (hc : ((s[s.size - 3]'(by omega)).toNat : Int) = c) (r : Int) (hr : r = 1 + if 216 ≤ c ∧ c ≤ 219 then 2 else 0) :
    Calls Try.prog 36 #[.bool true, .string s] w fun e w' => e = .returned (.int .i64 r) ∧ w' = w := by
  unfold maxLen at hm
  have hc0 : 0 ≤ c := by omega
  have hc1 : c < 256 := by have := (s[s.size - 3]'(by omega)).toNat_lt; omega
  have hmod : (s.size : Int) % 2 = 1 := by omega
  have hx : (s.extract 0 (s.size - 1)).toList.isEmpty = false := by rw [isEmpty_size]; simp; omega
  have hsz : (s.extract 0 (s.size - 1)).size = s.size - 1 := by simp
  have hi : (s.size : Int) - 1 = ((s.size - 1 : Nat) : Int) := by omega
  have hi1 : ((s.size - 1 : Nat) : Int) - 1 = ((s.size - 2 : Nat) : Int) := by omega
  have hi2 : ((s.size - 1 : Nat) : Int) - 2 = ((s.size - 3 : Nat) : Int) := by omega
  have hg : (((s.extract 0 (s.size - 1))[s.size - 3]'(by simp; omega)).toNat : Int) = c := by rw [← hc]; simp [ByteArray.getElem_extract]
  by_cases h1 : 216 ≤ c
  · by_cases h2 : c ≤ 219
    · rw [if_pos ⟨h1, h2⟩] at hr
      subst hr
      go_enter Try.func36, Try.ntmps36
      go_wp2_with fail
      go_ret
      exact ⟨rfl, rfl⟩
    · rw [if_neg (by omega)] at hr
      subst hr
      go_enter Try.func36, Try.ntmps36
      go_wp2_with fail
      go_ret
      exact ⟨rfl, rfl⟩
  · rw [if_neg (by omega)] at hr
    subst hr
    go_enter Try.func36, Try.ntmps36
    go_wp2_with fail
    go_ret
    exact ⟨rfl, rfl⟩
set_option maxHeartbeats 800000 in
set_option maxRecDepth 100000 in
theorem units_lit1 (s : ByteArray) (w : World) (c : Int) (h : 3 ≤ s.size) (hm : s.size ≤ maxLen) (hev : s.size % 2 = 1) (hc : ((s[s.size - 2]'(by omega)).toNat : Int) = c) (r : Int) (hr : r = 1 + if 216 ≤ c ∧ c ≤ 219 then 2 else 0) :
    Calls Try.prog 36 #[.bool false, .string s] w fun e w' => e = .returned (.int .i64 r) ∧ w' = w := by
  unfold maxLen at hm
  have hc0 : 0 ≤ c := by omega
  have hc1 : c < 256 := by have := (s[s.size - 2]'(by omega)).toNat_lt; omega
  have hmod : (s.size : Int) % 2 = 1 := by omega
  have hx : (s.extract 0 (s.size - 1)).toList.isEmpty = false := by rw [isEmpty_size]; simp; omega
  have hsz : (s.extract 0 (s.size - 1)).size = s.size - 1 := by simp
  have hi : (s.size : Int) - 1 = ((s.size - 1 : Nat) : Int) := by omega
  have hi1 : ((s.size - 1 : Nat) : Int) - 1 = ((s.size - 2 : Nat) : Int) := by omega
  have hi2 : ((s.size - 1 : Nat) : Int) - 2 = ((s.size - 3 : Nat) : Int) := by omega
  have hg : (((s.extract 0 (s.size - 1))[s.size - 2]'(by simp; omega)).toNat : Int) = c := by rw [← hc]; simp [ByteArray.getElem_extract]
  by_cases h1 : 216 ≤ c
  · by_cases h2 : c ≤ 219
    · rw [if_pos ⟨h1, h2⟩] at hr
      subst hr
      go_enter Try.func36, Try.ntmps36
      go_wp2_with fail
      go_ret
      exact ⟨rfl, rfl⟩
    · rw [if_neg (by omega)] at hr
      subst hr
      go_enter Try.func36, Try.ntmps36
      go_wp2_with fail
      go_ret
      exact ⟨rfl, rfl⟩
  · rw [if_neg (by omega)] at hr
    subst hr
    go_enter Try.func36, Try.ntmps36
    go_wp2_with fail
    go_ret
    exact ⟨rfl, rfl⟩
theorem units_any (big : Bool) (s : ByteArray) (w : World) (hm : s.size ≤ maxLen) : Calls Try.prog 36 #[.bool big, .string s] w fun e w' => e = .returned (.int .i64 (M.wu big (bl s) : Nat)) ∧ w' = w := by
  by_cases h : s.size < 2
  · exact units_few big s w h
  · by_cases hev : s.size % 2 = 0
    · have e := wu_at big s s.size 0 (by omega) (by omega) rfl hev
      cases big
      · refine units_lit0 s w _ (by omega) hm hev rfl _ ?_
        rw [e]; simp only [Bool.false_eq_true, if_false]; split <;> simp
      · refine units_big0 s w _ (by omega) hm hev rfl _ ?_
        rw [e]; simp only [if_true]; split <;> simp
    · have e := wu_at big s (s.size - 1) 1 (by omega) (by omega) (by omega) (by omega)
      cases big
      · refine units_lit1 s w _ (by omega) hm (by omega) rfl _ ?_
        rw [e]
        simp only [Bool.false_eq_true, if_false, show s.size - 1 - 1 = s.size - 2 from by omega]; split <;> simp
      · refine units_big1 s w _ (by omega) hm (by omega) rfl _ ?_
        rw [e]
        simp only [if_true, show s.size - 1 - 2 = s.size - 3 from by omega]; split <;> simp
set_option maxHeartbeats 800000 in
set_option maxRecDepth 100000 in
theorem stop_any (s : ByteArray) (w : World) : Calls Try.prog 18 #[.string s] w fun e w' => ∃ v, e = .returned v ∧ w'.ownsRow w.heap.size 3 1 v (if s.size = 0 then [] else [(65533 : Int)]).length ((if s.size = 0 then [] else [(65533 : Int)]).map (Value.int .i64)) ∧ Below w.heap.size w w' := by
  have HE := hide (isEmpty_size s)
  by_cases h : s.size = 0
  · have he : s.toList.isEmpty = true := by rw [unhide HE]; simpa using h
    have hs : s = ⟨#[]⟩ := by
      apply ByteArray.ext; apply Array.ext'
      exact List.eq_nil_of_length_eq_zero (by simpa using h)
    subst hs
    go_enter Try.func18, Try.ntmps18
    go_wp2_with fail
    go_ret
    exact ⟨_, rfl, World.ownsRow_nil _ _ _ _, Below.refl _ _⟩
  · have he : s.toList.isEmpty = false := by rw [unhide HE]; simpa using h
    rw [if_neg h]
    go_enter Try.func18, Try.ntmps18
    go_wp2_with fail
    go_ret
    exact ⟨_, rfl, owns_one w 65533, balloc _ _⟩
end Go.Proofs.Ytpjhcecfcjbgoaa
