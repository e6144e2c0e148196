/- The contracts of strings.HasPrefix, strings.IndexByte (at what they are handed here), shift.readEscape, shift.pointOf: each returns what the plain function of its name computes; nothing is written. -/
import Derived.Test.YtpjhcecfcjbgoaaBase
import Derived.Test.YtpjhcecfcjbgoaaMathT
import Derived.Lib.Strings
import Derived.Lib.Slices
import Derived.Lib.Walk
import Derived.Lib.Bytealg
namespace Go.Proofs.Ytpjhcecfcjbgoaa
open Go.RowKit
set_option linter.unusedVariables false

theorem two_of (s : ByteArray) (h : 2 ≤ s.size) : s.data.toList.take 2 = [s[0], s[1]] := by
  obtain ⟨d⟩ := s
  obtain ⟨l⟩ := d
  match l, h with
  | a :: b :: t, h => rfl
theorem lead_eq (s : ByteArray) (h : 2 ≤ s.size) : ((s.extract 0 2).toList == ([27, 40] : List UInt8)) = decide (s[0].toNat = 27 ∧ s[1].toNat = 40) := by
  have e2 : (s.extract 0 2).toList = [s[0], s[1]] := by
    rw [Lib.toList_data, ByteArray.data_extract, ← two_of s h]
    simp
  rw [e2, Bool.eq_iff_iff]
  simp only [beq_iff_eq, decide_eq_true_eq, List.cons.injEq, and_true]
  rw [← UInt8.toNat_inj, ← UInt8.toNat_inj]
  simp

set_option maxHeartbeats 400000 in
set_option maxRecDepth 100000 in
theorem prefix_any (s : ByteArray) (w : World) (h : 2 ≤ s.size) (hm : s.size ≤ maxLen) :
    Calls Try.prog 55 #[.string s, .string ⟨#[27, 40]⟩] w fun e w' => e = .returned (.bool (decide (s[0].toNat = 27 ∧ s[1].toNat = 40))) ∧ w' = w := by
  unfold maxLen at hm
  rw [← lead_eq s h]
  have hz : (⟨#[27, 40]⟩ : ByteArray).size = 2 := rfl
  go_enter Try.func55, Try.ntmps55
  go_wp2
  · go_ret
    refine ⟨?_, rfl⟩
    rfl

theorem index_any (u : UInt8) : Lib.indexByte [66, 74, 73] u = if u = 66 then 0 else if u = 74 then 1 else if u = 73 then 2 else -1 := by
  by_cases h1 : u = 66
  · subst h1; decide
  · by_cases h2 : u = 74
    · subst h2; decide
    · by_cases h3 : u = 73
      · subst h3; decide
      · simp [Lib.indexByte, h1, h2, h3, Ne.symm h1, Ne.symm h2, Ne.symm h3]

set_option maxHeartbeats 400000 in
set_option maxRecDepth 100000 in
theorem indexByte_lib (s : ByteArray) (c : Int) (w : World) :
    Calls Try.prog 58 #[.string s, .int .u8 c] w fun e w' => e = .returned (.int .i64 (Lib.indexByte s.data.toList c.toNat.toUInt8)) ∧ w' = w := by
  go_enter Try.func58, Try.ntmps58
  go_wp2
  rw [run_callFunc_extern Try.func59 (by kernel_rfl) (by kernel_rfl) (by kernel_rfl) (e := Extern.BytealgIndexByte.indexByte) (by kernel_rfl), Lib.run_indexByteString]
  simp only [Result.andThen]
  rw [Oper.upon_value]
  go_wp2
  go_ret
  exact ⟨rfl, rfl⟩

/-- Where a byte stands among those that end an escape. -/
def fin3 (c : Int) : Int := if c = 66 then 0 else if c = 74 then 1 else if c = 73 then 2 else -1

set_option maxHeartbeats 400000 in
set_option maxRecDepth 100000 in
theorem indexByte_any (c : Int) (w : World) (h0 : 0 ≤ c) (h1 : c < 256) :
    Calls Try.prog 56 #[.string ⟨#[66, 74, 73]⟩, .int .u8 c] w fun e w' => e = .returned (.int .i64 (fin3 c)) ∧ w' = w := by
  have e : Lib.indexByte (⟨#[66, 74, 73]⟩ : ByteArray).data.toList c.toNat.toUInt8 = fin3 c := by
    rw [show (⟨#[66, 74, 73]⟩ : ByteArray).data.toList = [66, 74, 73] from rfl, index_any]
    have hu : ∀ k : Nat, k < 256 → (c.toNat.toUInt8 = UInt8.ofNat k ↔ c = k) := by
      intro k hk
      rw [← UInt8.toNat_inj]
      simp only [Nat.toUInt8_eq, UInt8.toNat_ofNat']
      omega
    have a1 : c.toNat.toUInt8 = 66 ↔ c = 66 := hu 66 (by omega)
    have a2 : c.toNat.toUInt8 = 74 ↔ c = 74 := hu 74 (by omega)
    have a3 : c.toNat.toUInt8 = 73 ↔ c = 73 := hu 73 (by omega)
    unfold fin3
    by_cases b1 : c = 66
    · rw [if_pos b1, if_pos (a1.2 b1)]
    · rw [if_neg b1, if_neg (fun q => b1 (a1.1 q))]
      by_cases b2 : c = 74
      · rw [if_pos b2, if_pos (a2.2 b2)]
      · rw [if_neg b2, if_neg (fun q => b2 (a2.1 q))]
        by_cases b3 : c = 73
        · rw [if_pos b3, if_pos (a3.2 b3)]
        · rw [if_neg b3, if_neg (fun q => b3 (a3.1 q))]
  have H : ∀ w : World, Calls Try.prog 58 #[.string ⟨#[66, 74, 73]⟩, .int .u8 c] w fun e w' => e = .returned (.int .i64 (fin3 c)) ∧ w' = w := fun w => (indexByte_lib _ c w).mono fun e' w' h => by rw [e] at h; exact h
  clear e
  go_enter Try.func56, Try.ntmps56
  go_wp2_with fail
  refine (H _).mono ?_
  rintro e w1 ⟨rfl, hw⟩
  replace hw := hw.symm
  subst hw
  go_wp2_with fail
  go_ret
  exact ⟨rfl, rfl⟩

theorem kesc_three (s : ByteArray) (h : 3 ≤ s.size) : M.kesc (bl s) = if (s[0].toNat = 27 ∧ s[1].toNat = 40) then (if fin3 (s[2].toNat : Int) = -1 then none else some (fin3 (s[2].toNat : Int))) else none := by
  have e : bl s = (s[0].toNat : Int) :: (s[1].toNat : Int) :: (s[2].toNat : Int) :: (bl s).drop 3 := by
    have e0 := bl_drop s 0 (by omega)
    have e1 := bl_drop s 1 (by omega)
    have e2 := bl_drop s 2 (by omega)
    rw [e1, e2] at e0
    simpa using e0
  rw [e]
  simp only [M.kesc, fin3]
  by_cases a : s[0].toNat = 27 ∧ s[1].toNat = 40
  · rw [if_pos (by omega), if_pos a]
    repeat' split
    all_goals first | rfl | omega | (simp_all; done)
  · rw [if_neg (by omega), if_neg a]
theorem kesc_short (s : ByteArray) (h : s.size < 3) : M.kesc (bl s) = none := by
  cases hq : M.kesc (bl s) with
  | none => rfl
  | some g => have := M.kesc_len hq; rw [bl_len] at this; omega

set_option maxHeartbeats 400000 in
set_option maxRecDepth 100000 in
theorem readEscape_any (s : ByteArray) (w : World) (hm : s.size ≤ maxLen) :
    Calls Try.prog 52 #[.string s] w fun e w' => (∃ q, e = .returned (.tuple #[.int .i64 q, .bool (M.kesc (bl s)).isSome]) ∧ ∀ g, M.kesc (bl s) = some g → q = g) ∧ w' = w := by
  unfold maxLen at hm
  by_cases h3 : s.size < 3
  · have HK := hide (kesc_short s h3)
    go_enter Try.func52, Try.ntmps52
    go_wp2_with fail
    go_ret2
    rw [unhide HK]
    exact ⟨⟨_, rfl, fun g h => by cases h⟩, rfl⟩
  · have hz : 3 ≤ s.size := by omega
    have hc := s[2].toNat_lt
    have HK := hide (kesc_three s hz)
    by_cases a : s[0].toNat = 27 ∧ s[1].toNat = 40
    · rw [if_pos a] at HK
      have hp : ∀ w : World, Calls Try.prog 55 #[.string s, .string ⟨#[27, 40]⟩] w fun e w' => e = .returned (.bool true) ∧ w' = w := fun w => by
        have := prefix_any s w (by omega) (by unfold maxLen; omega)
        rwa [decide_eq_true a] at this
      obtain ⟨q, hq⟩ : ∃ q, fin3 (s[2].toNat : Int) = q := ⟨_, rfl⟩
      have hi : ∀ w : World, Calls Try.prog 56 #[.string ⟨#[66, 74, 73]⟩, .int .u8 (s[2].toNat : Int)] w fun e w' => e = .returned (.int .i64 q) ∧ w' = w := fun w => by
        have := indexByte_any (s[2].toNat : Int) w (by omega) (by omega)
        rwa [hq] at this
      have hb : -1 ≤ q ∧ q ≤ 2 := by
        rw [← hq]; unfold fin3
        (repeat' split) <;> omega
      rw [hq] at HK
      clear hq a
      by_cases h1 : q = -1
      · subst h1
        go_enter Try.func52, Try.ntmps52
        go_wp2_with fail
        refine (hp _).mono ?_
        rintro e w1 ⟨rfl, hw⟩
        replace hw := hw.symm
        subst hw
        go_wp2_with fail
        refine (hi _).mono ?_
        rintro e w1 ⟨rfl, hw⟩
        replace hw := hw.symm
        subst hw
        go_wp2_with fail
        go_ret2
        rw [unhide HK]
        exact ⟨⟨_, rfl, fun g h => by cases h⟩, rfl⟩
      · rw [if_neg h1] at HK
        have h0 : 0 ≤ q := by omega
        go_enter Try.func52, Try.ntmps52
        go_wp2_with fail
        refine (hp _).mono ?_
        rintro e w1 ⟨rfl, hw⟩
        replace hw := hw.symm
        subst hw
        go_wp2_with fail
        refine (hi _).mono ?_
        rintro e w1 ⟨rfl, hw⟩
        replace hw := hw.symm
        subst hw
        go_wp2_with fail
        go_ret2
        rw [unhide HK]
        exact ⟨⟨_, rfl, fun g h => Option.some.inj h⟩, rfl⟩
    · rw [if_neg a] at HK
      have hp : ∀ w : World, Calls Try.prog 55 #[.string s, .string ⟨#[27, 40]⟩] w fun e w' => e = .returned (.bool false) ∧ w' = w := fun w => by
        have := prefix_any s w (by omega) (by unfold maxLen; omega)
        rwa [decide_eq_false a] at this
      clear a
      go_enter Try.func52, Try.ntmps52
      go_wp2_with fail
      refine (hp _).mono ?_
      rintro e w1 ⟨rfl, hw⟩
      replace hw := hw.symm
      subst hw
      go_wp2_with fail
      go_ret2
      rw [unhide HK]
      exact ⟨⟨_, rfl, fun g h => by cases h⟩, rfl⟩

set_option maxHeartbeats 400000 in
set_option maxRecDepth 100000 in
theorem pointOf_any (g c : Int) (hg : M.Sg g) (h0 : 0 ≤ c) (h1 : c < 256) (w : World) :
    Calls Try.prog 53 #[.int .i64 g, .int .u8 c] w fun e w' => e = .returned (.int .i64 (M.kpt g c)) ∧ w' = w := by
  rcases hg with rfl | rfl | rfl
  · go_enter Try.func53, Try.ntmps53
    go_wp2
    all_goals (go_ret; refine ⟨ret_int ?_, rfl⟩; try simp only [beq_iff_eq, beq_eq_false_iff_ne] at *)
    all_goals (simp only [M.kpt, M.ksn]; (repeat' split) <;> first | omega | simp_all)
  · go_enter Try.func53, Try.ntmps53
    go_wp2
    all_goals (go_ret; refine ⟨ret_int ?_, rfl⟩; try simp only [beq_iff_eq, beq_eq_false_iff_ne] at *)
    all_goals (simp only [M.kpt, M.ksn]; (repeat' split) <;> first | omega | simp_all)
  · go_enter Try.func53, Try.ntmps53
    go_wp2
    all_goals (go_ret; refine ⟨ret_int ?_, rfl⟩; try simp only [beq_iff_eq, beq_eq_false_iff_ne, Bool.and_eq_true, Bool.or_eq_true, decide_eq_true_eq] at *)
    all_goals (simp only [M.kpt, M.ksn]; (repeat' split) <;> first | omega | simp_all)
end Go.Proofs.Ytpjhcecfcjbgoaa
