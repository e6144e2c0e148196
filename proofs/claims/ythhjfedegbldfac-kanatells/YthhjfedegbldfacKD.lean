/- The contracts of shift.byteOf, choose, escapeTo, Write and of kana.Encode: each returns what the plain function of its name computes; nothing that was there is written. Condition: the code points are Go's integers. -/
import Derived.Test.YthhjfedegbldfacKC
import Derived.Lib.AppendStr
namespace Go.Proofs.Ythhjfedegbldfac
open Go.RowKit
set_option linter.unusedVariables false

namespace M
/-- The one byte that can be a code point's, by signs. -/
def bo (g n : Int) : Int := if g = 2 then n - 65344 else if g = 1 ∧ n = 165 then 92 else if g = 1 ∧ n = 8254 then 126 else n
theorem bo_ksn {g c n : Int} (hg : Sg g) (h0 : 0 ≤ c) (h1 : c < 128) (h27 : c ≠ 27) (hk : ksn g c = n) (hn : n ≠ 65533) : bo g n = c := by
  subst hk
  rcases hg with rfl | rfl | rfl <;> (simp only [ksn, bo] at *; (repeat' split at hn) <;> (repeat' split) <;> first | omega | simp_all)
theorem hasK_bo {g n : Int} (hg : Sg g) : hasK g n = true ↔ 0 ≤ bo g n ∧ bo g n < 128 ∧ kpt g (bo g n) = n := by
  rw [hasK_iff]
  constructor
  · rintro ⟨c, h1, h2, h3, h4⟩
    have e := bo_ksn hg (by omega) (by omega) (by omega) h3 h4
    rw [e]
    refine ⟨by omega, by omega, ?_⟩
    unfold kpt; rw [if_neg (by omega)]; exact h3
  · rintro ⟨h1, h2, h3⟩
    have hq : bo g n ≠ 27 ∧ n ≠ 65533 := by
      unfold kpt ksn at h3
      rcases hg with rfl | rfl | rfl <;> (simp only [bo] at *; (repeat' split at h3) <;> (try split at h1) <;> first | omega | (constructor <;> omega) | simp_all)
    refine ⟨(bo g n).toNat, by omega, by omega, ?_, hq.2⟩
    rw [show (((bo g n).toNat : Nat) : Int) = bo g n from by omega]
    unfold kpt at h3; rw [if_neg hq.1] at h3; exact h3
theorem kby_bo {g n : Int} (hg : Sg g) (h : hasK g n = true) : kby g n = bo g n := by
  obtain ⟨c, h1, h2, h3, h4⟩ := kby_spec h
  obtain ⟨_, _, _, _, h5⟩ := (hasK_iff g n).1 h
  rw [h2, bo_ksn hg (by omega) (by omega) (by omega) h4 h5]
end M

/-- Is an integer one of Go's? -/
def Gi (n : Int) : Prop := -9223372036854775808 ≤ n ∧ n ≤ 9223372036854775807

set_option maxHeartbeats 1000000 in
set_option maxRecDepth 100000 in
theorem byteOf_no (g n : Int) (hg : M.Sg g) (hn : Gi n) (hb : M.bo g n < 0 ∨ 128 ≤ M.bo g n) (w : World) :
    Calls Try.prog 67 #[.int .i64 g, .int .i64 n] w fun e w' => e = .returned (.tuple #[.int .u8 0, .bool false]) ∧ w' = w := by
  unfold Gi at hn
  rcases hg with rfl | rfl | rfl
  · have hb' : n < 0 ∨ 128 ≤ n := hb
    clear hb
    rcases hb' with hb | hb
    · go_enter Try.func67, Try.ntmps67
      go_wp2
      go_ret2
      exact ⟨rfl, rfl⟩
    · go_enter Try.func67, Try.ntmps67
      go_wp2
      go_ret2
      exact ⟨rfl, rfl⟩
  · have h1 : n ≠ 165 := fun h => by subst h; simp [M.bo] at hb
    have h2 : n ≠ 8254 := fun h => by subst h; simp [M.bo] at hb
    have hb' : n < 0 ∨ 128 ≤ n := by simpa [M.bo, h1, h2] using hb
    have e1 : (n == 165) = false := by simp [h1]
    have e2 : (n == 8254) = false := by simp [h2]
    clear hb
    rcases hb' with hb | hb
    · go_enter Try.func67, Try.ntmps67
      go_wp2
      go_ret2
      exact ⟨rfl, rfl⟩
    · go_enter Try.func67, Try.ntmps67
      go_wp2
      go_ret2
      exact ⟨rfl, rfl⟩
  · have hb' : n < 65344 ∨ 65472 ≤ n := by simp only [M.bo, if_true] at hb; omega
    clear hb
    rcases hb' with hb | hb
    · by_cases hlo : -9223372036854710431 ≤ n
      · go_enter Try.func67, Try.ntmps67
        go_wp2
        go_ret2
        exact ⟨rfl, rfl⟩
      · obtain ⟨v, hv⟩ : ∃ v, wrap64 (wrap64 (n - 65377) + 33) = v := ⟨_, rfl⟩
        have hvb : v < 0 ∨ 128 ≤ v := by rw [← hv]; unfold wrap64; omega
        rcases hvb with hvb | hvb
        · go_enter Try.func67, Try.ntmps67
          go_wp2
          go_ret2
          exact ⟨rfl, rfl⟩
        · go_enter Try.func67, Try.ntmps67
          go_wp2
          go_ret2
          exact ⟨rfl, rfl⟩
    · go_enter Try.func67, Try.ntmps67
      go_wp2
      go_ret2
      exact ⟨rfl, rfl⟩

set_option maxHeartbeats 1000000 in
set_option maxRecDepth 100000 in
theorem byteOf_yes (g n b : Int) (hg : M.Sg g) (hb : M.bo g n = b) (hb0 : 0 ≤ b) (hb1 : b < 128) (hp : M.kpt g b = n) (w : World) :
    Calls Try.prog 67 #[.int .i64 g, .int .i64 n] w fun e w' => e = .returned (.tuple #[.int .u8 b, .bool true]) ∧ w' = w := by
  have hpo : ∀ (w : World), Calls Try.prog 66 #[.int .i64 g, .int .u8 b] w fun e w' => e = .returned (.int .i64 n) ∧ w' = w := fun w => by
    have := pointOf_any g b hg (by omega) (by omega) w
    rwa [hp] at this
  clear hp
  rcases hg with rfl | rfl | rfl
  · have e : n = b := hb
    subst e
    clear hb
    go_enter Try.func67, Try.ntmps67
    go_wp2_with fail
    refine (hpo _).mono ?_
    rintro e w1 ⟨rfl, hw⟩
    replace hw := hw.symm
    subst hw
    clear hpo
    go_wp2_with fail
    go_ret2
    exact ⟨rfl, rfl⟩
  · by_cases h1 : n = 165
    · subst h1
      have e : b = 92 := hb.symm
      subst e
      clear hb hb0 hb1
      go_enter Try.func67, Try.ntmps67
      go_wp2_with fail
      refine (hpo _).mono ?_
      rintro e w1 ⟨rfl, hw⟩
      replace hw := hw.symm
      subst hw
      clear hpo
      go_wp2_with fail
      go_ret2
      exact ⟨rfl, rfl⟩
    · by_cases h2 : n = 8254
      · subst h2
        have e : b = 126 := hb.symm
        subst e
        clear hb hb0 hb1 h1
        go_enter Try.func67, Try.ntmps67
        go_wp2_with fail
        refine (hpo _).mono ?_
        rintro e w1 ⟨rfl, hw⟩
        replace hw := hw.symm
        subst hw
        clear hpo
        go_wp2_with fail
        go_ret2
        exact ⟨rfl, rfl⟩
      · have e : n = b := by simpa [M.bo, h1, h2] using hb
        subst e
        have e1 : (n == 165) = false := by simp [h1]
        have e2 : (n == 8254) = false := by simp [h2]
        clear hb h1 h2
        go_enter Try.func67, Try.ntmps67
        go_wp2_with fail
        refine (hpo _).mono ?_
        rintro e w1 ⟨rfl, hw⟩
        replace hw := hw.symm
        subst hw
        clear hpo
        go_wp2_with fail
        go_ret2
        exact ⟨rfl, rfl⟩
  · have e : n = b + 65344 := by simp only [M.bo, if_true] at hb; omega
    have hpo' : ∀ (w : World), Calls Try.prog 66 #[.int .i64 2, .int .u8 (n - 65377 + 33)] w fun e w' => e = .returned (.int .i64 n) ∧ w' = w := by
      rw [show n - 65377 + 33 = b from by omega]; exact hpo
    have HN := hide (show n - 65377 + 33 = b from by omega)
    have hn0 : 65344 ≤ n := by omega
    have hn1 : n < 65472 := by omega
    clear hpo e hb hb0 hb1
    go_enter Try.func67, Try.ntmps67
    go_wp2_with fail
    refine (hpo' _).mono ?_
    rintro e w1 ⟨rfl, hw⟩
    replace hw := hw.symm
    subst hw
    clear hpo'
    go_wp2_with fail
    go_ret2
    exact ⟨by rw [← unhide HN]; rfl, rfl⟩

set_option maxHeartbeats 1000000 in
set_option maxRecDepth 100000 in
theorem byteOf_not (g n b p : Int) (hg : M.Sg g) (hb : M.bo g n = b) (hb0 : 0 ≤ b) (hb1 : b < 128) (hp : M.kpt g b = p) (hq : (p != n) = true) (w : World) :
    Calls Try.prog 67 #[.int .i64 g, .int .i64 n] w fun e w' => e = .returned (.tuple #[.int .u8 0, .bool false]) ∧ w' = w := by
  have hpo : ∀ (w : World), Calls Try.prog 66 #[.int .i64 g, .int .u8 b] w fun e w' => e = .returned (.int .i64 p) ∧ w' = w := fun w => by
    have := pointOf_any g b hg (by omega) (by omega) w
    rwa [hp] at this
  clear hp
  rcases hg with rfl | rfl | rfl
  · have e : n = b := hb
    subst e
    clear hb
    go_enter Try.func67, Try.ntmps67
    go_wp2_with fail
    refine (hpo _).mono ?_
    rintro e w1 ⟨rfl, hw⟩
    replace hw := hw.symm
    subst hw
    clear hpo
    go_wp2_with fail
    go_ret2
    exact ⟨rfl, rfl⟩
  · by_cases h1 : n = 165
    · subst h1
      have e : b = 92 := hb.symm
      subst e
      clear hb hb0 hb1
      go_enter Try.func67, Try.ntmps67
      go_wp2_with fail
      refine (hpo _).mono ?_
      rintro e w1 ⟨rfl, hw⟩
      replace hw := hw.symm
      subst hw
      clear hpo
      go_wp2_with fail
      go_ret2
      exact ⟨rfl, rfl⟩
    · by_cases h2 : n = 8254
      · subst h2
        have e : b = 126 := hb.symm
        subst e
        clear hb hb0 hb1 h1
        go_enter Try.func67, Try.ntmps67
        go_wp2_with fail
        refine (hpo _).mono ?_
        rintro e w1 ⟨rfl, hw⟩
        replace hw := hw.symm
        subst hw
        clear hpo
        go_wp2_with fail
        go_ret2
        exact ⟨rfl, rfl⟩
      · have e : n = b := by simpa [M.bo, h1, h2] using hb
        subst e
        have e1 : (n == 165) = false := by simp [h1]
        have e2 : (n == 8254) = false := by simp [h2]
        clear hb h1 h2
        go_enter Try.func67, Try.ntmps67
        go_wp2_with fail
        refine (hpo _).mono ?_
        rintro e w1 ⟨rfl, hw⟩
        replace hw := hw.symm
        subst hw
        clear hpo
        go_wp2_with fail
        go_ret2
        exact ⟨rfl, rfl⟩
  · have e : n = b + 65344 := by simp only [M.bo, if_true] at hb; omega
    have hpo' : ∀ (w : World), Calls Try.prog 66 #[.int .i64 2, .int .u8 (n - 65377 + 33)] w fun e w' => e = .returned (.int .i64 p) ∧ w' = w := by
      rw [show n - 65377 + 33 = b from by omega]; exact hpo
    have HN := hide (show n - 65377 + 33 = b from by omega)
    have hn0 : 65344 ≤ n := by omega
    have hn1 : n < 65472 := by omega
    clear hpo e hb hb0 hb1
    go_enter Try.func67, Try.ntmps67
    go_wp2_with fail
    refine (hpo' _).mono ?_
    rintro e w1 ⟨rfl, hw⟩
    replace hw := hw.symm
    subst hw
    clear hpo'
    go_wp2_with fail
    go_ret2
    exact ⟨rfl, rfl⟩

theorem byteOf_any (g n : Int) (hg : M.Sg g) (hn : Gi n) (w : World) :
    Calls Try.prog 67 #[.int .i64 g, .int .i64 n] w fun e w' => e = .returned (.tuple #[.int .u8 (if M.hasK g n then M.kby g n else 0), .bool (M.hasK g n)]) ∧ w' = w := by
  have hB := M.hasK_bo (n := n) hg
  by_cases hr : 0 ≤ M.bo g n ∧ M.bo g n < 128
  · by_cases hk : M.kpt g (M.bo g n) = n
    · have h1 := hB.2 ⟨hr.1, hr.2, hk⟩
      rw [h1, if_pos rfl, M.kby_bo hg h1]
      exact byteOf_yes g n _ hg rfl hr.1 hr.2 hk w
    · have h1 : M.hasK g n = false := Bool.eq_false_iff.2 (fun h => hk (hB.1 h).2.2)
      rw [h1]
      exact byteOf_not g n _ _ hg rfl hr.1 hr.2 rfl (by simpa using hk) w
  · have h1 : M.hasK g n = false := Bool.eq_false_iff.2 (fun h => hr ⟨(hB.1 h).1, (hB.1 h).2.1⟩)
    rw [h1]
    exact byteOf_no g n hg hn (by omega) w

set_option maxHeartbeats 400000 in
set_option maxRecDepth 100000 in
theorem escapeTo_any (g : Int) (hg : M.Sg g) (w : World) :
    Calls Try.prog 48 #[.int .i64 g] w fun e w' => e = .returned (.string (strOfNums [27, 40, M.esc g])) ∧ w' = w := by
  have hz : (⟨#[66, 74, 73]⟩ : ByteArray).size = 3 := rfl
  rcases hg with rfl | rfl | rfl
  · have HE : Hid ((⟨#[27, 40]⟩ : ByteArray) ++ (⟨#[66, 74, 73]⟩ : ByteArray).extract 0 1 = strOfNums [27, 40, M.esc 0]) := hide (by decide)
    go_enter Try.func48, Try.ntmps48
    go_wp2
    go_ret
    exact ⟨by rw [← unhide HE]; rfl, rfl⟩
  · have HE : Hid ((⟨#[27, 40]⟩ : ByteArray) ++ (⟨#[66, 74, 73]⟩ : ByteArray).extract 1 2 = strOfNums [27, 40, M.esc 1]) := hide (by decide)
    go_enter Try.func48, Try.ntmps48
    go_wp2
    go_ret
    exact ⟨by rw [← unhide HE]; rfl, rfl⟩
  · have HE : Hid ((⟨#[27, 40]⟩ : ByteArray) ++ (⟨#[66, 74, 73]⟩ : ByteArray).extract 2 3 = strOfNums [27, 40, M.esc 2]) := hide (by decide)
    go_enter Try.func48, Try.ntmps48
    go_wp2
    go_ret
    exact ⟨by rw [← unhide HE]; rfl, rfl⟩
end Go.Proofs.Ythhjfedegbldfac
