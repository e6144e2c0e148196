/- The contracts of utf16.readUnit, isFirst, isSecond, alone and next: each returns what the plain function of its name computes; nothing that was there is written. -/
import Derived.Test.YtpjhcecfcjbgoaaBase
import Derived.Test.YtpjhcecfcjbgoaaMathU
namespace Go.Proofs.Ytpjhcecfcjbgoaa
open Go.RowKit
set_option linter.unusedVariables false

set_option maxHeartbeats 400000 in
set_option maxRecDepth 100000 in
theorem readUnit_any (big : Bool) (s : ByteArray) (a b : Int) (w : World) (hs : 2 ≤ s.size) (ha : ((s[0]'(by omega)).toNat : Int) = a) (hb : ((s[1]'(by omega)).toNat : Int) = b) :
    Calls Try.prog 40 #[.bool big, .string s] w fun e w' => e = .returned (.int .i64 (M.ut big a b)) ∧ ∃ m, w' = w.drewN m := by
  have ha0 : 0 ≤ a ∧ a < 256 := by have := (s[0]'(by omega)).toNat_lt; omega
  have hb0 : 0 ≤ b ∧ b < 256 := by have := (s[1]'(by omega)).toNat_lt; omega
  have H1 := or_at 8 (a * 256) b (by omega) (by omega) (by omega) (by omega) (by omega) (by omega)
  have H2 := or_at 8 (b * 256) a (by omega) (by omega) (by omega) (by omega) (by omega) (by omega)
  cases big
  · go_enter Try.func40, Try.ntmps40
    go_wp2_with fail
    go_quiet (fail)
    go_wp2_with fail
    go_ret
    exact ⟨rfl, _, rfl⟩
  · go_enter Try.func40, Try.ntmps40
    go_wp2_with fail
    go_quiet (fail)
    go_wp2_with fail
    go_ret
    exact ⟨rfl, _, rfl⟩

set_option maxHeartbeats 400000 in
set_option maxRecDepth 100000 in
theorem isFirst_any (u : Int) (w : World) : Calls Try.prog 41 #[.int .i64 u] w fun e w' => e = .returned (.bool (M.fst16 u)) ∧ w' = w := by
  by_cases h : 55296 ≤ u
  · go_enter Try.func41, Try.ntmps41
    go_wp2
    go_ret
    exact ⟨ret_bool (by simp [M.fst16, h]), rfl⟩
  · go_enter Try.func41, Try.ntmps41
    go_wp2
    go_ret
    exact ⟨ret_bool (by simp [M.fst16]; omega), rfl⟩
set_option maxHeartbeats 400000 in
set_option maxRecDepth 100000 in
theorem isSecond_any (u : Int) (w : World) : Calls Try.prog 43 #[.int .i64 u] w fun e w' => e = .returned (.bool (M.snd16 u)) ∧ w' = w := by
  by_cases h : 56320 ≤ u
  · go_enter Try.func43, Try.ntmps43
    go_wp2
    go_ret
    exact ⟨ret_bool (by simp [M.snd16, h]), rfl⟩
  · go_enter Try.func43, Try.ntmps43
    go_wp2
    go_ret
    exact ⟨ret_bool (by simp [M.snd16]; omega), rfl⟩
set_option maxHeartbeats 400000 in
set_option maxRecDepth 100000 in
theorem alone_any (u : Int) (w : World) : Calls Try.prog 42 #[.int .i64 u] w fun e w' => e = .returned (.int .i64 (M.aln u)) ∧ w' = w := by
  obtain ⟨q, HQ⟩ : ∃ q, Hid (M.snd16 u = q) := ⟨_, rfl⟩
  have HA : Hid (M.aln u = if q then 65533 else u) := by show M.aln u = _; unfold M.aln; rw [unhide HQ]
  cases q
  all_goals
    go_enter Try.func42, Try.ntmps42
    go_wp2_with fail
    refine (isSecond_any _ _).mono ?_
    rintro e w1 ⟨rfl, hw⟩
    replace hw := hw.symm
    subst hw
    rw [unhide HQ]
    go_wp2_with fail
    go_ret
    exact ⟨ret_int (by rw [unhide HA]; rfl), rfl⟩

theorem nx_eq {big : Bool} {s : ByteArray} {p : Int} {k : Nat} (h : M.nx16 big (bl s) = (p, k)) : Ending.returned (.tuple #[.int .i64 p, .int .i64 (k : Int)]) = .returned (.tuple #[.int .i64 (M.nx16 big (bl s)).1, .int .i64 ((M.nx16 big (bl s)).2 : Int)]) := by rw [h]
theorem bl_1 (s : ByteArray) (h : s.size = 1) : ∃ a, bl s = [a] := by
  have := bl_len s
  match hb : bl s with
  | [] => rw [hb] at this; simp at this; omega
  | [a] => exact ⟨a, rfl⟩
  | _ :: _ :: _ => rw [hb] at this; simp at this; omega
theorem bl_2 (s : ByteArray) (h : 2 ≤ s.size) : bl s = ((s[0]'(by omega)).toNat : Int) :: ((s[1]'(by omega)).toNat : Int) :: (bl s).drop 2 := by
  have h0 := bl_drop s 0 (by omega)
  have h1 := bl_drop s 1 (by omega)
  rw [List.drop_zero] at h0
  conv => lhs; rw [h0, h1]

set_option maxHeartbeats 400000 in
set_option maxRecDepth 100000 in
theorem next_any (big : Bool) (s : ByteArray) (w : World) (h0 : 0 < s.size) (hs : s.size ≤ 3000) :
    Calls Try.prog 27 #[.bool big, .string s] w fun e w' => e = .returned (.tuple #[.int .i64 (M.nx16 big (bl s)).1, .int .i64 ((M.nx16 big (bl s)).2 : Int)]) ∧ ∃ m, w' = w.drewN m := by
  by_cases h1 : s.size = 1
  · obtain ⟨a, e⟩ := bl_1 s h1
    have HR := hide (nx_eq (big := big) (s := s) (p := 65533) (k := 1) (by rw [e]; rfl))
    have h1' : ((s.size : Int) == 1) = true := by simp; omega
    clear e
    go_enter Try.func27, Try.ntmps27
    go_wp2_with fail
    go_ret2
    exact ⟨unhide HR, 0, rfl⟩
  have h1' : ((s.size : Int) == 1) = false := by simp; omega
  have h2 : 2 ≤ s.size := by omega
  have E2 := hide (bl_2 s h2)
  have R1 := hide (fun a b (ha : ((s[0]'(by omega)).toNat : Int) = a) (hb : ((s[1]'(by omega)).toNat : Int) = b) (w : World) => readUnit_any big s a b w h2 ha hb)
  obtain ⟨a, HA⟩ : ∃ a, Hid (((s[0]'(by omega)).toNat : Int) = a) := ⟨_, hide rfl⟩
  obtain ⟨b, HB⟩ : ∃ b, Hid (((s[1]'(by omega)).toNat : Int) = b) := ⟨_, hide rfl⟩
  replace R1 := hide (unhide R1 a b HA HB)
  replace E2 : Hid (bl s = a :: b :: (bl s).drop 2) := by have := unhide E2; rw [unhide HA, unhide HB] at this; exact this
  have ha0 : 0 ≤ a ∧ a < 256 := by have := unhide HA; have := (s[0]'(by omega)).toNat_lt; omega
  have hb0 : 0 ≤ b ∧ b < 256 := by have := unhide HB; have := (s[1]'(by omega)).toNat_lt; omega
  obtain ⟨u, HU⟩ : ∃ u, Hid (M.ut big a b = u) := ⟨_, rfl⟩
  have hu : 0 ≤ u ∧ u < 65536 := by have := unhide HU; unfold M.ut at this; split at this <;> omega
  obtain ⟨q, HQ⟩ : ∃ q, Hid (M.fst16 u = q) := ⟨_, rfl⟩
  have HN : Hid (∃ t, bl s = a :: b :: t ∧ t.length = s.size - 2) := ⟨_, unhide E2, by simp [bl_len]⟩
  cases q
  · have HR := hide (nx_eq (big := big) (s := s) (p := M.aln u) (k := 2) (by
      obtain ⟨t, e, _⟩ := unhide HN
      rw [e]
      have h1 := unhide HU
      have h2 := unhide HQ
      match t with
      | [] => simp [M.nx16, h1, h2]
      | [_] => simp [M.nx16, h1, h2]
      | _ :: _ :: _ => simp [M.nx16, h1, h2]))
    go_enter Try.func27, Try.ntmps27
    go_wp2_with fail
    refine (unhide R1 _).mono ?_
    rintro e w1 ⟨rfl, m1, rfl⟩
    rw [unhide HU]
    go_wp2_with fail
    refine (isFirst_any _ _).mono ?_
    rintro e w2 ⟨rfl, hw⟩
    replace hw := hw.symm
    subst hw
    rw [unhide HQ]
    go_wp2_with fail
    refine (alone_any _ _).mono ?_
    rintro e w2 ⟨rfl, hw⟩
    replace hw := hw.symm
    subst hw
    go_wp2_with fail
    go_ret2
    exact ⟨unhide HR, _, rfl⟩
  · by_cases h4 : s.size < 4
    · have HR := hide (nx_eq (big := big) (s := s) (p := 65533) (k := s.size) (by
        obtain ⟨t, e, hl⟩ := unhide HN
        rw [e]
        have h1 := unhide HU
        have h2 := unhide HQ
        match t, hl with
        | [], hl => simp at hl; simp [M.nx16, h1, h2]; omega
        | [_], hl => simp at hl; simp [M.nx16, h1, h2]; omega
        | _ :: _ :: _, hl => simp at hl; omega))
      go_enter Try.func27, Try.ntmps27
      go_wp2_with fail
      refine (unhide R1 _).mono ?_
      rintro e w1 ⟨rfl, m1, rfl⟩
      rw [unhide HU]
      go_wp2_with fail
      refine (isFirst_any _ _).mono ?_
      rintro e w2 ⟨rfl, hw⟩
      replace hw := hw.symm
      subst hw
      rw [unhide HQ]
      go_wp2_with fail
      go_ret2
      exact ⟨unhide HR, _, rfl⟩
    · have h4' : 4 ≤ s.size := by omega
      have z2 : 2 ≤ (s.extract 2 s.size).size := by simp; omega
      obtain ⟨c, HC⟩ : ∃ c, Hid ((((s.extract 2 s.size)[0]'(by omega)).toNat : Int) = c) := ⟨_, hide rfl⟩
      obtain ⟨d, HD⟩ : ∃ d, Hid ((((s.extract 2 s.size)[1]'(by omega)).toNat : Int) = d) := ⟨_, hide rfl⟩
      have hc0 : 0 ≤ c ∧ c < 256 := by have := unhide HC; have := ((s.extract 2 s.size)[0]'(by omega)).toNat_lt; omega
      have hd0 : 0 ≤ d ∧ d < 256 := by have := unhide HD; have := ((s.extract 2 s.size)[1]'(by omega)).toNat_lt; omega
      have R2 := hide (fun (w : World) => readUnit_any big (s.extract 2 s.size) c d w z2 HC HD)
      have HE : Hid (∃ t, bl s = a :: b :: c :: d :: t) := by
        have e1 := unhide E2
        have e2 := bl_2 (s.extract 2 s.size) z2
        rw [unhide HC, unhide HD, bl_extract] at e2
        rw [e2] at e1
        exact ⟨_, e1⟩
      obtain ⟨v, HV⟩ : ∃ v, Hid (M.ut big c d = v) := ⟨_, rfl⟩
      have hv : 0 ≤ v ∧ v < 65536 := by have := unhide HV; unfold M.ut at this; split at this <;> omega
      obtain ⟨r, HW⟩ : ∃ r, Hid (M.snd16 v = r) := ⟨_, rfl⟩
      have HF : Hid (55296 ≤ u ∧ u < 56320) := by have := unhide HQ; exact hide (by simpa [M.fst16] using this)
      have hu1 := (unhide HF).1
      have hu2 := (unhide HF).2
      cases r
      · have HR := hide (nx_eq (big := big) (s := s) (p := 65533) (k := 2) (by
          obtain ⟨t, e⟩ := unhide HE
          rw [e]
          have h1 := unhide HU
          have h2 := unhide HQ
          have h3 := unhide HV
          have h4 := unhide HW
          simp [M.nx16, h1, h2, h3, h4]))
        go_enter Try.func27, Try.ntmps27
        go_wp2_with fail
        refine (unhide R1 _).mono ?_
        rintro e w1 ⟨rfl, m1, rfl⟩
        rw [unhide HU]
        go_wp2_with fail
        refine (isFirst_any _ _).mono ?_
        rintro e w2 ⟨rfl, hw⟩
        replace hw := hw.symm
        subst hw
        rw [unhide HQ]
        go_wp2_with fail
        refine (unhide R2 _).mono ?_
        rintro e w2 ⟨rfl, m2, rfl⟩
        rw [unhide HV]
        go_wp2_with fail
        refine (isSecond_any _ _).mono ?_
        rintro e w3 ⟨rfl, hw⟩
        replace hw := hw.symm
        subst hw
        rw [unhide HW]
        go_wp2_with fail
        go_ret2
        exact ⟨unhide HR, _, rfl⟩
      · have HS : Hid (56320 ≤ v ∧ v < 57344) := by have := unhide HW; exact hide (by simpa [M.snd16] using this)
        have hv1 := (unhide HS).1
        have hv2 := (unhide HS).2
        have HR := hide (nx_eq (big := big) (s := s) (p := 65536 + (u - 55296) * 1024 + (v - 56320)) (k := 4) (by
          obtain ⟨t, e⟩ := unhide HE
          rw [e]
          have h1 := unhide HU
          have h2 := unhide HQ
          have h3 := unhide HV
          have h4 := unhide HW
          simp [M.nx16, h1, h2, h3, h4]))
        go_enter Try.func27, Try.ntmps27
        go_wp2_with fail
        refine (unhide R1 _).mono ?_
        rintro e w1 ⟨rfl, m1, rfl⟩
        rw [unhide HU]
        go_wp2_with fail
        refine (isFirst_any _ _).mono ?_
        rintro e w2 ⟨rfl, hw⟩
        replace hw := hw.symm
        subst hw
        rw [unhide HQ]
        go_wp2_with fail
        refine (unhide R2 _).mono ?_
        rintro e w2 ⟨rfl, m2, rfl⟩
        rw [unhide HV]
        go_wp2_with fail
        refine (isSecond_any _ _).mono ?_
        rintro e w3 ⟨rfl, hw⟩
        replace hw := hw.symm
        subst hw
        rw [unhide HW]
        go_wp2_with fail
        go_ret2
        exact ⟨unhide HR, _, rfl⟩
end Go.Proofs.Ytpjhcecfcjbgoaa
