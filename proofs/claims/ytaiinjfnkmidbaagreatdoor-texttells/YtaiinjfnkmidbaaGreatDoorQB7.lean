/- Laws that the statements of this seat lean on, part 7 (PC LO PF SB6 PD PE RL5 MathM6 SC6 SD6 EN6 EA MathG EB): each a contract of a function, or a plain fact; conditions stand at each. -/
import Derived.Deep.CutBlock
import Derived.Deep.DeepCutAuto
import Derived.Test.YtaiinjfnkmidbaaGreatDoorQB6
namespace Go.Proofs.YtaiinjfnkmidbaaGreatDoor
open Go.RowKit
set_option linter.unusedVariables false

set_option maxHeartbeats 400000 in
set_option maxRecDepth 100000 in
theorem lWhites (c : Int) (w : World) (h : 0 ≤ c ∧ c < 256) : Calls Tryz.prog 225 #[.int .u8 c] w fun e w' => e = .returned (.bool (wh c)) ∧ w' = w := by
  have W := hide (fun w => white_any c w h)
  obtain ⟨q, HQ⟩ : ∃ q, Hid (wh c = q) := ⟨_, hide rfl⟩
  rw [unhide HQ] at W
  go_enter Tryz.func225, Tryz.ntmps225
  go_wp2_with fail
  refine (unhide W _).mono ?_
  rintro e w1 ⟨rfl, hw⟩
  replace hw := hw.symm
  subst hw
  go_wp2_with fail
  go_ret
  exact ⟨ret_bool (unhide HQ).symm, rfl⟩
set_option maxHeartbeats 400000 in
set_option maxRecDepth 100000 in
theorem lAhead (c : Int) (w : World) (h : 0 ≤ c ∧ c < 256) : Calls Tryz.prog 164 #[.int .u8 c] w fun e w' => e = .returned (.bool (pAhead c)) ∧ w' = w := by
  by_cases h47 : c = 47
  · subst h47
    go_enter Tryz.func164, Tryz.ntmps164
    go_wp2_with fail
    go_ret
    exact ⟨ret_bool (by decide), rfl⟩
  · have h47e := ne_eq h47
    have h47n := ne_ne h47
    have W := hide (fun w => white_any c w h)
    have HP : Hid (pAhead c = wh c) := hide (by unfold pAhead; rw [h47e]; simp)
    obtain ⟨q, HQ⟩ : ∃ q, Hid (wh c = q) := ⟨_, hide rfl⟩
    rw [unhide HQ] at W HP
    go_enter Tryz.func164, Tryz.ntmps164
    go_wp2_with fail
    refine (unhide W _).mono ?_
    rintro e w1 ⟨rfl, hw⟩
    replace hw := hw.symm
    subst hw
    go_wp2_with fail
    go_ret
    exact ⟨ret_bool (by rw [unhide HP]), rfl⟩
set_option maxHeartbeats 400000 in
set_option maxRecDepth 100000 in
theorem lName (c : Int) (w : World) (h : 0 ≤ c ∧ c < 256) : Calls Tryz.prog 166 #[.int .u8 c] w fun e w' => e = .returned (.bool (pName c)) ∧ w' = w := by
  by_cases h61 : c = 61
  · subst h61
    go_enter Tryz.func166, Tryz.ntmps166
    go_wp2_with fail
    go_ret
    exact ⟨ret_bool (by decide), rfl⟩
  · have h61e := ne_eq h61
    have h61n := ne_ne h61
    by_cases h47 : c = 47
    · subst h47
      go_enter Tryz.func166, Tryz.ntmps166
      go_wp2_with fail
      go_ret
      exact ⟨ret_bool (by decide), rfl⟩
    · have h47e := ne_eq h47
      have h47n := ne_ne h47
      by_cases h62 : c = 62
      · subst h62
        go_enter Tryz.func166, Tryz.ntmps166
        go_wp2_with fail
        go_ret
        exact ⟨ret_bool (by decide), rfl⟩
      · have h62e := ne_eq h62
        have h62n := ne_ne h62
        have W := hide (fun w => white_any c w h)
        have HP : Hid (pName c = !wh c) := hide (by unfold pName; rw [h61e, h47e, h62e]; simp)
        obtain ⟨q, HQ⟩ : ∃ q, Hid (wh c = q) := ⟨_, hide rfl⟩
        rw [unhide HQ] at W HP
        go_enter Tryz.func166, Tryz.ntmps166
        go_wp2_with fail
        refine (unhide W _).mono ?_
        rintro e w1 ⟨rfl, hw⟩
        replace hw := hw.symm
        subst hw
        go_wp2_with fail
        go_ret
        exact ⟨ret_bool (by rw [unhide HP]), rfl⟩
set_option maxHeartbeats 400000 in
set_option maxRecDepth 100000 in
theorem lVal (c : Int) (w : World) (h : 0 ≤ c ∧ c < 256) : Calls Tryz.prog 210 #[.int .u8 c] w fun e w' => e = .returned (.bool (pVal c)) ∧ w' = w := by
  by_cases h62 : c = 62
  · subst h62
    go_enter Tryz.func210, Tryz.ntmps210
    go_wp2_with fail
    go_ret
    exact ⟨ret_bool (by decide), rfl⟩
  · have h62e := ne_eq h62
    have h62n := ne_ne h62
    have W := hide (fun w => white_any c w h)
    have HP : Hid (pVal c = !wh c) := hide (by unfold pVal; rw [h62e]; simp)
    obtain ⟨q, HQ⟩ : ∃ q, Hid (wh c = q) := ⟨_, hide rfl⟩
    rw [unhide HQ] at W HP
    go_enter Tryz.func210, Tryz.ntmps210
    go_wp2_with fail
    refine (unhide W _).mono ?_
    rintro e w1 ⟨rfl, hw⟩
    replace hw := hw.symm
    subst hw
    go_wp2_with fail
    go_ret
    exact ⟨ret_bool (by rw [unhide HP]), rfl⟩
set_option maxHeartbeats 400000 in
set_option maxRecDepth 100000 in
theorem lSemi (c : Int) (w : World) (h : 0 ≤ c ∧ c < 256) : Calls Tryz.prog 206 #[.int .u8 c] w fun e w' => e = .returned (.bool (pSemi c)) ∧ w' = w := by
  by_cases h59 : c = 59
  · subst h59
    go_enter Tryz.func206, Tryz.ntmps206
    go_wp2_with fail
    go_ret
    exact ⟨ret_bool (by decide), rfl⟩
  · have h59e := ne_eq h59
    have h59n := ne_ne h59
    have W := hide (fun w => white_any c w h)
    have HP : Hid (pSemi c = !wh c) := hide (by unfold pSemi; rw [h59e]; simp)
    obtain ⟨q, HQ⟩ : ∃ q, Hid (wh c = q) := ⟨_, hide rfl⟩
    rw [unhide HQ] at W HP
    go_enter Tryz.func206, Tryz.ntmps206
    go_wp2_with fail
    refine (unhide W _).mono ?_
    rintro e w1 ⟨rfl, hw⟩
    replace hw := hw.symm
    subst hw
    go_wp2_with fail
    go_ret
    exact ⟨ret_bool (by rw [unhide HP]), rfl⟩
theorem wWhites (s : ByteArray) (k : Nat) (w : World) (hk : k ≤ s.size) (hs : s.size ≤ 3000) :
    Calls Tryz.prog 163 #[.string s, .int .i64 (k : Int), .func (Fn.func 225) #[] #[]] w fun e w' => e = .returned (.int .i64 (run wh (bl s) k : Int)) ∧ w' = w :=
  while0 225 wh s k w hk hs (enters_of Tryz.func225 (by kernel_rfl) rfl) (fun c w h => lWhites c w h)
theorem wAhead (s : ByteArray) (k : Nat) (w : World) (hk : k ≤ s.size) (hs : s.size ≤ 3000) :
    Calls Tryz.prog 163 #[.string s, .int .i64 (k : Int), .func (Fn.func 164) #[] #[]] w fun e w' => e = .returned (.int .i64 (run pAhead (bl s) k : Int)) ∧ w' = w :=
  while0 164 pAhead s k w hk hs (enters_of Tryz.func164 (by kernel_rfl) rfl) (fun c w h => lAhead c w h)
theorem wName (s : ByteArray) (k : Nat) (w : World) (hk : k ≤ s.size) (hs : s.size ≤ 3000) :
    Calls Tryz.prog 163 #[.string s, .int .i64 (k : Int), .func (Fn.func 166) #[] #[]] w fun e w' => e = .returned (.int .i64 (run pName (bl s) k : Int)) ∧ w' = w :=
  while0 166 pName s k w hk hs (enters_of Tryz.func166 (by kernel_rfl) rfl) (fun c w h => lName c w h)
theorem wVal (s : ByteArray) (k : Nat) (w : World) (hk : k ≤ s.size) (hs : s.size ≤ 3000) :
    Calls Tryz.prog 163 #[.string s, .int .i64 (k : Int), .func (Fn.func 210) #[] #[]] w fun e w' => e = .returned (.int .i64 (run pVal (bl s) k : Int)) ∧ w' = w :=
  while0 210 pVal s k w hk hs (enters_of Tryz.func210 (by kernel_rfl) rfl) (fun c w h => lVal c w h)
theorem wSemi (s : ByteArray) (k : Nat) (w : World) (hk : k ≤ s.size) (hs : s.size ≤ 3000) :
    Calls Tryz.prog 163 #[.string s, .int .i64 (k : Int), .func (Fn.func 206) #[] #[]] w fun e w' => e = .returned (.int .i64 (run pSemi (bl s) k : Int)) ∧ w' = w :=
  while0 206 pSemi s k w hk hs (enters_of Tryz.func206 (by kernel_rfl) rfl) (fun c w h => lSemi c w h)
set_option maxHeartbeats 400000 in
set_option maxRecDepth 100000 in
theorem whites_any (s : ByteArray) (k : Nat) (w : World) (hk : k ≤ s.size) (hs : s.size ≤ 3000) :
    Calls Tryz.prog 204 #[.string s, .int .i64 (k : Int)] w fun e w' => e = .returned (.int .i64 (run wh (bl s) k : Int)) ∧ w' = w := by
  have HW := hide (fun w => wWhites s k w hk hs)
  generalize run wh (bl s) k = r at HW ⊢
  go_enter Tryz.func204, Tryz.ntmps204
  go_wp2_with fail
  refine (unhide HW _).mono ?_
  rintro e w1 ⟨rfl, hw⟩
  replace hw := hw.symm
  subst hw
  go_wp2_with fail
  go_ret
  exact ⟨rfl, rfl⟩
set_option maxHeartbeats 400000 in
set_option maxRecDepth 100000 in
theorem lQuote (c q : Int) (B : Nat) (w : World) (hc : w.cell? ⟨B, 0, none⟩ = some (.int .u8 q)) :
    Calls Tryz.prog 226 #[.int .u8 c, .pointer (some ⟨B, 0, none⟩)] w fun e w' => e = .returned (.bool (pNot q c)) ∧ w' = w := by
  have HB := hide (World.block_lt_of_cell? w _ hc)
  go_enter Tryz.func226, Tryz.ntmps226
  go_wp2_with fail
  go_ret
  exact ⟨ret_bool (by unfold pNot; rfl), rfl⟩
set_option maxHeartbeats 800000 in
set_option maxRecDepth 100000 in
theorem while1 (F B : Nat) (p : Int → Bool) (s : ByteArray) (k0 : Nat) (w : World) (hk0 : k0 ≤ s.size) (hs : s.size ≤ 3000) (hE : ∀ args w, (callFunc F args).run Tryz.prog w = .ok (.enter F args) w)
    (H : ∀ (c : Int), 0 ≤ c ∧ c < 256 → Calls Tryz.prog F #[.int .u8 c, .pointer (some ⟨B, 0, none⟩)] w fun e w' => e = .returned (.bool (p c)) ∧ w' = w) :
    Calls Tryz.prog 163 #[.string s, .int .i64 (k0 : Int), .func (Fn.func F) #[] #[.pointer (some ⟨B, 0, none⟩)]] w fun e w' => e = .returned (.int .i64 (run p (bl s) k0 : Int)) ∧ w' = w := by
  have hl := hide (bl_len s)
  have HH := hide H
  clear H
  go_enter Tryz.func163, Tryz.ntmps163
  go_wp2_with fail
  go_loop [1] (fun i => ∃ k : Nat, i = .int .i64 k ∧ k ≤ s.size ∧ Hid (run p (bl s) k = run p (bl s) k0)) (fun i => s.size - (intOf i).toNat)
  case atStart => exact ⟨k0, rfl, hk0, hide rfl⟩
  case round =>
    obtain ⟨k, rfl, hk, HR⟩ := hrel
    by_cases hlt : k < s.size
    · have hcb := u8_lt s hlt
      have HG := hide (bl_at hlt)
      obtain ⟨c, hcc⟩ : ∃ c : Int, (s[k].toNat : Int) = c := ⟨_, rfl⟩
      rw [hcc] at hcb HG
      have HC := hide (unhide HH c hcb)
      cases hp : p c
      · rw [hp] at HC
        have HE : Hid (run p (bl s) k0 = k) := hide (by rw [← unhide HR, run_stop (by rw [unhide hl]; exact hlt) (by rw [unhide HG]; exact hp)])
        clear hp
        go_wp2_with fail
        refine (unhide HC).mono ?_
        rintro e wz ⟨rfl, hwz⟩
        replace hwz := hwz.symm
        subst hwz
        go_wp2_with fail
        go_ret
        exact ⟨by rw [unhide HE]; rfl, rfl⟩
      · rw [hp] at HC
        have HR' : Hid (run p (bl s) (k + 1) = run p (bl s) k0) := hide (by rw [← run_step (by rw [unhide hl]; exact hlt) (by rw [unhide HG]; exact hp), unhide HR])
        clear hp
        go_wp2_with fail
        refine (unhide HC).mono ?_
        rintro e wz ⟨rfl, hwz⟩
        replace hwz := hwz.symm
        subst hwz
        go_wp2_with fail
        go_round
        case rel => exact ⟨k + 1, by go_num, by omega, HR'⟩
        case measure => simp [intOf]; omega
    · have HE : Hid (run p (bl s) k0 = k) := hide (by rw [← unhide HR, run_end (by rw [unhide hl]; omega)])
      go_wp2_with fail
      go_ret
      exact ⟨by rw [unhide HE]; rfl, rfl⟩
set_option maxHeartbeats 800000 in
set_option maxRecDepth 100000 in
theorem quoted_any (s : ByteArray) (k : Nat) (w : World) (hk : k < s.size) (hs : s.size ≤ 3000) :
    Calls Tryz.prog 205 #[.string s, .int .i64 (k : Int)] w fun e w' => e = .returned (.tuple #[.string (strOfNums (qtI (bl s) k).1), .int .i64 ((qtI (bl s) k).2.1 : Int), .bool (qtI (bl s) k).2.2]) ∧ Below w.heap.size w w' := by
  have hl := hide (bl_len s)
  have hcb := u8_lt s hk
  have HG := hide (bl_at hk)
  have hle := run_le (pNot (s[k].toNat : Int)) (bl s) (i := k + 1) (by rw [unhide hl]; omega)
  rw [unhide hl] at hle
  have hge := run_ge (pNot (s[k].toNat : Int)) (bl s) (k + 1)
  obtain ⟨r, HR⟩ : ∃ r, Hid (run (pNot (s[k].toNat : Int)) (bl s) (k + 1) = r) := ⟨_, hide rfl⟩
  rw [unhide HR] at hle hge
  have HW := hide (fun (w' : World) (hc : w'.cell? ⟨w.heap.size, 0, none⟩ = some (.int .u8 (s[k].toNat : Int))) => while1 226 w.heap.size (pNot (s[k].toNat : Int)) s (k + 1) w' (by omega) hs (enters_of Tryz.func226 (by kernel_rfl) rfl) (fun c _ => lQuote c _ _ w' hc))
  rw [unhide HR] at HW
  have HV : Hid (qtI (bl s) k = if s.size ≤ r then ([], r, false) else (cut (bl s) (k + 1) r, r + 1, true)) := hide (by unfold qtI; rw [unhide HG, unhide HR, unhide hl])
  have hsl : ∀ wx, (Instr.slice 9 (.string s) (some (.int .i64 ((k : Int) + 1))) (some (.int .i64 (r : Int))) none).run Tryz.prog wx = .ok (.string (s.extract (k + 1) r)) wx := fun wx => by
    have := run_slice_string (P := Tryz.prog) wx 9 s .i64 .i64 ((k : Int) + 1) (r : Int) Tryz.underlying9 (by omega) (by omega) (by omega)
    rw [this]
    simp
  have HX := hide (bl_cut s (k + 1) r)
  go_enter Tryz.func205, Tryz.ntmps205
  go_wp2_with fail
  refine (unhide HW _ (by simp)).mono ?_
  rintro e w1 ⟨rfl, hw⟩
  replace hw := hw.symm
  subst hw
  by_cases hr : r = s.size
  · have he : ((r : Int) == (s.size : Int)) = true := by simp [hr]
    have HV' : Hid (qtI (bl s) k = ([], r, false)) := hide (by rw [unhide HV, if_pos (by omega)])
    clear HV hr
    go_wp2_with fail
    go_ret3
    exact ⟨by rw [unhide HV']; rfl, balloc _ _⟩
  · have he : ((r : Int) == (s.size : Int)) = false := by simp; omega
    have HV' : Hid (qtI (bl s) k = (cut (bl s) (k + 1) r, r + 1, true)) := hide (by rw [unhide HV, if_neg (by omega)])
    clear HV hr
    go_wp2_with fail
    go_ret3
    exact ⟨by rw [unhide HV', ← unhide HX, str_bl]; rfl, balloc _ _⟩
set_option maxHeartbeats 1600000 in
set_option maxRecDepth 100000 in
theorem value_any (s : ByteArray) (k : Nat) (w : World) (hk : k ≤ s.size) (hs : s.size ≤ 3000) :
    Calls Tryz.prog 167 #[.string s, .int .i64 (k : Int)] w fun e w' => e = .returned (.tuple #[.string (strOfNums (valI (bl s) k).1), .int .i64 ((valI (bl s) k).2.1 : Int), .bool (valI (bl s) k).2.2]) ∧ Below w.heap.size w w' := by
  have hl := hide (bl_len s)
  have h1 := run_le wh (bl s) (i := k) (by rw [unhide hl]; exact hk)
  rw [unhide hl] at h1
  have HW1 := hide (fun w => whites_any s k w hk hs)
  have HV : Hid (valI (bl s) k = if stn (bl s) (run wh (bl s) k) [61] = false then ([], run wh (bl s) k, true)
    else if stn (bl s) (run wh (bl s) (run wh (bl s) k + 1)) [34, 39] = true then qtI (bl s) (run wh (bl s) (run wh (bl s) k + 1))
    else (cut (bl s) (run wh (bl s) (run wh (bl s) k + 1)) (run pVal (bl s) (run wh (bl s) (run wh (bl s) k + 1))), run pVal (bl s) (run wh (bl s) (run wh (bl s) k + 1)), true)) := hide rfl
  generalize run wh (bl s) k = a at *
  have HS1 := hide (fun w => stands_any s a ⟨#[61]⟩ w (by omega) hs)
  rw [show bl ⟨#[61]⟩ = [61] from by decide] at HS1
  have HL := hide (fun h => (stn_one (bl s) a 61).1 h)
  rw [unhide hl] at HL
  obtain ⟨q, HQ⟩ : ∃ q, Hid (stn (bl s) a [61] = q) := ⟨_, hide rfl⟩
  rw [unhide HQ] at HS1 HV HL
  go_enter Tryz.func167, Tryz.ntmps167
  go_wp2_with fail
  refine (unhide HW1 _).mono ?_
  rintro e w1 ⟨rfl, hw⟩
  replace hw := hw.symm
  subst hw
  go_wp2_with fail
  refine (unhide HS1 _).mono ?_
  rintro e w1 ⟨rfl, hw⟩
  replace hw := hw.symm
  subst hw
  cases q
  · have HV' : Hid (valI (bl s) k = ([], a, true)) := hide (by rw [unhide HV, if_pos rfl])
    clear HV
    go_wp2_with fail
    go_ret3
    exact ⟨by rw [unhide HV']; rfl, Below.refl _ _⟩
  · have hla := (unhide HL rfl).1
    have HV2 := hide ((unhide HV).trans (if_neg (by simp)))
    have h2 := run_le wh (bl s) (i := a + 1) (by rw [unhide hl]; omega)
    rw [unhide hl] at h2
    have HW2 := hide (fun w => whites_any s (a + 1) w (by omega) hs)
    rw [show ((a + 1 : Nat) : Int) = (a : Int) + 1 from by omega] at HW2
    clear HV HL HS1 HQ
    generalize run wh (bl s) (a + 1) = b at *
    have HS2 := hide (fun w => stands_any s b ⟨#[34, 39]⟩ w (by omega) hs)
    rw [show bl ⟨#[34, 39]⟩ = [34, 39] from by decide] at HS2
    have HL2 := hide (fun h => (stn_two (bl s) b 34 39).1 h)
    rw [unhide hl] at HL2
    obtain ⟨q, HQ⟩ : ∃ q, Hid (stn (bl s) b [34, 39] = q) := ⟨_, hide rfl⟩
    rw [unhide HQ] at HS2 HV2 HL2
    go_wp2_with fail
    refine (unhide HW2 _).mono ?_
    rintro e w1 ⟨rfl, hw⟩
    replace hw := hw.symm
    subst hw
    go_wp2_with fail
    refine (unhide HS2 _).mono ?_
    rintro e w1 ⟨rfl, hw⟩
    replace hw := hw.symm
    subst hw
    cases q
    · have HV' := hide ((unhide HV2).trans (if_neg (by simp)))
      have h3 := run_le pVal (bl s) (i := b) (by rw [unhide hl]; omega)
      rw [unhide hl] at h3
      have g3 := run_ge pVal (bl s) b
      have HW3 := hide (fun w => wVal s b w (by omega) hs)
      clear HV2 HL2 HS2 HQ HW2
      generalize run pVal (bl s) b = r at *
      have HX := hide (bl_cut s b r)
      go_wp2_with fail
      refine (unhide HW3 _).mono ?_
      rintro e w1 ⟨rfl, hw⟩
      replace hw := hw.symm
      subst hw
      go_wp2_with fail
      go_ret3
      exact ⟨by rw [unhide HV', ← unhide HX, str_bl]; rfl, Below.refl _ _⟩
    · have hlb := (unhide HL2 rfl).1
      have HV' := hide ((unhide HV2).trans (if_pos rfl))
      have HC := hide (fun w => quoted_any s b w hlb hs)
      clear HV2 HL2 HS2 HQ HW2
      rw [← unhide HV'] at HC
      obtain ⟨v1, v2, v3, Hv⟩ : ∃ v1 v2 v3, Hid (valI (bl s) k = (v1, v2, v3)) := ⟨_, _, _, hide rfl⟩
      rw [unhide Hv] at HC
      simp only at HC
      go_wp2_with fail
      refine (unhide HC _).mono ?_
      rintro e w1 ⟨rfl, hb⟩
      have HB := hide hb
      clear hb
      go_wp2_with fail
      go_ret3
      exact ⟨by rw [unhide Hv]; rfl, unhide HB⟩
end Go.Proofs.YtaiinjfnkmidbaaGreatDoor

namespace Go.Proofs.YtaiinjfnkmidbaaGreatDoor
open Go.RowKit
set_option linter.unusedVariables false

set_option maxHeartbeats 400000 in
set_option maxRecDepth 100000 in
theorem Fold_ok (s : ByteArray) (w : World) (hs : s.size ≤ 3000) :
    Calls Tryz.prog 64 #[.string s] w fun e w' => e = .returned (.tuple #[.string (strOfNums (fdI (bl s))), .int .i64 0]) ∧ Below w.heap.size w w' := by
  have HC := hide (fun w => fold_any s w hs)
  generalize strOfNums (fdI (bl s)) = r at HC ⊢
  go_enter Tryz.func64, Tryz.ntmps64
  go_wp2_with (first | (go_at_call 72; refine (unhide HC _).mono ?_; rintro e w1 ⟨rfl, hb⟩) | go_in)
  go_ret2
  exact ⟨rfl, by assumption⟩

end Go.Proofs.YtaiinjfnkmidbaaGreatDoor

namespace Go.Proofs.YtaiinjfnkmidbaaGreatDoor
open Go.RowKit
set_option linter.unusedVariables false

theorem csN : csL ≠ [] := by decide
set_option maxHeartbeats 1600000 in
set_option maxRecDepth 100000 in
theorem atold_any (s : ByteArray) (w : World) (hs : s.size ≤ 3000) (hM : Mx w) (hf : fdI (bl s) = bl s) :
    Calls Tryz.prog 203 #[.string s] w fun e w' => ((e = .returned (.tuple #[.int .i64 0, .bool false]) ∧ chsI (bl s) = 0) ∨ (∃ a : Nat, e = .returned (.tuple #[.int .i64 ((a : Int) + 1), .bool true]) ∧ a < s.size ∧ chsI (bl s) = tailI (bl s) a)) ∧ w' = w := by
  have hl := hide (bl_len s)
  have HF := hide hf
  clear hf
  go_enter Tryz.func203, Tryz.ntmps203
  go_wp2_with fail
  go_loop [4] (fun i => ∃ k : Nat, i = .int .i64 k ∧ k ≤ s.size ∧ Hid (chsI (bl s) = chsF (bl s) k)) (fun i => s.size - (intOf i).toNat)
  case atStart => exact ⟨0, rfl, by omega, hide rfl⟩
  case round =>
    obtain ⟨k, rfl, hk, HR⟩ := hrel
    have HI := hide (bIndex_any (s.extract k s.size) ⟨#[99, 104, 97, 114, 115, 101, 116]⟩ w (by simp; omega) hM)
    have HX := idx_bl s ⟨#[99, 104, 97, 114, 115, 101, 116]⟩ k hk
    rw [show bl ⟨#[99, 104, 97, 114, 115, 101, 116]⟩ = csL from by decide] at HX
    simp only [bg0_fold csN (unhide HF)] at HX
    rcases HX with ⟨e1, e2⟩ | ⟨i, e1, e2, e3, e4⟩
    · rw [e1] at HI
      have HZ : Hid (chsI (bl s) = 0) := hide (by rw [unhide HR, chsF_zero (by rw [unhide hl]; exact hk) (fun j h1 h2 => e2 j h1 (by rw [← unhide hl]; exact h2))])
      clear e1 e2
      go_wp2_with fail
      refine (unhide HI).mono ?_
      rintro e w1 ⟨rfl, hw⟩
      replace hw := hw.symm
      subst hw
      go_wp2_with fail
      go_ret2
      exact ⟨.inl ⟨rfl, unhide HZ⟩, rfl⟩
    · rw [e1] at HI
      have h7 : k + i + 7 ≤ s.size := by have := bgn_le e3; rw [unhide hl] at this; exact this
      have HC : Hid (chsI (bl s) = chsF (bl s) (k + i)) := hide (by rw [unhide HR, chsJ_skip i (by rw [unhide hl]; exact e2) e4])
      have HE := hide e3
      clear e1 e3 e4 HR
      have HW := hide (fun w => whites_any s (k + i + 7) w h7 hs)
      rw [show ((k + i + 7 : Nat) : Int) = (k : Int) + (i : Int) + 7 from by omega] at HW
      have ha := run_le wh (bl s) (i := k + i + 7) (by rw [unhide hl]; exact h7)
      rw [unhide hl] at ha
      have ga := run_ge wh (bl s) (k + i + 7)
      obtain ⟨a, HA⟩ : ∃ a, Hid (run wh (bl s) (k + i + 7) = a) := ⟨_, hide rfl⟩
      rw [unhide HA] at HW ha ga
      have HS := hide (fun w => stands_any s a ⟨#[61]⟩ w (by omega) hs)
      rw [show bl ⟨#[61]⟩ = [61] from by decide] at HS
      have HT := hide (fun h => (unhide HC).trans (chsF_tail (by rw [unhide hl]; omega) (unhide HE) (unhide HA) h))
      have HP := hide (fun h => (unhide HC).trans (chsF_pass (by rw [unhide hl]; omega) (unhide HE) (unhide HA) h))
      have HL := hide (fun h => (stn_one (bl s) a 61).1 h)
      rw [unhide hl] at HL
      obtain ⟨q, HQ⟩ : ∃ q, Hid (stn (bl s) a [61] = q) := ⟨_, hide rfl⟩
      rw [unhide HQ] at HS HT HP HL
      clear HC
      go_wp2_with fail
      refine (unhide HI).mono ?_
      rintro e w1 ⟨rfl, hw⟩
      replace hw := hw.symm
      subst hw
      go_wp2_with fail
      refine (unhide HW _).mono ?_
      rintro e w1 ⟨rfl, hw⟩
      replace hw := hw.symm
      subst hw
      go_wp2_with fail
      refine (unhide HS _).mono ?_
      rintro e w1 ⟨rfl, hw⟩
      replace hw := hw.symm
      subst hw
      cases q
      · go_wp2_with fail
        go_round
        case rel => exact ⟨a, rfl, ha, hide (unhide HP (by trivial))⟩
        case measure => simp [intOf]; omega
      · go_wp2_with fail
        go_ret2
        exact ⟨.inr ⟨a, rfl, (unhide HL (by trivial)).1, unhide HT (by trivial)⟩, rfl⟩
theorem fnd_str (l : List Int) : findI (strOfNums l) = fnd l := rfl
theorem qtI_le {l : List Int} {a : Nat} (h : a < l.length) : (qtI l a).1.length ≤ l.length := by
  have := run_le (pNot (l.getD a 0)) l (i := a + 1) (by omega)
  unfold qtI
  split
  · simp
  · simp only; rw [cut_len this]; omega
set_option maxHeartbeats 1600000 in
set_option maxRecDepth 100000 in
theorem charset_any (s : ByteArray) (w : World) (hs : s.size ≤ 3000) (hM : Mx w) (hf : fdI (bl s) = bl s) :
    Calls Tryz.prog 157 #[.string s] w fun e w' => ∃ t, e = .returned (.string t) ∧ t.size ≤ 3000 ∧ findI t = chsI (bl s) ∧ Below w.heap.size w w' := by
  have hl := hide (bl_len s)
  have HT := hide (atold_any s w hs hM hf)
  clear hM hf
  go_enter Tryz.func157, Tryz.ntmps157
  go_wp2_with fail
  refine (unhide HT).mono ?_
  rintro e w1 ⟨⟨rfl, hz⟩ | ⟨a, rfl, ha, hz⟩, hw⟩
  · replace hw := hw.symm
    subst hw
    have HZ := hide hz
    clear hz HT
    go_wp2_with fail
    go_ret
    exact ⟨_, rfl, by decide, by rw [unhide HZ]; exact fnd_nil, Below.refl _ _⟩
  · replace hw := hw.symm
    subst hw
    have HZ := hide hz
    clear hz HT
    have HW := hide (fun w => whites_any s (a + 1) w (by omega) hs)
    rw [show ((a + 1 : Nat) : Int) = (a : Int) + 1 from by omega] at HW
    have hb := run_le wh (bl s) (i := a + 1) (by rw [unhide hl]; omega)
    rw [unhide hl] at hb
    have HTl : Hid (tailI (bl s) a = if stn (bl s) (run wh (bl s) (a + 1)) [34, 39] = true then fnd (qtI (bl s) (run wh (bl s) (a + 1))).1 else fnd (cut (bl s) (run wh (bl s) (a + 1)) (run pSemi (bl s) (run wh (bl s) (a + 1))))) := hide rfl
    generalize run wh (bl s) (a + 1) = b at *
    have HS := hide (fun w => stands_any s b ⟨#[34, 39]⟩ w (by omega) hs)
    rw [show bl ⟨#[34, 39]⟩ = [34, 39] from by decide] at HS
    have HL := hide (fun h => (stn_two (bl s) b 34 39).1 h)
    rw [unhide hl] at HL
    obtain ⟨q, HQ⟩ : ∃ q, Hid (stn (bl s) b [34, 39] = q) := ⟨_, hide rfl⟩
    rw [unhide HQ] at HS HL HTl
    go_wp2_with fail
    refine (unhide HW _).mono ?_
    rintro e w1 ⟨rfl, hw⟩
    replace hw := hw.symm
    subst hw
    go_wp2_with fail
    refine (unhide HS _).mono ?_
    rintro e w1 ⟨rfl, hw⟩
    replace hw := hw.symm
    subst hw
    cases q
    · have HR := hide ((unhide HZ).trans ((unhide HTl).trans (if_neg (by simp))))
      have hr := run_le pSemi (bl s) (i := b) (by rw [unhide hl]; omega)
      rw [unhide hl] at hr
      have gr := run_ge pSemi (bl s) b
      have HW3 := hide (fun w => wSemi s b w (by omega) hs)
      generalize run pSemi (bl s) b = r at *
      clear HTl HZ HL HS HW HQ
      go_wp2_with fail
      refine (unhide HW3 _).mono ?_
      rintro e w1 ⟨rfl, hw⟩
      replace hw := hw.symm
      subst hw
      go_wp2_with fail
      go_ret
      exact ⟨_, rfl, by simp; omega, by rw [unhide HR, ← bl_cut, ← fnd_str, str_bl], Below.refl _ _⟩
    · have HR := hide ((unhide HZ).trans ((unhide HTl).trans (if_pos rfl)))
      have hlb := (unhide HL (by trivial)).1
      have HC := hide (fun w => quoted_any s b w hlb hs)
      have hql := qtI_le (l := bl s) (a := b) (by rw [unhide hl]; exact hlb)
      rw [unhide hl] at hql
      clear HTl HZ HL HS HW HQ
      obtain ⟨v1, v2, v3, Hv⟩ : ∃ v1 v2 v3, Hid (qtI (bl s) b = (v1, v2, v3)) := ⟨_, _, _, hide rfl⟩
      rw [unhide Hv] at HC HR hql
      simp only at HC HR hql
      go_wp2_with fail
      refine (unhide HC _).mono ?_
      rintro e w1 ⟨rfl, hb1⟩
      have HB := hide hb1
      clear hb1
      go_wp2_with fail
      go_ret
      exact ⟨_, rfl, by rw [strOfNums_size]; omega, by rw [unhide HR, fnd_str], unhide HB⟩
set_option maxHeartbeats 800000 in
set_option maxRecDepth 100000 in
theorem Charset_ok (s : ByteArray) (w : World) (hs : s.size ≤ 3000) (hM : Mx w) :
    Calls Tryz.prog 96 #[.string s] w fun e w' => e = .returned (.tuple #[.int .i64 (chsI (bl s)), .int .i64 0]) ∧ Below w.heap.size w w' := by
  have HF := hide (fun w => Fold_ok s w hs)
  have hb : bl (strOfNums (fdI (bl s))) = fdI (bl s) := bl_str _ (fd_byt (bl_byt s))
  have HC := hide (fun w (h : Mx w) => charset_any (strOfNums (fdI (bl s))) w (by rw [strOfNums_size, fd_len, bl_len]; exact hs) h (by rw [hb, fd_fd]))
  rw [hb, chsI_fd (bl_byt s)] at HC
  have HM := hide hM
  clear hb hM
  generalize strOfNums (fdI (bl s)) = f at *
  go_enter Tryz.func96, Tryz.ntmps96
  go_wp2_with fail
  refine (unhide HF _).mono ?_
  rintro e w1 ⟨rfl, hb1⟩
  have HB1 := hide hb1
  clear hb1 HF
  go_wp2_with fail
  refine (unhide HC _ ((unhide HM).below (unhide HB1))).mono ?_
  rintro e w2 ⟨t, rfl, ht, hfi, hb2⟩
  have HB2 := hide (bstep (unhide HB1) hb2)
  have HI := hide hfi
  have HD := hide (fun w => Find_ok t w ht)
  clear hb2 HC hfi
  go_wp2_with fail
  refine (unhide HD _).mono ?_
  rintro e w3 ⟨rfl, hb3⟩
  have HB3 := hide (bstep (unhide HB2) hb3)
  clear hb3 HD
  go_wp2_with fail
  go_ret2
  exact ⟨by rw [unhide HI]; rfl, unhide HB3⟩
end Go.Proofs.YtaiinjfnkmidbaaGreatDoor

namespace Go.Proofs.YtaiinjfnkmidbaaGreatDoor
open Go.RowKit
set_option linter.unusedVariables false

/-- The first value of a name, or an empty one. -/
def vlI (m : ByteArray) (L : List (ByteArray × ByteArray)) (k : Nat) : ByteArray := if 0 ≤ sfI m L k then valAt L (sfI m L k) else ⟨#[]⟩
set_option maxHeartbeats 1600000 in
set_option maxRecDepth 100000 in
theorem sfirst_any {v : Value} {L : List (ByteArray × ByteArray)} (m : ByteArray) (w : World) (hv : Ats w v L) :
    Calls Tryz.prog 178 #[v, .string m] w fun e w' => e = .returned (.tuple #[.string (vlI m L 0), .bool (decide (0 ≤ sfI m L 0))]) ∧ Below w.heap.size w w' := by
  obtain ⟨ao, cap, rfl, hm, hc⟩ := hv
  unfold maxLen at hm
  have HC := hide hc
  clear hc
  have HQ0 := hide (fun x => text_eq x m)
  go_enter Tryz.func178, Tryz.ntmps178
  go_wp2_with fail
  go_loopw [10] (fun i wr => ∃ k : Nat, k ≤ L.length ∧ i = .int .i64 k ∧ Below w.heap.size w wr ∧ Hid (sfI m L 0 = sfI m L k)) (fun i _ => L.length - (intOf i).toNat)
  case atStart => exact ⟨0, by omega, rfl, Below.refl _ _, hide rfl⟩
  case round =>
    obtain ⟨k, hk, rfl, hbr, HS⟩ := hrel
    have HB := hide hbr
    clear hbr
    by_cases hlt : k < L.length
    · obtain ⟨b, off, rfl, hcc⟩ : ∃ b off, ao = some ⟨b, off, none⟩ ∧ ∀ i (h : i < L.length), w.cell? ⟨b, off + i * 2, none⟩ = some (.string L[i].1) ∧ w.cell? ⟨b, off + i * 2 + 1, none⟩ = some (.string L[i].2) := by
        rcases unhide HC with h | h
        · subst h; simp at hlt
        · exact h
      obtain ⟨c1, c2⟩ := hcc k hlt
      replace c1 := ((unhide HB).cell (p := ⟨b, off + k * 2, none⟩) (World.block_lt_of_cell? w _ c1)).trans c1
      replace c2 := ((unhide HB).cell (p := ⟨b, off + k * 2 + 1, none⟩) (World.block_lt_of_cell? w _ c2)).trans c2
      clear hcc
      have HH := hide (fun h => sfI_hit (m := m) hlt h)
      have HM := hide (fun h => sfI_miss (m := m) hlt h)
      have HV := hide (valAt_nat hlt)
      generalize L[k].1 = X at c1 HH HM
      generalize L[k].2 = Y at c2 HV
      by_cases hX : X = m
      · have hq : (X.toList == m.toList) = true := by rw [unhide HQ0 X]; exact decide_eq_true hX
        have HR : Hid (sfI m L 0 = k) := hide ((unhide HS).trans (unhide HH hX))
        clear hX HH HM HS
        go_wp2_with fail
        go_ret2
        refine ⟨?_, (unhide HB).alloc (unhide HB).size _⟩
        unfold vlI
        rw [unhide HR, unhide HV, if_pos (by omega), decide_eq_true (by omega)]
        rfl
      · have hq : (X.toList == m.toList) = false := by rw [unhide HQ0 X]; exact decide_eq_false hX
        have HR : Hid (sfI m L 0 = sfI m L (k + 1)) := hide ((unhide HS).trans (unhide HM hX))
        clear hX HH HM HS
        go_wp2_with fail
        go_roundw
        case rel => exact ⟨k + 1, by omega, by go_num, (unhide HB).alloc (unhide HB).size _, HR⟩
        case measure => simp [intOf]; omega
    · have HR : Hid (sfI m L 0 = -1) := hide (by rw [unhide HS, show k = L.length from by omega, sfI_end])
      go_wp2_with fail
      go_ret2
      refine ⟨?_, unhide HB⟩
      unfold vlI
      rw [unhide HR]
      rfl
set_option maxHeartbeats 400000 in
set_option maxRecDepth 100000 in
theorem instead_any (n : Int) (w : World) : Calls Tryz.prog 130 #[.int .i64 n] w fun e w' => e = .returned (.int .i64 (fixE n)) ∧ w' = w := by
  by_cases h2 : n = 2
  · subst h2
    go_enter Tryz.func130, Tryz.ntmps130
    go_wp2_with fail
    go_ret
    exact ⟨rfl, rfl⟩
  · have e2 := ne_eq h2
    by_cases h3 : n = 3
    · subst h3
      go_enter Tryz.func130, Tryz.ntmps130
      go_wp2_with fail
      go_ret
      exact ⟨rfl, rfl⟩
    · have e3 := ne_eq h3
      by_cases h5 : n = 5
      · subst h5
        go_enter Tryz.func130, Tryz.ntmps130
        go_wp2_with fail
        go_ret
        exact ⟨rfl, rfl⟩
      · have e5 := ne_eq h5
        have HF : Hid (fixE n = n) := hide (by unfold fixE; rw [if_neg (by omega), if_neg h5])
        go_enter Tryz.func130, Tryz.ntmps130
        go_wp2_with fail
        go_ret
        exact ⟨ret_int (unhide HF).symm, rfl⟩
/-- What attributes tell, ahead of what is meant instead. -/
def tldI (L : List (ByteArray × ByteArray)) : Int :=
  if 0 ≤ sfI csB L 0 then findI (valAt L (sfI csB L 0)) else if vlI heB L 0 = ctB then chsI (bl (vlI coB L 0)) else 0
theorem chsI_nil : chsI (bl ⟨#[]⟩) = 0 := by decide +kernel
theorem metaI_tld (L : List (ByteArray × ByteArray)) : fixE (tldI L) = metaI L := by
  unfold metaI tldI
  congr 1
  split
  · rfl
  · unfold vlI
    by_cases h1 : 0 ≤ sfI heB L 0
    · rw [if_pos h1]
      by_cases h2 : 0 ≤ sfI coB L 0
      · rw [if_pos h2]
        by_cases h3 : valAt L (sfI heB L 0) = ctB
        · rw [if_pos h3, if_pos ⟨h1, h2, h3⟩]
        · rw [if_neg h3, if_neg (fun h => h3 h.2.2)]
      · rw [if_neg h2, chsI_nil, if_neg (show ¬ (0 ≤ sfI heB L 0 ∧ 0 ≤ sfI coB L 0 ∧ valAt L (sfI heB L 0) = ctB) from fun h => h2 h.2.1)]
        split <;> rfl
    · rw [if_neg h1, if_neg (show ¬ (⟨#[]⟩ : ByteArray) = ctB from by decide), if_neg (show ¬ (0 ≤ sfI heB L 0 ∧ 0 ≤ sfI coB L 0 ∧ valAt L (sfI heB L 0) = ctB) from fun h => h1 h.1)]
theorem valAt_few {L : List (ByteArray × ByteArray)} (hs : ∀ x ∈ L, x.1.size ≤ 3000 ∧ x.2.size ≤ 3000) (i : Int) : (valAt L i).size ≤ 3000 := by
  unfold valAt
  by_cases h : i.toNat < L.length
  · rw [show L.getD i.toNat (⟨#[]⟩, ⟨#[]⟩) = L[i.toNat] from by simp [h]]
    exact (hs _ (List.getElem_mem h)).2
  · rw [show L.getD i.toNat (⟨#[]⟩, ⟨#[]⟩) = (⟨#[]⟩, ⟨#[]⟩) from by simp [h]]
    decide
theorem vlI_few {L : List (ByteArray × ByteArray)} (hs : ∀ x ∈ L, x.1.size ≤ 3000 ∧ x.2.size ≤ 3000) (m : ByteArray) : (vlI m L 0).size ≤ 3000 := by
  unfold vlI
  split
  · exact valAt_few hs _
  · decide
set_option maxHeartbeats 1600000 in
set_option maxRecDepth 100000 in
theorem stold_any {v : Value} {L : List (ByteArray × ByteArray)} (w : World) (hv : Ats w v L) (hs : ∀ x ∈ L, x.1.size ≤ 3000 ∧ x.2.size ≤ 3000) (hM : Mx w) :
    Calls Tryz.prog 131 #[v] w fun e w' => e = .returned (.int .i64 (tldI L)) ∧ Below w.heap.size w w' := by
  have HV := hide hv
  have H1 := hide (fun (w : World) (h : Ats w v L) => sfirst_any csB w h)
  have H2 := hide (fun (w : World) (h : Ats w v L) => sfirst_any heB w h)
  have H3 := hide (fun (w : World) (h : Ats w v L) => sfirst_any coB w h)
  unfold csB at H1
  unfold heB at H2
  unfold coB at H3
  have HM := hide hM
  have z1 := vlI_few hs csB
  have z2 := vlI_few hs heB
  have z3 := vlI_few hs coB
  have HT : Hid (tldI L = if 0 ≤ sfI csB L 0 then findI (vlI csB L 0) else if vlI heB L 0 = ctB then chsI (bl (vlI coB L 0)) else 0) := hide (by
    unfold tldI
    by_cases h : 0 ≤ sfI csB L 0
    · rw [if_pos h, if_pos h]; unfold vlI; rw [if_pos h]
    · rw [if_neg h, if_neg h])
  rw [show (⟨#[99, 104, 97, 114, 115, 101, 116]⟩ : ByteArray) = csB from rfl] at H1
  rw [show (⟨#[104, 116, 116, 112, 45, 101, 113, 117, 105, 118]⟩ : ByteArray) = heB from rfl] at H2
  rw [show (⟨#[99, 111, 110, 116, 101, 110, 116]⟩ : ByteArray) = coB from rfl] at H3
  generalize vlI csB L 0 = X1 at *
  generalize vlI heB L 0 = X2 at *
  generalize vlI coB L 0 = X3 at *
  obtain ⟨d1, Hd1⟩ : ∃ d1, Hid (decide (0 ≤ sfI csB L 0) = d1) := ⟨_, hide rfl⟩
  rw [unhide Hd1] at H1
  generalize decide (0 ≤ sfI heB L 0) = d2 at H2
  generalize decide (0 ≤ sfI coB L 0) = d3 at H3
  unfold csB at H1
  unfold heB at H2
  unfold coB at H3
  obtain ⟨ao, cap, hsh, hm, hc⟩ := hv
  subst hsh
  clear hc hs hM
  have y4 : ctB.toList = ([99, 111, 110, 116, 101, 110, 116, 45, 116, 121, 112, 101] : List UInt8) := by rw [Lib.toList_data]; rfl
  have e4 := eq_lit X2 ctB _ y4
  clear y4
  by_cases h1 : 0 ≤ sfI csB L 0
  · have HT' := hide ((unhide HT).trans (if_pos h1))
    have HF := hide (fun w => Find_ok X1 w z1)
    have hd : d1 = true := by rw [← unhide Hd1]; exact decide_eq_true h1
    subst hd
    clear h1 HT e4
    go_enter Tryz.func131, Tryz.ntmps131
    go_wp2_with fail
    refine (unhide H1 _ (unhide HV)).mono ?_
    rintro e w1 ⟨rfl, hb1⟩
    have HB1 := hide hb1
    clear hb1
    go_wp2_with fail
    refine (unhide HF _).mono ?_
    rintro e w2 ⟨rfl, hb2⟩
    have HB2 := hide (bstep (unhide HB1) hb2)
    clear hb2
    go_wp2_with fail
    go_ret
    exact ⟨ret_int (unhide HT').symm, unhide HB2⟩
  · have HT' := hide ((unhide HT).trans (if_neg h1))
    have hd : d1 = false := by rw [← unhide Hd1]; exact decide_eq_false h1
    subst hd
    clear h1 HT
    go_enter Tryz.func131, Tryz.ntmps131
    go_wp2_with fail
    refine (unhide H1 _ (unhide HV)).mono ?_
    rintro e w1 ⟨rfl, hb1⟩
    have HB1 := hide hb1
    clear hb1
    go_wp2_with fail
    refine (unhide H2 _ ((unhide HV).below (unhide HB1))).mono ?_
    rintro e w2 ⟨rfl, hb2⟩
    have HB2 := hide (bstep (unhide HB1) hb2)
    clear hb2
    by_cases h2 : X2 = ctB
    · rw [decide_eq_true h2] at e4
      have HT2 := hide ((unhide HT').trans (if_pos h2))
      have HC := hide (fun w h => Charset_ok X3 w z3 h)
      clear h2
      go_wp2_with fail
      refine (unhide H3 _ ((unhide HV).below (unhide HB2))).mono ?_
      rintro e w3 ⟨rfl, hb3⟩
      have HB3 := hide (bstep (unhide HB2) hb3)
      clear hb3
      go_wp2_with fail
      refine (unhide HC _ ((unhide HM).below (unhide HB3))).mono ?_
      rintro e w4 ⟨rfl, hb4⟩
      have HB4 := hide (bstep (unhide HB3) hb4)
      clear hb4
      go_wp2_with fail
      go_ret
      exact ⟨ret_int (unhide HT2).symm, unhide HB4⟩
    · rw [decide_eq_false h2] at e4
      have HT2 := hide ((unhide HT').trans (if_neg h2))
      clear h2
      go_wp2_with fail
      go_ret
      exact ⟨ret_int (unhide HT2).symm, unhide HB2⟩

def okM (x : ByteArray × ByteArray) : Bool := decide (x.1.size ≤ 3000) && decide (x.2.size ≤ 3000)
/-- Meta's own look at the lengths, and what it tells. -/
def mtE (L : List (ByteArray × ByteArray)) : Int × Int := if L.length ≤ 3000 ∧ L.all okM = true then (metaI L, 0) else (0, 2)
theorem okM_all {L : List (ByteArray × ByteArray)} (h : L.all okM = true) : ∀ x ∈ L, x.1.size ≤ 3000 ∧ x.2.size ≤ 3000 := by
  intro x hx
  have := List.all_eq_true.1 h x hx
  unfold okM at this
  simpa using this
set_option maxHeartbeats 1600000 in
set_option maxRecDepth 100000 in
theorem Meta_any {v : Value} {L : List (ByteArray × ByteArray)} (w : World) (hv : Ats w v L) (hz : ∀ x ∈ L, x.1.size ≤ maxLen ∧ x.2.size ≤ maxLen) (hM : Mx w) :
    Calls Tryz.prog 66 #[v] w fun e w' => e = .returned (.tuple #[.int .i64 (mtE L).1, .int .i64 (mtE L).2]) ∧ Below w.heap.size w w' := by
  have HV := hide hv
  have HZ := hide hz
  have HM := hide hM
  obtain ⟨ao, cap, rfl, hm, hc⟩ := hv
  unfold maxLen at hm
  have HC := hide hc
  clear hc hz hM
  by_cases hl : L.length ≤ 3000
  · have hlb : decide ((3000 : Int) < (L.length : Int)) = false := decide_eq_false (by omega)
    go_enter Tryz.func66, Tryz.ntmps66
    go_wp2_with fail
    go_loopw [11] (fun i wr => ∃ k : Nat, k ≤ L.length ∧ i = .int .i64 k ∧ Below w.heap.size w wr ∧ Hid ((L.take k).all okM = true)) (fun i _ => L.length - (intOf i).toNat)
    case atStart => exact ⟨0, by omega, rfl, Below.refl _ _, hide rfl⟩
    case round =>
      obtain ⟨k, hk, rfl, hbr, HK⟩ := hrel
      have HB := hide hbr
      clear hbr
      by_cases hlt : k < L.length
      · obtain ⟨b, off, rfl, hcc⟩ : ∃ b off, ao = some ⟨b, off, none⟩ ∧ ∀ i (h : i < L.length), w.cell? ⟨b, off + i * 2, none⟩ = some (.string L[i].1) ∧ w.cell? ⟨b, off + i * 2 + 1, none⟩ = some (.string L[i].2) := by
          rcases unhide HC with h | h
          · subst h; simp at hlt
          · exact h
        obtain ⟨c1, c2⟩ := hcc k hlt
        replace c1 := ((unhide HB).cell (p := ⟨b, off + k * 2, none⟩) (World.block_lt_of_cell? w _ c1)).trans c1
        replace c2 := ((unhide HB).cell (p := ⟨b, off + k * 2 + 1, none⟩) (World.block_lt_of_cell? w _ c2)).trans c2
        clear hcc
        obtain ⟨z1, z2⟩ := unhide HZ L[k] (List.getElem_mem hlt)
        unfold maxLen at z1 z2
        have HO : Hid (okM L[k] = true → (L.take (k + 1)).all okM = true) := hide (fun h => by rw [List.take_succ_eq_append_getElem hlt, List.all_append, unhide HK, List.all_cons, List.all_nil, h]; rfl)
        have HNO : Hid (okM L[k] = false → mtE L = (0, 2)) := hide (fun h => by
          unfold mtE
          rw [if_neg]
          rintro ⟨_, h'⟩
          have := List.all_eq_true.1 h' L[k] (List.getElem_mem hlt)
          rw [h] at this; cases this)
        unfold okM at HO HNO
        have hltI : (k : Int) < (L.length : Int) := by omega
        generalize L[k].1 = X at c1 z1 HO HNO
        generalize L[k].2 = Y at c2 z2 HO HNO
        by_cases hX : X.size ≤ 3000
        · by_cases hY : Y.size ≤ 3000
          · have HO' := hide (unhide HO (by rw [decide_eq_true hX, decide_eq_true hY]; rfl))
            clear HO HNO
            go_wp2_with fail
            go_roundw
            case rel => exact ⟨k + 1, by omega, by go_num, (unhide HB).alloc (unhide HB).size _, HO'⟩
            case measure => simp [intOf]; omega
          · have HO' := hide (unhide HNO (by rw [decide_eq_false hY, Bool.and_false]))
            clear HO HNO
            go_wp2_with fail
            go_ret2
            exact ⟨by rw [unhide HO']; rfl, (unhide HB).alloc (unhide HB).size _⟩
        · have HO' := hide (unhide HNO (by rw [decide_eq_false hX, Bool.false_and]))
          clear HO HNO
          go_wp2_with fail
          go_ret2
          exact ⟨by rw [unhide HO']; rfl, (unhide HB).alloc (unhide HB).size _⟩
      · have ha : L.all okM = true := by have := unhide HK; rwa [List.take_of_length_le (by omega)] at this
        have HE : Hid (mtE L = (fixE (tldI L), 0)) := hide (by unfold mtE; rw [if_pos ⟨hl, ha⟩, metaI_tld])
        have HT := hide (stold_any wr ((unhide HV).below (unhide HB)) (okM_all ha) ((unhide HM).below (unhide HB)))
        have hltI : ¬ (k : Int) < (L.length : Int) := by omega
        clear ha
        generalize tldI L = T at *
        have HI := hide (fun w => instead_any T w)
        go_wp2_with fail
        refine (unhide HT).mono ?_
        rintro e w1 ⟨rfl, hb1⟩
        have HB1 := hide (bstep (unhide HB) hb1)
        clear hb1
        go_wp2_with fail
        refine (unhide HI _).mono ?_
        rintro e w2 ⟨rfl, hw⟩
        replace hw := hw.symm
        subst hw
        go_wp2_with fail
        go_ret2
        exact ⟨by rw [unhide HE]; rfl, unhide HB1⟩
  · have hlb : decide ((3000 : Int) < (L.length : Int)) = true := decide_eq_true (by omega)
    have HE : Hid (mtE L = (0, 2)) := hide (by unfold mtE; rw [if_neg (fun h => hl h.1)])
    go_enter Tryz.func66, Tryz.ntmps66
    go_wp2_with fail
    go_ret2
    exact ⟨by rw [unhide HE]; rfl, Below.refl _ _⟩
theorem Meta_ok {v : Value} {L : List (ByteArray × ByteArray)} (w : World) (hv : Ats w v L) (hl : L.length ≤ 3000) (hs : ∀ x ∈ L, x.1.size ≤ 3000 ∧ x.2.size ≤ 3000) (hM : Mx w) :
    Calls Tryz.prog 66 #[v] w fun e w' => e = .returned (.tuple #[.int .i64 (metaI L), .int .i64 0]) ∧ Below w.heap.size w w' := by
  have h := Meta_any w hv (fun x hx => by have := hs x hx; unfold maxLen; omega) hM
  have e : mtE L = (metaI L, 0) := by
    unfold mtE
    rw [if_pos ⟨hl, List.all_eq_true.2 (fun x hx => by have := hs x hx; unfold okM; simp [this])⟩]
  rw [e] at h
  exact h
end Go.Proofs.YtaiinjfnkmidbaaGreatDoor

namespace Go.Proofs.YtaiinjfnkmidbaaGreatDoor
open Go.RowKit
set_option linter.unusedVariables false

/-- The error that a place or a long text gives, or 0. -/
def badE (s : ByteArray) (k : Int) : Int := if 3000 < s.size then 2 else if k < 0 ∨ (s.size : Int) < k then 3 else 0
theorem badE_no {s : ByteArray} {k : Nat} (hk : k ≤ s.size) (hs : s.size ≤ 3000) : badE s (k : Int) = 0 := by unfold badE; rw [if_neg (by omega), if_neg (by omega)]
set_option maxHeartbeats 400000 in
set_option maxRecDepth 100000 in
theorem acheck_any (s : ByteArray) (k : Int) (w : World) (hs : s.size ≤ maxLen) :
    Calls Tryz.prog 102 #[.string s, .int .i64 k] w fun e w' => e = .returned (.int .i64 (badE s k)) ∧ w' = w := by
  unfold maxLen at hs
  by_cases h1 : 3000 < s.size
  · have HE : Hid (badE s k = 2) := hide (by unfold badE; rw [if_pos h1])
    go_enter Tryz.func102, Tryz.ntmps102
    go_wp2_with fail
    go_ret
    exact ⟨ret_int (unhide HE).symm, rfl⟩
  · by_cases h2 : k < 0
    · have HE : Hid (badE s k = 3) := hide (by unfold badE; rw [if_neg h1, if_pos (.inl h2)])
      go_enter Tryz.func102, Tryz.ntmps102
      go_wp2_with fail
      go_ret
      exact ⟨ret_int (unhide HE).symm, rfl⟩
    · by_cases h3 : (s.size : Int) < k
      · have HE : Hid (badE s k = 3) := hide (by unfold badE; rw [if_neg h1, if_pos (.inr h3)])
        go_enter Tryz.func102, Tryz.ntmps102
        go_wp2_with fail
        go_ret
        exact ⟨ret_int (unhide HE).symm, rfl⟩
      · have HE : Hid (badE s k = 0) := hide (by unfold badE; rw [if_neg h1, if_neg (by omega)])
        go_enter Tryz.func102, Tryz.ntmps102
        go_wp2_with fail
        go_ret
        exact ⟨ret_int (unhide HE).symm, rfl⟩
set_option maxHeartbeats 400000 in
set_option maxRecDepth 100000 in
theorem afold_any (s : ByteArray) (w : World) (hs : s.size ≤ 3000) :
    Calls Tryz.prog 168 #[.string s] w fun e w' => e = .returned (.string (strOfNums (fdI (bl s)))) ∧ Below w.heap.size w w' := by
  have HC := hide (fun w => Fold_ok s w hs)
  generalize strOfNums (fdI (bl s)) = r at HC ⊢
  go_enter Tryz.func168, Tryz.ntmps168
  go_wp2_with fail
  refine (unhide HC _).mono ?_
  rintro e w1 ⟨rfl, hb⟩
  have HB := hide hb
  clear hb
  go_wp2_with fail
  go_ret
  exact ⟨rfl, unhide HB⟩

set_option maxHeartbeats 3200000 in
set_option maxRecDepth 100000 in
theorem anext_any (s : ByteArray) (k : Nat) (w : World) (hk : k ≤ s.size) (hs : s.size ≤ 3000) :
    Calls Tryz.prog 103 #[.string s, .int .i64 (k : Int)] w fun e w' => e = .returned (.tuple #[.agg #[.string (strOfNums (attrI (bl s) k).1.1), .string (strOfNums (attrI (bl s) k).1.2)], .int .i64 ((attrI (bl s) k).2.1 : Int), .bool (attrI (bl s) k).2.2]) ∧ Below w.heap.size w w' := by
  have hl := hide (bl_len s)
  have h0 := run_le pAhead (bl s) (i := k) (by rw [unhide hl]; exact hk)
  rw [unhide hl] at h0
  have HW0 := hide (fun w => wAhead s k w hk hs)
  obtain ⟨a, HA⟩ : ∃ a, Hid (run pAhead (bl s) k = a) := ⟨_, hide rfl⟩
  rw [unhide HA] at h0 HW0
  go_enter Tryz.func103, Tryz.ntmps103
  go_wp2_with fail
  refine (unhide HW0 _).mono ?_
  rintro e w1 ⟨rfl, hw⟩
  replace hw := hw.symm
  subst hw
  by_cases hlt : a < s.size
  · have hne : ((a : Int) == (s.size : Int)) = false := by simp; omega
    have hcb := u8_lt s hlt
    have HG := hide (bl_at hlt)
    by_cases h62 : (s[a].toNat : Int) = 62
    · have e62 : ((s[a].toNat : Int) == 62) = true := beq_iff_eq.2 h62
      have HRes := hide (attrI_1 (unhide HA) (.inr ((unhide HG).trans h62)))
      clear h62
      go_wp2_with fail
      refine bodyPost_ret (v := .tuple #[.agg #[.string ⟨#[]⟩, .string ⟨#[]⟩], .int .i64 (a : Int), .bool false]) (by simp [results, Tryz.results103, go_sem]) rfl ⟨?_, ?_⟩
      · rw [unhide HRes]; rfl
      · exact balloc _ _
    · have e62 : ((s[a].toNat : Int) == 62) = false := beq_eq_false_iff_ne.2 h62
      have HN : Hid (¬ ((bl s).length ≤ a ∨ (bl s).getD a 0 = 62)) := hide (by rw [unhide hl, unhide HG]; omega)
      clear h62
      have h1 := run_le pName (bl s) (i := a + 1) (by rw [unhide hl]; omega)
      rw [unhide hl] at h1
      have g1 := run_ge pName (bl s) (a + 1)
      have HW1 := hide (fun w => wName s (a + 1) w (by omega) hs)
      rw [show ((a + 1 : Nat) : Int) = (a : Int) + 1 from by omega] at HW1
      obtain ⟨b, HB⟩ : ∃ b, Hid (run pName (bl s) (a + 1) = b) := ⟨_, hide rfl⟩
      rw [unhide HB] at h1 g1 HW1
      have HV := hide (fun w => value_any s b w h1 hs)
      have HRes := hide (attrI_val (unhide HA) (unhide HN) (unhide HB))
      have hvl := valI_le (l := bl s) (a := b) (by rw [unhide hl]; exact h1)
      rw [unhide hl] at hvl
      have HVB : Hid (Byt (valI (bl s) b).1) := hide (valI_byt (bl_byt s) b)
      obtain ⟨v1, v2, v3, Hv⟩ : ∃ v1 v2 v3, Hid (valI (bl s) b = (v1, v2, v3)) := ⟨_, _, _, hide rfl⟩
      rw [unhide Hv] at HV HRes hvl HVB
      simp only at HV HRes hvl HVB
      go_wp2_with fail
      refine (unhide HW1 _).mono ?_
      rintro e w1 ⟨rfl, hw⟩
      replace hw := hw.symm
      subst hw
      go_wp2_with fail
      refine (unhide HV _).mono ?_
      rintro e w1 ⟨rfl, hb1⟩
      have hz1 := hb1.size
      simp at hz1
      have r0 : w1.cell? ⟨w.heap.size, 0, none⟩ = some (.string ⟨#[]⟩) := by rw [hb1.cell (p := ⟨w.heap.size, 0, none⟩) (by simp)]; simp
      have r1 : w1.cell? ⟨w.heap.size, 1, none⟩ = some (.string ⟨#[]⟩) := by rw [hb1.cell (p := ⟨w.heap.size, 1, none⟩) (by simp)]; simp
      have q0 : w1.frozen? ⟨w.heap.size, 0, none⟩ = false := by rw [hb1.frozen (p := ⟨w.heap.size, 0, none⟩) (by simp)]; simp
      have q1 : w1.frozen? ⟨w.heap.size, 1, none⟩ = false := by rw [hb1.frozen (p := ⟨w.heap.size, 1, none⟩) (by simp)]; simp
      have HB1 := hide (bstep (balloc _ _) hb1)
      clear hb1 HV HW1
      cases v3
      · have HRes' := hide ((unhide HRes).trans (if_neg (by simp)))
        have hzz : w.heap.size < w1.heap.size := by omega
        clear HRes
        go_wp2_with fail
        refine bodyPost_ret (v := .tuple #[.agg #[.string ⟨#[]⟩, .string ⟨#[]⟩], .int .i64 (v2 : Int), .bool false]) (by simp [results, Tryz.results103, go_sem, r0, r1]) rfl ⟨?_, ?_⟩
        · rw [unhide HRes']; rfl
        · exact ((unhide HB1).setCell (Nat.le_refl _) _).setCell (Nat.le_refl _) _
      · have HRes' := hide ((unhide HRes).trans (if_pos rfl))
        have HF1 := hide (fun w => afold_any (s.extract a b) w (by rw [← bl_len, bl_cut, cut_len (by rw [unhide hl]; exact h1)]; omega))
        rw [bl_cut] at HF1
        have HF2 := hide (fun w => afold_any (strOfNums v1) w (by rw [strOfNums_size]; omega))
        rw [bl_str _ (unhide HVB)] at HF2
        clear HRes HVB
        have hsl : ∀ wx, (Instr.slice 9 (.string s) (some (.int .i64 (a : Int))) (some (.int .i64 (b : Int))) none).run Tryz.prog wx = .ok (.string (s.extract a b)) wx := fun wx => by
          have := run_slice_string (P := Tryz.prog) wx 9 s .i64 .i64 (a : Int) (b : Int) Tryz.underlying9 (by omega) (by omega) (by omega)
          rw [this]
          simp
        go_wp2_with fail
        refine (unhide HF1 _).mono ?_
        rintro e w2 ⟨rfl, hb2⟩
        have hz2 := hb2.size
        replace r0 := (hb2.cell (p := ⟨w.heap.size, 0, none⟩) (by simp; omega)).trans r0
        replace r1 := (hb2.cell (p := ⟨w.heap.size, 1, none⟩) (by simp; omega)).trans r1
        replace q0 := (hb2.frozen (p := ⟨w.heap.size, 0, none⟩) (by simp; omega)).trans q0
        replace q1 := (hb2.frozen (p := ⟨w.heap.size, 1, none⟩) (by simp; omega)).trans q1
        have HB2 := hide (bstep (unhide HB1) hb2)
        clear hb2
        go_wp2_with fail
        refine (unhide HF2 _).mono ?_
        rintro e w3 ⟨rfl, hb3⟩
        have hz3 := hb3.size
        replace r0 := (hb3.cell (p := ⟨w.heap.size, 0, none⟩) (by simp; omega)).trans r0
        replace r1 := (hb3.cell (p := ⟨w.heap.size, 1, none⟩) (by simp; omega)).trans r1
        replace q0 := (hb3.frozen (p := ⟨w.heap.size, 0, none⟩) (by simp; omega)).trans q0
        replace q1 := (hb3.frozen (p := ⟨w.heap.size, 1, none⟩) (by simp; omega)).trans q1
        have HB3 := hide (bstep (unhide HB2) hb3)
        have hzz : w.heap.size < w3.heap.size := by omega
        clear hb3
        go_wp2_with fail
        refine bodyPost_ret (v := .tuple #[.agg #[.string (strOfNums (fdI (cut (bl s) a b))), .string (strOfNums (fdI v1))], .int .i64 (v2 : Int), .bool true]) (by simp [results, Tryz.results103, go_sem, r0, r1]) rfl ⟨?_, ?_⟩
        · rw [unhide HRes']
        · exact ((unhide HB3).setCell (Nat.le_refl _) _).setCell (Nat.le_refl _) _
  · have he : ((a : Int) == (s.size : Int)) = true := by simp; omega
    have HRes := hide (attrI_1 (unhide HA) (.inl (by rw [unhide hl]; omega)))
    go_wp2_with fail
    refine bodyPost_ret (v := .tuple #[.agg #[.string ⟨#[]⟩, .string ⟨#[]⟩], .int .i64 (a : Int), .bool false]) (by simp [results, Tryz.results103, go_sem]) rfl ⟨?_, ?_⟩
    · rw [unhide HRes]; rfl
    · exact balloc _ _

end Go.Proofs.YtaiinjfnkmidbaaGreatDoor

namespace Go.Proofs.YtaiinjfnkmidbaaGreatDoor
open Go.RowKit
set_option linter.unusedVariables false

def boolN : Value → Nat
  | .bool true => 1
  | _ => 0
/-- The two cells of an attribute at block B. -/
def Ac (B : Nat) (w : World) (x y : ByteArray) : Prop :=
  w.cell? ⟨B, 0, none⟩ = some (.string x) ∧ w.cell? ⟨B, 1, none⟩ = some (.string y) ∧ w.frozen? ⟨B, 0, none⟩ = false ∧ w.frozen? ⟨B, 1, none⟩ = false
theorem Ac.below {B : Nat} {w w' : World} {x y : ByteArray} (h : Ac B w x y) (hb : Below (B + 1) w w') : Ac B w' x y := by
  obtain ⟨h0, h1, f0, f1⟩ := h
  exact ⟨(hb.cell (p := ⟨B, 0, none⟩) (by simp)).trans h0, (hb.cell (p := ⟨B, 1, none⟩) (by simp)).trans h1, (hb.frozen (p := ⟨B, 0, none⟩) (by simp)).trans f0, (hb.frozen (p := ⟨B, 1, none⟩) (by simp)).trans f1⟩
theorem Ac.put {B : Nat} {w : World} {x y : ByteArray} (h : Ac B w x y) (u v : ByteArray) : Ac B ((w.setCell ⟨B, 0, none⟩ (.string u)).setCell ⟨B, 1, none⟩ (.string v)) u v := by
  obtain ⟨h0, h1, f0, f1⟩ := h
  have h1' : (w.setCell ⟨B, 0, none⟩ (.string u)).cell? ⟨B, 1, none⟩ = some (.string y) := by rw [World.cell?_setCell_other _ _ _ _ (by simp)]; exact h1
  refine ⟨?_, ?_, ?_, ?_⟩
  · rw [World.cell?_setCell_other _ _ _ _ (by simp), World.cell?_setCell_same _ _ _ h0]
  · rw [World.cell?_setCell_same _ _ _ h1']
  · rw [World.frozen?_setCell, World.frozen?_setCell]; exact f0
  · rw [World.frozen?_setCell, World.frozen?_setCell]; exact f1
theorem Ac.new (w : World) (x y : ByteArray) : Ac w.heap.size (w.alloc (.cells #[.string x, .string y] 80)) x y := by
  refine ⟨by simp, by simp, by simp, by simp⟩
/-- What a round of All's loop knows. -/
def InL (l : List Int) (k0 B : Nat) (w wr : World) (tt : Nat) (q : Bool) (v : Value) : Prop :=
  ∃ (k : Nat) (x1 x2 : List Int) (L : List (List Int × List Int)), k ≤ l.length ∧ attrI l k = ((x1, x2), tt, q) ∧ wr.ownsRow (B + 1) 80 2 v L.length (atCells L) ∧ Below w.heap.size w wr ∧ L.length ≤ k ∧ attrsI l k0 = (L ++ (attrsI l k).1, (attrsI l k).2) ∧ Ac B wr (strOfNums x1) (strOfNums x2)

set_option maxHeartbeats 3200000 in
set_option maxRecDepth 100000 in
theorem All_ok (s : ByteArray) (k0 : Nat) (w : World) (hk0 : k0 ≤ s.size) (hs : s.size ≤ 3000) :
    Calls Tryz.prog 47 #[.string s, .int .i64 (k0 : Int)] w fun e w' => ∃ v, e = .returned (.tuple #[v, .int .i64 ((attrsI (bl s) k0).2 : Int), .int .i64 0]) ∧ Ats w' v (txts (attrsI (bl s) k0).1) ∧ Below w.heap.size w w' := by
  obtain ⟨i0, hi, hz0, hz1, hz2⟩ := info_parts infoA
  have hl := bl_len s
  have HC := hide (fun w => acheck_any s (k0 : Int) w (by unfold maxLen; omega))
  rw [badE_no hk0 hs] at HC
  have HN := hide (fun w => anext_any s k0 w hk0 hs)
  have hle := attrI_le (l := bl s) (at' := k0) (by omega)
  obtain ⟨x1, x2, a, q, Hv⟩ : ∃ x1 x2 a q, Hid (attrI (bl s) k0 = ((x1, x2), a, q)) := ⟨_, _, _, _, hide rfl⟩
  rw [unhide Hv] at HN hle
  simp only at HN hle
  go_enter Tryz.func47, Tryz.ntmps47
  go_wp2_with fail
  refine (unhide HC _).mono ?_
  rintro e w1 ⟨rfl, hw⟩
  replace hw := hw.symm
  subst hw
  go_wp2_with fail
  refine (unhide HN _).mono ?_
  rintro e w1 ⟨rfl, hb1⟩
  have hz1' := hb1.size
  have HI : Hid (InL (bl s) k0 w1.heap.size w (w1.alloc (.cells #[.string (strOfNums x1), .string (strOfNums x2)] 80)) a q (.slice none 0 0)) :=
    hide ⟨k0, x1, x2, [], by omega, unhide Hv, World.ownsRow_nil _ _ _ _, bstep hb1 (balloc _ _), by simp, by simp, Ac.new _ _ _⟩
  clear hb1 HC HN
  go_wp2_with fail
  go_loopw [1, 8, 10] (fun i v qv wr => ∃ (tt : Nat) (q : Bool), i = .int .i64 tt ∧ tt ≤ s.size ∧ qv = .bool q ∧ InL (bl s) k0 w1.heap.size w wr tt q v) (fun i _ qv _ => 2 * (s.size - (intOf i).toNat) + boolN qv)
  case atStart => exact ⟨a, q, rfl, by omega, rfl, unhide HI⟩
  case round =>
    obtain ⟨tt, q, rfl, htt, rfl, k, x1, x2, L, hk, hX, hO, hBl, hLk, hE, hA⟩ := hrel
    clear HI
    have HX := hide hX
    have HO := hide hO
    have HB := hide hBl
    have HE := hide hE
    have HA := hide hA
    have hbt := World.block_lt_of_cell? wr _ hA.1
    simp only at hbt
    obtain ⟨r0, r1, f0, f1⟩ := hA
    have hle := attrI_le (l := bl s) (at' := k) hk
    rw [hX] at hle
    simp only at hle
    clear hX hO hBl hE
    obtain ⟨av, cv, hsh⟩ := owns_shape (unhide HO)
    subst hsh
    cases q
    · have HE' : Hid (attrsI (bl s) k0 = (L, tt)) := hide (by rw [unhide HE, attrsI_no hk (by rw [unhide HX]), unhide HX]; simp)
      go_wp2_with fail
      go_ret3
      refine ⟨.slice av L.length cv, by rw [unhide HE']; rfl, ?_, unhide HB⟩
      rw [unhide HE']; exact Ats.of_owns (unhide HO)
    · have hto := hle.2.2 rfl
      have HY : Hid (attrsI (bl s) k = ((x1, x2) :: (attrsI (bl s) tt).1, (attrsI (bl s) tt).2)) := hide (by rw [attrsI_yes hk (by rw [unhide HX]), unhide HX])
      have HE' : Hid (attrsI (bl s) k0 = ((L ++ [(x1, x2)]) ++ (attrsI (bl s) tt).1, (attrsI (bl s) tt).2)) := hide (by rw [unhide HE, unhide HY]; simp)
      have HS := hide (atCells_snoc L (x1, x2))
      have HN := hide (fun w => anext_any s tt w htt hs)
      have hle2 := attrI_le (l := bl s) (at' := tt) (by omega)
      obtain ⟨y1, y2, t2, q2, HY2⟩ : ∃ y1 y2 t2 q2, Hid (attrI (bl s) tt = ((y1, y2), t2, q2)) := ⟨_, _, _, _, hide rfl⟩
      rw [unhide HY2] at HN hle2
      simp only at HN hle2 HS
      generalize strOfNums x1 = t1 at *
      generalize strOfNums x2 = u1 at *
      go_wp2_with (at_builtin; refine wpList_append_own _ rfl (.tmp 25) (.tmp 27) 75 rfl (w1.heap.size + 1) 80 i0 (.agg #[.string ⟨#[]⟩, .string ⟨#[]⟩]) 2 32 Tryz.underlying75 hi hz0 hz1 hz2 rfl (by decide) _ _ _ rfl (owns_a (unhide HO) _) ⟨wr.heap.size, 0, none⟩ 1 1 [.string t1, .string u1] rfl rfl ?c1 ?c2 ?c3 ?c4 ?c5 ?_)
      case c2 => exact ⟨rfl, rfl⟩
      case c3 => unfold maxLen; omega
      case c4 => omega
      case c5 => omega
      intro v2 w2 ho2 hg2 _
      obtain ⟨ao2, cap2, hsh2⟩ := owns_shape ho2
      subst hsh2
      have hlt := (unhide HO).lt
      have hq := ((Below.refl (w1.heap.size + 1) wr).alloc (by omega) (.cells #[.string t1, .string u1] 80)).grown hg2 (by simp; omega) (fun j hj => (hlt j hj).1)
      have hzq := hq.size
      have HA2 := hide ((unhide HA).below hq)
      have HB2 := hide ((unhide HB).trans (hq.mono (by omega)))
      have HO2 := hide ho2
      clear ho2 hg2 hlt hq HA r0 r1 f0 f1
      go_wp2_with fail
      refine (unhide HN _).mono ?_
      rintro e w3 ⟨rfl, hb3⟩
      have hz3 := hb3.size
      have hac := (unhide HA2).below (hb3.mono (by omega))
      have HA3 := hide (hac.put (strOfNums y1) (strOfNums y2))
      have HB3 := hide ((bstep (unhide HB2) hb3).setCell (p := ⟨w1.heap.size, 0, none⟩) (by simpa using hz1') (.string (strOfNums y1)))
      have HB4 := hide ((unhide HB3).setCell (p := ⟨w1.heap.size, 1, none⟩) (by simpa using hz1') (.string (strOfNums y2)))
      have HO3 := hide (ownsRow_setCell_below (ownsRow_setCell_below (owns_below (unhide HO2) hb3) (a := ⟨w1.heap.size, 0, none⟩) (by simp) (.string (strOfNums y1))) (a := ⟨w1.heap.size, 1, none⟩) (by simp) (.string (strOfNums y2)))
      have hbt3 : w1.heap.size < w3.heap.size := by omega
      obtain ⟨r0, r1, f0, f1⟩ := hac
      have HJ : Hid (InL (bl s) k0 w1.heap.size w ((w3.setCell ⟨w1.heap.size, 0, none⟩ (.string (strOfNums y1))).setCell ⟨w1.heap.size, 1, none⟩ (.string (strOfNums y2))) t2 q2 (.slice ao2 (L.length + 1) cap2)) :=
        hide ⟨tt, y1, y2, L ++ [(x1, x2)], by omega, unhide HY2, by rw [unhide HS]; simpa using unhide HO3, unhide HB4, by simp; omega, unhide HE', unhide HA3⟩
      clear hb3 HB3 HB4 HA3 HA2 HB2 HO2 HO3
      go_wp2_with fail
      go_roundw
      case rel => exact ⟨t2, q2, rfl, by omega, rfl, by simpa using unhide HJ⟩
      case measure =>
        cases q2
        · simp [intOf, boolN]; omega
        · have := hle2.2.2 rfl
          simp [intOf, boolN]; omega
end Go.Proofs.YtaiinjfnkmidbaaGreatDoor

namespace Go.Proofs.YtaiinjfnkmidbaaGreatDoor
open Go.RowKit
set_option linter.unusedVariables false

set_option maxHeartbeats 400000 in
set_option maxRecDepth 100000 in
theorem isLetter_any (c : Int) (w : World) (h : 0 ≤ c ∧ c < 256) : Calls Tryz.prog 116 #[.int .u8 c] w fun e w' => e = .returned (.bool (isLet c)) ∧ w' = w := by
  have H1 := hide (fun w => between_any c 97 122 w)
  have H2 := hide (fun w => between_any c 65 90 w)
  unfold isLet
  generalize (decide (97 ≤ c) && decide (c ≤ 122)) = b1 at *
  generalize (decide (65 ≤ c) && decide (c ≤ 90)) = b2 at *
  cases b1
  all_goals
    go_enter Tryz.func116, Tryz.ntmps116
    go_wp2_with fail
    refine (unhide H1 _).mono ?_
    rintro e w1 ⟨rfl, hw⟩
    replace hw := hw.symm
    subst hw
    go_wp2_with fail
    first
    | (go_ret; exact ⟨rfl, rfl⟩)
    | (refine (unhide H2 _).mono ?_
       rintro e w1 ⟨rfl, hw⟩
       replace hw := hw.symm
       subst hw
       go_wp2_with fail
       go_ret
       exact ⟨rfl, rfl⟩)
theorem cut_few (l : List Int) (i j : Nat) : (cut l i j).length ≤ l.length := by
  unfold cut; rw [List.length_take, List.length_drop]; omega
theorem attrI_few (l : List Int) (k : Nat) : (attrI l k).1.1.length ≤ l.length ∧ (attrI l k).1.2.length ≤ l.length := by
  have h := fun i j => cut_few l i j
  unfold attrI
  simp only
  split
  · simp
  · split
    · exact ⟨by simp only [fd_len]; exact h _ _, by simp⟩
    · split
      · split
        · simp
        · exact ⟨by simp only [fd_len]; exact h _ _, by simp only [fd_len]; exact h _ _⟩
      · exact ⟨by simp only [fd_len]; exact h _ _, by simp only [fd_len]; exact h _ _⟩
theorem attrsN_few (l : List Int) : ∀ (n k : Nat), ∀ x ∈ (attrsN n l k).1, x.1.length ≤ l.length ∧ x.2.length ≤ l.length
  | 0, k, x, hx => by simp [attrsN] at hx
  | n + 1, k, x, hx => by
    unfold attrsN at hx
    split at hx
    · simp only [List.mem_cons] at hx
      rcases hx with rfl | hx
      · exact attrI_few l k
      · exact attrsN_few l n _ x hx
    · simp at hx
theorem txts_few {l : List Int} {k n : Nat} (h : l.length ≤ n) : ∀ x ∈ txts (attrsI l k).1, x.2.size ≤ n := by
  intro x hx
  unfold txts at hx
  rw [List.mem_map] at hx
  obtain ⟨y, hy, rfl⟩ := hx
  have := attrsN_few l _ k y hy
  rw [strOfNums_size]; omega
theorem nxtP_4 {l : List Int} {k : Nat} (h : bgn l k b4 = true) : nxtP l k = fbI l (k + 2) + 3 := by unfold nxtP; rw [if_pos h]
theorem nxtP_m {l : List Int} {k : Nat} (h : bgn l k b4 = false) (hm : isMeta l k = true) : nxtP l k = (attrsI l (k + 5)).2 + 1 := by unfold nxtP; rw [if_neg (by simp [h]), if_pos hm]
theorem nxtP_n {l : List Int} {k : Nat} (h : bgn l k b4 = false) (hm : isMeta l k = false) (hn : 0 < nmAt l k) : nxtP l k = (attrsI l (run pVal l (nmAt l k))).2 + 1 := by unfold nxtP; rw [if_neg (by simp [h]), if_neg (by simp [hm]), if_pos hn]
theorem nxtP_d {l : List Int} {k : Nat} (h : bgn l k b4 = false) (hm : isMeta l k = false) (hn : ¬ 0 < nmAt l k) (hd : isDecl l k = true) : nxtP l k = run (pNot 62) l k + 1 := by unfold nxtP; rw [if_neg (by simp [h]), if_neg (by simp [hm]), if_neg hn, if_pos hd]
theorem nxtP_0 {l : List Int} {k : Nat} (h : bgn l k b4 = false) (hm : isMeta l k = false) (hn : ¬ 0 < nmAt l k) (hd : isDecl l k = false) : nxtP l k = k + 1 := by unfold nxtP; rw [if_neg (by simp [h]), if_neg (by simp [hm]), if_neg hn, if_neg (by simp [hd])]
theorem no_meta {l : List Int} {k : Nat} (hm : isMeta l k = false) : ¬ (bgn l k b4 = false ∧ isMeta l k = true ∧ metaAt l k ≠ 0) := fun h => by rw [hm] at h; cases h.2.1

set_option maxHeartbeats 25600000 in
set_option maxRecDepth 100000 in
theorem scanOf_any (s : ByteArray) (w : World) (hs : s.size ≤ 4000) :
    Calls Tryz.prog 56 #[.string s] w fun e w' => e = .returned (.int .i64 (scnI (bl s))) ∧ Below w.heap.size w w' := by
  obtain ⟨R, HR0⟩ : ∃ R, Hid (scnI (bl s) = R) := ⟨_, hide rfl⟩
  rw [unhide HR0]
  go_enter Tryz.func56, Tryz.ntmps56
  go_upto_if 13 with fail
  go_cut [0] (fun v wx => ∃ t : ByteArray, v = .string t ∧ bl t = (bl s).take 256 ∧ wx = w)
  case first =>
    by_cases h : 256 < s.size
    · go_wp2_with fail
      go_meet
      case rel => exact ⟨s.extract 0 256, rfl, bl_take s 256, rfl⟩
    · go_wp2_with fail
      go_meet
      case rel => exact ⟨s, rfl, (List.take_of_length_le (by rw [bl_len]; omega)).symm, rfl⟩
  obtain ⟨t, rfl, ht, hwc⟩ := hcut
  replace hwc := hwc.symm
  subst hwc
  have HS : Hid (scnF (bl t) 0 = R) := hide (by rw [← unhide HR0]; unfold scnI; rw [ht])
  have hts : t.size ≤ 256 := by rw [← bl_len, ht, List.length_take]; omega
  clear ht hs HR0
  have hl := bl_len t
  have G4 := hide (fun (k : Nat) (hk : k ≤ t.size) (w : World) => beginsAt_any t k ⟨#[60, 33, 45, 45]⟩ w hk (by omega) (by decide))
  rw [show bl ⟨#[60, 33, 45, 45]⟩ = b4 from by decide] at G4
  have G3 := hide (fun (k : Nat) (hk : k ≤ t.size) (w : World) => beginsAt_any t k ⟨#[45, 45, 62]⟩ w hk (by omega) (by decide))
  rw [show bl ⟨#[45, 45, 62]⟩ = b3 from by decide] at G3
  have G5 := hide (fun (k : Nat) (hk : k ≤ t.size) (w : World) => beginsAt_any t k ⟨#[60, 109, 101, 116, 97]⟩ w hk (by omega) (by decide))
  rw [show bl ⟨#[60, 109, 101, 116, 97]⟩ = b5 from by decide] at G5
  have GE := hide (fun (k : Nat) (hk : k ≤ t.size) (w : World) => beginsAt_any t k ⟨#[60, 33]⟩ w hk (by omega) (by decide))
  rw [show bl ⟨#[60, 33]⟩ = bE from by decide] at GE
  have GS := hide (fun (k : Nat) (hk : k ≤ t.size) (w : World) => beginsAt_any t k ⟨#[60, 47]⟩ w hk (by omega) (by decide))
  rw [show bl ⟨#[60, 47]⟩ = bS from by decide] at GS
  have GQ := hide (fun (k : Nat) (hk : k ≤ t.size) (w : World) => beginsAt_any t k ⟨#[60, 63]⟩ w hk (by omega) (by decide))
  rw [show bl ⟨#[60, 63]⟩ = bQ from by decide] at GQ
  go_wp2_with fail
  go_loopw [3] (fun i wr => ∃ K : Nat, i = .int .i64 K ∧ K ≤ t.size + 5 ∧ Below w.heap.size w wr ∧ Hid (scnF (bl t) K = R)) (fun i _ => t.size - (intOf i).toNat)
  case atStart => exact ⟨0, rfl, by omega, Below.refl _ _, HS⟩
  case round =>
    obtain ⟨K, rfl, hK5, hB, HC⟩ := hrel
    have HB := hide hB
    clear hB HS
    by_cases hK : K < t.size
    · cases hb4 : bgn (bl t) K b4
      · have HG := hide (unhide G4 K (by omega))
        rw [hb4] at HG
        go_wp2_with fail
        refine (unhide HG _).mono ?_
        rintro e w1 ⟨rfl, hb1⟩
        have HB1 := hide (bstep (unhide HB) hb1)
        clear hb1
        have HG5 := hide (unhide G5 K (by omega))
        go_upto_region 10 with fail
        go_cut [62] (fun b wx => b = .bool (isMeta (bl t) K) ∧ Below w.heap.size w wx)
        case first =>
          as_aux_lemma =>
            cases hb5 : bgn (bl t) K b5
            · rw [hb5] at HG5
              have HM0 : Hid (isMeta (bl t) K = false) := hide (by unfold isMeta; rw [hb5]; rfl)
              clear hb5
              go_wp2_with fail
              refine (unhide HG5 _).mono ?_
              rintro e w2 ⟨rfl, hbx⟩
              have HB2 := hide (bstep (unhide HB1) hbx)
              clear hbx
              go_wp2_with fail
              go_meet
              case rel => exact ⟨by rw [unhide HM0], unhide HB2⟩
            · rw [hb5] at HG5
              by_cases h5 : K + 5 < t.size
              · have hcb5 := u8_lt t h5
                have HGc := hide (bl_at h5)
                obtain ⟨c5, hcc5⟩ : ∃ c : Int, (t[K + 5].toNat : Int) = c := ⟨_, rfl⟩
                rw [hcc5] at hcb5 HGc
                have W := isWhite_any c5
                cases hw : wh c5
                · rw [hw] at W
                  by_cases h47 : c5 = 47
                  · subst h47
                    have HM0 : Hid (isMeta (bl t) K = true) := hide (by unfold isMeta; rw [hb5, unhide HGc, decide_eq_true (by omega)]; rfl)
                    clear hb5 hw
                    go_wp2_with fail
                    refine (unhide HG5 _).mono ?_
                    rintro e w2 ⟨rfl, hbx⟩
                    have HB2 := hide (bstep (unhide HB1) hbx)
                    clear hbx
                    go_wp2_with fail
                    refine (W _ hcb5).mono ?_
                    rintro e wz ⟨rfl, hwz⟩
                    replace hwz := hwz.symm
                    subst hwz
                    go_wp2_with fail
                    go_meet
                    case rel => exact ⟨by rw [unhide HM0], unhide HB2⟩
                  · have h47e := ne_eq h47
                    have HM0 : Hid (isMeta (bl t) K = false) := hide (by unfold isMeta; rw [hb5, unhide HGc, decide_eq_true (by omega), pAhead_n hw h47e]; rfl)
                    clear hb5 hw h47
                    go_wp2_with fail
                    refine (unhide HG5 _).mono ?_
                    rintro e w2 ⟨rfl, hbx⟩
                    have HB2 := hide (bstep (unhide HB1) hbx)
                    clear hbx
                    go_wp2_with fail
                    refine (W _ hcb5).mono ?_
                    rintro e wz ⟨rfl, hwz⟩
                    replace hwz := hwz.symm
                    subst hwz
                    go_wp2_with fail
                    go_meet
                    case rel => exact ⟨by rw [unhide HM0], unhide HB2⟩
                · rw [hw] at W
                  have HM0 : Hid (isMeta (bl t) K = true) := hide (by unfold isMeta; rw [hb5, unhide HGc, decide_eq_true (by omega), pAhead_w hw]; rfl)
                  clear hb5 hw
                  go_wp2_with fail
                  refine (unhide HG5 _).mono ?_
                  rintro e w2 ⟨rfl, hbx⟩
                  have HB2 := hide (bstep (unhide HB1) hbx)
                  clear hbx
                  go_wp2_with fail
                  refine (W _ hcb5).mono ?_
                  rintro e wz ⟨rfl, hwz⟩
                  replace hwz := hwz.symm
                  subst hwz
                  go_wp2_with fail
                  go_meet
                  case rel => exact ⟨by rw [unhide HM0], unhide HB2⟩
              · have HM0 : Hid (isMeta (bl t) K = false) := hide (by unfold isMeta; rw [hb5, decide_eq_false (by omega)]; rfl)
                clear hb5
                go_wp2_with fail
                refine (unhide HG5 _).mono ?_
                rintro e w2 ⟨rfl, hbx⟩
                have HB2 := hide (bstep (unhide HB1) hbx)
                clear hbx
                go_wp2_with fail
                go_meet
                case rel => exact ⟨by rw [unhide HM0], unhide HB2⟩
        obtain ⟨rfl, hB2⟩ := hcut
        have HB2 := hide hB2
        clear hB2
        generalize hwd : wc = w2 at *
        clear hwd
        cases hm : isMeta (bl t) K
        · have hcb0 := u8_lt t hK
          have HG0 := hide (bl_at hK)
          obtain ⟨c0, hcc0⟩ : ∃ c : Int, (t[K].toNat : Int) = c := ⟨_, rfl⟩
          rw [hcc0] at hcb0 HG0
          go_upto_if 80 with fail
          go_cut [8] (fun nmv wx => nmv = .int .i64 (nmAt (bl t) K : Int) ∧ wx = w2)
          case first =>
            as_aux_lemma =>
              by_cases h60 : c0 = 60
              · subst h60
                by_cases h1 : K + 1 < t.size
                · have hcb1 := u8_lt t h1
                  have HG1 := hide (bl_at h1)
                  obtain ⟨c1, hcc1⟩ : ∃ c : Int, (t[K + 1].toNat : Int) = c := ⟨_, rfl⟩
                  rw [hcc1] at hcb1 HG1
                  have L1 := isLetter_any c1
                  cases hl1 : isLet c1
                  · rw [hl1] at L1
                    by_cases h47 : c1 = 47
                    · subst h47
                      by_cases h2 : K + 2 < t.size
                      · have hcb2 := u8_lt t h2
                        have HG2 := hide (bl_at h2)
                        obtain ⟨c2, hcc2⟩ : ∃ c : Int, (t[K + 2].toNat : Int) = c := ⟨_, rfl⟩
                        rw [hcc2] at hcb2 HG2
                        have L2 := isLetter_any c2
                        cases hl2 : isLet c2
                        · rw [hl2] at L2
                          have HNm : Hid (nmAt (bl t) K = 0) := hide (by unfold nmAt; rw [if_pos (unhide HG0), unhide HG1, unhide HG2, if_neg (by rw [hl2]; simp), if_neg (by rw [hl1]; simp)])
                          go_wp2_with fail
                          refine (L1 _ hcb1).mono ?_
                          rintro e wz ⟨rfl, hwz⟩
                          replace hwz := hwz.symm
                          subst hwz
                          go_wp2_with fail
                          refine (L2 _ hcb2).mono ?_
                          rintro e wz ⟨rfl, hwz⟩
                          replace hwz := hwz.symm
                          subst hwz
                          go_wp2_with fail
                          go_meet
                          case rel => exact ⟨by rw [unhide HNm]; rfl, rfl⟩
                        · rw [hl2] at L2
                          have HNm : Hid (nmAt (bl t) K = K + 2) := hide (by unfold nmAt; rw [if_pos (unhide HG0), unhide HG1, unhide HG2, if_pos ⟨by omega, rfl, hl2⟩])
                          go_wp2_with fail
                          refine (L1 _ hcb1).mono ?_
                          rintro e wz ⟨rfl, hwz⟩
                          replace hwz := hwz.symm
                          subst hwz
                          go_wp2_with fail
                          refine (L2 _ hcb2).mono ?_
                          rintro e wz ⟨rfl, hwz⟩
                          replace hwz := hwz.symm
                          subst hwz
                          go_wp2_with fail
                          go_meet
                          case rel => exact ⟨by rw [unhide HNm]; go_num, rfl⟩
                      · have HNm : Hid (nmAt (bl t) K = 0) := hide (by unfold nmAt; rw [if_pos (unhide HG0), unhide HG1, if_neg (by omega), if_neg (by rw [hl1]; simp)])
                        go_wp2_with fail
                        refine (L1 _ hcb1).mono ?_
                        rintro e wz ⟨rfl, hwz⟩
                        replace hwz := hwz.symm
                        subst hwz
                        go_wp2_with fail
                        go_meet
                        case rel => exact ⟨by rw [unhide HNm]; rfl, rfl⟩
                    · have h47e := ne_eq h47
                      have HNm : Hid (nmAt (bl t) K = 0) := hide (by unfold nmAt; rw [if_pos (unhide HG0), unhide HG1, if_neg (fun h => h47 h.2.1), if_neg (by rw [hl1]; simp)])
                      clear h47
                      by_cases h2 : K + 2 < t.size
                      all_goals
                        go_wp2_with fail
                        refine (L1 _ hcb1).mono ?_
                        rintro e wz ⟨rfl, hwz⟩
                        replace hwz := hwz.symm
                        subst hwz
                        go_wp2_with fail
                        go_meet
                        case rel => exact ⟨by rw [unhide HNm]; rfl, rfl⟩
                  · rw [hl1] at L1
                    have h47 : c1 ≠ 47 := fun h => by rw [h] at hl1; revert hl1; decide
                    have h47e := ne_eq h47
                    have HNm : Hid (nmAt (bl t) K = K + 1) := hide (by unfold nmAt; rw [if_pos (unhide HG0), unhide HG1, if_neg (fun h => h47 h.2.1), if_pos ⟨by omega, hl1⟩])
                    clear h47
                    by_cases h2 : K + 2 < t.size
                    all_goals
                      go_wp2_with fail
                      refine (L1 _ hcb1).mono ?_
                      rintro e wz ⟨rfl, hwz⟩
                      replace hwz := hwz.symm
                      subst hwz
                      go_wp2_with fail
                      go_meet
                      case rel => exact ⟨by rw [unhide HNm]; go_num, rfl⟩
                · have HNm : Hid (nmAt (bl t) K = 0) := hide (by unfold nmAt; rw [if_pos (unhide HG0), if_neg (by omega), if_neg (by omega)])
                  go_wp2_with fail
                  go_meet
                  case rel => exact ⟨by rw [unhide HNm]; rfl, rfl⟩
              · have h60e := ne_eq h60
                have HNm : Hid (nmAt (bl t) K = 0) := hide (by unfold nmAt; rw [if_neg (by rw [unhide HG0]; exact h60)])
                go_wp2_with fail
                go_meet
                case rel => exact ⟨by rw [unhide HNm]; rfl, rfl⟩
          obtain ⟨rfl, hwc⟩ := hcut
          replace hwc := hwc.symm
          subst hwc
          by_cases hn0 : 0 < nmAt (bl t) K
          · as_aux_lemma =>
              have hn := nmAt_le hn0
              have HNx := hide (nxtP_n hb4 hm hn0)
              have HMn := hide (no_meta hm)
              obtain ⟨nm, HNm⟩ : ∃ nm, Hid (nmAt (bl t) K = nm) := ⟨_, hide rfl⟩
              rw [unhide HNm] at hn0 hn HNx ⊢
              clear hb4 hm
              go_upto_block 4 with fail
              go_cut [8] (fun i wx => i = .int .i64 (run pVal (bl t) (nm) : Int) ∧ wx = w2)
              case first =>
                go_wp2_with fail
                go_loop [8] (fun i => ∃ k : Nat, i = .int .i64 k ∧ k ≤ t.size ∧ Hid (run pVal (bl t) k = run pVal (bl t) (nm))) (fun i => t.size - (intOf i).toNat)
                case atStart => exact ⟨nm, by go_num, by omega, hide rfl⟩
                case round =>
                  obtain ⟨k, rfl, hk, HR⟩ := hrel
                  by_cases hlt : k < t.size
                  · have hcb := u8_lt t hlt
                    have HG := hide (bl_at hlt)
                    obtain ⟨c, hcc⟩ : ∃ c : Int, (t[k].toNat : Int) = c := ⟨_, rfl⟩
                    rw [hcc] at hcb HG
                    by_cases h62 : c = 62
                    · subst h62
                      have HE : Hid (run pVal (bl t) (nm) = k) := hide (by rw [← unhide HR, run_stop (by omega) (by rw [unhide HG]; exact (by decide))])
                      go_wp2_with fail
                      go_meet
                      case rel => exact ⟨by rw [unhide HE], rfl⟩
                    · have h62e := ne_eq h62
                      have h62n := ne_ne h62
                      have W := isWhite_any c
                      cases hw : wh c
                      · rw [hw] at W
                        have HR' : Hid (run pVal (bl t) (k + 1) = run pVal (bl t) (nm)) := hide (by rw [← run_step (by omega) (by rw [unhide HG]; exact pVal_n h62e hw), unhide HR])
                        go_wp2_with fail
                        refine (W _ hcb).mono ?_
                        rintro e wz ⟨rfl, hwz⟩
                        replace hwz := hwz.symm
                        subst hwz
                        go_wp2_with fail
                        go_round
                        case rel => exact ⟨k + 1, by go_num, by omega, HR'⟩
                        case measure => simp [intOf]; omega
                      · rw [hw] at W
                        have HE : Hid (run pVal (bl t) (nm) = k) := hide (by rw [← unhide HR, run_stop (by omega) (by rw [unhide HG]; exact pVal_w hw)])
                        go_wp2_with fail
                        refine (W _ hcb).mono ?_
                        rintro e wz ⟨rfl, hwz⟩
                        replace hwz := hwz.symm
                        subst hwz
                        go_wp2_with fail
                        go_meet
                        case rel => exact ⟨by rw [unhide HE], rfl⟩
                  · have HE : Hid (run pVal (bl t) (nm) = k) := hide (by rw [← unhide HR, run_end (by omega)])
                    go_wp2_with fail
                    go_meet
                    case rel => exact ⟨by rw [unhide HE], rfl⟩
              obtain ⟨rfl, hwc⟩ := hcut
              replace hwc := hwc.symm
              subst hwc
              have ha := run_le pVal (bl t) (i := nm) (by omega)
              have ga := run_ge pVal (bl t) nm
              obtain ⟨a, HA⟩ : ∃ a, Hid (run pVal (bl t) nm = a) := ⟨_, hide rfl⟩
              rw [unhide HA] at ha ga HNx ⊢
              have HAt := hide (fun w => attrsAt_any t a w (by omega) (by omega))
              have hle := attrsI_le (bl t) _ a (Nat.le_refl _) (by omega)
              obtain ⟨Lx, tx, HLx⟩ : ∃ Lx tx, Hid (attrsI (bl t) a = (Lx, tx)) := ⟨_, _, hide rfl⟩
              rw [unhide HLx] at HAt hle HNx
              simp only at HAt hle HNx
              have HE : Hid (scnF (bl t) (tx + 1) = R) := hide (by rw [← scnF_next (by omega) (unhide HMn) (unhide HNx), unhide HC])
              clear HLx
              go_wp2_with fail
              refine (unhide HAt _).mono ?_
              rintro e w3 ⟨va, rfl, hOa, hb3⟩
              have HB3 := hide (bstep (unhide HB2) hb3)
              obtain ⟨aa, ca, hsa⟩ := owns_shape hOa
              subst hsa
              clear hb3 hOa
              go_wp2_with fail
              go_roundw
              case rel => exact ⟨tx + 1, by go_num, by omega, unhide HB3, HE⟩
              case measure => simp [intOf]; omega
          · as_aux_lemma =>
              have hz0 : nmAt (bl t) K = 0 := by omega
              rw [hz0]
              have HD0 := hide (fun h => nxtP_0 (l := bl t) (k := K) hb4 hm hn0 h)
              have HD1 := hide (fun h => nxtP_d (l := bl t) (k := K) hb4 hm hn0 h)
              have HMn := hide (no_meta hm)
              clear hb4 hm hn0 hz0
              go_upto_region 27 with fail
              go_cut [157] (fun b wx => b = .bool (isDecl (bl t) K) ∧ Below w.heap.size w wx)
              case first =>
                have HGE := hide (unhide GE K (by omega))
                have HGS := hide (unhide GS K (by omega))
                have HGQ := hide (unhide GQ K (by omega))
                have HDc : Hid (isDecl (bl t) K = (bgn (bl t) K bE || (bgn (bl t) K bS || bgn (bl t) K bQ))) := hide rfl
                generalize bgn (bl t) K bE = x1 at *
                generalize bgn (bl t) K bS = x2 at *
                generalize bgn (bl t) K bQ = x3 at *
                cases x1
                · cases x2
                  · go_wp2_with fail
                    refine (unhide HGE _).mono ?_
                    rintro e w5 ⟨rfl, hbx⟩
                    have HB5 := hide (bstep (unhide HB2) hbx)
                    clear hbx
                    go_wp2_with fail
                    refine (unhide HGS _).mono ?_
                    rintro e w6 ⟨rfl, hbx⟩
                    have HB6 := hide (bstep (unhide HB5) hbx)
                    clear hbx
                    go_wp2_with fail
                    refine (unhide HGQ _).mono ?_
                    rintro e w7 ⟨rfl, hbx⟩
                    have HB7 := hide (bstep (unhide HB6) hbx)
                    clear hbx
                    go_wp2_with fail
                    go_meet
                    case rel => exact ⟨by rw [unhide HDc]; rfl, unhide HB7⟩
                  · go_wp2_with fail
                    refine (unhide HGE _).mono ?_
                    rintro e w5 ⟨rfl, hbx⟩
                    have HB5 := hide (bstep (unhide HB2) hbx)
                    clear hbx
                    go_wp2_with fail
                    refine (unhide HGS _).mono ?_
                    rintro e w6 ⟨rfl, hbx⟩
                    have HB6 := hide (bstep (unhide HB5) hbx)
                    clear hbx
                    go_wp2_with fail
                    go_meet
                    case rel => exact ⟨by rw [unhide HDc]; rfl, unhide HB6⟩
                · go_wp2_with fail
                  refine (unhide HGE _).mono ?_
                  rintro e w5 ⟨rfl, hbx⟩
                  have HB5 := hide (bstep (unhide HB2) hbx)
                  clear hbx
                  go_wp2_with fail
                  go_meet
                  case rel => exact ⟨by rw [unhide HDc]; rfl, unhide HB5⟩
              obtain ⟨rfl, hBd⟩ := hcut
              have HBd := hide hBd
              clear hBd
              cases hd : isDecl (bl t) K
              · have HE : Hid (scnF (bl t) (K + 1) = R) := hide (by rw [← scnF_next (by omega) (unhide HMn) (unhide HD0 hd), unhide HC])
                clear hd
                go_wp2_with fail
                go_roundw
                case rel => exact ⟨K + 1, by go_num, by omega, unhide HBd, HE⟩
                case measure => simp [intOf]; omega
              · have HNx := hide (unhide HD1 hd)
                clear hd
                generalize hwd : wc = wd at *
                clear hwd
                go_upto_block 6 with fail
                go_cut [3] (fun i wx => i = .int .i64 (run (pNot 62) (bl t) (K) : Int) ∧ wx = wd)
                case first =>
                  go_wp2_with fail
                  go_loop [3] (fun i => ∃ k : Nat, i = .int .i64 k ∧ k ≤ t.size ∧ Hid (run (pNot 62) (bl t) k = run (pNot 62) (bl t) (K))) (fun i => t.size - (intOf i).toNat)
                  case atStart => exact ⟨K, by go_num, by omega, hide rfl⟩
                  case round =>
                    obtain ⟨k, rfl, hk, HR⟩ := hrel
                    by_cases hlt : k < t.size
                    · have hcb := u8_lt t hlt
                      have HG := hide (bl_at hlt)
                      obtain ⟨c, hcc⟩ : ∃ c : Int, (t[k].toNat : Int) = c := ⟨_, rfl⟩
                      rw [hcc] at hcb HG
                      by_cases h62 : c = 62
                      · subst h62
                        have HE : Hid (run (pNot 62) (bl t) (K) = k) := hide (by rw [← unhide HR, run_stop (by omega) (by rw [unhide HG]; exact (by decide))])
                        go_wp2_with fail
                        go_meet
                        case rel => exact ⟨by rw [unhide HE], rfl⟩
                      · have h62e := ne_eq h62
                        have h62n := ne_ne h62
                        have HR' : Hid (run (pNot 62) (bl t) (k + 1) = run (pNot 62) (bl t) (K)) := hide (by rw [← run_step (by omega) (by rw [unhide HG]; exact pNot_n h62e), unhide HR])
                        go_wp2_with fail
                        go_round
                        case rel => exact ⟨k + 1, by go_num, by omega, HR'⟩
                        case measure => simp [intOf]; omega
                    · have HE : Hid (run (pNot 62) (bl t) (K) = k) := hide (by rw [← unhide HR, run_end (by omega)])
                      go_wp2_with fail
                      go_meet
                      case rel => exact ⟨by rw [unhide HE], rfl⟩
                obtain ⟨rfl, hwc⟩ := hcut
                replace hwc := hwc.symm
                subst hwc
                have ha := run_le (pNot 62) (bl t) (i := K) (by omega)
                have ga := run_ge (pNot 62) (bl t) K
                obtain ⟨a, HA⟩ : ∃ a, Hid (run (pNot 62) (bl t) K = a) := ⟨_, hide rfl⟩
                rw [unhide HA] at ha ga HNx ⊢
                have HE : Hid (scnF (bl t) (a + 1) = R) := hide (by rw [← scnF_next (by omega) (unhide HMn) (unhide HNx), unhide HC])
                go_wp2_with fail
                go_roundw
                case rel => exact ⟨a + 1, by go_num, by omega, unhide HBd, HE⟩
                case measure => simp [intOf]; omega
        · as_aux_lemma =>
            have h5 : K + 5 < t.size := by have := hm; unfold isMeta at this; simp at this; omega
            have HAt := hide (fun w => attrsAt_any t (K + 5) w (by omega) (by omega))
            have hle := attrsI_le (bl t) _ (K + 5) (Nat.le_refl _) (by omega)
            have HF := hide (txts_few (l := bl t) (k := K + 5) (n := 3000) (by omega))
            have HMv : Hid (metaAt (bl t) K = metaI (txts (attrsI (bl t) (K + 5)).1)) := hide rfl
            have HNx := hide (nxtP_m hb4 hm)
            have HSm := hide (fun h => scnF_meta (l := bl t) (k := K) (by omega) hb4 hm h)
            have HSn := hide (fun (h : metaAt (bl t) K = 0) => scnF_next (l := bl t) (k := K) (by omega) (fun q => q.2.2 h) (nxtP_m hb4 hm))
            obtain ⟨Lx, tx, HLx⟩ : ∃ Lx tx, Hid (attrsI (bl t) (K + 5) = (Lx, tx)) := ⟨_, _, hide rfl⟩
            rw [unhide HLx] at HAt hle HF HMv HNx HSn
            simp only at HAt hle
            clear hb4 hm HLx
            go_wp2_with fail
            refine (unhide HAt _).mono ?_
            rintro e w3 ⟨va, rfl, hOa, hb3⟩
            have HB3 := hide (bstep (unhide HB2) hb3)
            have HAs := hide (Ats.of_owns hOa)
            obtain ⟨aa, ca, hsa⟩ := owns_shape hOa
            subst hsa
            clear hb3 hOa
            have HMe := hide (metaOf_any w3 (unhide HAs) (unhide HF))
            rw [← unhide HMv] at HMe
            generalize metaAt (bl t) K = n at *
            go_wp2_with fail
            refine (unhide HMe).mono ?_
            rintro e w4 ⟨rfl, hb4⟩
            have HB4 := hide (bstep (unhide HB3) hb4)
            clear hb4
            by_cases hn0 : n = 0
            · have HE : Hid (scnF (bl t) (tx + 1) = R) := hide (by rw [← unhide HSn hn0, unhide HC])
              subst hn0
              go_wp2_with fail
              go_roundw
              case rel => exact ⟨tx + 1, by go_num, by omega, unhide HB4, HE⟩
              case measure => simp [intOf]; omega
            · have HE : Hid (R = n) := hide (by rw [← unhide HC, unhide HSm hn0])
              have hn0n := ne_ne hn0
              go_wp2_with fail
              go_ret
              exact ⟨by rw [unhide HE]; rfl, unhide HB4⟩
      · as_aux_lemma =>
        have HG := hide (unhide G4 K (by omega))
        rw [hb4] at HG
        have hb := bgn_le hb4
        have hk4 : K + 4 ≤ t.size := by rw [hl] at hb; exact hb
        have HN := hide (nxtP_4 hb4)
        have HM : Hid (¬ (bgn (bl t) K b4 = false ∧ isMeta (bl t) K = true ∧ metaAt (bl t) K ≠ 0)) := hide (fun h => by rw [hb4] at h; cases h.1)
        clear hb4 hb
        go_wp2_with fail
        refine (unhide HG _).mono ?_
        rintro e w1 ⟨rfl, hb1⟩
        have HB1 := hide (bstep (unhide HB) hb1)
        clear hb1
        go_wp2_with fail
        go_loopw [4] (fun i wr => ∃ j : Nat, i = .int .i64 j ∧ K + 2 ≤ j ∧ j ≤ t.size ∧ Below w.heap.size w wr ∧ Hid (fbI (bl t) j = fbI (bl t) (K + 2))) (fun i _ => t.size - (intOf i).toNat)
        case atStart => exact ⟨K + 2, by go_num, by omega, by omega, unhide HB1, hide rfl⟩
        case round =>
          obtain ⟨j, rfl, hKj, hj, hBj, HF⟩ := hrel
          have HBj := hide hBj
          clear hBj
          by_cases hjl : j < t.size
          · have HG3 := hide (unhide G3 j hj)
            cases hb3 : bgn (bl t) j b3
            · rw [hb3] at HG3
              have HF' : Hid (fbI (bl t) (j + 1) = fbI (bl t) (K + 2)) := hide (by rw [← fbI_miss (by omega) hb3, unhide HF])
              clear hb3
              go_wp2_with fail
              refine (unhide HG3 _).mono ?_
              rintro e w2 ⟨rfl, hb2⟩
              have HB2 := hide (bstep (unhide HBj) hb2)
              clear hb2
              go_wp2_with fail
              go_roundw
              case rel => exact ⟨j + 1, by go_num, by omega, by omega, unhide HB2, HF'⟩
              case measure => simp [intOf]; omega
            · rw [hb3] at HG3
              have HE : Hid (scnF (bl t) (j + 3) = R) := hide (by rw [← scnF_next (by omega) (unhide HM) (by rw [unhide HN, ← unhide HF, fbI_hit (by omega) hb3]), unhide HC])
              clear hb3
              go_wp2_with fail
              refine (unhide HG3 _).mono ?_
              rintro e w2 ⟨rfl, hb2⟩
              have HB2 := hide (bstep (unhide HBj) hb2)
              clear hb2
              go_wp2_with fail
              go_roundw
              case rel => exact ⟨j + 3, by go_num, by omega, unhide HB2, HE⟩
              case measure => simp [intOf]; omega
          · have HE : Hid (scnF (bl t) (j + 3) = R) := hide (by rw [← scnF_next (by omega) (unhide HM) (by rw [unhide HN, ← unhide HF, fbI_end (by omega)]), unhide HC])
            go_wp2_with fail
            go_roundw
            case rel => exact ⟨j + 3, by go_num, by omega, unhide HBj, HE⟩
            case measure => simp [intOf]; omega
    · have HZ : Hid (R = 0) := hide (by rw [← unhide HC, scnF_end (by omega)])
      go_wp2_with fail
      go_ret
      exact ⟨by rw [unhide HZ]; rfl, unhide HB⟩
end Go.Proofs.YtaiinjfnkmidbaaGreatDoor

namespace Go.Proofs.YtaiinjfnkmidbaaGreatDoor
open Go.RowKit

theorem bgn_drop (l : List Int) (k j : Nat) (m : List Int) (hk : k ≤ l.length) : bgn (l.drop k) j m = bgn l (k + j) m := by
  unfold bgn cut
  rw [List.length_drop, List.drop_drop, Bool.eq_iff_iff, decide_eq_true_eq, decide_eq_true_eq, show j + m.length - j = k + j + m.length - (k + j) from by omega]
  constructor
  · rintro ⟨h1, h2⟩
    by_cases h : m.length = 0
    · have : m = [] := List.eq_nil_of_length_eq_zero h
      subst this
      simp at h1 ⊢
      by_cases hz : k + j ≤ l.length
      · exact ⟨hz, by simpa using h2⟩
      · omega
    · exact ⟨by omega, h2⟩
  · rintro ⟨h1, h2⟩; exact ⟨by omega, h2⟩
theorem getD_drop (l : List Int) (k j : Nat) : (l.drop k).getD j 0 = l.getD (k + j) 0 := by
  rw [List.getD_eq_getElem?_getD, List.getElem?_drop, List.getD_eq_getElem?_getD]
theorem stn_drop (l : List Int) (k j : Nat) (m : List Int) : stn (l.drop k) j m = stn l (k + j) m := by
  unfold stn
  rw [getD_drop, List.length_drop]
  congr 1
  rw [Bool.eq_iff_iff, decide_eq_true_eq, decide_eq_true_eq]; omega
theorem stn_ahead (l : List Int) (k : Nat) : stn l k [9, 10, 12, 13, 32, 47] = (decide (k < l.length) && pAhead (l.getD k 0)) := by
  unfold stn pAhead wh
  congr 1
  rw [Bool.eq_iff_iff]
  simp
  omega
/-- Does a tag begin at a place? -/
def isTg (l : List Int) (k : Nat) : Bool :=
  if stn l k [60] = false then false else if stn l (k + 1) [47] = true then decide (k + 2 < l.length) && isLet (l.getD (k + 2) 0) else decide (k + 1 < l.length) && isLet (l.getD (k + 1) 0)
theorem isTg_nm {l : List Int} {k : Nat} (hk : k < l.length) : isTg l k = decide (0 < nmAt l k) := by
  unfold isTg nmAt
  by_cases h0 : l.getD k 0 = 60
  · rw [if_neg (by rw [(stn_one l k 60).2 ⟨hk, h0⟩]; simp), if_pos h0]
    by_cases h1 : k + 1 < l.length ∧ l.getD (k + 1) 0 = 47
    · rw [if_pos ((stn_one l (k + 1) 47).2 h1)]
      by_cases h2 : k + 2 < l.length ∧ isLet (l.getD (k + 2) 0) = true
      · rw [if_pos ⟨h2.1, h1.2, h2.2⟩, decide_eq_true h2.1, h2.2]; simp
      · have hn : ¬ (k + 2 < l.length ∧ l.getD (k + 1) 0 = 47 ∧ isLet (l.getD (k + 2) 0) = true) := fun h => h2 ⟨h.1, h.2.2⟩
        have hm : ¬ (k + 1 < l.length ∧ isLet (l.getD (k + 1) 0) = true) := fun h => by rw [h1.2] at h; exact absurd h.2 (by decide)
        rw [if_neg hn, if_neg hm, Bool.eq_iff_iff]
        simp only [Bool.and_eq_true, decide_eq_true_eq]
        exact ⟨fun h => absurd h h2, fun h => absurd h (by omega)⟩
    · have hs : ¬ stn l (k + 1) [47] = true := fun e => h1 ((stn_one l (k + 1) 47).1 e)
      have hn : ¬ (k + 2 < l.length ∧ l.getD (k + 1) 0 = 47 ∧ isLet (l.getD (k + 2) 0) = true) := fun h => h1 ⟨by omega, h.2.1⟩
      rw [if_neg hs, if_neg hn]
      by_cases h2 : k + 1 < l.length ∧ isLet (l.getD (k + 1) 0) = true
      · rw [if_pos h2, decide_eq_true h2.1, h2.2]; simp
      · rw [if_neg h2, Bool.eq_iff_iff]
        simp only [Bool.and_eq_true, decide_eq_true_eq]
        exact ⟨fun h => absurd h h2, fun h => absurd h (by omega)⟩
  · have hs : stn l k [60] = false := by
      cases hq : stn l k [60]
      · rfl
      · exact absurd ((stn_one l k 60).1 hq).2 h0
    rw [if_pos hs, if_neg h0]; rfl
theorem run_nm {l : List Int} {k : Nat} (hk : k < l.length) (h : 0 < nmAt l k) : run pVal l k = run pVal l (nmAt l k) := by
  have h' := h
  unfold nmAt at h' ⊢
  split at h'
  · rename_i c0
    rw [if_pos c0]
    have e1 : run pVal l k = run pVal l (k + 1) := run_step hk (by rw [c0]; decide)
    split at h'
    · rename_i c
      rw [if_pos c, e1, run_step (by omega) (by rw [c.2.1]; decide)]
    · rename_i c
      rw [if_neg c]
      split at h'
      · rename_i c'
        rw [if_pos c', e1]
      · omega
  · omega
theorem isMeta_stn (l : List Int) (k : Nat) : isMeta l k = (stn l (k + 5) [9, 10, 12, 13, 32, 47] && bgn l k b5) := by
  unfold isMeta; rw [stn_ahead, Bool.and_comm]
theorem isMeta_drop {l : List Int} {k : Nat} (hk : k ≤ l.length) : isMeta (l.drop k) 0 = isMeta l k := by
  rw [isMeta_stn, isMeta_stn, stn_drop, bgn_drop l k 0 b5 hk]; rfl
theorem isTg_drop {l : List Int} {k : Nat} : isTg (l.drop k) 0 = isTg l k := by
  unfold isTg
  rw [stn_drop, stn_drop, getD_drop, getD_drop, List.length_drop]
  have e1 : decide (0 + 2 < l.length - k) = decide (k + 2 < l.length) := by rw [Bool.eq_iff_iff, decide_eq_true_eq, decide_eq_true_eq]; omega
  have e2 : decide (0 + 1 < l.length - k) = decide (k + 1 < l.length) := by rw [Bool.eq_iff_iff, decide_eq_true_eq, decide_eq_true_eq]; omega
  rw [e1, e2]
  rfl
theorem bgn_two {l : List Int} {k : Nat} {x y : Int} (hx : x < 97 ∧ (x < 65 ∨ 90 < x)) (hy : y < 97 ∧ (y < 65 ∨ 90 < y)) : bgn l k [x, y] = (stn l k [x] && stn l (k + 1) [y]) := by
  rw [← bg0_low (by simp) (fun z hz => by simp at hz; rcases hz with rfl | rfl <;> assumption), bg0_cut (by simp), Bool.eq_iff_iff]
  simp only [Bool.and_eq_true, decide_eq_true_eq, stn_one, List.length_cons, List.length_nil]
  constructor
  · rintro ⟨h1, h2⟩
    rw [show k + (0 + 1 + 1) = k + 1 + 1 from by omega, cut_snoc (by omega) (by omega), cut_snoc (by omega) (by omega), cut_self] at h2
    simp at h2
    exact ⟨⟨by omega, by simpa using h2.1⟩, ⟨by omega, by simpa using h2.2⟩⟩
  · rintro ⟨⟨h1, h2⟩, h3, h4⟩
    refine ⟨by omega, ?_⟩
    rw [show k + (0 + 1 + 1) = k + 1 + 1 from by omega, cut_snoc (by omega) (by omega), cut_snoc (by omega) (by omega), cut_self, h2, h4]
    rfl
theorem isDecl_stn (l : List Int) (k : Nat) : isDecl l k = (stn l k [60] && stn l (k + 1) [33, 47, 63]) := by
  unfold isDecl bE bS bQ
  rw [bgn_two (by decide) (by decide), bgn_two (by decide) (by decide), bgn_two (by decide) (by decide)]
  have e : stn l (k + 1) [33, 47, 63] = (stn l (k + 1) [33] || (stn l (k + 1) [47] || stn l (k + 1) [63])) := by
    unfold stn
    cases decide (k + 1 < l.length) <;> simp
  rw [e]
  cases stn l k [60] <;> simp
theorem fbI_skip {l : List Int} {k : Nat} : ∀ i : Nat, k + i ≤ l.length → (∀ j, j < i → bgn l (k + j) b3 = false) → fbI l k = fbI l (k + i)
  | 0, _, _ => rfl
  | i + 1, h, hj => by
    rw [fbI_skip i (by omega) (fun j h' => hj j (by omega)), fbI_miss (by omega) (hj i (by omega))]
    rfl
theorem b3N : b3 ≠ [] := by decide
theorem b3low : ∀ y ∈ b3, y < 97 ∧ (y < 65 ∨ 90 < y) := by decide
theorem b4N : b4 ≠ [] := by decide
theorem b4low : ∀ y ∈ b4, y < 97 ∧ (y < 65 ∨ 90 < y) := by decide
theorem txts_both {l : List Int} {k n : Nat} (h : l.length ≤ n) : ∀ x ∈ txts (attrsI l k).1, x.1.size ≤ n ∧ x.2.size ≤ n := by
  intro x hx
  unfold txts at hx
  rw [List.mem_map] at hx
  obtain ⟨y, hy, rfl⟩ := hx
  have := attrsN_few l _ k y hy
  rw [strOfNums_size, strOfNums_size]; omega
/-- Two places from which a look goes on alike. -/
def Alike (l : List Int) (a b : Nat) : Prop := a = b ∨ (l.length ≤ a ∧ l.length ≤ b)
theorem scnF_alike {l : List Int} {a b : Nat} (h : Alike l a b) : scnF l a = scnF l b := by
  rcases h with rfl | ⟨h1, h2⟩
  · rfl
  · rw [scnF_end h1, scnF_end h2]
end Go.Proofs.YtaiinjfnkmidbaaGreatDoor

namespace Go.Proofs.YtaiinjfnkmidbaaGreatDoor
open Go.RowKit
set_option linter.unusedVariables false

set_option maxHeartbeats 400000 in
set_option maxRecDepth 100000 in
theorem sletter_any (c : Int) (w : World) (h : 0 ≤ c ∧ c < 256) : Calls Tryz.prog 219 #[.int .u8 c] w fun e w' => e = .returned (.bool (isLet c)) ∧ w' = w := by
  rcases (show c < 65 ∨ (65 ≤ c ∧ c ≤ 90) ∨ (90 < c ∧ c < 97) ∨ (97 ≤ c ∧ c ≤ 122) ∨ 122 < c from by omega) with h1 | h1 | h1 | h1 | h1
  · have HE : Hid (isLet c = false) := hide (by unfold isLet; rw [decide_eq_false (show ¬ 97 ≤ c from by omega), decide_eq_false (show ¬ 65 ≤ c from by omega)]; rfl)
    go_enter Tryz.func219, Tryz.ntmps219
    go_wp2_with fail
    go_ret
    exact ⟨ret_bool (by rw [unhide HE] <;> simp <;> omega), rfl⟩
  · obtain ⟨g1, g2⟩ := h1
    have HE : Hid (isLet c = true) := hide (by unfold isLet; rw [decide_eq_true (show 65 ≤ c from by omega), decide_eq_true (show c ≤ 90 from by omega)]; simp)
    go_enter Tryz.func219, Tryz.ntmps219
    go_wp2_with fail
    go_ret
    exact ⟨ret_bool (by rw [unhide HE] <;> simp <;> omega), rfl⟩
  · obtain ⟨g1, g2⟩ := h1
    have HE : Hid (isLet c = false) := hide (by unfold isLet; rw [decide_eq_false (show ¬ 97 ≤ c from by omega), decide_eq_false (show ¬ c ≤ 90 from by omega)]; simp)
    go_enter Tryz.func219, Tryz.ntmps219
    go_wp2_with fail
    go_ret
    exact ⟨ret_bool (by rw [unhide HE] <;> simp <;> omega), rfl⟩
  · obtain ⟨g1, g2⟩ := h1
    have HE : Hid (isLet c = true) := hide (by unfold isLet; rw [decide_eq_true (show 97 ≤ c from by omega), decide_eq_true (show c ≤ 122 from by omega)]; rfl)
    go_enter Tryz.func219, Tryz.ntmps219
    go_wp2_with fail
    go_ret
    exact ⟨ret_bool (by rw [unhide HE] <;> simp <;> omega), rfl⟩
  · have HE : Hid (isLet c = false) := hide (by unfold isLet; rw [decide_eq_false (show ¬ c ≤ 122 from by omega), decide_eq_false (show ¬ c ≤ 90 from by omega)]; simp)
    go_enter Tryz.func219, Tryz.ntmps219
    go_wp2_with fail
    go_ret
    exact ⟨ret_bool (by rw [unhide HE] <;> simp <;> omega), rfl⟩
set_option maxHeartbeats 800000 in
set_option maxRecDepth 100000 in
theorem beginsTag_any (s : ByteArray) (w : World) (hs : s.size ≤ 3000) : Calls Tryz.prog 188 #[.string s] w fun e w' => e = .returned (.bool (isTg (bl s) 0)) ∧ w' = w := by
  have hl := hide (bl_len s)
  have H0 := hide (fun w => stands_any s 0 ⟨#[60]⟩ w (by omega) hs)
  rw [show bl ⟨#[60]⟩ = [60] from by decide, show ((0 : Nat) : Int) = 0 from rfl] at H0
  have H1 := hide (fun w => stands_any s 1 ⟨#[47]⟩ w (by omega) hs)
  rw [show bl ⟨#[47]⟩ = [47] from by decide, show ((1 : Nat) : Int) = 1 from rfl] at H1
  have HT : Hid (isTg (bl s) 0 = if stn (bl s) 0 [60] = false then false else if stn (bl s) 1 [47] = true then decide (2 < s.size) && isLet ((bl s).getD 2 0) else decide (1 < s.size) && isLet ((bl s).getD 1 0)) := hide (by unfold isTg; rw [unhide hl])
  generalize stn (bl s) 0 [60] = q0 at *
  generalize stn (bl s) 1 [47] = q1 at *
  go_enter Tryz.func188, Tryz.ntmps188
  go_wp2_with fail
  refine (unhide H0 _).mono ?_
  rintro e w1 ⟨rfl, hw⟩
  replace hw := hw.symm
  subst hw
  cases q0
  · have HT' := hide ((unhide HT).trans (if_pos rfl))
    clear HT
    go_wp2_with fail
    go_ret
    exact ⟨ret_bool (unhide HT').symm, rfl⟩
  · have HT' := hide ((unhide HT).trans (if_neg (by simp)))
    clear HT
    go_wp2_with fail
    refine (unhide H1 _).mono ?_
    rintro e w1 ⟨rfl, hw⟩
    replace hw := hw.symm
    subst hw
    cases q1
    · have HT2 := hide ((unhide HT').trans (if_neg (by simp)))
      clear HT'
      by_cases h : 1 < s.size
      · have hcb := u8_lt s h
        have HG := hide (bl_at h)
        have HL := hide (fun w => sletter_any (s[1].toNat : Int) w hcb)
        have HT3 : Hid (isTg (bl s) 0 = isLet (s[1].toNat : Int)) := hide (by rw [unhide HT2, decide_eq_true h, unhide HG]; rfl)
        generalize isLet (s[1].toNat : Int) = z at *
        clear HT2
        go_wp2_with fail
        refine (unhide HL _).mono ?_
        rintro e w1 ⟨rfl, hw⟩
        replace hw := hw.symm
        subst hw
        go_wp2_with fail
        go_ret
        exact ⟨ret_bool (unhide HT3).symm, rfl⟩
      · have HT3 : Hid (isTg (bl s) 0 = false) := hide (by rw [unhide HT2, decide_eq_false h]; rfl)
        clear HT2
        go_wp2_with fail
        go_ret
        exact ⟨ret_bool (unhide HT3).symm, rfl⟩
    · have HT2 := hide ((unhide HT').trans (if_pos rfl))
      clear HT'
      by_cases h : 2 < s.size
      · have hcb := u8_lt s h
        have HG := hide (bl_at h)
        have HL := hide (fun w => sletter_any (s[2].toNat : Int) w hcb)
        have HT3 : Hid (isTg (bl s) 0 = isLet (s[2].toNat : Int)) := hide (by rw [unhide HT2, decide_eq_true h, unhide HG]; rfl)
        generalize isLet (s[2].toNat : Int) = z at *
        clear HT2
        go_wp2_with fail
        refine (unhide HL _).mono ?_
        rintro e w1 ⟨rfl, hw⟩
        replace hw := hw.symm
        subst hw
        go_wp2_with fail
        go_ret
        exact ⟨ret_bool (unhide HT3).symm, rfl⟩
      · have HT3 : Hid (isTg (bl s) 0 = false) := hide (by rw [unhide HT2, decide_eq_false h]; rfl)
        clear HT2
        go_wp2_with fail
        go_ret
        exact ⟨ret_bool (unhide HT3).symm, rfl⟩
set_option maxHeartbeats 800000 in
set_option maxRecDepth 100000 in
theorem beginsMeta_any (s : ByteArray) (w : World) (hs : s.size ≤ 3000) : Calls Tryz.prog 187 #[.string s] w fun e w' => e = .returned (.bool (isMeta (bl s) 0)) ∧ Below w.heap.size w w' := by
  have hl := hide (bl_len s)
  have H0 := hide (fun w => stands_any s 5 ⟨#[9, 10, 12, 13, 32, 47]⟩ w (by omega) hs)
  rw [show bl ⟨#[9, 10, 12, 13, 32, 47]⟩ = [9, 10, 12, 13, 32, 47] from by decide, show ((5 : Nat) : Int) = 5 from rfl] at H0
  have HM : Hid (isMeta (bl s) 0 = (stn (bl s) 5 [9, 10, 12, 13, 32, 47] && bgn (bl s) 0 b5)) := hide (isMeta_stn (bl s) 0)
  have HL : Hid (stn (bl s) 5 [9, 10, 12, 13, 32, 47] = true → 5 < s.size) := hide (fun h => by unfold stn at h; rw [Bool.and_eq_true, decide_eq_true_eq, unhide hl] at h; exact h.1)
  generalize stn (bl s) 5 [9, 10, 12, 13, 32, 47] = q0 at *
  go_enter Tryz.func187, Tryz.ntmps187
  go_wp2_with fail
  refine (unhide H0 _).mono ?_
  rintro e w1 ⟨rfl, hw⟩
  replace hw := hw.symm
  subst hw
  cases q0
  · clear HL
    go_wp2_with fail
    go_ret
    exact ⟨ret_bool (by rw [unhide HM]; rfl), Below.refl _ _⟩
  · have h5 := unhide HL rfl
    have HF := hide (fun w => Fold_ok (s.extract 0 5) w (by simp; omega))
    rw [show bl (s.extract 0 5) = cut (bl s) 0 (0 + 5) from by rw [bl_cut]] at HF
    have HE : Hid (isMeta (bl s) 0 = decide (strOfNums (fdI (cut (bl s) 0 (0 + 5))) = ⟨#[60, 109, 101, 116, 97]⟩)) := hide (by
      have h := bgn_at (s := s) (m := ⟨#[60, 109, 101, 116, 97]⟩) (k := 0) (by show 0 + 5 ≤ s.size; omega)
      rw [show bl ⟨#[60, 109, 101, 116, 97]⟩ = b5 from by decide] at h
      rw [unhide HM, ← h]; rfl)
    clear HM HL H0
    generalize strOfNums (fdI (cut (bl s) 0 (0 + 5))) = f at *
    have e4 := hide (eq_lit f ⟨#[60, 109, 101, 116, 97]⟩ [60, 109, 101, 116, 97] (by rw [Lib.toList_data]))
    go_wp2_with fail
    refine (unhide HF _).mono ?_
    rintro e w1 ⟨rfl, hb⟩
    have HB := hide hb
    clear hb
    go_wp2_with fail
    go_ret
    exact ⟨ret_bool (by rw [unhide HE, ← unhide e4]), unhide HB⟩
set_option maxHeartbeats 800000 in
set_option maxRecDepth 100000 in
theorem behind_any (s : ByteArray) (k : Nat) (w : World) (hk : k + 4 ≤ s.size) (hs : s.size ≤ 3000) (hM : Mx w) : Calls Tryz.prog 186 #[.string s, .int .i64 (k : Int)] w fun e w' => (∃ t : Nat, e = .returned (.int .i64 (t : Int)) ∧ Alike (bl s) t (fbI (bl s) (k + 2) + 3) ∧ t ≤ 4000) ∧ w' = w := by
  have hl := hide (bl_len s)
  have HI := hide (bIndex_any (s.extract (k + 2) s.size) ⟨#[45, 45, 62]⟩ w (by simp; omega) hM)
  have HX := idx_bl s ⟨#[45, 45, 62]⟩ (k + 2) (by omega)
  rw [show bl ⟨#[45, 45, 62]⟩ = b3 from by decide] at HX
  simp only [bg0_low b3N b3low] at HX
  rcases HX with ⟨e1, e2⟩ | ⟨i, e1, e2, e3, e4⟩
  · rw [e1] at HI
    have HA : Hid (Alike (bl s) s.size (fbI (bl s) (k + 2) + 3)) := hide (.inr ⟨by rw [unhide hl]; exact Nat.le_refl _, by
      have := fbI_skip (l := bl s) (k := k + 2) (s.size - (k + 2)) (by rw [unhide hl]; omega) (fun j hj => e2 _ (by omega) (by omega))
      rw [this, fbI_end (by rw [unhide hl]; omega), unhide hl]; omega⟩)
    clear e1 e2
    go_enter Tryz.func186, Tryz.ntmps186
    go_wp2_with fail
    refine (unhide HI).mono ?_
    rintro e w1 ⟨rfl, hw⟩
    replace hw := hw.symm
    subst hw
    go_wp2_with fail
    go_ret
    exact ⟨⟨s.size, rfl, unhide HA, by omega⟩, rfl⟩
  · rw [e1] at HI
    have h3 : k + 2 + i + 3 ≤ s.size := by have := bgn_le e3; rw [unhide hl] at this; exact this
    have HA : Hid (Alike (bl s) (k + 2 + i + 3) (fbI (bl s) (k + 2) + 3)) := hide (.inl (by
      rw [fbI_skip (l := bl s) (k := k + 2) i (by rw [unhide hl]; omega) e4, fbI_hit (by rw [unhide hl]; omega) e3]))
    clear e1 e3 e4
    go_enter Tryz.func186, Tryz.ntmps186
    go_wp2_with fail
    refine (unhide HI).mono ?_
    rintro e w1 ⟨rfl, hw⟩
    replace hw := hw.symm
    subst hw
    go_wp2_with fail
    go_ret
    exact ⟨⟨k + 2 + i + 3, ret_int (by omega), unhide HA, by omega⟩, rfl⟩
end Go.Proofs.YtaiinjfnkmidbaaGreatDoor

namespace Go.Proofs.YtaiinjfnkmidbaaGreatDoor
open Go.RowKit
set_option linter.unusedVariables false

set_option maxHeartbeats 400000 in
set_option maxRecDepth 100000 in
theorem lStep1 (c : Int) (w : World) (h : 0 ≤ c ∧ c < 256) : Calls Tryz.prog 189 #[.int .u8 c] w fun e w' => e = .returned (.bool (pVal c)) ∧ w' = w := by
  by_cases h62 : c = 62
  · subst h62
    go_enter Tryz.func189, Tryz.ntmps189
    go_wp2_with fail
    go_ret
    exact ⟨ret_bool (by decide), rfl⟩
  · have h62e := ne_eq h62
    have h62n := ne_ne h62
    have W := hide (fun w => white_any c w h)
    have HP : Hid (pVal c = !wh c) := hide (by unfold pVal; rw [h62e]; simp)
    obtain ⟨q, HQ⟩ : ∃ q, Hid (wh c = q) := ⟨_, hide rfl⟩
    rw [unhide HQ] at W HP
    go_enter Tryz.func189, Tryz.ntmps189
    go_wp2_with fail
    refine (unhide W _).mono ?_
    rintro e w1 ⟨rfl, hw⟩
    replace hw := hw.symm
    subst hw
    go_wp2_with fail
    go_ret
    exact ⟨ret_bool (by rw [unhide HP]), rfl⟩
set_option maxHeartbeats 400000 in
set_option maxRecDepth 100000 in
theorem lStep2 (c : Int) (w : World) (h : 0 ≤ c ∧ c < 256) : Calls Tryz.prog 191 #[.int .u8 c] w fun e w' => e = .returned (.bool (pNot 62 c)) ∧ w' = w := by
  go_enter Tryz.func191, Tryz.ntmps191
  go_wp2_with fail
  go_ret
  exact ⟨ret_bool (by unfold pNot; rfl), rfl⟩
theorem wStep1 (s : ByteArray) (k : Nat) (w : World) (hk : k ≤ s.size) (hs : s.size ≤ 3000) :
    Calls Tryz.prog 163 #[.string s, .int .i64 (k : Int), .func (Fn.func 189) #[] #[]] w fun e w' => e = .returned (.int .i64 (run pVal (bl s) k : Int)) ∧ w' = w :=
  while0 189 pVal s k w hk hs (enters_of Tryz.func189 (by kernel_rfl) rfl) (fun c w h => lStep1 c w h)
theorem wStep2 (s : ByteArray) (k : Nat) (w : World) (hk : k ≤ s.size) (hs : s.size ≤ 3000) :
    Calls Tryz.prog 163 #[.string s, .int .i64 (k : Int), .func (Fn.func 191) #[] #[]] w fun e w' => e = .returned (.int .i64 (run (pNot 62) (bl s) k : Int)) ∧ w' = w :=
  while0 191 (pNot 62) s k w hk hs (enters_of Tryz.func191 (by kernel_rfl) rfl) (fun c w h => lStep2 c w h)
/-- The encoding that the thing at a place tells. -/
def encI (l : List Int) (k : Nat) : Int := if bgn l k b4 = false ∧ isMeta l k = true then metaAt l k else 0
theorem encI_yes {l : List Int} {k : Nat} (hk : k < l.length) (h : encI l k ≠ 0) : scnF l k = encI l k := by
  unfold encI at *
  split at h
  · rename_i c
    rw [if_pos c, scnF_meta hk c.1 c.2 h]
  · exact absurd rfl h
theorem encI_no {l : List Int} {k : Nat} (hk : k < l.length) (h : encI l k = 0) : scnF l k = scnF l (nxtP l k) := by
  refine scnF_next hk ?_ rfl
  rintro ⟨h1, h2, h3⟩
  unfold encI at h
  rw [if_pos ⟨h1, h2⟩] at h
  exact h3 h
theorem alike_gt {l : List Int} {k t : Nat} (hk : k < l.length) (h : Alike l t (nxtP l k)) : k < t := by
  rcases h with rfl | ⟨h1, _⟩
  · exact nxtP_gt hk
  · omega
set_option maxHeartbeats 3200000 in
set_option maxRecDepth 100000 in
theorem step_any (s : ByteArray) (k : Nat) (w : World) (hk : k < s.size) (hs : s.size ≤ 3000) (hM : Mx w) :
    Calls Tryz.prog 135 #[.string s, .int .i64 (k : Int)] w fun e w' => ∃ t : Nat, e = .returned (.tuple #[.int .i64 (encI (bl s) k), .int .i64 (t : Int)]) ∧ Alike (bl s) t (nxtP (bl s) k) ∧ t ≤ 4000 ∧ Below w.heap.size w w' := by
  have hl := hide (bl_len s)
  have hzr : (s.extract k s.size).size ≤ 3000 := by simp; omega
  have hbr := bl_extract s k
  have HP := hide (fun w => hasPre_any (s.extract k s.size) ⟨#[60, 33, 45, 45]⟩ w)
  rw [show bl ⟨#[60, 33, 45, 45]⟩ = b4 from by decide, hbr, bg0_drop, bg0_low b4N b4low, Nat.add_zero] at HP
  have HBM := hide (fun w => beginsMeta_any (s.extract k s.size) w hzr)
  rw [hbr, isMeta_drop (by rw [unhide hl]; omega)] at HBM
  have HBT := hide (fun w => beginsTag_any (s.extract k s.size) w hzr)
  rw [hbr, isTg_drop, isTg_nm (by rw [unhide hl]; exact hk)] at HBT
  have HS0 := hide (fun w => stands_any (s.extract k s.size) 0 ⟨#[60]⟩ w (by omega) hzr)
  rw [show bl ⟨#[60]⟩ = [60] from by decide, hbr, stn_drop, Nat.add_zero, show ((0 : Nat) : Int) = 0 from rfl] at HS0
  have HS1 := hide (fun w => stands_any (s.extract k s.size) 1 ⟨#[33, 47, 63]⟩ w (by omega) hzr)
  rw [show bl ⟨#[33, 47, 63]⟩ = [33, 47, 63] from by decide, hbr, stn_drop, show ((1 : Nat) : Int) = 1 from rfl] at HS1
  have HDc := hide (isDecl_stn (bl s) k)
  have HM := hide hM
  clear hbr hzr hM
  obtain ⟨c4, H4⟩ : ∃ c4, Hid (bgn (bl s) k b4 = c4) := ⟨_, hide rfl⟩
  obtain ⟨cm, Hm⟩ : ∃ cm, Hid (isMeta (bl s) k = cm) := ⟨_, hide rfl⟩
  obtain ⟨ct, Ht⟩ : ∃ ct, Hid (decide (0 < nmAt (bl s) k) = ct) := ⟨_, hide rfl⟩
  obtain ⟨q0, Hq0⟩ : ∃ q, Hid (stn (bl s) k [60] = q) := ⟨_, hide rfl⟩
  obtain ⟨q1, Hq1⟩ : ∃ q, Hid (stn (bl s) (k + 1) [33, 47, 63] = q) := ⟨_, hide rfl⟩
  rw [unhide H4] at HP
  rw [unhide Hm] at HBM
  rw [unhide Ht] at HBT
  rw [unhide Hq0] at HS0 HDc
  rw [unhide Hq1] at HS1 HDc
  generalize hrest : s.extract k s.size = rest at *
  have Hrest := hide hrest
  have hsl : ∀ wx, (Instr.slice 9 (.string s) (some (.int .i64 (k : Int))) none none).run Tryz.prog wx = .ok (.string rest) wx := fun wx => by
    rw [← unhide Hrest]
    have := run_slice_string_from_if (P := Tryz.prog) (w := wx) 9 s .i64 (k : Int) Tryz.underlying9
    rw [this]
    simp
    omega
  clear hrest
  go_enter Tryz.func135, Tryz.ntmps135
  go_wp2_with fail
  refine (unhide HP _).mono ?_
  rintro e w1 ⟨rfl, hw⟩
  replace hw := hw.symm
  subst hw
  cases c4
  · clear HP
    go_wp2_with fail
    refine (unhide HBM _).mono ?_
    rintro e w1 ⟨rfl, hb1⟩
    have HB1 := hide hb1
    clear hb1 HBM
    cases cm
    · have HE : Hid (encI (bl s) k = 0) := hide (by unfold encI; rw [unhide Hm, if_neg (by simp)])
      go_wp2_with fail
      refine (unhide HBT _).mono ?_
      rintro e w2 ⟨rfl, hw⟩
      replace hw := hw.symm
      subst hw
      clear HBT
      cases ct
      · have hnn : ¬ 0 < nmAt (bl s) k := of_decide_eq_false (unhide Ht)
        have HN0 := hide (fun h => nxtP_0 (unhide H4) (unhide Hm) hnn h)
        have HN1 := hide (fun h => nxtP_d (unhide H4) (unhide Hm) hnn h)
        rw [unhide HDc] at HN0 HN1
        clear hnn
        go_wp2_with fail
        refine (unhide HS0 _).mono ?_
        rintro e w2 ⟨rfl, hw⟩
        replace hw := hw.symm
        subst hw
        clear HS0
        cases q0
        · have HN := hide (unhide HN0 rfl)
          clear HN0 HN1
          go_wp2_with fail
          go_ret2
          exact ⟨k + 1, by rw [unhide HE]; rfl, .inl (unhide HN).symm, by omega, unhide HB1⟩
        · go_wp2_with fail
          refine (unhide HS1 _).mono ?_
          rintro e w2 ⟨rfl, hw⟩
          replace hw := hw.symm
          subst hw
          clear HS1
          cases q1
          · have HN := hide (unhide HN0 rfl)
            clear HN0 HN1
            go_wp2_with fail
            go_ret2
            exact ⟨k + 1, by rw [unhide HE]; rfl, .inl (unhide HN).symm, by omega, unhide HB1⟩
          · have HN := hide (unhide HN1 rfl)
            have hr := run_le (pNot 62) (bl s) (i := k) (by rw [unhide hl]; omega)
            rw [unhide hl] at hr
            have HW := hide (fun w => wStep2 s k w (by omega) hs)
            clear HN0 HN1
            generalize run (pNot 62) (bl s) k = r at *
            go_wp2_with fail
            refine (unhide HW _).mono ?_
            rintro e w2 ⟨rfl, hw⟩
            replace hw := hw.symm
            subst hw
            go_wp2_with fail
            go_ret2
            exact ⟨r + 1, by rw [unhide HE]; rfl, .inl (unhide HN).symm, by omega, unhide HB1⟩
      · have hnn : 0 < nmAt (bl s) k := of_decide_eq_true (unhide Ht)
        have HN := hide (nxtP_n (unhide H4) (unhide Hm) hnn)
        rw [← run_nm (by rw [unhide hl]; exact hk) hnn] at HN
        have hr := run_le pVal (bl s) (i := k) (by rw [unhide hl]; omega)
        rw [unhide hl] at hr
        have HW := hide (fun w => wStep1 s k w (by omega) hs)
        clear hnn
        generalize run pVal (bl s) k = r at *
        have HA := hide (fun w => All_ok s r w hr hs)
        have hle := attrsI_le (bl s) _ r (Nat.le_refl _) (by rw [unhide hl]; exact hr)
        rw [unhide hl] at hle
        obtain ⟨A, tt, HX⟩ : ∃ A tt, Hid (attrsI (bl s) r = (A, tt)) := ⟨_, _, hide rfl⟩
        rw [unhide HX] at HA HN hle
        simp only at HA HN hle
        go_wp2_with fail
        refine (unhide HW _).mono ?_
        rintro e w2 ⟨rfl, hw⟩
        replace hw := hw.symm
        subst hw
        go_wp2_with fail
        refine (unhide HA _).mono ?_
        rintro e w2 ⟨v, rfl, hat, hb2⟩
        have HB2 := hide (bstep (unhide HB1) hb2)
        clear hb2 hat
        go_wp2_with fail
        go_ret2
        exact ⟨tt + 1, by rw [unhide HE]; rfl, .inl (unhide HN).symm, by omega, unhide HB2⟩
    · have HE : Hid (encI (bl s) k = metaAt (bl s) k) := hide (by unfold encI; rw [unhide Hm, unhide H4, if_pos ⟨rfl, rfl⟩])
      have h5 : k + 5 < s.size := by
        have := unhide Hm
        unfold isMeta at this
        rw [Bool.and_eq_true, Bool.and_eq_true, decide_eq_true_eq, unhide hl] at this
        exact this.2.1
      have HN := hide (nxtP_m (unhide H4) (unhide Hm))
      have HA := hide (fun w => All_ok s (k + 5) w (by omega) hs)
      rw [show ((k + 5 : Nat) : Int) = (k : Int) + 5 from by omega] at HA
      have hle := attrsI_le (bl s) _ (k + 5) (Nat.le_refl _) (by rw [unhide hl]; omega)
      rw [unhide hl] at hle
      have HMt := hide (fun (v : Value) (w : World) (h : Ats w v (txts (attrsI (bl s) (k + 5)).1)) (hm : Mx w) => Meta_ok w h (by simp only [txts, List.length_map]; omega) (txts_both (by rw [unhide hl]; exact hs)) hm)
      have HME : Hid (metaAt (bl s) k = metaI (txts (attrsI (bl s) (k + 5)).1)) := hide rfl
      rw [← unhide HME, ← unhide HE] at HMt
      clear HME HE
      obtain ⟨A, tt, HX⟩ : ∃ A tt, Hid (attrsI (bl s) (k + 5) = (A, tt)) := ⟨_, _, hide rfl⟩
      rw [unhide HX] at HA HN hle HMt
      simp only at HA HN hle HMt
      go_wp2_with fail
      refine (unhide HA _).mono ?_
      rintro e w2 ⟨v, rfl, hat, hb2⟩
      have HB2 := hide (bstep (unhide HB1) hb2)
      have HMc := hide (unhide HMt v w2 hat ((unhide HM).below (unhide HB2)))
      clear hb2 hat HMt
      go_wp2_with fail
      refine (unhide HMc).mono ?_
      rintro e w3 ⟨rfl, hb3⟩
      have HB3 := hide (bstep (unhide HB2) hb3)
      clear hb3
      go_wp2_with fail
      go_ret2
      exact ⟨tt + 1, rfl, .inl (unhide HN).symm, by omega, unhide HB3⟩
  · have HE : Hid (encI (bl s) k = 0) := hide (by unfold encI; rw [unhide H4, if_neg (by simp)])
    have hb4 : k + 4 ≤ s.size := by have := bgn_le (unhide H4); rw [unhide hl] at this; exact this
    have HN := hide (nxtP_4 (unhide H4))
    have HC := hide (behind_any s k w hb4 hs (unhide HM))
    rw [← unhide HN] at HC
    go_wp2_with fail
    refine (unhide HC).mono ?_
    rintro e w1 ⟨⟨t, rfl, hal, ht⟩, hw⟩
    replace hw := hw.symm
    subst hw
    have HAl := hide hal
    clear hal
    go_wp2_with fail
    go_ret2
    exact ⟨t, by rw [unhide HE]; rfl, unhide HAl, ht, Below.refl _ _⟩
set_option maxHeartbeats 800000 in
set_option maxRecDepth 100000 in
theorem look_any (s : ByteArray) (w : World) (hs : s.size ≤ 3000) (hM : Mx w) :
    Calls Tryz.prog 78 #[.string s] w fun e w' => e = .returned (.int .i64 (scnF (bl s) 0)) ∧ Below w.heap.size w w' := by
  have hl := hide (bl_len s)
  have HM := hide hM
  clear hM
  go_enter Tryz.func78, Tryz.ntmps78
  go_wp2_with fail
  go_loopw [3] (fun i wr => ∃ k : Nat, i = .int .i64 k ∧ k ≤ 4000 ∧ Below w.heap.size w wr ∧ Hid (scnF (bl s) 0 = scnF (bl s) k)) (fun i _ => 5000 - (intOf i).toNat)
  case atStart => exact ⟨0, rfl, by omega, Below.refl _ _, hide rfl⟩
  case round =>
    obtain ⟨k, rfl, hk, hbr, HS⟩ := hrel
    have HB := hide hbr
    clear hbr
    by_cases hlt : k < s.size
    · have HC := hide (step_any s k wr hlt hs ((unhide HM).below (unhide HB)))
      have HY := hide (fun h => encI_yes (l := bl s) (k := k) (by rw [unhide hl]; exact hlt) h)
      have HNo := hide (fun h => encI_no (l := bl s) (k := k) (by rw [unhide hl]; exact hlt) h)
      have HG := hide (fun t (h : Alike (bl s) t (nxtP (bl s) k)) => alike_gt (by rw [unhide hl]; exact hlt) h)
      generalize encI (bl s) k = E at *
      go_wp2_with fail
      refine (unhide HC).mono ?_
      rintro e w1 ⟨t, rfl, hal, ht, hb1⟩
      have HB1 := hide (bstep (unhide HB) hb1)
      have hgt := unhide HG t hal
      have HAl := hide (scnF_alike hal)
      clear hb1 hal HC HG
      by_cases hE : E = 0
      · subst hE
        have HS' : Hid (scnF (bl s) 0 = scnF (bl s) t) := hide (by rw [unhide HS, unhide HNo rfl, unhide HAl])
        clear HY HNo HAl
        go_wp2_with fail
        go_roundw
        case rel => exact ⟨t, rfl, ht, unhide HB1, HS'⟩
        case measure => simp [intOf]; omega
      · have hne : (E != 0) = true := bne_iff_ne.2 hE
        have HS' : Hid (scnF (bl s) 0 = E) := hide (by rw [unhide HS, unhide HY hE])
        clear HY HNo HAl hE
        go_wp2_with fail
        go_ret
        exact ⟨ret_int (unhide HS').symm, unhide HB1⟩
    · have HS' : Hid (scnF (bl s) 0 = 0) := hide (by rw [unhide HS, scnF_end (by rw [unhide hl]; omega)])
      go_wp2_with fail
      go_ret
      exact ⟨ret_int (unhide HS').symm, unhide HB⟩
set_option maxHeartbeats 800000 in
set_option maxRecDepth 100000 in
theorem scan1_any (s : ByteArray) (w : World) (hs : s.size ≤ 3000) (hM : Mx w) :
    Calls Tryz.prog 77 #[.string s] w fun e w' => e = .returned (.int .i64 (scnI (bl s))) ∧ Below w.heap.size w w' := by
  by_cases h : s.size ≤ 256
  · have HL := hide (look_any s w hs hM)
    rw [show scnF (bl s) 0 = scnI (bl s) from by unfold scnI; rw [List.take_of_length_le (by rw [bl_len]; exact h)]] at HL
    have hmin : min (s.size : Int) 256 = (s.size : Int) := by omega
    clear hM
    go_enter Tryz.func77, Tryz.ntmps77
    go_wp2_with fail
    refine (unhide HL).mono ?_
    rintro e w1 ⟨rfl, hb⟩
    have HB := hide hb
    clear hb
    go_wp2_with fail
    go_ret
    exact ⟨rfl, unhide HB⟩
  · have HL := hide (look_any (s.extract 0 256) w (by simp; omega) hM)
    rw [show scnF (bl (s.extract 0 256)) 0 = scnI (bl s) from by unfold scnI; rw [bl_take]] at HL
    have hmin : min (s.size : Int) 256 = 256 := by omega
    clear hM
    go_enter Tryz.func77, Tryz.ntmps77
    go_wp2_with fail
    refine (unhide HL).mono ?_
    rintro e w1 ⟨rfl, hb⟩
    have HB := hide hb
    clear hb
    go_wp2_with fail
    go_ret
    exact ⟨rfl, unhide HB⟩
set_option maxHeartbeats 400000 in
set_option maxRecDepth 100000 in
theorem Scan_ok (s : ByteArray) (w : World) (hs : s.size ≤ 3000) (hM : Mx w) :
    Calls Tryz.prog 30 #[.string s] w fun e w' => e = .returned (.tuple #[.int .i64 (scnI (bl s)), .int .i64 0]) ∧ Below w.heap.size w w' := by
  have HC := hide (scan1_any s w hs hM)
  clear hM
  generalize scnI (bl s) = r at HC ⊢
  go_enter Tryz.func30, Tryz.ntmps30
  go_wp2_with (first | (go_at_call 77; refine (unhide HC).mono ?_; rintro e w1 ⟨rfl, hb⟩) | go_in)
  go_ret2
  exact ⟨rfl, by assumption⟩
set_option maxHeartbeats 400000 in
set_option maxRecDepth 100000 in
theorem Scan_long (s : ByteArray) (w : World) (hm : s.size ≤ maxLen) (hs : 3000 < s.size) :
    Calls Tryz.prog 30 #[.string s] w fun e w' => e = .returned (.tuple #[.int .i64 0, .int .i64 2]) ∧ Below w.heap.size w w' := by
  unfold maxLen at hm
  go_enter Tryz.func30, Tryz.ntmps30
  go_wp2
  go_ret2
  exact ⟨rfl, Below.refl _ _⟩
end Go.Proofs.YtaiinjfnkmidbaaGreatDoor

namespace Go.Proofs.YtaiinjfnkmidbaaGreatDoor
open Go.RowKit
set_option linter.unusedVariables false

theorem results_tmp4 {fn : Func} {t u v x : Tmp} (h : fn.results = #[.tmp t, .tmp u, .tmp v, .tmp x]) (tmps : Array Value) (P : Program) (w : World) :
    (results fn tmps).run P w = .ok (.tuple #[tmps.getD t undef, tmps.getD u undef, tmps.getD v undef, tmps.getD x undef]) w := by
  simp [results, h]
set_option maxHeartbeats 1600000 in
set_option maxRecDepth 100000 in
theorem chSays : ChSays := by
  intro name s w hn hs hM
  have HM := hide hM
  have HS := hide (fun w => Sniff_any s w (by unfold maxLen; omega))
  have HF := hide (fun w => Find_ok name w hn)
  have HC := hide (fun w h => Scan_ok s w hs h)
  have R1 := hide (fun h => chI_mark (name := name) (l := bl s) h)
  have R2 := hide (fun h h1 => chI_label (name := name) (l := bl s) h h1)
  have R3 := hide (fun h h1 h2 => chI_meta (name := name) (l := bl s) h h1 h2)
  have R4 := hide (fun h h1 h2 => chI_none (name := name) (l := bl s) h h1 h2)
  generalize (M.sn (bl s)).1 = a at *
  generalize (M.sn (bl s)).2 = b at *
  generalize findI name = c at *
  generalize scnI (bl s) = d at *
  generalize chI name (bl s) = K at *
  clear hM hn hs
  go_enter Tryz.func12, Tryz.ntmps12
  go_wp2_with fail
  refine (unhide HF _).mono ?_
  rintro e w1 ⟨rfl, hb1⟩
  have HB1 := hide hb1
  clear hb1 HF
  go_wp2_with fail
  refine (unhide HC _ ((unhide HM).below (unhide HB1))).mono ?_
  rintro e w2 ⟨rfl, hb2⟩
  have HB2 := hide (bstep (unhide HB1) hb2)
  clear hb2 HB1 HC
  go_wp2_with fail
  refine (unhide HS _).mono ?_
  rintro e w3 ⟨rfl, hb3⟩
  have HB3 := hide (bstep (unhide HB2) hb3)
  clear hb3 HB2 HS
  by_cases h0 : a = 0
  · subst h0
    by_cases h1 : c = 0
    · subst h1
      by_cases h2 : d = 0
      · subst h2
        have HR := hide (unhide R4 rfl rfl rfl)
        clear R1 R2 R3 R4
        go_wp2_with fail
        refine bodyPost_ret (results_tmp4 rfl _ _ _) rfl ?_
        exact ⟨by rw [unhide HR]; rfl, unhide HB3⟩
      · have HR := hide (unhide R3 rfl rfl h2)
        have hne : (d != 0) = true := bne_iff_ne.2 h2
        clear R1 R2 R3 R4 h2
        go_wp2_with fail
        refine bodyPost_ret (results_tmp4 rfl _ _ _) rfl ?_
        exact ⟨by rw [unhide HR]; rfl, unhide HB3⟩
    · have HR := hide (unhide R2 rfl h1)
      have hne : (c != 0) = true := bne_iff_ne.2 h1
      clear R1 R2 R3 R4 h1
      go_wp2_with fail
      refine bodyPost_ret (results_tmp4 rfl _ _ _) rfl ?_
      exact ⟨by rw [unhide HR]; rfl, unhide HB3⟩
  · have HR := hide (unhide R1 h0)
    have hne : (a != 0) = true := bne_iff_ne.2 h0
    clear R1 R2 R3 R4 h0
    go_wp2_with fail
    refine bodyPost_ret (results_tmp4 rfl _ _ _) rfl ?_
    exact ⟨by rw [unhide HR]; rfl, unhide HB3⟩

set_option maxHeartbeats 800000 in
set_option maxRecDepth 100000 in
theorem chErrs : ChErrs := by
  intro name s w hn hs h hM
  have HM := hide hM
  by_cases hq : 3000 < name.size
  · have HF := hide (fun w => Find_long name w hq hn)
    clear hM hn hs h
    go_enter Tryz.func12, Tryz.ntmps12
    go_wp2_with fail
    refine (unhide HF _).mono ?_
    rintro e w1 ⟨rfl, hw⟩
    replace hw := hw.symm
    subst hw
    go_wp2_with fail
    refine bodyPost_ret (results_tmp4 rfl _ _ _) rfl ?_
    exact ⟨rfl, Below.refl _ _⟩
  · have HF := hide (fun w => Find_ok name w (by omega))
    have HC := hide (fun w => Scan_long s w hs (by omega))
    generalize findI name = c at *
    clear hM hn hs h hq
    go_enter Tryz.func12, Tryz.ntmps12
    go_wp2_with fail
    refine (unhide HF _).mono ?_
    rintro e w1 ⟨rfl, hb1⟩
    have HB1 := hide hb1
    clear hb1 HF
    go_wp2_with fail
    refine (unhide HC _).mono ?_
    rintro e w2 ⟨rfl, hb2⟩
    have HB2 := hide (bstep (unhide HB1) hb2)
    clear hb2 HB1 HC
    go_wp2_with fail
    refine bodyPost_ret (results_tmp4 rfl _ _ _) rfl ?_
    exact ⟨rfl, unhide HB2⟩
end Go.Proofs.YtaiinjfnkmidbaaGreatDoor

namespace Go.Proofs.YtaiinjfnkmidbaaGreatDoor
open Go.RowKit
set_option linter.unusedVariables false

/-- The place of a number, or -1. -/
def plc (xs : List Int) (n : Int) : Int := match xs.findIdx? (· == n) with | some k => k | none => -1
theorem plc_hit {xs : List Int} {n : Int} {k : Nat} (hk : k < xs.length) (h : ∀ j, j < k → xs.getD j 0 ≠ n) (hn : xs.getD k 0 = n) : plc xs n = k := by
  have e : xs.findIdx? (· == n) = some k := by
    rw [List.findIdx?_eq_some_iff_getElem]
    refine ⟨hk, by simpa [List.getD, hk] using hn, fun j hj => ?_⟩
    have := h j hj
    have hj' : j < xs.length := by omega
    simpa [List.getD, hj'] using this
  unfold plc; rw [e]
theorem plc_miss {xs : List Int} {n : Int} (h : ∀ j, j < xs.length → xs.getD j 0 ≠ n) : plc xs n = -1 := by
  have e : xs.findIdx? (· == n) = none := by
    rw [List.findIdx?_eq_none_iff]
    intro x hx
    obtain ⟨j, hj, rfl⟩ := List.getElem_of_mem hx
    have := h j hj
    simpa [List.getD, hj] using this
  unfold plc; rw [e]
theorem plc_has (xs : List Int) (n : Int) : decide (0 ≤ plc xs n) = xs.any (· == n) := by
  unfold plc
  cases h : xs.findIdx? (· == n) with
  | some k =>
    rw [List.findIdx?_eq_some_iff_getElem] at h
    obtain ⟨hk, hq, _⟩ := h
    have : xs.any (· == n) = true := List.any_eq_true.2 ⟨xs[k], List.getElem_mem _, hq⟩
    rw [this]; simp
  | none =>
    rw [List.findIdx?_eq_none_iff] at h
    have : xs.any (· == n) = false := by rw [List.any_eq_false]; intro x hx; simp [h x hx]
    rw [this]; simp

set_option maxHeartbeats 400000 in
set_option maxRecDepth 100000 in
theorem index_ints {v : Value} {xs : List Int} (n : Int) (w : World) (hx : Ints w v xs) :
    Calls Tryz.prog 194 #[v, .int .i64 n] w fun e w' => e = .returned (.int .i64 (plc xs n)) ∧ w' = w := by
  obtain ⟨ao, cap, rfl, hm, -, hc⟩ := id hx
  unfold maxLen at hm
  clear hx
  have HC := hide hc
  clear hc
  go_enter Tryz.func194, Tryz.ntmps194
  go_wp2_with fail
  go_loop [8] (fun i => ∃ k : Nat, k ≤ xs.length ∧ i = .int .i64 k ∧ Hid (∀ j, j < k → xs.getD j 0 ≠ n)) (fun i => xs.length - (intOf i).toNat)
  case atStart => exact ⟨0, by omega, rfl, hide (fun j hj => by omega)⟩
  case round =>
    obtain ⟨k, hk, rfl, HN⟩ := hrel
    by_cases hlt : k < xs.length
    · obtain ⟨b, off, rfl, hc⟩ : ∃ b off, ao = some ⟨b, off, none⟩ ∧ ∀ i, i < xs.length → w.cell? ⟨b, off + i, none⟩ = some (.int .i64 (xs.getD i 0)) := by
        rcases unhide HC with h | h
        · subst h; simp at hlt
        · exact h
      have hcell := hc k hlt
      have hbr : b < w.heap.size := World.block_lt_of_cell? w _ hcell
      obtain ⟨p, HP⟩ : ∃ p, Hid (xs.getD k 0 = p) := ⟨_, hide rfl⟩
      rw [unhide HP] at hcell
      clear hc
      by_cases hq : n = p
      · subst hq
        have HR := hide (plc_hit hlt (unhide HN) (unhide HP))
        go_wp2_with fail
        go_ret
        exact ⟨by rw [unhide HR]; rfl, rfl⟩
      · have hq' : (n == p) = false := by simpa using hq
        have HN' : Hid (∀ j, j < k + 1 → xs.getD j 0 ≠ n) := hide (fun j hj => by
          by_cases e : j = k
          · rw [e, unhide HP]; exact fun h => hq h.symm
          · exact unhide HN j (by omega))
        clear HN
        go_wp2_with fail
        go_round
        case rel => exact ⟨k + 1, by omega, by go_num, HN'⟩
        case measure => simp [intOf]; omega
    · have HR : Hid (plc xs n = -1) := hide (plc_miss (fun j hj => unhide HN j (by omega)))
      go_wp2_with fail
      go_ret
      exact ⟨by rw [unhide HR]; rfl, rfl⟩

set_option maxHeartbeats 400000 in
set_option maxRecDepth 100000 in
theorem contains_ints {v : Value} {xs : List Int} (n : Int) (w : World) (hx : Ints w v xs) :
    Calls Tryz.prog 144 #[v, .int .i64 n] w fun e w' => e = .returned (.bool (xs.any (· == n))) ∧ w' = w := by
  have H := index_ints n w hx
  obtain ⟨ao, cap, rfl, hm, -, hc⟩ := id hx
  have HD := hide (plc_has xs n)
  generalize plc xs n = q at *
  generalize xs.any (· == n) = r at *
  clear hx hc
  go_enter Tryz.func144, Tryz.ntmps144
  go_wp2_with fail
  refine H.mono ?_
  rintro e w1 ⟨rfl, hw⟩
  replace hw := hw.symm
  subst hw
  go_wp2_with fail
  go_ret
  refine ⟨?_, rfl⟩
  rw [← unhide HD]
  rfl
end Go.Proofs.YtaiinjfnkmidbaaGreatDoor

namespace Go.Proofs.YtaiinjfnkmidbaaGreatDoor.M

def outE (n : Int) : Int := if n = 2 ∨ n = 3 ∨ n = 7 then 1 else n
def hasE (n p : Int) : Bool := if n = 4 then hasB false p else if n = 5 then hasB true p else if n = 6 then anyK p else true
/-- The digits of a number, as bytes. -/
def digs (n : Nat) : List Int := if h : n < 10 then [48 + (n : Int)] else digs (n / 10) ++ [48 + ((n % 10 : Nat) : Int)]
termination_by n
decreasing_by omega
/-- A number that is told. -/
def tld (p : Int) : List Int := [38, 35] ++ digs p.toNat ++ [59]
/-- The code points that are written where all may be told. -/
def ptE (n p : Int) : List Int := if hasE n p then [p] else tld p
def ptsE (n : Int) (l : List Int) : List Int := l.flatMap (ptE n)
def encB (n : Int) (l : List Int) : List Int := if n = 4 then encS false l else if n = 5 then encS true l else if n = 6 then kenc l else enc l

theorem digs_lo {n : Nat} (h : n < 10) : digs n = [48 + (n : Int)] := by rw [digs, dif_pos h]
theorem digs_hi {n : Nat} (h : ¬ n < 10) : digs n = digs (n / 10) ++ [48 + ((n % 10 : Nat) : Int)] := by rw [digs, dif_neg h]
theorem digs_bd (n : Nat) : ∀ x ∈ digs n, 48 ≤ x ∧ x ≤ 57 := by
  induction n using Nat.strongRecOn with
  | _ n ih =>
    intro x hx
    by_cases h : n < 10
    · rw [digs_lo h] at hx; simp at hx; omega
    · rw [digs_hi h] at hx
      rcases List.mem_append.1 hx with h1 | h1
      · exact ih (n / 10) (by omega) x h1
      · simp at h1; omega
theorem digs_len : ∀ (k n : Nat), 1 ≤ k → n < 10 ^ k → (digs n).length ≤ k := by
  intro k
  induction k with
  | zero => intro n h; omega
  | succ k ih =>
    intro n _ hn
    by_cases h : n < 10
    · rw [digs_lo h]; simp
    · have hk : 1 ≤ k := by
        rcases Nat.eq_zero_or_pos k with rfl | h'
        · simp at hn; omega
        · exact h'
      have := ih (n / 10) hk (by rw [Nat.pow_succ] at hn; omega)
      rw [digs_hi h]; simp; omega
theorem tld_bd (p : Int) : ∀ x ∈ tld p, 35 ≤ x ∧ x ≤ 59 := by
  intro x hx
  unfold tld at hx
  simp only [List.mem_append, List.mem_cons, List.not_mem_nil, or_false] at hx
  rcases hx with ((rfl | rfl) | h) | rfl
  · omega
  · omega
  · have := digs_bd _ x h; omega
  · omega
theorem sclr_bd {p : Int} (h : sclr p = true) : 0 ≤ p ∧ p ≤ 1114111 := by
  have := (sclr_iff p).1 h; omega
theorem digs_seven {p : Int} (h : sclr p = true) : (digs p.toNat).length ≤ 7 := by
  have := sclr_bd h
  exact digs_len 7 _ (by omega) (by have : (10 : Nat) ^ 7 = 10000000 := rfl; omega)
theorem tld_len {p : Int} (h : sclr p = true) : (tld p).length ≤ 10 := by
  have := digs_seven h
  unfold tld; simp; omega
theorem ptE_len {n p : Int} (h : sclr p = true) : (ptE n p).length ≤ 10 := by
  unfold ptE; split
  · simp
  · exact tld_len h
theorem ptsE_len (n : Int) (l : List Int) (h : l.all sclr = true) : (ptsE n l).length ≤ 10 * l.length := by
  induction l with
  | nil => simp [ptsE]
  | cons p t ih =>
    rw [List.all_cons, Bool.and_eq_true] at h
    have h1 := ptE_len (n := n) h.1
    have h2 := ih h.2
    have e : ptsE n (p :: t) = ptE n p ++ ptsE n t := rfl
    rw [e, List.length_append, List.length_cons]; omega
theorem ptsE_snoc (n : Int) (l : List Int) (p : Int) : ptsE n (l ++ [p]) = ptsE n l ++ ptE n p := by simp [ptsE]
theorem ptE_yes {n p : Int} (h : hasE n p = true) : ptE n p = [p] := by unfold ptE; rw [if_pos h]
theorem ptE_no {n p : Int} (h : hasE n p = false) : ptE n p = tld p := by unfold ptE; rw [if_neg (by simp [h])]
theorem ptsE_all (n : Int) (l : List Int) (h : l.all (hasE n) = true) : ptsE n l = l := by
  induction l with
  | nil => rfl
  | cons p t ih =>
    rw [List.all_cons, Bool.and_eq_true] at h
    have e : ptsE n (p :: t) = ptE n p ++ ptsE n t := rfl
    rw [e, ih h.2, ptE_yes h.1]; rfl
theorem hasB_low (user : Bool) {p : Int} (h0 : 0 ≤ p) (h1 : p < 128) : hasB user p = true := by
  obtain ⟨k, hk, rfl⟩ := byte_nat h0 (by omega : p ≤ 255)
  have : pt user (k : Int) = k := by unfold pt; rw [if_pos h1]
  rw [← this]; exact hasB_pt user hk
theorem hasE_low (n : Int) {p : Int} (h0 : 28 ≤ p) (h1 : p < 128) : hasE n p = true := by
  unfold hasE
  split
  · exact hasB_low _ (by omega) h1
  · split
    · exact hasB_low _ (by omega) h1
    · split
      · have : pln p = true := by unfold pln; exact decide_eq_true (by omega)
        unfold anyK; rw [pln_has this]; rfl
      · rfl
theorem tld_has (n p : Int) : (tld p).all (hasE n) = true := by
  rw [List.all_eq_true]
  intro x hx
  have := tld_bd p x hx
  exact hasE_low n (by omega) (by omega)
theorem ptE_has (n p : Int) : (ptE n p).all (hasE n) = true := by
  unfold ptE; split
  · rename_i h; simp [h]
  · exact tld_has n p
theorem ptsE_has (n : Int) (l : List Int) : (ptsE n l).all (hasE n) = true := by
  induction l with
  | nil => rfl
  | cons p t ih =>
    have e : ptsE n (p :: t) = ptE n p ++ ptsE n t := rfl
    rw [e, List.all_append, ptE_has, ih]; rfl
theorem tld_sclr (p : Int) : (tld p).all sclr = true := by
  rw [List.all_eq_true]
  intro x hx
  have := tld_bd p x hx
  rw [sclr_iff]; omega
theorem ptsE_sclr (n : Int) (l : List Int) (h : l.all sclr = true) : (ptsE n l).all sclr = true := by
  induction l with
  | nil => rfl
  | cons p t ih =>
    rw [List.all_cons, Bool.and_eq_true] at h
    have e : ptsE n (p :: t) = ptE n p ++ ptsE n t := rfl
    rw [e, List.all_append, ih h.2, Bool.and_true]
    unfold ptE; split
    · simp [h.1]
    · exact tld_sclr p
theorem hasE_out (n p : Int) : hasE (outE n) p = hasE n p := by
  unfold outE; split
  · rename_i h
    unfold hasE
    rw [if_neg (by omega), if_neg (by omega), if_neg (by omega), if_neg (by omega), if_neg (by omega), if_neg (by omega)]
  · rfl
theorem encB_out (n : Int) (l : List Int) : encB (outE n) l = encB n l := by
  unfold outE; split
  · rename_i h
    unfold encB
    rw [if_neg (by omega), if_neg (by omega), if_neg (by omega), if_neg (by omega), if_neg (by omega), if_neg (by omega)]
  · rfl
theorem outE_bd {n : Int} (h : 1 ≤ n ∧ n ≤ 7) : outE n = 1 ∨ outE n = 4 ∨ outE n = 5 ∨ outE n = 6 := by
  unfold outE; split <;> omega
theorem hasE_four (p : Int) : hasE 4 p = hasB false p := rfl
theorem hasE_five (p : Int) : hasE 5 p = hasB true p := rfl
theorem hasE_six (p : Int) : hasE 6 p = anyK p := rfl
theorem hasE_one {n : Int} (h : outE n = 1) (p : Int) : hasE n p = true := by rw [← hasE_out, h]; rfl
theorem ptsE_one {n : Int} (h : outE n = 1) (l : List Int) : ptsE n l = l := ptsE_all n l (by rw [List.all_eq_true]; intro x _; exact hasE_one h x)
theorem hasS (user : Bool) (p : Int) : hasE (if user then 5 else 4) p = hasB user p := by cases user <;> rfl
theorem encB_S (user : Bool) (l : List Int) : encB (if user then 5 else 4) l = encS user l := by cases user <;> rfl
theorem encB_6 (l : List Int) : encB 6 l = kenc l := rfl
theorem encB_1 (l : List Int) : encB 1 l = enc l := rfl
end Go.Proofs.YtaiinjfnkmidbaaGreatDoor.M

namespace Go.Proofs.YtaiinjfnkmidbaaGreatDoor
open Go.RowKit
set_option linter.unusedVariables false

/-- The first k bytes. -/
def bts (k : Nat) : List Int := (List.range k).map (fun j : Nat => (j : Int))
theorem bts_snoc (k : Nat) : bts (k + 1) = bts k ++ [(k : Int)] := by simp [bts, List.range_succ]
theorem bts_len (k : Nat) : (bts k).length = k := by simp [bts]
theorem bts_byt : ∀ x ∈ bts 256, 0 ≤ x ∧ x ≤ 255 := by
  intro x hx
  simp only [bts, List.mem_map, List.mem_range] at hx
  obtain ⟨j, hj, rfl⟩ := hx
  omega
theorem map_tbl (g : Int → Int) (k : Nat) : ((List.range k).map (fun j : Nat => (j : Int))).map g = (List.range k).map (fun j : Nat => g (j : Int)) := by
  rw [List.map_map]; rfl
theorem bts_dec (user : Bool) : M.decS user (bts 256) = M.tblOf user 256 := map_tbl _ 256
theorem any_tbl (f : Nat → Int) (n : Int) (k : Nat) : ((List.range k).map f).any (· == n) = (List.range k).any (fun c => f c == n) := by
  rw [List.any_map]; rfl
theorem tbl_has (user : Bool) (n : Int) : (M.tblOf user 256).any (· == n) = M.hasB user n := any_tbl _ n 256
/-- What a round of eachByte's loop knows. -/
def InB (w wr : World) (k : Nat) (v : Value) : Prop := wr.ownsRow w.heap.size 5 1 v (bts k).length ((bts k).map (Value.int .u8)) ∧ Below w.heap.size w wr

set_option maxHeartbeats 800000 in
set_option maxRecDepth 100000 in
theorem eachByte_any (w : World) : Calls Tryz.prog 142 #[] w fun e w' => e = .returned (.string (strOfNums (bts 256))) ∧ Below w.heap.size w w' := by
  have HI : Hid (InB w w 0 (.slice none 0 0)) := hide ⟨World.ownsRow_nil _ _ _ _, Below.refl _ _⟩
  go_enter Tryz.func142, Tryz.ntmps142
  go_wp2_with fail
  go_loopw [1, 3] (fun v i wr => ∃ k : Nat, k ≤ 256 ∧ i = .int .i64 k ∧ InB w wr k v) (fun _ i _ => 256 - (intOf i).toNat)
  case atStart => exact ⟨0, by omega, rfl, unhide HI⟩
  case round =>
    obtain ⟨k, hk, rfl, hI⟩ := hrel
    clear HI
    have hz := hI.2.size
    have hl := hide (bts_len k)
    obtain ⟨av, capv, hsh⟩ := owns_shape hI.1
    subst hsh
    by_cases hlt : k < 256
    · have HO := hide hI.1
      have HB := hide hI.2
      have HS := hide (bts_snoc k)
      clear hI
      generalize bts k = ns at *
      have hln := unhide hl
      go_wp2_with (at_builtin; refine append_byte rfl (.tmp 6) (.tmp 9) rfl w.heap.size _ ns rfl (unhide HO) (k : Int) rfl (by omega) (by omega) ?_)
      intro ao2 cap2 w2 ho2 hb2
      have HJ : Hid (w2.ownsRow w.heap.size 5 1 (.slice ao2 (k + 1) cap2) (bts (k + 1)).length ((bts (k + 1)).map (Value.int .u8))) := hide (by rw [unhide HS]; simpa [hln] using ho2)
      have HB2 := hide ((unhide HB).trans hb2)
      clear ho2 hb2
      go_wp2_with fail
      go_roundw
      case rel => exact ⟨k + 1, by omega, by go_num, unhide HJ, unhide HB2⟩
      case measure => simp [intOf]; omega
    · obtain rfl : k = 256 := by omega
      have hcv := conv_owned hI.1
      have hb := hide hI.2
      clear hI hl
      go_wp2_with fail
      go_ret
      exact ⟨rfl, unhide hb⟩

theorem Gi_of {p : Int} (h : M.sclr p = true) : Gi p := by have := M.sclr_bd h; unfold Gi; omega
/-- The points that known's function of a byte a sign looks through lie at block B. -/
def Pts (user : Bool) (B : Nat) (w : World) : Prop := ∃ v, w.cell? ⟨B, 0, none⟩ = some v ∧ Ints w v (M.tblOf user 256)
theorem Pts.below {user : Bool} {B : Nat} {w w' : World} (h : Pts user B w) (hb : Below w.heap.size w w') : Pts user B w' := by
  obtain ⟨v, h1, h2⟩ := h
  exact ⟨v, (hb.cell (p := ⟨B, 0, none⟩) (World.block_lt_of_cell? w _ h1)).trans h1, h2.below hb⟩

set_option maxHeartbeats 400000 in
set_option maxRecDepth 100000 in
theorem hasS_any (user : Bool) (B : Nat) (p : Int) (w : World) (h : Pts user B w) :
    Calls Tryz.prog 143 #[.int .i64 p, .pointer (some ⟨B, 0, none⟩)] w fun e w' => e = .returned (.bool (M.hasB user p)) ∧ w' = w := by
  obtain ⟨v, hc, hI⟩ := h
  have hl := World.block_lt_of_cell? w _ hc
  simp only at hl
  have H := hide (contains_ints p w hI)
  rw [tbl_has] at H
  obtain ⟨ao, cap, rfl, -, -, -⟩ := hI
  go_enter Tryz.func143, Tryz.ntmps143
  go_wp2_with fail
  refine (unhide H).mono ?_
  rintro e w1 ⟨rfl, hw⟩
  replace hw := hw.symm
  subst hw
  go_wp2_with fail
  go_ret
  exact ⟨rfl, rfl⟩

set_option maxHeartbeats 400000 in
set_option maxRecDepth 100000 in
theorem hasK_any (p : Int) (w : World) (h : Gi p) :
    Calls Tryz.prog 145 #[.int .i64 p] w fun e w' => e = .returned (.bool (M.anyK p)) ∧ Below w.heap.size w w' := by
  have H := hide (kencode_any _ [p] _ (one_int w p) (by simp) (by intro n hn; simp at hn; rw [hn]; exact h))
  have HB := hide (balloc w (.cells #[.int .i64 p] 3))
  cases hq : M.anyK p
  · rw [encodedK_no (by simp [hq])] at H
    go_enter Tryz.func145, Tryz.ntmps145
    go_wp2_with fail
    refine (unhide H).mono ?_
    rintro e w1 ⟨rfl, hb⟩
    have HB1 := hide (bstep (unhide HB) hb)
    clear hb
    go_wp2_with fail
    go_ret
    exact ⟨rfl, unhide HB1⟩
  · rw [encodedK_yes (by simp [hq])] at H
    go_enter Tryz.func145, Tryz.ntmps145
    go_wp2_with fail
    refine (unhide H).mono ?_
    rintro e w1 ⟨rfl, hb⟩
    have HB1 := hide (bstep (unhide HB) hb)
    clear hb
    go_wp2_with fail
    go_ret
    exact ⟨rfl, unhide HB1⟩

set_option maxHeartbeats 400000 in
set_option maxRecDepth 100000 in
theorem hasU_any (p : Int) (w : World) : Calls Tryz.prog 147 #[.int .i64 p] w fun e w' => e = .returned (.bool true) ∧ w' = w := by
  go_enter Tryz.func147, Tryz.ntmps147
  go_wp2
  go_ret
  exact ⟨rfl, rfl⟩

set_option maxHeartbeats 800000 in
set_option maxRecDepth 100000 in
theorem knownS_any (user : Bool) (n : Int) (hn : n = if user then 5 else 4) (w : World) :
    Calls Tryz.prog 88 #[.int .i64 n] w fun e w' => ∃ B, e = .returned (.func (Fn.func 143) #[] #[.pointer (some ⟨B, 0, none⟩)]) ∧ Pts user B w' ∧ Below w.heap.size w w' := by
  have H1 := hide (fun w => eachByte_any w)
  have H2 := hide (fun w => decodeS_any user (strOfNums (bts 256)) w (by rw [strOfNums_size, bts_len]; omega))
  rw [bl_str _ bts_byt, bts_dec] at H2
  generalize strOfNums (bts 256) = s at *
  cases user
  all_goals
    simp only [Bool.false_eq_true, if_false, if_true] at hn
    subst hn
    go_enter Tryz.func88, Tryz.ntmps88
    go_wp2_with fail
    refine (unhide H1 _).mono ?_
    rintro e w1 ⟨rfl, hb1⟩
    have HB1 := hide hb1
    clear hb1 H1
    go_wp2_with fail
    refine (unhide H2 _).mono ?_
    rintro e w2 ⟨v, rfl, hI, hb2⟩
    have HB2 := hide (bstep (unhide HB1) hb2)
    have HI := hide hI
    obtain ⟨ao, cap, rfl, -, -, -⟩ := hI
    clear hb2 H2
    go_wp2_with fail
    go_ret
    refine ⟨_, rfl, ⟨_, ?_, (unhide HI).below (balloc _ _)⟩, bstep (unhide HB2) (balloc _ _)⟩
    simp

set_option maxHeartbeats 400000 in
set_option maxRecDepth 100000 in
theorem knownK_any (w : World) : Calls Tryz.prog 88 #[.int .i64 6] w fun e w' => e = .returned (.func (Fn.func 145) #[] #[]) ∧ w' = w := by
  go_enter Tryz.func88, Tryz.ntmps88
  go_wp2
  go_ret
  exact ⟨rfl, rfl⟩
set_option maxHeartbeats 400000 in
set_option maxRecDepth 100000 in
theorem knownU_any (w : World) : Calls Tryz.prog 88 #[.int .i64 1] w fun e w' => e = .returned (.func (Fn.func 147) #[] #[]) ∧ w' = w := by
  go_enter Tryz.func88, Tryz.ntmps88
  go_wp2
  go_ret
  exact ⟨rfl, rfl⟩
end Go.Proofs.YtaiinjfnkmidbaaGreatDoor
