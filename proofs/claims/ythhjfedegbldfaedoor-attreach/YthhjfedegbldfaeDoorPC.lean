/- The contracts of the function literals that say which bytes are passed, of pass.While at each of them, of pass.Whites, attr.quoted and attr.value. Nothing that was there is written. Conditions: at most 3000 bytes, the place within them. -/
import Derived.Test.YthhjfedegbldfaeDoorPB
namespace Go.Proofs.YthhjfedegbldfaeDoor
open Go.RowKit
set_option linter.unusedVariables false

set_option maxHeartbeats 400000 in
set_option maxRecDepth 100000 in
theorem lWhites (c : Int) (w : World) (h : 0 ≤ c ∧ c < 256) : Calls Tryd.prog 72 #[.int .u8 c] w fun e w' => e = .returned (.bool (wh c)) ∧ w' = w := by
  have W := hide (fun w => white_any c w h)
  obtain ⟨q, HQ⟩ : ∃ q, Hid (wh c = q) := ⟨_, hide rfl⟩
  rw [unhide HQ] at W
  go_enter Tryd.func72, Tryd.ntmps72
  go_wp2_with fail
  refine (unhide W _).mono ?_
  rintro e w1 ⟨rfl, hw⟩
  replace hw := hw.symm
  subst hw
  go_wp2_with fail
  go_ret
  exact ⟨ret_bool (unhide HQ).symm, rfl⟩
set_option maxHeartbeats 400000 in
set_option maxRecDepth 100000 in
theorem lAhead (c : Int) (w : World) (h : 0 ≤ c ∧ c < 256) : Calls Tryd.prog 48 #[.int .u8 c] w fun e w' => e = .returned (.bool (pAhead c)) ∧ w' = w := by
  by_cases h47 : c = 47
  · subst h47
    go_enter Tryd.func48, Tryd.ntmps48
    go_wp2_with fail
    go_ret
    exact ⟨ret_bool (by decide), rfl⟩
  · have h47e := ne_eq h47
    have h47n := ne_ne h47
    have W := hide (fun w => white_any c w h)
    have HP : Hid (pAhead c = wh c) := hide (by unfold pAhead; rw [h47e]; simp)
    obtain ⟨q, HQ⟩ : ∃ q, Hid (wh c = q) := ⟨_, hide rfl⟩
    rw [unhide HQ] at W HP
    go_enter Tryd.func48, Tryd.ntmps48
    go_wp2_with fail
    refine (unhide W _).mono ?_
    rintro e w1 ⟨rfl, hw⟩
    replace hw := hw.symm
    subst hw
    go_wp2_with fail
    go_ret
    exact ⟨ret_bool (by rw [unhide HP]), rfl⟩
set_option maxHeartbeats 400000 in
set_option maxRecDepth 100000 in
theorem lName (c : Int) (w : World) (h : 0 ≤ c ∧ c < 256) : Calls Tryd.prog 50 #[.int .u8 c] w fun e w' => e = .returned (.bool (pName c)) ∧ w' = w := by
  by_cases h61 : c = 61
  · subst h61
    go_enter Tryd.func50, Tryd.ntmps50
    go_wp2_with fail
    go_ret
    exact ⟨ret_bool (by decide), rfl⟩
  · have h61e := ne_eq h61
    have h61n := ne_ne h61
    by_cases h47 : c = 47
    · subst h47
      go_enter Tryd.func50, Tryd.ntmps50
      go_wp2_with fail
      go_ret
      exact ⟨ret_bool (by decide), rfl⟩
    · have h47e := ne_eq h47
      have h47n := ne_ne h47
      by_cases h62 : c = 62
      · subst h62
        go_enter Tryd.func50, Tryd.ntmps50
        go_wp2_with fail
        go_ret
        exact ⟨ret_bool (by decide), rfl⟩
      · have h62e := ne_eq h62
        have h62n := ne_ne h62
        have W := hide (fun w => white_any c w h)
        have HP : Hid (pName c = !wh c) := hide (by unfold pName; rw [h61e, h47e, h62e]; simp)
        obtain ⟨q, HQ⟩ : ∃ q, Hid (wh c = q) := ⟨_, hide rfl⟩
        rw [unhide HQ] at W HP
        go_enter Tryd.func50, Tryd.ntmps50
        go_wp2_with fail
        refine (unhide W _).mono ?_
        rintro e w1 ⟨rfl, hw⟩
        replace hw := hw.symm
        subst hw
        go_wp2_with fail
        go_ret
        exact ⟨ret_bool (by rw [unhide HP]), rfl⟩
set_option maxHeartbeats 400000 in
set_option maxRecDepth 100000 in
theorem lVal (c : Int) (w : World) (h : 0 ≤ c ∧ c < 256) : Calls Tryd.prog 70 #[.int .u8 c] w fun e w' => e = .returned (.bool (pVal c)) ∧ w' = w := by
  by_cases h62 : c = 62
  · subst h62
    go_enter Tryd.func70, Tryd.ntmps70
    go_wp2_with fail
    go_ret
    exact ⟨ret_bool (by decide), rfl⟩
  · have h62e := ne_eq h62
    have h62n := ne_ne h62
    have W := hide (fun w => white_any c w h)
    have HP : Hid (pVal c = !wh c) := hide (by unfold pVal; rw [h62e]; simp)
    obtain ⟨q, HQ⟩ : ∃ q, Hid (wh c = q) := ⟨_, hide rfl⟩
    rw [unhide HQ] at W HP
    go_enter Tryd.func70, Tryd.ntmps70
    go_wp2_with fail
    refine (unhide W _).mono ?_
    rintro e w1 ⟨rfl, hw⟩
    replace hw := hw.symm
    subst hw
    go_wp2_with fail
    go_ret
    exact ⟨ret_bool (by rw [unhide HP]), rfl⟩
set_option maxHeartbeats 400000 in
set_option maxRecDepth 100000 in
theorem lSemi (c : Int) (w : World) (h : 0 ≤ c ∧ c < 256) : Calls Tryd.prog 59 #[.int .u8 c] w fun e w' => e = .returned (.bool (pSemi c)) ∧ w' = w := by
  by_cases h59 : c = 59
  · subst h59
    go_enter Tryd.func59, Tryd.ntmps59
    go_wp2_with fail
    go_ret
    exact ⟨ret_bool (by decide), rfl⟩
  · have h59e := ne_eq h59
    have h59n := ne_ne h59
    have W := hide (fun w => white_any c w h)
    have HP : Hid (pSemi c = !wh c) := hide (by unfold pSemi; rw [h59e]; simp)
    obtain ⟨q, HQ⟩ : ∃ q, Hid (wh c = q) := ⟨_, hide rfl⟩
    rw [unhide HQ] at W HP
    go_enter Tryd.func59, Tryd.ntmps59
    go_wp2_with fail
    refine (unhide W _).mono ?_
    rintro e w1 ⟨rfl, hw⟩
    replace hw := hw.symm
    subst hw
    go_wp2_with fail
    go_ret
    exact ⟨ret_bool (by rw [unhide HP]), rfl⟩
theorem wWhites (s : ByteArray) (k : Nat) (w : World) (hk : k ≤ s.size) (hs : s.size ≤ 3000) :
    Calls Tryd.prog 47 #[.string s, .int .i64 (k : Int), .func (Fn.func 72) #[] #[]] w fun e w' => e = .returned (.int .i64 (run wh (bl s) k : Int)) ∧ w' = w :=
  while0 72 wh s k w hk hs (enters_of Tryd.func72 (by kernel_rfl) rfl) (fun c w h => lWhites c w h)
theorem wAhead (s : ByteArray) (k : Nat) (w : World) (hk : k ≤ s.size) (hs : s.size ≤ 3000) :
    Calls Tryd.prog 47 #[.string s, .int .i64 (k : Int), .func (Fn.func 48) #[] #[]] w fun e w' => e = .returned (.int .i64 (run pAhead (bl s) k : Int)) ∧ w' = w :=
  while0 48 pAhead s k w hk hs (enters_of Tryd.func48 (by kernel_rfl) rfl) (fun c w h => lAhead c w h)
theorem wName (s : ByteArray) (k : Nat) (w : World) (hk : k ≤ s.size) (hs : s.size ≤ 3000) :
    Calls Tryd.prog 47 #[.string s, .int .i64 (k : Int), .func (Fn.func 50) #[] #[]] w fun e w' => e = .returned (.int .i64 (run pName (bl s) k : Int)) ∧ w' = w :=
  while0 50 pName s k w hk hs (enters_of Tryd.func50 (by kernel_rfl) rfl) (fun c w h => lName c w h)
theorem wVal (s : ByteArray) (k : Nat) (w : World) (hk : k ≤ s.size) (hs : s.size ≤ 3000) :
    Calls Tryd.prog 47 #[.string s, .int .i64 (k : Int), .func (Fn.func 70) #[] #[]] w fun e w' => e = .returned (.int .i64 (run pVal (bl s) k : Int)) ∧ w' = w :=
  while0 70 pVal s k w hk hs (enters_of Tryd.func70 (by kernel_rfl) rfl) (fun c w h => lVal c w h)
theorem wSemi (s : ByteArray) (k : Nat) (w : World) (hk : k ≤ s.size) (hs : s.size ≤ 3000) :
    Calls Tryd.prog 47 #[.string s, .int .i64 (k : Int), .func (Fn.func 59) #[] #[]] w fun e w' => e = .returned (.int .i64 (run pSemi (bl s) k : Int)) ∧ w' = w :=
  while0 59 pSemi s k w hk hs (enters_of Tryd.func59 (by kernel_rfl) rfl) (fun c w h => lSemi c w h)
set_option maxHeartbeats 400000 in
set_option maxRecDepth 100000 in
theorem whites_any (s : ByteArray) (k : Nat) (w : World) (hk : k ≤ s.size) (hs : s.size ≤ 3000) :
    Calls Tryd.prog 56 #[.string s, .int .i64 (k : Int)] w fun e w' => e = .returned (.int .i64 (run wh (bl s) k : Int)) ∧ w' = w := by
  have HW := hide (fun w => wWhites s k w hk hs)
  generalize run wh (bl s) k = r at HW ⊢
  go_enter Tryd.func56, Tryd.ntmps56
  go_wp2_with fail
  refine (unhide HW _).mono ?_
  rintro e w1 ⟨rfl, hw⟩
  replace hw := hw.symm
  subst hw
  go_wp2_with fail
  go_ret
  exact ⟨rfl, rfl⟩
set_option maxHeartbeats 400000 in
set_option maxRecDepth 100000 in
theorem lQuote (c q : Int) (B : Nat) (w : World) (hc : w.cell? ⟨B, 0, none⟩ = some (.int .u8 q)) :
    Calls Tryd.prog 73 #[.int .u8 c, .pointer (some ⟨B, 0, none⟩)] w fun e w' => e = .returned (.bool (pNot q c)) ∧ w' = w := by
  have HB := hide (World.block_lt_of_cell? w _ hc)
  go_enter Tryd.func73, Tryd.ntmps73
  go_wp2_with fail
  go_ret
  exact ⟨ret_bool (by unfold pNot; rfl), rfl⟩
set_option maxHeartbeats 800000 in
set_option maxRecDepth 100000 in
theorem while1 (F B : Nat) (p : Int → Bool) (s : ByteArray) (k0 : Nat) (w : World) (hk0 : k0 ≤ s.size) (hs : s.size ≤ 3000) (hE : ∀ args w, (callFunc F args).run Tryd.prog w = .ok (.enter F args) w)
    (H : ∀ (c : Int), 0 ≤ c ∧ c < 256 → Calls Tryd.prog F #[.int .u8 c, .pointer (some ⟨B, 0, none⟩)] w fun e w' => e = .returned (.bool (p c)) ∧ w' = w) :
    Calls Tryd.prog 47 #[.string s, .int .i64 (k0 : Int), .func (Fn.func F) #[] #[.pointer (some ⟨B, 0, none⟩)]] w fun e w' => e = .returned (.int .i64 (run p (bl s) k0 : Int)) ∧ w' = w := by
  have hl := hide (bl_len s)
  have HH := hide H
  clear H
  go_enter Tryd.func47, Tryd.ntmps47
  go_wp2_with fail
  go_loop [1] (fun i => ∃ k : Nat, i = .int .i64 k ∧ k ≤ s.size ∧ Hid (run p (bl s) k = run p (bl s) k0)) (fun i => s.size - (intOf i).toNat)
  case atStart => exact ⟨k0, rfl, hk0, hide rfl⟩
  case round =>
    obtain ⟨k, rfl, hk, HR⟩ := hrel
    by_cases hlt : k < s.size
    · have hcb := u8_lt s hlt
      have HG := hide (bl_at hlt)
      obtain ⟨c, hcc⟩ : ∃ c : Int, (s[k].toNat : Int) = c := ⟨_, rfl⟩
      rw [hcc] at hcb HG
      have HC := hide (unhide HH c hcb)
      cases hp : p c
      · rw [hp] at HC
        have HE : Hid (run p (bl s) k0 = k) := hide (by rw [← unhide HR, run_stop (by rw [unhide hl]; exact hlt) (by rw [unhide HG]; exact hp)])
        clear hp
        go_wp2_with fail
        refine (unhide HC).mono ?_
        rintro e wz ⟨rfl, hwz⟩
        replace hwz := hwz.symm
        subst hwz
        go_wp2_with fail
        go_ret
        exact ⟨by rw [unhide HE]; rfl, rfl⟩
      · rw [hp] at HC
        have HR' : Hid (run p (bl s) (k + 1) = run p (bl s) k0) := hide (by rw [← run_step (by rw [unhide hl]; exact hlt) (by rw [unhide HG]; exact hp), unhide HR])
        clear hp
        go_wp2_with fail
        refine (unhide HC).mono ?_
        rintro e wz ⟨rfl, hwz⟩
        replace hwz := hwz.symm
        subst hwz
        go_wp2_with fail
        go_round
        case rel => exact ⟨k + 1, by go_num, by omega, HR'⟩
        case measure => simp [intOf]; omega
    · have HE : Hid (run p (bl s) k0 = k) := hide (by rw [← unhide HR, run_end (by rw [unhide hl]; omega)])
      go_wp2_with fail
      go_ret
      exact ⟨by rw [unhide HE]; rfl, rfl⟩
set_option maxHeartbeats 800000 in
set_option maxRecDepth 100000 in
theorem quoted_any (s : ByteArray) (k : Nat) (w : World) (hk : k < s.size) (hs : s.size ≤ 3000) :
    Calls Tryd.prog 58 #[.string s, .int .i64 (k : Int)] w fun e w' => e = .returned (.tuple #[.string (strOfNums (qtI (bl s) k).1), .int .i64 ((qtI (bl s) k).2.1 : Int), .bool (qtI (bl s) k).2.2]) ∧ Below w.heap.size w w' := by
  have hl := hide (bl_len s)
  have hcb := u8_lt s hk
  have HG := hide (bl_at hk)
  have hle := run_le (pNot (s[k].toNat : Int)) (bl s) (i := k + 1) (by rw [unhide hl]; omega)
  rw [unhide hl] at hle
  have hge := run_ge (pNot (s[k].toNat : Int)) (bl s) (k + 1)
  obtain ⟨r, HR⟩ : ∃ r, Hid (run (pNot (s[k].toNat : Int)) (bl s) (k + 1) = r) := ⟨_, hide rfl⟩
  rw [unhide HR] at hle hge
  have HW := hide (fun (w' : World) (hc : w'.cell? ⟨w.heap.size, 0, none⟩ = some (.int .u8 (s[k].toNat : Int))) => while1 73 w.heap.size (pNot (s[k].toNat : Int)) s (k + 1) w' (by omega) hs (enters_of Tryd.func73 (by kernel_rfl) rfl) (fun c _ => lQuote c _ _ w' hc))
  rw [unhide HR] at HW
  have HV : Hid (qtI (bl s) k = if s.size ≤ r then ([], r, false) else (cut (bl s) (k + 1) r, r + 1, true)) := hide (by unfold qtI; rw [unhide HG, unhide HR, unhide hl])
  have hsl : ∀ wx, (Instr.slice 9 (.string s) (some (.int .i64 ((k : Int) + 1))) (some (.int .i64 (r : Int))) none).run Tryd.prog wx = .ok (.string (s.extract (k + 1) r)) wx := fun wx => by
    have := run_slice_string (P := Tryd.prog) wx 9 s .i64 .i64 ((k : Int) + 1) (r : Int) Tryd.underlying9 (by omega) (by omega) (by omega)
    rw [this]
    simp
  have HX := hide (bl_cut s (k + 1) r)
  go_enter Tryd.func58, Tryd.ntmps58
  go_wp2_with fail
  refine (unhide HW _ (by simp)).mono ?_
  rintro e w1 ⟨rfl, hw⟩
  replace hw := hw.symm
  subst hw
  by_cases hr : r = s.size
  · have he : ((r : Int) == (s.size : Int)) = true := by simp [hr]
    have HV' : Hid (qtI (bl s) k = ([], r, false)) := hide (by rw [unhide HV, if_pos (by omega)])
    clear HV hr
    go_wp2_with fail
    go_ret3
    exact ⟨by rw [unhide HV']; rfl, balloc _ _⟩
  · have he : ((r : Int) == (s.size : Int)) = false := by simp; omega
    have HV' : Hid (qtI (bl s) k = (cut (bl s) (k + 1) r, r + 1, true)) := hide (by rw [unhide HV, if_neg (by omega)])
    clear HV hr
    go_wp2_with fail
    go_ret3
    exact ⟨by rw [unhide HV', ← unhide HX, str_bl]; rfl, balloc _ _⟩
set_option maxHeartbeats 1600000 in
set_option maxRecDepth 100000 in
theorem value_any (s : ByteArray) (k : Nat) (w : World) (hk : k ≤ s.size) (hs : s.size ≤ 3000) :
    Calls Tryd.prog 51 #[.string s, .int .i64 (k : Int)] w fun e w' => e = .returned (.tuple #[.string (strOfNums (valI (bl s) k).1), .int .i64 ((valI (bl s) k).2.1 : Int), .bool (valI (bl s) k).2.2]) ∧ Below w.heap.size w w' := by
  have hl := hide (bl_len s)
  have h1 := run_le wh (bl s) (i := k) (by rw [unhide hl]; exact hk)
  rw [unhide hl] at h1
  have HW1 := hide (fun w => whites_any s k w hk hs)
  have HV : Hid (valI (bl s) k = if stn (bl s) (run wh (bl s) k) [61] = false then ([], run wh (bl s) k, true)
    else if stn (bl s) (run wh (bl s) (run wh (bl s) k + 1)) [34, 39] = true then qtI (bl s) (run wh (bl s) (run wh (bl s) k + 1))
    else (cut (bl s) (run wh (bl s) (run wh (bl s) k + 1)) (run pVal (bl s) (run wh (bl s) (run wh (bl s) k + 1))), run pVal (bl s) (run wh (bl s) (run wh (bl s) k + 1)), true)) := hide rfl
  generalize run wh (bl s) k = a at *
  have HS1 := hide (fun w => stands_any s a ⟨#[61]⟩ w (by omega) hs)
  rw [show bl ⟨#[61]⟩ = [61] from by decide] at HS1
  have HL := hide (fun h => (stn_one (bl s) a 61).1 h)
  rw [unhide hl] at HL
  obtain ⟨q, HQ⟩ : ∃ q, Hid (stn (bl s) a [61] = q) := ⟨_, hide rfl⟩
  rw [unhide HQ] at HS1 HV HL
  go_enter Tryd.func51, Tryd.ntmps51
  go_wp2_with fail
  refine (unhide HW1 _).mono ?_
  rintro e w1 ⟨rfl, hw⟩
  replace hw := hw.symm
  subst hw
  go_wp2_with fail
  refine (unhide HS1 _).mono ?_
  rintro e w1 ⟨rfl, hw⟩
  replace hw := hw.symm
  subst hw
  cases q
  · have HV' : Hid (valI (bl s) k = ([], a, true)) := hide (by rw [unhide HV, if_pos rfl])
    clear HV
    go_wp2_with fail
    go_ret3
    exact ⟨by rw [unhide HV']; rfl, Below.refl _ _⟩
  · have hla := (unhide HL rfl).1
    have HV2 := hide ((unhide HV).trans (if_neg (by simp)))
    have h2 := run_le wh (bl s) (i := a + 1) (by rw [unhide hl]; omega)
    rw [unhide hl] at h2
    have HW2 := hide (fun w => whites_any s (a + 1) w (by omega) hs)
    rw [show ((a + 1 : Nat) : Int) = (a : Int) + 1 from by omega] at HW2
    clear HV HL HS1 HQ
    generalize run wh (bl s) (a + 1) = b at *
    have HS2 := hide (fun w => stands_any s b ⟨#[34, 39]⟩ w (by omega) hs)
    rw [show bl ⟨#[34, 39]⟩ = [34, 39] from by decide] at HS2
    have HL2 := hide (fun h => (stn_two (bl s) b 34 39).1 h)
    rw [unhide hl] at HL2
    obtain ⟨q, HQ⟩ : ∃ q, Hid (stn (bl s) b [34, 39] = q) := ⟨_, hide rfl⟩
    rw [unhide HQ] at HS2 HV2 HL2
    go_wp2_with fail
    refine (unhide HW2 _).mono ?_
    rintro e w1 ⟨rfl, hw⟩
    replace hw := hw.symm
    subst hw
    go_wp2_with fail
    refine (unhide HS2 _).mono ?_
    rintro e w1 ⟨rfl, hw⟩
    replace hw := hw.symm
    subst hw
    cases q
    · have HV' := hide ((unhide HV2).trans (if_neg (by simp)))
      have h3 := run_le pVal (bl s) (i := b) (by rw [unhide hl]; omega)
      rw [unhide hl] at h3
      have g3 := run_ge pVal (bl s) b
      have HW3 := hide (fun w => wVal s b w (by omega) hs)
      clear HV2 HL2 HS2 HQ HW2
      generalize run pVal (bl s) b = r at *
      have HX := hide (bl_cut s b r)
      go_wp2_with fail
      refine (unhide HW3 _).mono ?_
      rintro e w1 ⟨rfl, hw⟩
      replace hw := hw.symm
      subst hw
      go_wp2_with fail
      go_ret3
      exact ⟨by rw [unhide HV', ← unhide HX, str_bl]; rfl, Below.refl _ _⟩
    · have hlb := (unhide HL2 rfl).1
      have HV' := hide ((unhide HV2).trans (if_pos rfl))
      have HC := hide (fun w => quoted_any s b w hlb hs)
      clear HV2 HL2 HS2 HQ HW2
      rw [← unhide HV'] at HC
      obtain ⟨v1, v2, v3, Hv⟩ : ∃ v1 v2 v3, Hid (valI (bl s) k = (v1, v2, v3)) := ⟨_, _, _, hide rfl⟩
      rw [unhide Hv] at HC
      simp only at HC
      go_wp2_with fail
      refine (unhide HC _).mono ?_
      rintro e w1 ⟨rfl, hb⟩
      have HB := hide hb
      clear hb
      go_wp2_with fail
      go_ret3
      exact ⟨by rw [unhide Hv]; rfl, unhide HB⟩
end Go.Proofs.YthhjfedegbldfaeDoor
