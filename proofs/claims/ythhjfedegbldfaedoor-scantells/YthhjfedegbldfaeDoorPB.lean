/- The contracts of strings.IndexByte, HasPrefix and Index as the walks take them, and of package pass: While, IsWhite, Whites, Stands; the world stays. Conditions: at most 3000 bytes, the place within them; for Index: the library's variable MaxLen holds an integer. -/
import Derived.Test.YthhjfedegbldfaeDoorLayP
import Derived.Test.YthhjfedegbldfaeDoorLT
import Derived.Test.YthhjfedegbldfaeDoorMathJ
namespace Go.Proofs.YthhjfedegbldfaeDoor
open Go.RowKit
set_option linter.unusedVariables false

/-- The library's variable MaxLen holds an integer. -/
def Mx (w : World) : Prop := ∃ m, w.cell? ⟨Tryd.laysM143_ren.g 1, 0, none⟩ = some (.int .i64 m)
theorem Mx.below {w w' : World} (h : Mx w) (hb : Below w.heap.size w w') : Mx w' := by
  obtain ⟨m, hm⟩ := h
  exact ⟨m, (hb.cell (World.block_lt_of_cell? w _ hm)).trans hm⟩
theorem mx_shaped {w : World} (h : w.ShapedOpen Tryd.prog) : Mx w := Tryd.laysM143.s1_3 w h
theorem index_any (s m : ByteArray) (w : World) (hs : s.size ≤ 3000) (hM : Mx w) :
    Calls Tryd.prog 71 #[.string s, .string m] w fun e w' => e = .returned (.int .i64 (Lib.index s.data.toList m.data.toList)) ∧ w' = w := by
  obtain ⟨c, hc⟩ := hM
  exact Any.strings_Index { Tryd.laysM143 with } s m c w (by omega) hc
theorem hasPre_any (s m : ByteArray) (w : World) :
    Calls Tryd.prog 82 #[.string s, .string m] w fun e w' => e = .returned (.bool (bg0 (bl s) 0 (bl m))) ∧ w' = w := by
  have h := Any.strings_HasPrefix Tryd.lays99 s m w
  rw [has_bl] at h
  exact h

theorem indexByte_has : ∀ (l : List UInt8) (c : UInt8), decide (0 ≤ Lib.indexByte l c) = l.contains c
  | [], c => by simp [Lib.indexByte]
  | b :: l, c => by
    have ih := indexByte_has l c
    have hg := Lib.indexByte_ge l c
    unfold Lib.indexByte
    rw [List.contains_cons, ← ih]
    by_cases h : b = c
    · subst h; simp
    · have h1 : (b == c) = false := by simpa using h
      have h2 : (c == b) = false := by simpa using fun e => h e.symm
      rw [h1, h2]
      by_cases h3 : Lib.indexByte l c = -1
      · rw [h3]; rfl
      · have h4 : (Lib.indexByte l c == -1) = false := by simpa using h3
        rw [h4]
        simp
        omega
theorem contains_bl (m : List UInt8) (c : Int) (h : 0 ≤ c ∧ c < 256) : m.contains c.toNat.toUInt8 = (m.map (fun u => (u.toNat : Int))).contains c := by
  have e : (c.toNat.toUInt8.toNat : Int) = c := by
    show ((UInt8.ofNat c.toNat).toNat : Int) = c
    rw [UInt8.toNat_ofNat']; omega
  rw [Bool.eq_iff_iff, List.contains_iff_mem, List.contains_iff_mem, List.mem_map]
  constructor
  · intro hm; exact ⟨_, hm, e⟩
  · rintro ⟨u, hu, h1⟩
    have : u = c.toNat.toUInt8 := UInt8.toNat_inj.1 (by omega)
    rw [← this]; exact hu
theorem indexByte_any (m : ByteArray) (c : Int) (w : World) (h : 0 ≤ c ∧ c < 256) :
    Calls Tryd.prog 69 #[.string m, .int .u8 c] w fun e w' => (∃ r : Int, e = .returned (.int .i64 r) ∧ decide (0 ≤ r) = (bl m).contains c) ∧ w' = w := by
  refine (Any.strings_IndexByte Tryd.lays137 m c w).mono fun e w' hh => ?_
  obtain ⟨h1, h2⟩ := hh
  exact ⟨⟨_, h1, by rw [indexByte_has, contains_bl _ _ h]; rfl⟩, h2⟩

theorem wh_has (c : Int) : (bl ⟨#[9, 10, 12, 13, 32]⟩).contains c = wh c := by
  rw [show bl ⟨#[9, 10, 12, 13, 32]⟩ = [9, 10, 12, 13, 32] from by decide, Bool.eq_iff_iff]
  unfold wh
  simp
  omega
set_option maxHeartbeats 400000 in
set_option maxRecDepth 100000 in
theorem white_any (c : Int) (w : World) (h : 0 ≤ c ∧ c < 256) :
    Calls Tryd.prog 49 #[.int .u8 c] w fun e w' => e = .returned (.bool (wh c)) ∧ w' = w := by
  have HI := hide (fun w => indexByte_any ⟨#[9, 10, 12, 13, 32]⟩ c w h)
  rw [wh_has] at HI
  go_enter Tryd.func49, Tryd.ntmps49
  go_wp2_with fail
  refine (unhide HI _).mono ?_
  rintro e w1 ⟨⟨r, rfl, hr⟩, hw⟩
  replace hw := hw.symm
  subst hw
  have HR := hide hr
  clear hr HI
  go_wp2_with fail
  go_ret
  exact ⟨ret_bool (by rw [← unhide HR]), rfl⟩
set_option maxHeartbeats 400000 in
set_option maxRecDepth 100000 in
theorem stands_any (s : ByteArray) (k : Nat) (m : ByteArray) (w : World) (hk : k ≤ 4000) (hs : s.size ≤ 3000) :
    Calls Tryd.prog 57 #[.string s, .int .i64 (k : Int), .string m] w fun e w' => e = .returned (.bool (stn (bl s) k (bl m))) ∧ w' = w := by
  by_cases hlt : k < s.size
  · have hcb := u8_lt s hlt
    have HI := hide (fun w => indexByte_any m (s[k].toNat : Int) w hcb)
    have HS : Hid (stn (bl s) k (bl m) = (bl m).contains (s[k].toNat : Int)) := hide (by unfold stn; rw [decide_eq_true (by rw [bl_len]; exact hlt), bl_at hlt]; rfl)
    go_enter Tryd.func57, Tryd.ntmps57
    go_wp2_with fail
    refine (unhide HI _).mono ?_
    rintro e w1 ⟨⟨r, rfl, hr⟩, hw⟩
    replace hw := hw.symm
    subst hw
    have HR := hide hr
    clear hr HI
    go_wp2_with fail
    go_ret
    exact ⟨ret_bool (by rw [unhide HS, ← unhide HR]), rfl⟩
  · have HS : Hid (stn (bl s) k (bl m) = false) := hide (by unfold stn; rw [decide_eq_false (by rw [bl_len]; exact hlt)]; rfl)
    go_enter Tryd.func57, Tryd.ntmps57
    go_wp2_with fail
    go_ret
    exact ⟨ret_bool (by rw [unhide HS]), rfl⟩
set_option maxHeartbeats 800000 in
set_option maxRecDepth 100000 in
theorem while0 (F : Nat) (p : Int → Bool) (s : ByteArray) (k0 : Nat) (w : World) (hk0 : k0 ≤ s.size) (hs : s.size ≤ 3000) (hE : ∀ args w, (callFunc F args).run Tryd.prog w = .ok (.enter F args) w)
    (H : ∀ (c : Int) (w : World), 0 ≤ c ∧ c < 256 → Calls Tryd.prog F #[.int .u8 c] w fun e w' => e = .returned (.bool (p c)) ∧ w' = w) :
    Calls Tryd.prog 47 #[.string s, .int .i64 (k0 : Int), .func (Fn.func F) #[] #[]] w fun e w' => e = .returned (.int .i64 (run p (bl s) k0 : Int)) ∧ w' = w := by
  have hl := hide (bl_len s)
  have HH := hide H
  clear H
  go_enter Tryd.func47, Tryd.ntmps47
  go_wp2_with fail
  go_loop [1] (fun i => ∃ k : Nat, i = .int .i64 k ∧ k ≤ s.size ∧ Hid (run p (bl s) k = run p (bl s) k0)) (fun i => s.size - (intOf i).toNat)
  case atStart => exact ⟨k0, rfl, hk0, hide rfl⟩
  case round =>
    obtain ⟨k, rfl, hk, HR⟩ := hrel
    by_cases hlt : k < s.size
    · have hcb := u8_lt s hlt
      have HG := hide (bl_at hlt)
      obtain ⟨c, hcc⟩ : ∃ c : Int, (s[k].toNat : Int) = c := ⟨_, rfl⟩
      rw [hcc] at hcb HG
      have HC := hide (fun w => unhide HH c w hcb)
      cases hp : p c
      · rw [hp] at HC
        have HE : Hid (run p (bl s) k0 = k) := hide (by rw [← unhide HR, run_stop (by rw [unhide hl]; exact hlt) (by rw [unhide HG]; exact hp)])
        clear hp
        go_wp2_with fail
        refine (unhide HC _).mono ?_
        rintro e wz ⟨rfl, hwz⟩
        replace hwz := hwz.symm
        subst hwz
        go_wp2_with fail
        go_ret
        exact ⟨by rw [unhide HE]; rfl, rfl⟩
      · rw [hp] at HC
        have HR' : Hid (run p (bl s) (k + 1) = run p (bl s) k0) := hide (by rw [← run_step (by rw [unhide hl]; exact hlt) (by rw [unhide HG]; exact hp), unhide HR])
        clear hp
        go_wp2_with fail
        refine (unhide HC _).mono ?_
        rintro e wz ⟨rfl, hwz⟩
        replace hwz := hwz.symm
        subst hwz
        go_wp2_with fail
        go_round
        case rel => exact ⟨k + 1, by go_num, by omega, HR'⟩
        case measure => simp [intOf]; omega
    · have HE : Hid (run p (bl s) k0 = k) := hide (by rw [← unhide HR, run_end (by rw [unhide hl]; omega)])
      go_wp2_with fail
      go_ret
      exact ⟨by rw [unhide HE]; rfl, rfl⟩
end Go.Proofs.YthhjfedegbldfaeDoor
