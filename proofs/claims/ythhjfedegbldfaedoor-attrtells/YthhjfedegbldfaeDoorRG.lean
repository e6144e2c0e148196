/- The contracts of the reference's functions on labels: each returns what the plain function of its name computes; nothing that was there is written. Condition: at most 3000 bytes. -/
import Derived.Test.YthhjfedegbldfaeDoorMathL
import Derived.Test.YthhjfedegbldfaeDoorBase
import Derived.Laws.IdiomStrings
import Derived.ProofKit
import Derived.WalkKit
import Derived.WalkSmall
namespace Go.Proofs.YthhjfedegbldfaeDoor
open Go.RowKit
set_option linter.unusedVariables false

set_option maxHeartbeats 400000 in
set_option maxRecDepth 100000 in
theorem isWhite_any (c : Int) (w : World) (h : 0 ≤ c ∧ c < 256) : Calls Tryd.prog 30 #[.int .u8 c] w fun e w' => e = .returned (.bool (wh c)) ∧ w' = w := by
  have HW : Hid (wh c = ((c == 32) || (c == 9) || (c == 10) || (c == 12) || (c == 13))) := by
    show wh c = _
    rw [Bool.eq_iff_iff]; simp [wh]; omega
  rcases (show c = 32 ∨ c = 9 ∨ c = 10 ∨ c = 12 ∨ c = 13 ∨ (c ≠ 32 ∧ c ≠ 9 ∧ c ≠ 10 ∧ c ≠ 12 ∧ c ≠ 13) from by omega) with rfl | rfl | rfl | rfl | rfl | ⟨g1, g2, g3, g4, g5⟩
  all_goals (try (go_enter Tryd.func30, Tryd.ntmps30; go_wp2; go_ret; exact ⟨ret_bool (by rw [unhide HW]; rfl), rfl⟩))
  have h1 : (c == 32) = false := by simp; omega
  have h2 : (c == 9) = false := by simp; omega
  have h3 : (c == 10) = false := by simp; omega
  have h4 : (c == 12) = false := by simp; omega
  have h5 : (c == 13) = false := by simp; omega
  clear g1 g2 g3 g4 g5
  go_enter Tryd.func30, Tryd.ntmps30
  go_wp2
  go_ret
  exact ⟨ret_bool (by rw [unhide HW, h1, h2, h3, h4, h5]; rfl), rfl⟩

set_option maxHeartbeats 400000 in
set_option maxRecDepth 100000 in
theorem between_any (n lo hi : Int) (w : World) : Calls Tryd.prog 61 #[.int .i64 n, .int .i64 lo, .int .i64 hi] w fun e w' => e = .returned (.bool (decide (lo ≤ n) && decide (n ≤ hi))) ∧ w' = w := by
  by_cases h : lo ≤ n
  · go_enter Tryd.func61, Tryd.ntmps61
    go_wp2
    go_ret
    exact ⟨ret_bool (by simp [h]), rfl⟩
  · go_enter Tryd.func61, Tryd.ntmps61
    go_wp2
    go_ret
    exact ⟨ret_bool (by simp; omega), rfl⟩

def szOf : Value → Nat
  | .string b => b.size
  | _ => 0

theorem bl_ne {r : ByteArray} (h : 0 < r.size) : bl r ≠ [] := fun e => by have := congrArg List.length e; rw [bl_len] at this; simp only [List.length_nil] at this; omega
theorem bl_last (r : ByteArray) (h : r.size - 1 < r.size) : bl r = (bl r).take (r.size - 1) ++ [(r[r.size - 1].toNat : Int)] := by
  have hl : (bl r).length = r.size - 1 + 1 := by rw [bl_len]; omega
  have hg := bl_get r (r.size - 1) h
  have this := List.take_succ_eq_append_getElem (l := bl r) (i := r.size - 1) (by omega)
  rw [List.take_of_length_le (by omega)] at this
  rw [List.getElem?_eq_getElem (by omega)] at hg
  rw [Option.some.inj hg] at this
  exact this

set_option maxHeartbeats 1000000 in
set_option maxRecDepth 100000 in
theorem trimOf_any (s : ByteArray) (w : World) (hs : s.size ≤ 3000) :
    Calls Tryd.prog 60 #[.string s] w fun e w' => e = .returned (.string (strOfNums (trI (bl s)))) ∧ w' = w := by
  have HC := hide (tr_comm (bl s))
  go_enter Tryd.func60, Tryd.ntmps60
  go_wp2_with fail
  go_loop [0] (fun v => ∃ r, v = .string r ∧ r.size ≤ 3000 ∧ Hid ((bl r).dropWhile wh = (bl s).dropWhile wh)) (fun v => szOf v)
  case atStart => exact ⟨s, rfl, hs, rfl⟩
  case round =>
    obtain ⟨r, rfl, hr, HD⟩ := hrel
    by_cases h0 : 0 < r.size
    · have hbd : 0 ≤ (r[0].toNat : Int) ∧ (r[0].toNat : Int) < 256 := by have := r[0].toNat_lt; omega
      have HB := hide (bl_0 r h0)
      obtain ⟨q, HQ⟩ : ∃ q, Hid (wh (r[0].toNat : Int) = q) := ⟨wh (r[0].toNat : Int), rfl⟩
      go_wp2_with fail
      refine (isWhite_any _ _ hbd).mono ?_
      rintro e w1 ⟨rfl, hw⟩
      replace hw := hw.symm
      subst hw
      rw [unhide HQ]
      cases q
      · have HD2 : Hid ((bl r) = (bl s).dropWhile wh) := by
          show _ = _
          rw [← unhide HD]
          conv => rhs; rw [unhide HB]
          rw [List.dropWhile_cons_of_neg (by rw [unhide HQ]; simp), ← unhide HB]
        clear HB HQ HD
        go_wp2_with fail
        go_loop [0] (fun v => ∃ r', v = .string r' ∧ r'.size ≤ 3000 ∧ Hid (rT (bl r') = rT (bl r))) (fun v => szOf v)
        case atStart => exact ⟨r, rfl, hr, rfl⟩
        case round =>
          obtain ⟨r', rfl, hr', HE⟩ := hrel
          by_cases h1 : 0 < r'.size
          · have hlt : r'.size - 1 < r'.size := by omega
            have hbd' : 0 ≤ (r'[r'.size - 1].toNat : Int) ∧ (r'[r'.size - 1].toNat : Int) < 256 := by have := r'[r'.size - 1].toNat_lt; omega
            have HB' := hide (bl_last r' hlt)
            obtain ⟨q', HQ'⟩ : ∃ q', Hid (wh (r'[r'.size - 1].toNat : Int) = q') := ⟨wh (r'[r'.size - 1].toNat : Int), rfl⟩
            go_wp2_with fail
            refine (isWhite_any _ _ hbd').mono ?_
            rintro e w2 ⟨rfl, hw⟩
            replace hw := hw.symm
            subst hw
            rw [unhide HQ']
            cases q'
            · have HF : Hid (strOfNums (trI (bl s)) = r') := by
                show _ = _
                have e1 : rT (bl r') = bl r' := by
                  conv => lhs; rw [unhide HB']
                  rw [rT_snoc, unhide HQ']
                  exact (unhide HB').symm
                rw [← unhide HC, ← unhide HD2, ← unhide HE, e1, str_bl]
              go_wp2_with fail
              go_ret
              exact ⟨by rw [unhide HF]; rfl, rfl⟩
            · have HE2 : Hid (rT (bl (r'.extract 0 (r'.size - 1))) = rT (bl r)) := by
                show _ = _
                rw [← unhide HE, bl_take]
                conv => rhs; rw [unhide HB']
                rw [rT_snoc, unhide HQ']; rfl
              go_wp2_with fail
              go_round
              case rel => exact ⟨_, rfl, by simp; omega, HE2⟩
              case measure => simp [szOf]; omega
          · have HF : Hid (strOfNums (trI (bl s)) = r') := by
              show _ = _
              have e0 : bl r' = [] := List.eq_nil_of_length_eq_zero (by rw [bl_len]; omega)
              have e1 : rT (bl r') = bl r' := by rw [e0]; rfl
              rw [← unhide HC, ← unhide HD2, ← unhide HE, e1, str_bl]
            go_wp2_with fail
            go_ret
            exact ⟨by rw [unhide HF]; rfl, rfl⟩
      · have HD2 : Hid ((bl (r.extract 1 r.size)).dropWhile wh = (bl s).dropWhile wh) := by
          show _ = _
          rw [← unhide HD, bl_extract]
          conv => rhs; rw [unhide HB]
          rw [List.dropWhile_cons_of_pos (unhide HQ)]
        go_wp2_with fail
        go_round
        case rel => exact ⟨_, rfl, by simp; omega, HD2⟩
        case measure => simp [szOf]; omega
    · have HD2 : Hid ((bl r) = (bl s).dropWhile wh) := by
        show _ = _
        have e0 : bl r = [] := List.eq_nil_of_length_eq_zero (by rw [bl_len]; omega)
        rw [← unhide HD, e0]; rfl
      clear HD
      go_wp2_with fail
      go_loop [0] (fun v => ∃ r', v = .string r' ∧ r'.size ≤ 3000 ∧ Hid (rT (bl r') = rT (bl r))) (fun v => szOf v)
      case atStart => exact ⟨r, rfl, hr, rfl⟩
      case round =>
        obtain ⟨r', rfl, hr', HE⟩ := hrel
        by_cases h1 : 0 < r'.size
        · have hlt : r'.size - 1 < r'.size := by omega
          have hbd' : 0 ≤ (r'[r'.size - 1].toNat : Int) ∧ (r'[r'.size - 1].toNat : Int) < 256 := by have := r'[r'.size - 1].toNat_lt; omega
          have HB' := hide (bl_last r' hlt)
          obtain ⟨q', HQ'⟩ : ∃ q', Hid (wh (r'[r'.size - 1].toNat : Int) = q') := ⟨wh (r'[r'.size - 1].toNat : Int), rfl⟩
          go_wp2_with fail
          refine (isWhite_any _ _ hbd').mono ?_
          rintro e w2 ⟨rfl, hw⟩
          replace hw := hw.symm
          subst hw
          rw [unhide HQ']
          cases q'
          · have HF : Hid (strOfNums (trI (bl s)) = r') := by
              show _ = _
              have e1 : rT (bl r') = bl r' := by
                conv => lhs; rw [unhide HB']
                rw [rT_snoc, unhide HQ']
                exact (unhide HB').symm
              rw [← unhide HC, ← unhide HD2, ← unhide HE, e1, str_bl]
            go_wp2_with fail
            go_ret
            exact ⟨by rw [unhide HF]; rfl, rfl⟩
          · have HE2 : Hid (rT (bl (r'.extract 0 (r'.size - 1))) = rT (bl r)) := by
              show _ = _
              rw [← unhide HE, bl_take]
              conv => rhs; rw [unhide HB']
              rw [rT_snoc, unhide HQ']; rfl
            go_wp2_with fail
            go_round
            case rel => exact ⟨_, rfl, by simp; omega, HE2⟩
            case measure => simp [szOf]; omega
        · have HF : Hid (strOfNums (trI (bl s)) = r') := by
            show _ = _
            have e0 : bl r' = [] := List.eq_nil_of_length_eq_zero (by rw [bl_len]; omega)
            have e1 : rT (bl r') = bl r' := by rw [e0]; rfl
            rw [← unhide HC, ← unhide HD2, ← unhide HE, e1, str_bl]
          go_wp2_with fail
          go_ret
          exact ⟨by rw [unhide HF]; rfl, rfl⟩

/-- What a round of FoldOf knows. -/
def InFo (s : ByteArray) (w wr : World) (k : Nat) (v : Value) : Prop :=
  wr.ownsRow w.heap.size 5 1 v (fdI ((bl s).take k)).length ((fdI ((bl s).take k)).map (Value.int .u8)) ∧ Below w.heap.size w wr

theorem InFo.step {s : ByteArray} {w wr w1 : World} {k : Nat} {v v1 : Value} (h : InFo s w wr k v) (hk : k < s.size) {c : Int} (hc : fI ((bl s).getD k 0) = c)
    (ho : w1.ownsRow w.heap.size 5 1 v1 (fdI ((bl s).take k) ++ [c]).length ((fdI ((bl s).take k) ++ [c]).map (Value.int .u8))) (hb : Below w.heap.size wr w1) : InFo s w w1 (k + 1) v1 := by
  have hk' : k < (bl s).length := by rw [bl_len]; exact hk
  have e : fdI ((bl s).take (k + 1)) = fdI ((bl s).take k) ++ [c] := by
    rw [List.take_succ_eq_append_getElem hk']; unfold fdI; rw [List.map_append, ← hc]; congr 1; simp [hk']
  exact ⟨by rw [e]; exact ho, h.2.trans hb⟩

set_option maxHeartbeats 1000000 in
set_option maxRecDepth 100000 in
theorem foldOf_any (s : ByteArray) (w : World) (hs : s.size ≤ 3000) :
    Calls Tryd.prog 32 #[.string s] w fun e w' => e = .returned (.string (strOfNums (fdI (bl s)))) ∧ Below w.heap.size w w' := by
  obtain ⟨i0, hi, hz0, hz1, hz2⟩ := info_parts info5
  have HI : InFo s w w 0 (.slice none 0 0) := ⟨World.ownsRow_nil _ _ _ _, Below.refl _ _⟩
  go_enter Tryd.func32, Tryd.ntmps32
  go_wp2_with fail
  go_loopw [3, 4] (fun v i wr => ∃ k : Nat, k ≤ s.size ∧ i = .int .i64 k ∧ InFo s w wr k v) (fun _ i _ => s.size - (intOf i).toNat)
  case atStart => exact ⟨0, by omega, rfl, HI⟩
  case round =>
    obtain ⟨k, hk, rfl, hI⟩ := hrel
    clear HI
    by_cases hlt : k < s.size
    · obtain ⟨c, hc⟩ : ∃ c : Int, (s[k].toNat : Int) = c := ⟨_, rfl⟩
      have hbd : 0 ≤ c ∧ c < 256 := by have := s[k].toNat_lt; omega
      have hgd : (bl s).getD k 0 = c := by rw [List.getD_eq_getElem?_getD, bl_get s k hlt, ← hc]; rfl
      have hsz := hI.2.size
      have hln : (fdI ((bl s).take k)).length ≤ 3000 := by rw [fd_len]; have := List.length_take_le k (bl s); omega
      have hown := hI.1
      obtain ⟨ao, cap, hsh⟩ := owns_shape hown
      subst hsh
      by_cases h1 : 65 ≤ c ∧ c ≤ 90
      · have HF : Hid (fI ((bl s).getD k 0) = c + 32) := by show _ = _; rw [hgd]; unfold fI; rw [if_pos h1]
        obtain ⟨h10, h11⟩ := h1
        clear hgd
        go_wp2_with fail
        refine (between_any _ _ _ _).mono ?_
        rintro e w1 ⟨rfl, hw⟩
        replace hw := hw.symm
        subst hw
        go_wp2_with (at_builtin; refine wpList_append_own _ rfl (.tmp 20) (.tmp 22) 69 rfl w.heap.size 5 i0 (.int .u8 0) 1 1 Tryd.underlying69 hi hz0 hz1 hz2 rfl (by decide) _ _ _ rfl (hown.alloc _) ⟨wr.heap.size, 0, none⟩ 1 1 [.int .u8 (c + 32)] rfl rfl (by intro j u hj; match j, hj with | 0, hj => (simp at hj; subst hj; simp [Addr.add])) (by intro u hu; simp at hu; subst hu; rfl) (by unfold maxLen; omega) (by omega) (by simp; omega) ?_)
        intro v2 w2 ho2 hg2 _
        obtain ⟨ao2, cap2, hsh2⟩ := owns_shape ho2
        subst hsh2
        have HI2 := InFo.step hI hlt (unhide HF) (by simpa using ho2) (((Below.refl _ _).alloc hsz _).grown hg2 (by simp; omega) (fun k hk => (hown.lt k hk).1))
        clear hI hown ho2 hg2
        go_wp2_with fail
        go_roundw
        case rel => exact ⟨k + 1, by omega, by go_num, by simpa using HI2⟩
        case measure => simp [intOf]; omega
      · have hd : (decide (65 ≤ c) && decide (c ≤ 90)) = false := by simp; omega
        have HF : Hid (fI ((bl s).getD k 0) = c) := by show _ = _; rw [hgd]; unfold fI; rw [if_neg h1]
        clear hgd h1
        go_wp2_with fail
        refine (between_any _ _ _ _).mono ?_
        rintro e w1 ⟨rfl, hw⟩
        replace hw := hw.symm
        subst hw
        go_wp2_with (at_builtin; refine wpList_append_own _ rfl (.tmp 20) (.tmp 22) 69 rfl w.heap.size 5 i0 (.int .u8 0) 1 1 Tryd.underlying69 hi hz0 hz1 hz2 rfl (by decide) _ _ _ rfl (hown.alloc _) ⟨wr.heap.size, 0, none⟩ 1 1 [.int .u8 (c)] rfl rfl (by intro j u hj; match j, hj with | 0, hj => (simp at hj; subst hj; simp [Addr.add])) (by intro u hu; simp at hu; subst hu; rfl) (by unfold maxLen; omega) (by omega) (by simp; omega) ?_)
        intro v2 w2 ho2 hg2 _
        obtain ⟨ao2, cap2, hsh2⟩ := owns_shape ho2
        subst hsh2
        have HI2 := InFo.step hI hlt (unhide HF) (by simpa using ho2) (((Below.refl _ _).alloc hsz _).grown hg2 (by simp; omega) (fun k hk => (hown.lt k hk).1))
        clear hI hown ho2 hg2
        go_wp2_with fail
        go_roundw
        case rel => exact ⟨k + 1, by omega, by go_num, by simpa using HI2⟩
        case measure => simp [intOf]; omega
    · have ek : k = s.size := by omega
      subst ek
      have e : (bl s).take s.size = bl s := List.take_of_length_le (by rw [bl_len]; exact Nat.le_refl _)
      obtain ⟨o1, o2⟩ := hI
      rw [e] at o1
      have hcv := conv_owned o1
      obtain ⟨ao, cap, hsh⟩ := owns_shape o1
      subst hsh
      have HB := hide o2
      clear o1 o2 e
      go_wp2_with fail
      go_ret
      exact ⟨rfl, unhide HB⟩
end Go.Proofs.YthhjfedegbldfaeDoor
