/- The contract of cartoucheref.DecodeUtf8: the code points of all pieces but an open one, and the bytes of that; nothing that was there is written. Condition: at most 3000 bytes. -/
import Derived.Test.YthhjfedegbldfaaO
namespace Go.Proofs.Ythhjfedegbldfaa
open Go.RowKit
set_option linter.unusedVariables false

theorem DecPost.mk {s rr : ByteArray} {w w' : World} {v : Value} {xs : List Int} (h1 : w'.ownsRow w.heap.size 3 1 v xs.length (xs.map (Value.int .i64))) (h2 : Below w.heap.size w w') (h3 : (rr.size : Int) = M.spl (bl s)) (h4 : xs.length ≤ 3000)
    (h5 : xs ++ (if rr.size = 0 then [] else [65533]) = M.dec (bl s)) : DecPost s w (.returned (.tuple #[v, .string rr])) w' := ⟨v, rr, xs, rfl, h1, h2, h3, h4, h5⟩

theorem done_step {r : ByteArray} {k : Nat} {X : Int} (hX : X = M.bSize (hd r)) : (((k : Int) + 1) == X) = doneB r (k + 1) := by
  rw [hX, Bool.eq_iff_iff]; simp [doneB]

theorem open_all {r : ByteArray} (h0 : 0 < r.size) (hn : M.nxt (bl r) = (65533, (r.size : Int), true)) : M.dec (bl r) = [65533] ∧ M.spl (bl r) = r.size := by
  have hne := bl_ne h0
  have hd0 : (bl r).drop r.size = [] := List.drop_of_length_le (by rw [bl_len]; exact Nat.le_refl _)
  constructor
  · rw [M.dec_ne hne, hn]
    simp only [Int.toNat_natCast]
    rw [hd0]; rfl
  · unfold M.spl M.lft
    rw [M.pieces_ne hne, hn, List.foldl_cons]
    simp only [Int.toNat_natCast, if_true]
    rw [hd0, M.pieces_nil]; rfl
theorem value_at {r : ByteArray} {k : Nat} (h0 : 0 < r.size) (hk : k ≤ r.size) (hd' : doneB r k = true) (hb : M.begOk ((bl r).take k) = true) (w : World) :
    Calls Try.prog 29 #[.string (r.extract 0 k)] w fun e w' => e = .returned (.int .i64 (M.val (M.bBits (hd r)) (((bl r).drop 1).take (k - 1)))) ∧ Below w.heap.size w w' := by
  have hdd := hd'
  simp [doneB] at hdd
  obtain ⟨j, rfl⟩ : ∃ j, k = j + 1 := ⟨k - 1, by omega⟩
  have hl : (((bl r).drop 1).take j).length = j := by rw [List.length_take, List.length_drop, bl_len]; omega
  rw [take_cons h0] at hb
  exact valueOf_list _ (hd r) (((bl r).drop 1).take j) w (by rw [bl_take, take_cons h0]) hb (by rw [hl]; exact hdd.2)

/-- What a round of the inner loop knows. -/
def InI (r : ByteArray) (wo wi : World) (k : Nat) : Prop := k ≤ r.size ∧ (k = 0 ∨ M.begOk ((bl r).take k) = true) ∧ Below wo.heap.size wo wi

set_option maxHeartbeats 2000000 in
set_option maxRecDepth 100000 in
theorem decRef_any (s : ByteArray) (w : World) (hs : s.size ≤ 3000) : Calls Try.prog 13 #[.string s] w (DecPost s w) := by
  have HI : InD s w w s [] (.slice none 0 0) := ⟨World.ownsRow_nil _ _ _ _, Below.refl _ _, by simp, rfl, by simp⟩
  obtain ⟨i0, hi, hz0, hz1, hz2⟩ := info_parts info3
  go_enter Try.func13, Try.ntmps13
  go_wp2_with fail
  go_loopw [0, 4] (fun sv v wr => ∃ r xs, sv = .string r ∧ InD s w wr r xs v) (fun sv _ _ => szOf sv)
  case atStart => exact ⟨s, [], rfl, HI⟩
  case round =>
    obtain ⟨r, xs, rfl, hI⟩ := hrel
    clear HI
    have hrs : r.size ≤ 3000 := by have := hI.2.2.2.2; omega
    have hxs : xs.length ≤ 3000 := by have := hI.2.2.2.2; omega
    obtain ⟨ao, cap, hsh⟩ := owns_shape hI.1
    subst hsh
    by_cases h0 : 0 < r.size
    · go_wp2_with fail
      generalize wr = wo at *
      have hwo := hI.2.1.size
      go_loopw [5, 6] (fun nv dv wi => ∃ k : Nat, nv = .int .i64 k ∧ dv = .bool (doneB r k) ∧ InI r wo wi k) (fun nv _ _ => r.size - (intOf nv).toNat)
      case atStart => exact ⟨0, rfl, rfl, Nat.zero_le _, .inl rfl, Below.refl _ _⟩
      case round =>
        obtain ⟨k, rfl, rfl, hk, hbeg, hbi⟩ := hrel
        generalize wr = wi at *
        have HBG := hide hbeg
        clear hbeg
        have hown := owns_below hI.1 hbi
        have hwi := hbi.size
        obtain ⟨q, HQ⟩ : ∃ q, Hid (doneB r k = q) := ⟨_, rfl⟩
        rw [unhide HQ]
        cases q
        · by_cases hks : k < r.size
          · go_wp2_with fail
            refine (begun_pre h0 hks (unhide HQ) (unhide HBG) _).mono ?_
            rintro e w1 ⟨X, rfl, hX, hb1⟩
            obtain ⟨q2, HQ2⟩ : ∃ q2, Hid (M.begOk ((bl r).take (k + 1)) = q2) := ⟨_, rfl⟩
            rw [unhide HQ2] at hX ⊢
            have HX := hide hX
            clear hX
            cases q2
            · have hown1 := owns_below hown hb1
              have hw1 := hb1.size
              by_cases hk0 : k = 0
              · subst hk0
                have HN := hide (first_nxt h0 (unhide HQ2))
                clear hown
                go_wp2_with (at_builtin; refine append_ints rfl (.tmp 37) (.tmp 38) rfl w.heap.size _ xs rfl (hown1.alloc _) _ [65533] rfl (one_int _ _) (by simp; omega) (by simp; omega) ?_)
                intro v2 w2 ho2 hb2
                obtain ⟨ao2, cap2, hsh2⟩ := owns_shape ho2
                subst hsh2
                have HI2 := InD.step hI h0 (k := 1) (by omega) (by omega) (unhide HN) (by simpa using ho2) ((((bstep hbi hb1).mono hwo).alloc (by omega) _).trans hb2)
                clear hI hown1 ho2 hb2 hbi hb1
                go_wp2_with fail
                go_roundw
                case rel => exact ⟨_, _, rfl, by simpa using HI2⟩
                case measure => simp [szOf]; omega
              · have HN := hide (bad_nxt h0 (by omega) hks (unhide HQ) ((unhide HBG).resolve_left hk0) (unhide HQ2))
                have hk1 : ((k : Int) == 0) = false := by simp; omega
                have hk2 : ((k : Int) == (r.size : Int)) = false := by simp; omega
                clear hown
                go_wp2_with (at_builtin; refine append_ints rfl (.tmp 37) (.tmp 38) rfl w.heap.size _ xs rfl (hown1.alloc _) _ [65533] rfl (one_int _ _) (by simp; omega) (by simp; omega) ?_)
                intro v2 w2 ho2 hb2
                obtain ⟨ao2, cap2, hsh2⟩ := owns_shape ho2
                subst hsh2
                have HI2 := InD.step hI h0 (k := k) (by omega) (by omega) (unhide HN) (by simpa using ho2) ((((bstep hbi hb1).mono hwo).alloc (by omega) _).trans hb2)
                clear hI hown1 ho2 hb2 hbi hb1
                go_wp2_with fail
                go_roundw
                case rel => exact ⟨_, _, rfl, by simpa using HI2⟩
                case measure => simp [szOf]; omega
            · have eX := unhide HX rfl
              have eh : ((bl r).take (k + 1)).headD 0 = hd r := by rw [take_cons h0]; rfl
              rw [eh] at eX
              have HD := hide (done_step (r := r) (k := k) eX)
              have HI2 : InI r wo w1 (k + 1) := ⟨by omega, .inr (unhide HQ2), bstep hbi hb1⟩
              clear eX eh hown hI hbi hb1
              go_wp2_with fail
              go_roundw
              case rel => exact ⟨k + 1, by go_num, by rw [unhide HD], HI2⟩
              case measure => simp [intOf]; omega
          · have ek : k = r.size := by omega
            subst ek
            have HN := hide (left_nxt h0 (unhide HQ) ((unhide HBG).resolve_left (by omega)))
            have hkk : ((r.size : Int) == (r.size : Int)) = true := by simp
            go_wp2_with fail
            go_ret2
            obtain ⟨h1, h2, h3, h4, h5⟩ := hI
            have ho := open_all h0 (unhide HN)
            exact DecPost.mk hown (h2.trans (hbi.mono hwo)) (by rw [← h4]; exact ho.2.symm) hxs (by rw [if_neg (by omega), ← h3, ho.1])
        · have hk0 : k ≠ 0 := by have := unhide HQ; simp [doneB] at this; omega
          have HN := hide (done_nxt h0 hk (unhide HQ) ((unhide HBG).resolve_left hk0))
          have HV := hide (fun w => value_at h0 hk (unhide HQ) ((unhide HBG).resolve_left hk0) w)
          generalize M.val (M.bBits (hd r)) (((bl r).drop 1).take (k - 1)) = p at *
          by_cases hks : k < r.size
          all_goals
            go_wp2_with fail
            refine (unhide HV _).mono ?_
            rintro e w1 ⟨rfl, hb1⟩
            have hown1 := owns_below hown hb1
            have hw1 := hb1.size
            clear hown
            go_wp2_with (at_builtin; refine append_ints rfl (.tmp 42) (.tmp 47) rfl w.heap.size _ xs rfl (hown1.alloc _) _ [p] rfl (one_int _ _) (by simp; omega) (by simp; omega) ?_)
            intro v2 w2 ho2 hb2
            obtain ⟨ao2, cap2, hsh2⟩ := owns_shape ho2
            subst hsh2
            have HI2 := InD.step hI h0 (k := k) (by omega) hk (unhide HN) (by simpa using ho2) ((((bstep hbi hb1).mono hwo).alloc (by omega) _).trans hb2)
            clear hI hown1 ho2 hb2 hbi hb1 HV
            go_wp2_with fail
            go_roundw
            case rel => exact ⟨_, _, rfl, by simpa using HI2⟩
            case measure => simp [szOf]; omega
    · go_wp2_with fail
      go_ret2
      have h00 : r.size = 0 := by omega
      have hr : bl r = [] := List.eq_nil_of_length_eq_zero (by rw [bl_len]; exact h00)
      obtain ⟨h1, h2, h3, h4, h5⟩ := hI
      rw [hr] at h3 h4
      exact DecPost.mk h1 h2 (by rw [← h4]; rfl) hxs (by rw [← h3]; rfl)
end Go.Proofs.Ythhjfedegbldfaa
