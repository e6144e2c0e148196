/- The contracts of allUtf8, tooLong, intsAre, IsScalar and CheckPoints: each returns what the plain function of its name computes; nothing that was there is written. -/
import Derived.Test.YthhjfedegbldfaaP
import Derived.Test.YthhjfedegbldfaaG
namespace Go.Proofs.Ythhjfedegbldfaa
open Go.RowKit
set_option linter.unusedVariables false

theorem isEmpty_size (r : ByteArray) : r.toList.isEmpty = decide (r.size = 0) := by
  rw [ByteArray.toList_eq, Bool.eq_iff_iff]
  simp only [List.isEmpty_iff, decide_eq_true_eq]
  have : r.data.toList.length = r.size := by simp
  rw [← this]
  exact List.length_eq_zero_iff.symm

set_option maxHeartbeats 400000 in
set_option maxRecDepth 100000 in
theorem allUtf8_any (s : ByteArray) (w : World) (hs : s.size ≤ 3000) : Calls Try.prog 12 #[.string s] w fun e w' => ∃ v, e = .returned v ∧ Ints w' v (M.dec (bl s)) ∧ Below w.heap.size w w' := by
  go_enter Try.func12, Try.ntmps12
  go_wp2_with fail
  refine (decRef_any s _ hs).mono ?_
  rintro e w1 ⟨v, rr, xs, rfl, hown, hb1, hsp, hxs, heq⟩
  obtain ⟨ao, cap, hsh⟩ := owns_shape hown
  subst hsh
  have hw1 := hb1.size
  by_cases h0 : rr.size = 0
  · rw [if_pos h0, List.append_nil] at heq
    have he : rr.toList.isEmpty = true := by rw [isEmpty_size]; simp [h0]
    have HI := hide (Ints.of_owns hown)
    rw [heq] at HI
    have hl := congrArg List.length heq
    clear hown hsp h0
    have HE := hide heq
    clear heq
    go_wp2_with fail
    go_ret
    exact ⟨_, rfl, unhide HI, hb1⟩
  · rw [if_neg h0] at heq
    have he : rr.toList.isEmpty = false := by rw [isEmpty_size]; simp [h0]
    have HE := hide heq
    clear heq hsp h0
    go_wp2_with (at_builtin; refine append_ints rfl (.tmp 12) (.tmp 13) rfl w.heap.size _ xs rfl (hown.alloc _) _ [65533] rfl (one_int _ _) (by simp; omega) (by simp; omega) ?_)
    intro v2 w2 ho2 hb2
    obtain ⟨ao2, cap2, hsh2⟩ := owns_shape ho2
    subst hsh2
    have HI : Hid (Ints w2 (.slice ao2 (xs.length + 1) cap2) (xs ++ [65533])) := Ints.of_owns (xs := xs ++ [65533]) (by simpa using ho2)
    rw [unhide HE] at HI
    have HB := hide ((hb1.alloc hw1 (.cells #[.int .i64 65533] 3)).trans hb2)
    clear hown ho2 hb2
    go_wp2_with fail
    go_ret
    exact ⟨_, rfl, unhide HI, unhide HB⟩

set_option maxHeartbeats 400000 in
set_option maxRecDepth 100000 in
theorem tooLong_no (s : ByteArray) (w : World) (hs : s.size ≤ 3000) : Calls Try.prog 10 #[.string s] w fun e w' => e = .returned (.int .i64 0) ∧ w' = w := by
  go_enter Try.func10, Try.ntmps10
  go_wp2
  go_ret
  exact ⟨rfl, rfl⟩
set_option maxHeartbeats 400000 in
set_option maxRecDepth 100000 in
theorem tooLong_yes (s : ByteArray) (w : World) (hs : 3000 < s.size) (hm : s.size ≤ maxLen) : Calls Try.prog 10 #[.string s] w fun e w' => e = .returned (.int .i64 2) ∧ w' = w := by
  unfold maxLen at hm
  go_enter Try.func10, Try.ntmps10
  go_wp2
  go_ret
  exact ⟨rfl, rfl⟩

set_option maxHeartbeats 400000 in
set_option maxRecDepth 100000 in
theorem isScalar_any (n : Int) (w : World) : Calls Try.prog 27 #[.int .i64 n] w fun e w' => e = .returned (.bool (M.sclr n)) ∧ w' = w := by
  have HS : Hid (M.sclr n = ((decide (0 ≤ n) && decide (n ≤ 55295)) || (decide (57344 ≤ n) && decide (n ≤ 1114111)))) := by
    show M.sclr n = _
    rw [Bool.eq_iff_iff]; simp [M.sclr]; omega
  by_cases h : 0 ≤ n ∧ n ≤ 55295
  · have hd : (decide (0 ≤ n) && decide (n ≤ 55295)) = true := by simp; omega
    go_enter Try.func27, Try.ntmps27
    go_wp2_with (go_at_call 33; refine (between_any _ _ _ _).mono ?_; rintro e w1 ⟨rfl, hw⟩; replace hw := hw.symm; subst hw)
    go_ret
    exact ⟨ret_bool (by rw [unhide HS, hd]; simp), rfl⟩
  · have hd : (decide (0 ≤ n) && decide (n ≤ 55295)) = false := by simp; omega
    go_enter Try.func27, Try.ntmps27
    go_wp2_with (go_at_call 33; refine (between_any _ _ _ _).mono ?_; rintro e w1 ⟨rfl, hw⟩; replace hw := hw.symm; subst hw)
    go_ret
    exact ⟨ret_bool (by rw [unhide HS, hd]; simp), rfl⟩

set_option maxHeartbeats 400000 in
set_option maxRecDepth 100000 in
theorem check_many (ao : Option Addr) (len cap : Nat) (w : World) (h : 3000 < len) (hm : len ≤ maxLen) :
    Calls Try.prog 11 #[.slice ao len cap] w fun e w' => e = .returned (.int .i64 2) ∧ w' = w := by
  unfold maxLen at hm
  go_enter Try.func11, Try.ntmps11
  go_wp2
  go_ret
  exact ⟨rfl, rfl⟩

/-- What CheckPoints answers of at most 3000 integers. -/
def chkRes (xs : List Int) : Value := if xs.all M.sclr then .int .i64 0 else .int .i64 3
theorem chkRes_yes {xs : List Int} (h : xs.all M.sclr = true) : chkRes xs = .int .i64 0 := by unfold chkRes; rw [if_pos h]
theorem chkRes_no {xs : List Int} (h : xs.all M.sclr = false) : chkRes xs = .int .i64 3 := by unfold chkRes; rw [if_neg (by simp [h])]

set_option maxHeartbeats 400000 in
set_option maxRecDepth 100000 in
theorem check_none (ao : Option Addr) (cap : Nat) (w : World) : Calls Try.prog 11 #[.slice ao 0 cap] w fun e w' => e = .returned (.int .i64 0) ∧ w' = w := by
  go_enter Try.func11, Try.ntmps11
  go_wp2
  refine wp_loop_rounds 1 ?_
  rw [rounds_succ]
  go_wp2
  go_ret
  exact ⟨rfl, rfl⟩

set_option maxHeartbeats 400000 in
set_option maxRecDepth 100000 in
theorem check_some (b off cap : Nat) (xs : List Int) (w : World) (h0 : xs ≠ []) (h : xs.length ≤ 3000) (hc : ∀ i, i < xs.length → w.cell? ⟨b, off + i, none⟩ = some (.int .i64 (xs.getD i 0))) :
    Calls Try.prog 11 #[.slice (some ⟨b, off, none⟩) xs.length cap] w fun e w' => e = .returned (chkRes xs) ∧ w' = w := by
  have hlen : 0 < xs.length := List.length_pos_iff.2 h0
  have HC := hide hc
  clear hc h0
  go_enter Try.func11, Try.ntmps11
  go_wp2_with fail
  go_loop [3] (fun i => ∃ k : Nat, k ≤ xs.length ∧ i = .int .i64 k ∧ Hid ((xs.take k).all M.sclr = true)) (fun i => xs.length - (intOf i).toNat)
  case atStart => exact ⟨0, by omega, rfl, rfl⟩
  case round =>
    obtain ⟨k, hk, rfl, HA⟩ := hrel
    by_cases hlt : k < xs.length
    · have hcell := unhide HC k hlt
      obtain ⟨p, HP⟩ : ∃ p, Hid (xs.getD k 0 = p) := ⟨_, rfl⟩
      rw [unhide HP] at hcell
      obtain ⟨q, HQ⟩ : ∃ q, Hid (M.sclr p = q) := ⟨_, rfl⟩
      go_wp2_with fail
      refine (isScalar_any _ _).mono ?_
      rintro e w1 ⟨rfl, hw⟩
      replace hw := hw.symm
      subst hw
      rw [unhide HQ]
      cases q
      · go_wp2_with fail
        go_ret
        have : xs.all M.sclr = false := by
          rw [List.all_eq_false]
          refine ⟨xs.getD k 0, ?_, by rw [unhide HP, unhide HQ]; simp⟩
          simp [hlt]
        refine ⟨?_, rfl⟩
        rw [chkRes_no this]; rfl
      · have HA' : Hid ((xs.take (k + 1)).all M.sclr = true) := by
          show (xs.take (k + 1)).all M.sclr = true
          rw [take_snoc xs k hlt, List.all_append, unhide HA, unhide HP]
          simpa using unhide HQ
        go_wp2_with fail
        go_round
        case rel => exact ⟨k + 1, by omega, by go_num, HA'⟩
        case measure => simp [intOf]; omega
    · go_wp2_with fail
      go_ret
      have := unhide HA
      rw [List.take_of_length_le (by omega)] at this
      refine ⟨?_, rfl⟩
      rw [chkRes_yes this]; rfl

theorem check_any {v : Value} {xs : List Int} (w : World) (hx : Ints w v xs) (h : xs.length ≤ 3000) :
    Calls Try.prog 11 #[v] w fun e w' => e = .returned (chkRes xs) ∧ w' = w := by
  obtain ⟨ao, cap, rfl, hm, -, hx⟩ := hx
  by_cases h0 : xs = []
  · subst h0; exact check_none ao cap w
  · rcases hx with hx | ⟨b, off, rfl, hc⟩
    · exact absurd hx h0
    · exact check_some b off cap xs w h0 h hc

set_option maxHeartbeats 400000 in
set_option maxRecDepth 100000 in
theorem intsAre_ok {v u : Value} {xs : List Int} (w : World) (hx : Ints w v xs) (hu : Ints w u xs) :
    Calls Try.prog 16 #[v, .int .i64 0, .int .i64 0, u] w fun e w' => e = .returned (.bool true) ∧ Below w.heap.size w w' := by
  obtain ⟨ao, cap, hv, -⟩ := id hx
  obtain ⟨ao', cap', hv', -⟩ := id hu
  subst hv hv'
  have HX := hide hx
  have HU := hide hu
  clear hx hu
  go_enter Try.func16, Try.ntmps16
  go_wp2_with fail
  refine (same_any _ (unhide HX) (unhide HU)).mono ?_
  rintro e w1 ⟨rfl, hb⟩
  rw [show (xs == xs) = true from by simp]
  go_wp2_with fail
  go_ret
  exact ⟨rfl, hb⟩
set_option maxHeartbeats 400000 in
set_option maxRecDepth 100000 in
theorem intsAre_err (ao : Option Addr) (n c : Nat) (w : World) :
    Calls Try.prog 16 #[.slice none 0 0, .int .i64 2, .int .i64 2, .slice ao n c] w fun e w' => e = .returned (.bool true) ∧ Below w.heap.size w w' := by
  go_enter Try.func16, Try.ntmps16
  go_wp2_with fail
  refine (same_any _ (Ints.nil _) (Ints.nil _)).mono ?_
  rintro e w1 ⟨rfl, hb⟩
  rw [show (([] : List Int) == []) = true from rfl]
  go_wp2_with fail
  go_ret
  exact ⟨rfl, hb⟩
end Go.Proofs.Ythhjfedegbldfaa
