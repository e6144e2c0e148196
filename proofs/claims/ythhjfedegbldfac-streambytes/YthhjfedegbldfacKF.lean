/- The contracts of kana.Encode and of cartouchelaw.kanaBegun; nothing that was there is written. Condition: the code points are Go's integers. -/
import Derived.Test.YthhjfedegbldfacKE
import Derived.Test.YthhjfedegbldfacSame
import Derived.Test.YthhjfedegbldfacSA
namespace Go.Proofs.Ythhjfedegbldfac
open Go.RowKit
set_option linter.unusedVariables false

theorem wrote_yes {xs : List Int} (h : xs.all M.anyK = true) : wrote xs = .tuple #[.string (strOfNums (M.kenc xs)), .bool true] := by unfold wrote; rw [if_pos h]
theorem wrote_no {xs : List Int} (h : xs.all M.anyK = false) : wrote xs = .tuple #[.string ByteArray.empty, .bool false] := by unfold wrote; rw [if_neg (by simp [h])]
theorem encodedK_yes {xs : List Int} (h : xs.all M.anyK = true) : encodedK xs = .tuple #[.string (strOfNums (M.kenc xs)), .int .i64 0] := by unfold encodedK; rw [if_pos h]
theorem encodedK_no {xs : List Int} (h : xs.all M.anyK = false) : encodedK xs = .tuple #[.string ByteArray.empty, .int .i64 5] := by unfold encodedK; rw [if_neg (by simp [h])]

set_option maxHeartbeats 800000 in
set_option maxRecDepth 100000 in
theorem kencode_any (v : Value) (xs : List Int) (w : World) (hI : Ints w v xs) (hlen : xs.length ≤ 3000) (hgi : ∀ n ∈ xs, Gi n) :
    Calls Try.prog 10 #[v] w fun e w' => e = .returned (encodedK xs) ∧ Below w.heap.size w w' := by
  have hw := write_any v xs w hI hlen hgi
  obtain ⟨ao, cap, rfl, -⟩ := hI
  cases hq : xs.all M.anyK
  · rw [wrote_no hq] at hw
    rw [encodedK_no hq]
    clear hq hgi
    go_enter Try.func10, Try.ntmps10
    go_wp2_with fail
    refine hw.mono ?_
    rintro e w1 ⟨rfl, hb⟩
    have HB := hide hb
    clear hb hw
    go_wp2_with fail
    go_ret2
    exact ⟨rfl, unhide HB⟩
  · rw [wrote_yes hq] at hw
    rw [encodedK_yes hq]
    clear hq hgi
    generalize strOfNums (M.kenc xs) = s at hw
    go_enter Try.func10, Try.ntmps10
    go_wp2_with fail
    refine hw.mono ?_
    rintro e w1 ⟨rfl, hb⟩
    have HB := hide hb
    clear hb hw
    go_wp2_with fail
    go_ret2
    exact ⟨rfl, unhide HB⟩
set_option maxHeartbeats 400000 in
set_option maxRecDepth 100000 in
theorem kencode_long (ao : Option Addr) (len cap : Nat) (w : World) (h : 3000 < len) (hm : len ≤ maxLen) :
    Calls Try.prog 10 #[.slice ao len cap] w fun e w' => e = .returned (.tuple #[.string ByteArray.empty, .int .i64 2]) ∧ w' = w := by
  unfold maxLen at hm
  go_enter Try.func10, Try.ntmps10
  go_wp2
  go_ret2
  exact ⟨rfl, rfl⟩

def bg : ByteArray := ⟨#[97, 27, 40, 73, 33, 27, 40, 74, 92, 27, 40, 66, 27, 40, 66, 98, 27, 99]⟩
theorem kdec_b : M.kdec (bl bg) = [97, 65377, 165, 65533, 98, 65533, 99] := by decide +kernel
theorem kenc_b : encodedK [97, 65377, 165, 98] = .tuple #[.string ⟨#[97, 27, 40, 73, 33, 27, 40, 74, 92, 98, 27, 40, 66]⟩, .int .i64 0] := by
  rw [encodedK_yes (by decide +kernel)]
  have e : M.kenc [97, 65377, 165, 98] = [97, 27, 40, 73, 33, 27, 40, 74, 92, 98, 27, 40, 66] := by decide +kernel
  rw [e]; rfl
theorem kenc_c : encodedK [8364] = .tuple #[.string ByteArray.empty, .int .i64 5] := encodedK_no (by decide +kernel)

set_option maxHeartbeats 800000 in
set_option maxRecDepth 100000 in
theorem begunK_any (w : World) : Calls Try.prog 14 #[] w fun e w' => e = .returned (.bool true) ∧ Below w.heap.size w w' := by
  go_enter Try.func14, Try.ntmps14
  go_wp2_with fail
  refine (kdecode_any bg _ (by decide)).mono ?_
  rintro e w1 ⟨v1, rfl, hI1, hb1⟩
  rw [kdec_b] at hI1
  obtain ⟨ao, cap, hsh, _⟩ := id hI1
  subst hsh
  have HI1 := hide hI1
  have HB1 := hide hb1
  clear hI1 hb1
  go_wp2_with fail
  refine (kencode_any _ _ _ (four_ints _ _ _ _ _) (by decide) (by unfold Gi; simp)).mono ?_
  rintro e w2 ⟨rfl, hb2⟩
  rw [kenc_b]
  have HB2 := hide (bstep (balloc _ _) hb2)
  clear hb2
  go_wp2_with fail
  refine (kencode_any _ _ _ (one_int _ _) (by decide) (by unfold Gi; simp)).mono ?_
  rintro e w3 ⟨rfl, hb3⟩
  rw [kenc_c]
  have HB3 := hide (bstep (unhide HB2) (bstep (balloc _ _) hb3))
  clear hb3
  go_wp2_with fail
  have h4 := bstep (unhide HB3) (balloc _ (.cells ((([97, 65377, 165, 65533, 98, 65533, 99] : List Int).map (Value.int .i64)).toArray) 3))
  refine (same_any _ ((unhide HI1).below h4) (row_ints _ [97, 65377, 165, 65533, 98, 65533, 99] (by decide))).mono ?_
  rintro e w4 ⟨rfl, hb4⟩
  rw [show ([97, 65377, 165, 65533, 98, 65533, 99] == ([97, 65377, 165, 65533, 98, 65533, 99] : List Int)) = true from by decide +kernel]
  have HB4 := hide (bstep (bstep (unhide HB1) h4) hb4)
  clear hb4 h4
  go_wp2_with fail
  go_ret
  exact ⟨rfl, unhide HB4⟩
end Go.Proofs.Ythhjfedegbldfac
