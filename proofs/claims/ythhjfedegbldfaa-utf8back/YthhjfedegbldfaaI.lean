/- The contract of cartouchelaw.utf8Begun: it is true; nothing that was there is written. -/
import Derived.Test.YthhjfedegbldfaaE
import Derived.Test.YthhjfedegbldfaaG
import Derived.Test.YthhjfedegbldfaaH
namespace Go.Proofs.Ythhjfedegbldfaa
open Go.RowKit
set_option linter.unusedVariables false

theorem dec_begun : M.dec (bl ⟨#[97, 226, 130, 172, 226, 130, 192, 240]⟩) = [97, 8364, 65533, 65533, 65533] := by decide +kernel
theorem spl_begun : M.spl (bl ⟨#[97, 226, 130]⟩) = 2 := by decide +kernel
theorem enc_begun : encRes [8364, 1114111] = .tuple #[.string ⟨#[226, 130, 172, 244, 143, 191, 191]⟩, .int .i64 0] := by
  rw [encRes_yes (by decide +kernel)]
  have : strOfNums (M.enc [8364, 1114111]) = ⟨#[226, 130, 172, 244, 143, 191, 191]⟩ := by
    have e : M.enc [8364, 1114111] = [226, 130, 172, 244, 143, 191, 191] := by decide +kernel
    rw [e]; rfl
  rw [this]

theorem two_ints (w : World) (a b : Int) : Ints (w.alloc (.cells #[.int .i64 a, .int .i64 b] 3)) (.slice (some ⟨w.heap.size, 0, none⟩) 2 2) [a, b] := by
  refine ⟨_, 2, rfl, by simp [maxLen], (fun e => by cases e), .inr ⟨_, _, rfl, ?_⟩⟩
  intro i hi
  match i, hi with
  | 0, _ => simp
  | 1, _ => simp
theorem five_ints (w : World) (a b c d e : Int) : Ints (w.alloc (.cells #[.int .i64 a, .int .i64 b, .int .i64 c, .int .i64 d, .int .i64 e] 3)) (.slice (some ⟨w.heap.size, 0, none⟩) 5 5) [a, b, c, d, e] := by
  refine ⟨_, 5, rfl, by simp [maxLen], (fun e => by cases e), .inr ⟨_, _, rfl, ?_⟩⟩
  intro i hi
  match i, hi with
  | 0, _ => simp
  | 1, _ => simp
  | 2, _ => simp
  | 3, _ => simp
  | 4, _ => simp

theorem bstep {a b c : World} (h : Below a.heap.size a b) (k : Below b.heap.size b c) : Below a.heap.size a c := h.trans (k.mono h.size)
theorem balloc (a : World) (o : Obj) : Below a.heap.size a (a.alloc o) := (Below.refl _ _).alloc (Nat.le_refl _) o

set_option maxHeartbeats 400000 in
set_option maxRecDepth 100000 in
theorem begun_any (w : World) : Calls Try.prog 15 #[] w fun e w' => e = .returned (.bool true) ∧ Below w.heap.size w w' := by
  go_enter Try.func15, Try.ntmps15
  go_wp2_with fail
  refine (decode_any _ _ (by decide)).mono ?_
  rintro e w1 ⟨v1, rfl, hI1, hb1⟩
  rw [dec_begun] at hI1
  obtain ⟨ao, cap, hsh, _⟩ := id hI1
  subst hsh
  have HI1 := hide hI1
  clear hI1
  go_wp2_with fail
  refine (encode_any _ (two_ints _ _ _) (by simp)).mono ?_
  rintro e w2 ⟨hb2, rfl⟩
  rw [enc_begun]
  go_wp2_with fail
  refine (split_any _ _ (by decide)).mono ?_
  rintro e w3 ⟨rfl, hb3⟩
  rw [spl_begun]
  go_wp2_with fail
  have hb13 := bstep (bstep (bstep (balloc _ _) hb2) hb3) (balloc _ (.cells #[.int .i64 97, .int .i64 8364, .int .i64 65533, .int .i64 65533, .int .i64 65533] 3))
  refine (same_any _ ((unhide HI1).below hb13) (five_ints _ _ _ _ _ _)).mono ?_
  rintro e w4 ⟨rfl, hb4⟩
  have HB := hide (bstep (bstep hb1 hb13) hb4)
  rw [show ([97, 8364, 65533, 65533, 65533] == ([97, 8364, 65533, 65533, 65533] : List Int)) = true from by decide +kernel]
  clear hb1 hb2 hb3 hb13 hb4
  go_wp2_with fail
  go_ret
  exact ⟨rfl, unhide HB⟩
end Go.Proofs.Ythhjfedegbldfaa
