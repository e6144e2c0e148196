/- The contracts of label.Trim and label.Fold: a text of at most 3000 bytes is trimmed, or folded, and OK; a longer one is empty, and ErrMany; nothing that was there is written. -/
import Derived.Test.YthhjfedegbldfaaDoorRows
import Derived.Test.YthhjfedegbldfaaDoorMath
import Derived.Test.YthhjfedegbldfaaDoorLays
import Derived.WalkKit
import Derived.ProofKit
import Derived.WalkSmall
import Derived.Laws.IdiomStrings
namespace Go.Proofs.YthhjfedegbldfaaDoor
open Go.RowKit
set_option linter.unusedVariables false

theorem hide {p : Prop} (h : p) : Hid p := h
theorem unhide {p : Prop} (h : Hid p) : p := h
theorem bstep {a b c : World} (h : Below a.heap.size a b) (k : Below b.heap.size b c) : Below a.heap.size a c := h.trans (k.mono h.size)
theorem balloc (a : World) (o : Obj) : Below a.heap.size a (a.alloc o) := (Below.refl _ _).alloc (Nat.le_refl _) o
theorem ret_bool {a b : Bool} (h : a = b) : Ending.returned (.bool a) = .returned (.bool b) := by rw [h]

theorem trimLib (s : ByteArray) (w : World) (hs : s.size ≤ 3000) :
    Calls Tryd.prog 31 #[.string s, .string ⟨#[9, 10, 12, 13, 32]⟩] w fun e w' => e = .returned (.string (strOfNums (trI (bl s)))) ∧ Below w.heap.size w w' := by
  have h := Any.strings_Trim_laid Tryd.lays160 (by kernel_rfl) s ⟨#[9, 10, 12, 13, 32]⟩ w (by omega) (by decide) (ascii_of_all (by decide))
  rw [show (⟨#[9, 10, 12, 13, 32]⟩ : ByteArray).data.toList = [9, 10, 12, 13, 32] from rfl, trim_lib] at h
  exact h

theorem cloneLib (s : ByteArray) (w : World) (hs : s.size ≤ 3000) :
    Calls Tryd.prog 30 #[.string s] w fun e w' => e = .returned (.string s) ∧ Below w.heap.size w w' :=
  Any.stringslite_Clone Tryd.lays316 s w (by omega)

theorem tr_size (s : ByteArray) (hs : s.size ≤ 3000) : (strOfNums (trI (bl s))).size ≤ 3000 := by
  rw [strOfNums_size]; have := tr_len (bl s); rw [bl_len] at this; omega

set_option maxHeartbeats 400000 in
set_option maxRecDepth 100000 in
theorem trim_any (s : ByteArray) (w : World) (hs : s.size ≤ 3000) :
    Calls Tryd.prog 18 #[.string s] w fun e w' => e = .returned (.string (strOfNums (trI (bl s)))) ∧ Below w.heap.size w w' := by
  have hcon := trimLib s w hs
  generalize strOfNums (trI (bl s)) = r at hcon ⊢
  have HC := hide hcon
  clear hcon
  go_enter Tryd.func18, Tryd.ntmps18
  go_wp2_with fail
  refine (unhide HC).mono ?_
  rintro e w1 ⟨rfl, hb⟩
  go_wp2_with fail
  go_ret
  exact ⟨rfl, hb⟩

set_option maxHeartbeats 400000 in
set_option maxRecDepth 100000 in
theorem trim1_any (s : ByteArray) (w : World) (hs : s.size ≤ 3000) :
    Calls Tryd.prog 16 #[.string s] w fun e w' => e = .returned (.string (strOfNums (trI (bl s)))) ∧ Below w.heap.size w w' := by
  have hz := tr_size s hs
  have HC := hide (trim_any s w hs)
  generalize strOfNums (trI (bl s)) = r at HC hz ⊢
  go_enter Tryd.func16, Tryd.ntmps16
  go_wp2_with fail
  refine (unhide HC).mono ?_
  rintro e w1 ⟨rfl, hb⟩
  go_wp2_with (first | (go_at_call 30; refine (cloneLib _ _ hz).mono ?_; rintro e w2 ⟨rfl, hb2⟩) | go_in)
  go_ret
  exact ⟨rfl, bstep hb (by assumption)⟩

set_option maxHeartbeats 400000 in
set_option maxRecDepth 100000 in
theorem Trim_ok (s : ByteArray) (w : World) (hs : s.size ≤ 3000) :
    Calls Tryd.prog 5 #[.string s] w fun e w' => e = .returned (.tuple #[.string (strOfNums (trI (bl s))), .int .i64 0]) ∧ Below w.heap.size w w' := by
  have HC := hide (fun w => trim1_any s w hs)
  generalize strOfNums (trI (bl s)) = r at HC ⊢
  go_enter Tryd.func5, Tryd.ntmps5
  go_wp2_with (first | (go_at_call 16; refine (unhide HC _).mono ?_; rintro e w1 ⟨rfl, hb⟩) | go_in)
  go_ret2
  exact ⟨rfl, by assumption⟩

set_option maxHeartbeats 400000 in
set_option maxRecDepth 100000 in
theorem Trim_long (s : ByteArray) (w : World) (hs : 3000 < s.size) (hm : s.size ≤ maxLen) :
    Calls Tryd.prog 5 #[.string s] w fun e w' => e = .returned (.tuple #[.string ⟨#[]⟩, .int .i64 2]) ∧ w' = w := by
  unfold maxLen at hm
  go_enter Tryd.func5, Tryd.ntmps5
  go_wp2
  go_ret2
  exact ⟨rfl, rfl⟩
end Go.Proofs.YthhjfedegbldfaaDoor
