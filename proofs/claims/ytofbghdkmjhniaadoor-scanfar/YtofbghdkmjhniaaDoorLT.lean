/- The contracts of strings.Trim at the white bytes and of label.trim: a text is trimmed; nothing that was there is written. Condition: at most 3000 bytes. -/
import Derived.Test.YtofbghdkmjhniaaDoorRH
import Derived.Test.YtofbghdkmjhniaaDoorLayT
import Derived.Lib.SlTrimSet
namespace Go.Proofs.YtofbghdkmjhniaaDoor
open Go.RowKit
set_option linter.unusedVariables false

theorem wh_byte (u : UInt8) : ([9, 10, 12, 13, 32] : List UInt8).contains u = wh (u.toNat : Int) := by
  revert u
  have : ∀ n : Fin 256, ([9, 10, 12, 13, 32] : List UInt8).contains (UInt8.ofNat n.val) = wh ((UInt8.ofNat n.val).toNat : Int) := by decide +kernel
  intro u
  have h := this ⟨u.toNat, u.toNat_lt⟩
  simpa using h

theorem dropWhile_bl (l : List UInt8) : (l.dropWhile (fun u => ([9, 10, 12, 13, 32] : List UInt8).contains u)).map (fun u => (u.toNat : Int)) = (l.map (fun u => (u.toNat : Int))).dropWhile wh := by
  induction l with
  | nil => rfl
  | cons u t ih =>
    have h := wh_byte u
    by_cases hw : wh (u.toNat : Int) = true
    · rw [List.map_cons, List.dropWhile_cons_of_pos hw, List.dropWhile_cons_of_pos (by rw [h]; exact hw), ih]
    · rw [List.map_cons, List.dropWhile_cons_of_neg hw, List.dropWhile_cons_of_neg (by rw [h]; exact hw), List.map_cons]

/-- The library's trimming is ours. -/
theorem trim_lib (s : ByteArray) : (⟨(Lib.trimS s.data.toList [9, 10, 12, 13, 32]).toArray⟩ : ByteArray) = strOfNums (trI (bl s)) := by
  have e : bl ⟨(Lib.trimS s.data.toList [9, 10, 12, 13, 32]).toArray⟩ = trI (bl s) := by
    unfold bl trI
    rw [rT_eq]
    show (Lib.trimS s.data.toList [9, 10, 12, 13, 32]).map _ = _
    unfold Lib.trimS Lib.trimLeftS Lib.trimRightS
    rw [dropWhile_bl, List.map_reverse, dropWhile_bl, List.map_reverse]
  rw [← e, str_bl]

theorem trimLib (s : ByteArray) (w : World) (hs : s.size ≤ 3000) :
    Calls Tryd.prog 32 #[.string s, .string ⟨#[9, 10, 12, 13, 32]⟩] w fun e w' => e = .returned (.string (strOfNums (trI (bl s)))) ∧ Below w.heap.size w w' := by
  have h := Any.strings_Trim_laid Tryd.lays160 (by kernel_rfl) s ⟨#[9, 10, 12, 13, 32]⟩ w (by omega) (by decide) (ascii_of_all (by decide))
  rw [show (⟨#[9, 10, 12, 13, 32]⟩ : ByteArray).data.toList = [9, 10, 12, 13, 32] from rfl, trim_lib] at h
  exact h

set_option maxHeartbeats 400000 in
set_option maxRecDepth 100000 in
theorem trim_any (s : ByteArray) (w : World) (hs : s.size ≤ 3000) :
    Calls Tryd.prog 19 #[.string s] w fun e w' => e = .returned (.string (strOfNums (trI (bl s)))) ∧ Below w.heap.size w w' := by
  have hcon := trimLib s w hs
  generalize strOfNums (trI (bl s)) = r at hcon ⊢
  have HC := hide hcon
  clear hcon
  go_enter Tryd.func19, Tryd.ntmps19
  go_wp2_with fail
  refine (unhide HC).mono ?_
  rintro e w1 ⟨rfl, hb⟩
  go_wp2_with fail
  go_ret
  exact ⟨rfl, hb⟩

end Go.Proofs.YtofbghdkmjhniaaDoor
