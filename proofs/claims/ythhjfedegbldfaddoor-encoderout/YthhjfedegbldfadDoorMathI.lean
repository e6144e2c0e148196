/- The library's numerals are the digits. -/
import Derived.Test.YthhjfedegbldfadDoorMathG
import Derived.Lib.ItoaNum
import Derived.WalkKit
namespace Go.Proofs.YthhjfedegbldfadDoor
open Go.RowKit
theorem digs_dec (u : Nat) : (M.digs u).map (fun z => UInt8.ofNat z.toNat) = Lib.decDigits u := by
  induction u using Nat.strongRecOn with
  | _ u ih =>
    by_cases h : u < 10
    · rw [M.digs_lo h, Lib.decDigits, dif_pos h]
      simp only [List.map_cons, List.map_nil]
      rw [show ((48 : Int) + (u : Int)).toNat = 48 + u from by omega]
    · rw [M.digs_hi h, Lib.decDigits, dif_neg h, List.map_append, ih (u / 10) (by omega)]
      simp only [List.map_cons, List.map_nil]
      rw [show ((48 : Int) + ((u % 10 : Nat) : Int)).toNat = 48 + u % 10 from by omega]
theorem itoa_digs {n : Int} (h : 0 ≤ n) : (⟨(Lib.itoa n).toArray⟩ : ByteArray) = strOfNums (M.digs n.toNat) := by
  unfold Lib.itoa
  rw [if_neg (by omega), ← digs_dec]
  unfold strOfNums
  rfl
end Go.Proofs.YthhjfedegbldfadDoor
