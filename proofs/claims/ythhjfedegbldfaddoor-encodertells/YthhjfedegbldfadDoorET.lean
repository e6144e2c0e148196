/- Where the tables lie as their texts lay them, strconv.Itoa answers the numeral of each scalar, then and later. -/
import Derived.Test.YthhjfedegbldfadDoorLays
import Derived.Test.YthhjfedegbldfadDoorEC
import Derived.Test.YthhjfedegbldfadDoorMathI
import Derived.Test.YthhjfedegbldfadDoorRows
import Derived.Lib.AppendIntMem
import Derived.Lib.LaidTab
import Derived.Stop.LaidErr
import Derived.MakeChecks
namespace Go.Proofs.YthhjfedegbldfadDoor
open Go.RowKit
set_option linter.unusedVariables false

theorem pow10_laid : (Rows.laid_internal_strconv_uint64pow10 : DataW Unit) = Lib.tabData .u64 Lib.pow10Tab := by kernel_rfl
set_option maxRecDepth 100000 in
theorem tb_laid {W : World} (h0 : laidMetH Tryd.prog [("math/bits.deBruijn32tab", Rows.laid_math_bits_deBruijn32tab), ("math/bits.deBruijn64tab", Rows.laid_math_bits_deBruijn64tab), ("internal/strconv.uint64pow10", Rows.laid_internal_strconv_uint64pow10)] W) : Tb W := by
  rw [MakeChecks.laidMetH_plain _ _ _ (by kernel_rfl), pow10_laid] at h0
  have h2 := laidMet.tail (laidMet.tail h0)
  have hT := Lib.tabIs_of_head (g := 0) (t := 130) (e := 123) (n := 20) (by kernel_rfl) (by kernel_rfl) (by kernel_rfl) (by kernel_rfl) (by kernel_rfl) (by kernel_rfl) h2
  intro w' hb p hp
  have hbd := M.sclr_bd hp
  have hC : Calls Tryd.prog 73 #[.int .i64 p] w' fun e w'' => e = .returned (.string ⟨(Lib.itoa p).toArray⟩) ∧ ∃ k os, w'' = Sort.grow (w'.drewN k) os := Any.strconv_Itoa Tryd.laysItoa p (by omega) (by omega) w' (Lib.tabBelow_of_tabIs hT w' hb)
  refine hC.mono fun e w'' h => ?_
  obtain ⟨h1, k, os, h3⟩ := h
  rw [itoa_digs hbd.1] at h1
  exact ⟨h1, by rw [h3]; exact Lib.below_grow _ _ (Nat.le_refl _) k os⟩
end Go.Proofs.YthhjfedegbldfadDoor
